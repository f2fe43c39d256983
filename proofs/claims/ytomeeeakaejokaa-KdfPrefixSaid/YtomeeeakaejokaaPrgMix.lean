/-
  The program's turns and mixes of words: walked. And a word of a block, built byte by byte.
-/
import Derived.Test.YtomeeeakaejokaaRefB512
namespace Go.Proofs.Ytomeeeakaejokaa
open Go.RowKit

set_option maxHeartbeats 400000 in
theorem right32_any (x : Int) (n : Nat) (w : World) (h1 : 1 ≤ n) (h2 : n < 32) :
    Calls Try.prog 43 #[.int .u32 x, .int .i64 n] w fun e w' => e = .returned (.int .u32 (ror32 x n)) ∧ w = w' := by
  have HC := hid (Rot32_any x (-(n : Int)) (32 - n) w (neg_mask32 ⟨n, h2⟩ h1) (by omega))
  have h2' : (n : Int) < 32 := by omega
  go_enter Try.func43, Try.ntmps43
  go_wp2_with fail
  refine (HC.out).mono ?_
  rintro e w1 ⟨rfl, rfl⟩
  go_wp2
  go_ret
  exact ⟨rfl, rfl⟩
theorem right32_z (x z : Int) (w : World) (h1 : 1 ≤ z) (h2 : z < 32) : Calls Try.prog 43 #[.int .u32 x, .int .i64 z] w fun e w' => e = .returned (.int .u32 (ror32 x z.toNat)) ∧ w' = w := by
  obtain ⟨n, rfl⟩ := Int.eq_ofNat_of_zero_le (show 0 ≤ z by omega)
  exact (right32_any x n w (by omega) (by omega)).mono fun _ _ h => ⟨h.1, h.2.symm⟩

set_option maxHeartbeats 400000 in
theorem kind256f1_any (x : Int) (w : World) :
    Calls Try.prog 42 #[.int .u32 x] w fun e w' => e = .returned (.int .u32 (bits .xor .u32 (bits .xor .u32 (ror32 x 17) (ror32 x 19)) (x / 1024))) ∧ w' = w := by
  go_enter Try.func42, Try.ntmps42
  go_wp2_with fail
  refine (right32_any x 17 w (by decide) (by decide)).mono ?_
  rintro e w' ⟨rfl, rfl⟩
  go_wp2_with fail
  refine (right32_any x 19 w (by decide) (by decide)).mono ?_
  rintro e w' ⟨rfl, rfl⟩
  go_wp2_with fail
  go_ret
  exact ⟨rfl, rfl⟩

set_option maxHeartbeats 400000 in
theorem kind256f2_any (x : Int) (w : World) :
    Calls Try.prog 44 #[.int .u32 x] w fun e w' => e = .returned (.int .u32 (bits .xor .u32 (bits .xor .u32 (ror32 x 7) (ror32 x 18)) (x / 8))) ∧ w' = w := by
  go_enter Try.func44, Try.ntmps44
  go_wp2_with fail
  refine (right32_any x 7 w (by decide) (by decide)).mono ?_
  rintro e w' ⟨rfl, rfl⟩
  go_wp2_with fail
  refine (right32_any x 18 w (by decide) (by decide)).mono ?_
  rintro e w' ⟨rfl, rfl⟩
  go_wp2_with fail
  go_ret
  exact ⟨rfl, rfl⟩

set_option maxHeartbeats 400000 in
theorem kind256f3_any (x : Int) (w : World) :
    Calls Try.prog 45 #[.int .u32 x] w fun e w' => e = .returned (.int .u32 (bits .xor .u32 (bits .xor .u32 (ror32 x 6) (ror32 x 11)) (ror32 x 25))) ∧ w' = w := by
  go_enter Try.func45, Try.ntmps45
  go_wp2_with fail
  refine (right32_any x 6 w (by decide) (by decide)).mono ?_
  rintro e w' ⟨rfl, rfl⟩
  go_wp2_with fail
  refine (right32_any x 11 w (by decide) (by decide)).mono ?_
  rintro e w' ⟨rfl, rfl⟩
  go_wp2_with fail
  refine (right32_any x 25 w (by decide) (by decide)).mono ?_
  rintro e w' ⟨rfl, rfl⟩
  go_wp2_with fail
  go_ret
  exact ⟨rfl, rfl⟩

set_option maxHeartbeats 400000 in
theorem kind256f4_any (x : Int) (w : World) :
    Calls Try.prog 46 #[.int .u32 x] w fun e w' => e = .returned (.int .u32 (bits .xor .u32 (bits .xor .u32 (ror32 x 2) (ror32 x 13)) (ror32 x 22))) ∧ w' = w := by
  go_enter Try.func46, Try.ntmps46
  go_wp2_with fail
  refine (right32_any x 2 w (by decide) (by decide)).mono ?_
  rintro e w' ⟨rfl, rfl⟩
  go_wp2_with fail
  refine (right32_any x 13 w (by decide) (by decide)).mono ?_
  rintro e w' ⟨rfl, rfl⟩
  go_wp2_with fail
  refine (right32_any x 22 w (by decide) (by decide)).mono ?_
  rintro e w' ⟨rfl, rfl⟩
  go_wp2_with fail
  go_ret
  exact ⟨rfl, rfl⟩
theorem or_gen32 (X x y : Int) (n : Nat) (hX : X = x * 2 ^ n) (hx : 0 ≤ x) (hy : 0 ≤ y) (hn : y < 2 ^ n) (hl : X + y < 4294967296) : bits .or .u32 X y = X + y := by
  obtain ⟨a, rfl⟩ := Int.eq_ofNat_of_zero_le hx
  obtain ⟨b, rfl⟩ := Int.eq_ofNat_of_zero_le hy
  have hb : b < 2 ^ n := by exact_mod_cast hn
  have hX' : X = ((2 ^ n * a : Nat) : Int) := by rw [hX]; push_cast; exact Int.mul_comm _ _
  subst hX'
  clear hX
  rw [u32_or_nat _ _ (by omega) (by omega), ← Nat.two_pow_add_eq_or_of_lt hb]
  push_cast
  rfl

/-- The first i bytes of the word of a block that begins at byte 4 t. -/
def part32 (b : List Int) (t : Nat) : Nat → Int
  | 0 => 0
  | i + 1 => bits .or .u32 (part32 b t i * 256 % 4294967296) (b.getD (4 * t + i) 0)
theorem part32_word (b : List Int) (t : Nat) (h : ∀ j, j < 4 → 0 ≤ b.getD (4 * t + j) 0 ∧ b.getD (4 * t + j) 0 ≤ 255) : part32 b t 4 = word32 b t := by
  have h0 := h 0 (by decide)
  have h1 := h 1 (by decide)
  have h2 := h 2 (by decide)
  have h3 := h 3 (by decide)
  simp only [part32, word32]
  rw [Nat.add_zero] at h0 ⊢
  generalize b.getD (4 * t) 0 = y0 at *
  generalize b.getD (4 * t + 1) 0 = y1 at *
  generalize b.getD (4 * t + 2) 0 = y2 at *
  generalize b.getD (4 * t + 3) 0 = y3 at *
  rw [or_gen32 (y0 * 16777216) y0 (y1 * 65536) 24 rfl h0.1 (by omega) (by omega) (by omega),
    or_gen32 (y0 * 16777216 + y1 * 65536) (y0 * 256 + y1) (y2 * 256) 16 (by omega) (by omega) (by omega) (by omega) (by omega),
    or_gen32 (y0 * 16777216 + y1 * 65536 + y2 * 256) (y0 * 65536 + y1 * 256 + y2) y3 8 (by omega) (by omega) (by omega) (by omega) (by omega)]
  rw [or_gen32 (0 * 256 % 4294967296) 0 y0 8 (by omega) (by omega) (by omega) (by omega) (by omega),
    or_gen32 ((0 * 256 % 4294967296 + y0) * 256 % 4294967296) y0 y1 8 (by omega) (by omega) (by omega) (by omega) (by omega),
    or_gen32 (((0 * 256 % 4294967296 + y0) * 256 % 4294967296 + y1) * 256 % 4294967296) (y0 * 256 + y1) y2 8 (by omega) (by omega) (by omega) (by omega) (by omega),
    or_gen32 ((((0 * 256 % 4294967296 + y0) * 256 % 4294967296 + y1) * 256 % 4294967296 + y2) * 256 % 4294967296) (y0 * 65536 + y1 * 256 + y2) y3 8 (by omega) (by omega) (by omega) (by omega) (by omega)]
  omega
end Go.Proofs.Ytomeeeakaejokaa
