/-
  The answer of layer 4: one block of SHA-256: what it computes, as plain functions.
-/
import Derived.BigRegion
import Derived.StillTailTactics
import Derived.Test.YtdeigmjbcbjgeaaDoorQRefSha
import Derived.Test.YtdeigmjbcbjgeaaDoorQTail
namespace Go.Proofs.YtdeigmjbcbjgeaaDoor
open Go.RowKit

theorem neg_mask64 : ∀ n : Fin 64, 1 ≤ n.val → bits .and .u64 (IntKind.u64.wrap (-(n.val : Int))) 63 = ((64 - n.val : Nat) : Int) := by decide +kernel

def ror64 (x : Int) (n : Nat) : Int := rot64 x (64 - n)

end Go.Proofs.YtdeigmjbcbjgeaaDoor
/-
  The answer of layer 4: one block of SHA-256.
-/
namespace Go.Proofs.YtdeigmjbcbjgeaaDoor
open Go.RowKit

/-- Eight words. -/
structure Wd8 where
  (a b c d e f g h : Int)
def Wd8.cells (k : IntKind) (s : Wd8) : Array Value := #[.int k s.a, .int k s.b, .int k s.c, .int k s.d, .int k s.e, .int k s.f, .int k s.g, .int k s.h]
theorem Wd8.cells_def (k : IntKind) (s : Wd8) : s.cells k = #[.int k s.a, .int k s.b, .int k s.c, .int k s.d, .int k s.e, .int k s.f, .int k s.g, .int k s.h] := rfl

theorem set_pad (L : List Int) (n : Nat) (x : Int) (h : L.length < n) : (L ++ List.replicate (n - L.length) 0).set L.length x = (L ++ [x]) ++ List.replicate (n - (L.length + 1)) 0 := by
  rw [show n - L.length = (n - (L.length + 1)) + 1 by omega, List.replicate_succ, List.set_append_right _ _ (Nat.le_refl _)]
  simp
def Wd8.list (s : Wd8) : List Int := [s.a, s.b, s.c, s.d, s.e, s.f, s.g, s.h]
theorem Wd8.cells_list (k : IntKind) (s : Wd8) : s.cells k = wordsOf k s.list := rfl
def add8 (m : Int) (h s : Wd8) : Wd8 := ⟨(h.a + s.a) % m, (h.b + s.b) % m, (h.c + s.c) % m, (h.d + s.d) % m, (h.e + s.e) % m, (h.f + s.f) % m, (h.g + s.g) % m, (h.h + s.h) % m⟩
end Go.Proofs.YtdeigmjbcbjgeaaDoor
/-
  The answer of layer 4: one block of SHA-512.
-/
namespace Go.Proofs.YtdeigmjbcbjgeaaDoor
open Go.RowKit

/-- The first i bytes of the word of a block that begins at byte 8 t. -/
def part64 (b : List Int) (t : Nat) : Nat → Int
  | 0 => 0
  | i + 1 => bits .or .u64 (part64 b t i * 256 % 18446744073709551616) (b.getD (8 * t + i) 0)
def word64 (b : List Int) (t : Nat) : Int := part64 b t 8
def next64 (l : List Int) (t : Nat) : Int :=
  (bits .xor .u64 (bits .xor .u64 (ror64 (l.getD (t - 2) 0) 19) (ror64 (l.getD (t - 2) 0) 61)) (l.getD (t - 2) 0 / 64) + l.getD (t - 7) 0 +
    bits .xor .u64 (bits .xor .u64 (ror64 (l.getD (t - 15) 0) 1) (ror64 (l.getD (t - 15) 0) 8)) (l.getD (t - 15) 0 / 128) + l.getD (t - 16) 0) % 18446744073709551616
/-- The first t words of the schedule. -/
def sched64 (b : List Int) : Nat → List Int
  | 0 => []
  | t + 1 => sched64 b t ++ [if t < 16 then word64 b t else next64 (sched64 b t) t]
theorem sched64_len (b : List Int) : ∀ t, (sched64 b t).length = t
  | 0 => rfl
  | t + 1 => by simp [sched64, sched64_len b t]

def sumE64 (s : Wd8) (k w : Int) : Int :=
  s.h + bits .xor .u64 (bits .xor .u64 (ror64 s.e 14) (ror64 s.e 18)) (ror64 s.e 41) +
    bits .xor .u64 (bits .and .u64 s.e s.f) (bits .and .u64 (bits .xor .u64 IntKind.u64.max s.e) s.g) + k + w
def sumA64 (s : Wd8) : Int :=
  bits .xor .u64 (bits .xor .u64 (ror64 s.a 28) (ror64 s.a 34)) (ror64 s.a 39) +
    bits .xor .u64 (bits .xor .u64 (bits .and .u64 s.a s.b) (bits .and .u64 s.a s.c)) (bits .and .u64 s.b s.c)
/-- One round. -/
def step64 (s : Wd8) (k w : Int) : Wd8 := ⟨(sumE64 s k w + sumA64 s) % 18446744073709551616, s.a, s.b, s.c, (s.d + sumE64 s k w) % 18446744073709551616, s.e, s.f, s.g⟩
def state64 (h : Wd8) (b : List Int) : Nat → Wd8
  | 0 => h
  | t + 1 => step64 (state64 h b t) (refKs.getD t 0) ((sched64 b 80).getD t 0)
/-- What a block makes of the eight words. -/
def block64 (h : Wd8) (b : List Int) : Wd8 := add8 18446744073709551616 h (state64 h b 80)
def Blk512Post (h : Wd8) (b : List Int) (w : World) (e : Ending) (w' : World) : Prop :=
  e = .returned (.agg ((block64 h b).cells .u64)) ∧ Keeps (fun _ => False) w w'

end Go.Proofs.YtdeigmjbcbjgeaaDoor
/-
  The answer of layer 4: SHA-512 of any bytes.
-/
namespace Go.Proofs.YtdeigmjbcbjgeaaDoor
open Go.RowKit

/-- The eight words behind the first n blocks of p. -/
def chain64 (p : List Int) : Nat → Wd8
  | 0 => ⟨7640891576956012808, 13503953896175478587, 4354685564936845355, 11912009170470909681, 5840696475078001361, 11170449401992604703, 2270897969802886507, 6620516959819538809⟩
  | n + 1 => block64 (chain64 p n) ((p.drop (128 * n)).take 128)
/-- The first j of a word's eight bytes, the highest first. -/
def outWord64 (x : Int) (j : Nat) : List Int := (List.range j).map fun i => byteAt x (7 - i)
theorem outWord64_len (x : Int) (j : Nat) : (outWord64 x j).length = j := by simp [outWord64]
/-- The bytes of the first i words. -/
def outs64 (l : List Int) : Nat → List Int
  | 0 => []
  | i + 1 => outs64 l i ++ outWord64 (l.getD i 0) 8
theorem outs64_len (l : List Int) : ∀ i, (outs64 l i).length = 8 * i
  | 0 => rfl
  | i + 1 => by rw [outs64, List.length_append, outs64_len l i, outWord64_len]; omega
def padded512 (b : List Int) : List Int := padL b ((239 - b.length % 128) % 128 + 8) 8
def sha512 (b : List Int) : List Int := outs64 (chain64 (padded512 b) ((padded512 b).length / 128)).list 8

def Sum512Post (b : List Int) (w : World) (e : Ending) (w' : World) : Prop :=
  ∃ v, e = .returned v ∧ OwnI .u8 5 w.heap.size w' v (sha512 b) ∧ Keeps (fun _ => False) w w'
end Go.Proofs.YtdeigmjbcbjgeaaDoor
/-
  The program's turns and mixes of words: walked. And a word of a block, built byte by byte.
-/
namespace Go.Proofs.YtdeigmjbcbjgeaaDoor
open Go.RowKit

set_option maxHeartbeats 400000 in
theorem right64_any (x : Int) (n : Nat) (w : World) (h1 : 1 ≤ n) (h2 : n < 64) :
    Calls Tryd.prog 65 #[.int .u64 x, .int .i64 n] w fun e w' => e = .returned (.int .u64 (ror64 x n)) ∧ w = w' := by
  have HC := hid (Rot64_any x (-(n : Int)) (64 - n) w (neg_mask64 ⟨n, h2⟩ h1) (by omega))
  have h2' : (n : Int) < 64 := by omega
  go_enter Tryd.func65, Tryd.ntmps65
  go_wp2_with fail
  refine (HC.out).mono ?_
  rintro e w1 ⟨rfl, rfl⟩
  go_wp2
  go_ret
  exact ⟨rfl, rfl⟩
set_option maxHeartbeats 400000 in
theorem kind512f1_any (x : Int) (w : World) :
    Calls Tryd.prog 64 #[.int .u64 x] w fun e w' => e = .returned (.int .u64 (bits .xor .u64 (bits .xor .u64 (ror64 x 19) (ror64 x 61)) (x / 64))) ∧ w' = w := by
  go_enter Tryd.func64, Tryd.ntmps64
  go_wp2_with fail
  refine (right64_any x 19 w (by decide) (by decide)).mono ?_
  rintro e w' ⟨rfl, rfl⟩
  go_wp2_with fail
  refine (right64_any x 61 w (by decide) (by decide)).mono ?_
  rintro e w' ⟨rfl, rfl⟩
  go_wp2_with fail
  go_ret
  exact ⟨rfl, rfl⟩

set_option maxHeartbeats 400000 in
theorem kind512f2_any (x : Int) (w : World) :
    Calls Tryd.prog 66 #[.int .u64 x] w fun e w' => e = .returned (.int .u64 (bits .xor .u64 (bits .xor .u64 (ror64 x 1) (ror64 x 8)) (x / 128))) ∧ w' = w := by
  go_enter Tryd.func66, Tryd.ntmps66
  go_wp2_with fail
  refine (right64_any x 1 w (by decide) (by decide)).mono ?_
  rintro e w' ⟨rfl, rfl⟩
  go_wp2_with fail
  refine (right64_any x 8 w (by decide) (by decide)).mono ?_
  rintro e w' ⟨rfl, rfl⟩
  go_wp2_with fail
  go_ret
  exact ⟨rfl, rfl⟩

set_option maxHeartbeats 400000 in
theorem kind512f3_any (x : Int) (w : World) :
    Calls Tryd.prog 67 #[.int .u64 x] w fun e w' => e = .returned (.int .u64 (bits .xor .u64 (bits .xor .u64 (ror64 x 14) (ror64 x 18)) (ror64 x 41))) ∧ w' = w := by
  go_enter Tryd.func67, Tryd.ntmps67
  go_wp2_with fail
  refine (right64_any x 14 w (by decide) (by decide)).mono ?_
  rintro e w' ⟨rfl, rfl⟩
  go_wp2_with fail
  refine (right64_any x 18 w (by decide) (by decide)).mono ?_
  rintro e w' ⟨rfl, rfl⟩
  go_wp2_with fail
  refine (right64_any x 41 w (by decide) (by decide)).mono ?_
  rintro e w' ⟨rfl, rfl⟩
  go_wp2_with fail
  go_ret
  exact ⟨rfl, rfl⟩

set_option maxHeartbeats 400000 in
theorem kind512f4_any (x : Int) (w : World) :
    Calls Tryd.prog 68 #[.int .u64 x] w fun e w' => e = .returned (.int .u64 (bits .xor .u64 (bits .xor .u64 (ror64 x 28) (ror64 x 34)) (ror64 x 39))) ∧ w' = w := by
  go_enter Tryd.func68, Tryd.ntmps68
  go_wp2_with fail
  refine (right64_any x 28 w (by decide) (by decide)).mono ?_
  rintro e w' ⟨rfl, rfl⟩
  go_wp2_with fail
  refine (right64_any x 34 w (by decide) (by decide)).mono ?_
  rintro e w' ⟨rfl, rfl⟩
  go_wp2_with fail
  refine (right64_any x 39 w (by decide) (by decide)).mono ?_
  rintro e w' ⟨rfl, rfl⟩
  go_wp2_with fail
  go_ret
  exact ⟨rfl, rfl⟩

end Go.Proofs.YtdeigmjbcbjgeaaDoor
