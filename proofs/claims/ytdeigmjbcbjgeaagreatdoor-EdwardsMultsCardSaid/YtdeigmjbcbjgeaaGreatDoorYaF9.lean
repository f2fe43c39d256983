/-
  Layer 8: the program's read and write.
-/
import Derived.Test.YtdeigmjbcbjgeaaGreatDoorYaF8
namespace Go.Proofs.YtdeigmjbcbjgeaaGreatDoor
open Go.RowKit

theorem slice_arr {E : Env} {t e z b off N l m a1 a2 : Nat} {g1 : Bool} {o1 : Option Cont} {x lo hi : LV} (h1 : E.T t = some ⟨.arr N e z, a1, a2, g1, o1⟩) (hx : x = .ptr b off) (hlo : lo = .v (.int .i64 (l : Int))) (hhi : hi = .v (.int .i64 ((l + m : Nat) : Int))) (hn : l + m ≤ N) (hN : N ≤ 1000) :
    opSlice E t true true false x [lo, hi] = some (.sl z b (off + l * z) m (some (N - l)), []) := by
  subst hx hlo hhi
  have hb : bounds [(l : Int), ((l + m : Nat) : Int)] true true false N N = some (l, l + m, N) := by
    unfold bounds
    rw [if_pos (by simp [lowI, highI, restI, maxI]; omega)]
    simp [lowI, highI, restI, maxI]
    omega
  have hp : optMap pickInt [.v (.int .i64 (l : Int)), .v (.int .i64 ((l + m : Nat) : Int))] = some [(l : Int), ((l + m : Nat) : Int)] := rfl
  simp only [opSlice, h1, hp, hb]
  rw [if_pos (by omega)]
  simp
theorem sh8' (j : Nat) (h : j < 8) : (IntKind.i64.wrap (8 * (j : Int))).toNat = 8 * j := by rw [eight j (by omega)]; exact Int.toNat_natCast _
theorem sh8nn (j : Nat) (h : j < 8) : 0 ≤ IntKind.i64.wrap (8 * (j : Int)) := by rw [eight j (by omega)]; omega
theorem upd_more {f : Nat → Int} {z : List Int} {k j : Nat} (h : k + j < z.length) : (upd f z (k + j)).set (k + j) (f (k + j)) = upd f z (k + (j + 1)) := upd_set f z h
set_option maxRecDepth 100000 in
set_option maxHeartbeats 1600000 in
theorem write_exec (n : Nat) (l : List Int) (hl : l = wd n) : execF E0 Tryz.f66 [.agg (.flat .u64 l)] (ret1 (F n)) := by
  have hlen : l.length = 4 := by rw [hl]; rfl
  ((conv => whnf); repeat ((first | refine ⟨_, rfl, ?_⟩ | refine ⟨by decide, ?_⟩ | refine ⟨rfl, ?_⟩ | refine ⟨fun _ => ?_, fun h => absurd h (by decide)⟩ | refine ⟨fun h => absurd h (by decide), fun _ => ?_⟩ | refine ⟨inI_of (by omega), ?_⟩ | refine ⟨⟨rfl, inI_of (by omega)⟩, ?_⟩ | refine ⟨⟨rfl, by decide⟩, ?_⟩ | (apply Exists.intro; refine ⟨?_, ?_⟩; ((try simp only); (try simp only [Nat.zero_add]); (try simp only [Nat.mul_one]); (try simp only [Int.toNat_natCast]); first | exact at_g (by omega) | exact put_flat (by omega))) | refine ⟨_, cut_all (by omega), ?_⟩ | refine ⟨_, lay_all (by omega) (by omega), ?_⟩ | refine ⟨_, lay_all (by (try simp only); (try simp only [List.length_replicate]); (try simp only [List.length_cons]); (try simp only [List.length_nil]); omega) (by omega), ?_⟩ | refine ⟨by omega, ?_⟩ | refine ⟨len_flat (by omega), ?_⟩ | refine ⟨apart_uv _ _ _, ?_⟩ | refine ⟨_, resSlot_own rfl (by omega) (by first | exact .inl rfl | exact .inr ⟨rfl, rfl⟩), ?_⟩ | refine ⟨(by kernel_rfl : regB _ = true), ?_⟩ | refine ⟨⟨rfl, inI_of (by omega), by decide⟩, ?_⟩ | (apply Exists.intro; refine ⟨?_, ?_⟩; ((try simp only); (try simp only [Nat.zero_add]); (try simp only [Nat.mul_one]); (try simp only [Int.toNat_natCast]); first | exact at_drop_g (by omega) | exact cut_rest (by omega)))); conv => whnf))
  refine .inl ⟨fun m st => ∃ (i : Nat) (o : List Int), m = 4 - i ∧ i ≤ 4 ∧ o = upd (bt n) (List.replicate 32 0) (8 * i) ∧ st = ⟨[.poison, .ptr 8 0, .ptr 16 0, .ptr 24 0, .poison, .poison, .poison, .poison, .agg (.flat .u64 l), iv .i64 i, .poison, .poison, .poison, .poison, .poison, .poison, .poison, .poison, .poison, .poison, .poison, .poison, .poison, .poison, .poison, .poison, .poison, .poison, .poison, .poison, .poison, .poison, .poison, .poison, .poison],
      [(8, ⟨.flat .u64 l, 89, false⟩), (16, ⟨.flat .u8 (List.replicate 32 0), 23, false⟩), (24, ⟨.flat .u8 o, 23, false⟩)]⟩,
      ⟨[0, 4, 5, 6, 7, 10, 11, 12, 13, 14, 15, 16, 17, 18, 19, 20, 21, 22, 23, 24, 25, 26, 27, 28, 29, 30, 31, 32, 33, 34], [], 4, 0, List.replicate 32 0, rfl, by omega, (upd_zero _ _).symm, by kernel_rfl⟩, ?_⟩
  rintro _ _ ⟨i, o, rfl, hi, ho, rfl⟩
  have hul : o.length = 32 := by rw [ho, upd_len, List.length_replicate]
  conv => whnf
  refine ⟨fun h => ?_, fun h => ?_⟩
  · have h := of_decide_eq_true h
    have h4 : i < 4 := by omega
    have e1 := eight i (by omega)
    have e2 := eight8 i (by omega)
    have hlo : LV.v (.int .i64 (IntKind.i64.wrap (8 * (i : Int)))) = .v (.int .i64 ((8 * i : Nat) : Int)) := by rw [e1]
    have hhi : LV.v (.int .i64 (IntKind.i64.wrap (IntKind.i64.wrap (8 * (i : Int)) + 8))) = .v (.int .i64 ((8 * i + 8 : Nat) : Int)) := by rw [e1, e2]
    ((conv => whnf); repeat ((first | refine ⟨_, slice_arr (l := 8 * i) (m := 8) rfl rfl hlo hhi (by omega) (by omega), ?_⟩ | refine ⟨_, rfl, ?_⟩ | refine ⟨by decide, ?_⟩ | refine ⟨rfl, ?_⟩ | refine ⟨fun _ => ?_, fun h => absurd h (by decide)⟩ | refine ⟨fun h => absurd h (by decide), fun _ => ?_⟩ | refine ⟨inI_of (by omega), ?_⟩ | refine ⟨⟨rfl, inI_of (by omega)⟩, ?_⟩ | refine ⟨⟨rfl, by decide⟩, ?_⟩ | (apply Exists.intro; refine ⟨?_, ?_⟩; ((try simp only); (try simp only [Nat.zero_add]); (try simp only [Nat.mul_one]); (try simp only [Int.toNat_natCast]); first | exact at_g (by omega) | exact put_flat (by omega))) | refine ⟨_, cut_all (by omega), ?_⟩ | refine ⟨_, lay_all (by omega) (by omega), ?_⟩ | refine ⟨_, lay_all (by (try simp only); (try simp only [List.length_replicate]); (try simp only [List.length_cons]); (try simp only [List.length_nil]); omega) (by omega), ?_⟩ | refine ⟨by omega, ?_⟩ | refine ⟨len_flat (by omega), ?_⟩ | refine ⟨apart_uv _ _ _, ?_⟩ | refine ⟨_, resSlot_own rfl (by omega) (by first | exact .inl rfl | exact .inr ⟨rfl, rfl⟩), ?_⟩ | refine ⟨(by kernel_rfl : regB _ = true), ?_⟩ | refine ⟨⟨rfl, inI_of (by omega), by decide⟩, ?_⟩ | (apply Exists.intro; refine ⟨?_, ?_⟩; ((try simp only); (try simp only [Nat.zero_add]); (try simp only [Nat.mul_one]); (try simp only [Int.toNat_natCast]); first | exact at_drop_g (by omega) | exact cut_rest (by omega)))); conv => whnf))
    refine .inl ⟨fun m st => ∃ (j : Nat) (p : List Int), m = 8 - j ∧ j ≤ 8 ∧ p = upd (bt n) (List.replicate 32 0) (8 * i + j) ∧ st = ⟨[.poison, .ptr 8 0, .ptr 16 0, .ptr 24 0, iv .i64 i, iv .u64 (g l i), .sl 1 24 (0 + 8 * i * 1) 8 (some (32 - 8 * i)), .poison, .agg (.flat .u64 l), iv .i64 i, .poison, .poison, .poison, .poison, .poison, .poison, .poison, .poison, .poison, .poison, iv .i64 8, iv .i64 j, .poison, .poison, .poison, .poison, .poison, .poison, .poison, .poison, .poison, .poison, .poison, .poison, .poison],
      [(8, ⟨.flat .u64 l, 89, false⟩), (16, ⟨.flat .u8 (List.replicate 32 0), 23, false⟩), (24, ⟨.flat .u8 p, 23, false⟩)]⟩,
      ⟨[0, 7, 10, 11, 12, 13, 14, 15, 16, 17, 18, 19, 22, 23, 24, 25, 26, 27, 28, 29, 30, 31, 32, 33, 34], [], 8, 0, o, rfl, by omega, ho, by kernel_rfl⟩, ?_⟩
    rintro _ _ ⟨j, p, rfl, hj, hp, rfl⟩
    have hpl : p.length = 32 := by rw [hp, upd_len, List.length_replicate]
    conv => whnf
    refine ⟨fun h => ?_, fun h => ?_⟩
    · have h := of_decide_eq_true h
      have j8 : j < 8 := by omega
      have e3 : IntKind.u8.wrap ((g l i).fdiv (2 ^ min (IntKind.i64.wrap (8 * (j : Int))).toNat IntKind.u64.bits)) = bt n (8 * i + j) := by
        rw [hl, g_wd _ _ h4]
        exact dg_bt n (8 * i + j) _ _ (by omega) (by rw [sh8' j j8, min64 (by omega) _ (.inl rfl)]; omega)
      have e4 := up1 j (by omega)
      ((conv => whnf); repeat ((first | refine ⟨sh8nn j j8, ?_⟩ | refine ⟨_, rfl, ?_⟩ | refine ⟨by decide, ?_⟩ | refine ⟨rfl, ?_⟩ | refine ⟨fun _ => ?_, fun h => absurd h (by decide)⟩ | refine ⟨fun h => absurd h (by decide), fun _ => ?_⟩ | refine ⟨inI_of (by omega), ?_⟩ | refine ⟨⟨rfl, inI_of (by omega)⟩, ?_⟩ | refine ⟨⟨rfl, by decide⟩, ?_⟩ | (apply Exists.intro; refine ⟨?_, ?_⟩; ((try simp only); (try simp only [Nat.zero_add]); (try simp only [Nat.mul_one]); (try simp only [Int.toNat_natCast]); first | exact at_g (by omega) | exact put_flat (by omega))) | refine ⟨_, cut_all (by omega), ?_⟩ | refine ⟨_, lay_all (by omega) (by omega), ?_⟩ | refine ⟨_, lay_all (by (try simp only); (try simp only [List.length_replicate]); (try simp only [List.length_cons]); (try simp only [List.length_nil]); omega) (by omega), ?_⟩ | refine ⟨by omega, ?_⟩ | refine ⟨len_flat (by omega), ?_⟩ | refine ⟨apart_uv _ _ _, ?_⟩ | refine ⟨_, resSlot_own rfl (by omega) (by first | exact .inl rfl | exact .inr ⟨rfl, rfl⟩), ?_⟩ | refine ⟨(by kernel_rfl : regB _ = true), ?_⟩ | refine ⟨⟨rfl, inI_of (by omega), by decide⟩, ?_⟩ | (apply Exists.intro; refine ⟨?_, ?_⟩; ((try simp only); (try simp only [Nat.zero_add]); (try simp only [Nat.mul_one]); (try simp only [Int.toNat_natCast]); first | exact at_drop_g (by omega) | exact cut_rest (by omega)))); conv => whnf))
      refine ⟨[0, 7, 10, 11, 12, 13, 14, 15, 16, 17, 18, 19, 22, 23, 24, 25, 26, 27, 28, 29, 30, 31, 32, 33, 34], [], 8 - (j + 1), ?_, j + 1, p.set (8 * i + j) (bt n (8 * i + j)), rfl, by omega, by rw [hp, upd_more (by rw [List.length_replicate]; omega)], ?_⟩
      · omega
      · rw [← e4, ← e3]; kernel_rfl
    · have h := of_decide_eq_false h
      have hj8 : j = 8 := by omega
      subst hj8
      have e4 := up1 i (by omega)
      ((conv => whnf); repeat ((first | refine ⟨_, rfl, ?_⟩ | refine ⟨by decide, ?_⟩ | refine ⟨rfl, ?_⟩ | refine ⟨fun _ => ?_, fun h => absurd h (by decide)⟩ | refine ⟨fun h => absurd h (by decide), fun _ => ?_⟩ | refine ⟨inI_of (by omega), ?_⟩ | refine ⟨⟨rfl, inI_of (by omega)⟩, ?_⟩ | refine ⟨⟨rfl, by decide⟩, ?_⟩ | (apply Exists.intro; refine ⟨?_, ?_⟩; ((try simp only); (try simp only [Nat.zero_add]); (try simp only [Nat.mul_one]); (try simp only [Int.toNat_natCast]); first | exact at_g (by omega) | exact put_flat (by omega))) | refine ⟨_, cut_all (by omega), ?_⟩ | refine ⟨_, lay_all (by omega) (by omega), ?_⟩ | refine ⟨_, lay_all (by (try simp only); (try simp only [List.length_replicate]); (try simp only [List.length_cons]); (try simp only [List.length_nil]); omega) (by omega), ?_⟩ | refine ⟨by omega, ?_⟩ | refine ⟨len_flat (by omega), ?_⟩ | refine ⟨apart_uv _ _ _, ?_⟩ | refine ⟨_, resSlot_own rfl (by omega) (by first | exact .inl rfl | exact .inr ⟨rfl, rfl⟩), ?_⟩ | refine ⟨(by kernel_rfl : regB _ = true), ?_⟩ | refine ⟨⟨rfl, inI_of (by omega), by decide⟩, ?_⟩ | (apply Exists.intro; refine ⟨?_, ?_⟩; ((try simp only); (try simp only [Nat.zero_add]); (try simp only [Nat.mul_one]); (try simp only [Int.toNat_natCast]); first | exact at_drop_g (by omega) | exact cut_rest (by omega)))); conv => whnf))
      refine ⟨[0, 4, 5, 6, 7, 10, 11, 12, 13, 14, 15, 16, 17, 18, 19, 20, 21, 22, 23, 24, 25, 26, 27, 28, 29, 30, 31, 32, 33, 34], [], 4 - (i + 1), ?_, i + 1, p, rfl, by omega, by rw [hp, show 8 * (i + 1) = 8 * i + 8 by omega], ?_⟩
      · omega
      · rw [← e4]; kernel_rfl
  · have h := of_decide_eq_false h
    have hi' : i = 4 := by omega
    subst hi'
    have e3 : o = by32 n := by rw [ho]; exact upd_all (bt n) (List.replicate 32 0) (n := 32) (by simp)
    ((conv => whnf); repeat ((first | refine ⟨_, rfl, ?_⟩ | refine ⟨by decide, ?_⟩ | refine ⟨rfl, ?_⟩ | refine ⟨fun _ => ?_, fun h => absurd h (by decide)⟩ | refine ⟨fun h => absurd h (by decide), fun _ => ?_⟩ | refine ⟨inI_of (by omega), ?_⟩ | refine ⟨⟨rfl, inI_of (by omega)⟩, ?_⟩ | refine ⟨⟨rfl, by decide⟩, ?_⟩ | (apply Exists.intro; refine ⟨?_, ?_⟩; ((try simp only); (try simp only [Nat.zero_add]); (try simp only [Nat.mul_one]); (try simp only [Int.toNat_natCast]); first | exact at_g (by omega) | exact put_flat (by omega))) | refine ⟨_, cut_all (by omega), ?_⟩ | refine ⟨_, lay_all (by omega) (by omega), ?_⟩ | refine ⟨_, lay_all (by (try simp only); (try simp only [List.length_replicate]); (try simp only [List.length_cons]); (try simp only [List.length_nil]); omega) (by omega), ?_⟩ | refine ⟨by omega, ?_⟩ | refine ⟨len_flat (by omega), ?_⟩ | refine ⟨apart_uv _ _ _, ?_⟩ | refine ⟨_, resSlot_own rfl (by omega) (by first | exact .inl rfl | exact .inr ⟨rfl, rfl⟩), ?_⟩ | refine ⟨(by kernel_rfl : regB _ = true), ?_⟩ | refine ⟨⟨rfl, inI_of (by omega), by decide⟩, ?_⟩ | (apply Exists.intro; refine ⟨?_, ?_⟩; ((try simp only); (try simp only [Nat.zero_add]); (try simp only [Nat.mul_one]); (try simp only [Int.toNat_natCast]); first | exact at_drop_g (by omega) | exact cut_rest (by omega)))); conv => whnf))
    rw [e3]; rfl
theorem write_call (a : Nat) (_ : a < 2 ^ 256) : CallOk Tryz.prog 66 [W a] (ret1 (F a)) := execF_ok follows_ok E0_ok Tryz.func66 (write_exec a _ rfl)
/-! read -/
/-- Eight bytes, put together. -/
def eor (b : Nat → Int) : Int :=
  bits .or .u64 (bits .or .u64 (bits .or .u64 (bits .or .u64 (IntKind.u64.wrap (b 0)) (IntKind.u64.wrap (IntKind.u64.wrap (b 1) * 2 ^ min (8 : Int).toNat IntKind.u64.bits))) (IntKind.u64.wrap (IntKind.u64.wrap (b 2) * 2 ^ min (16 : Int).toNat IntKind.u64.bits))) (IntKind.u64.wrap (IntKind.u64.wrap (b 3) * 2 ^ min (24 : Int).toNat IntKind.u64.bits)))
    (IntKind.u64.wrap (bits .or .u64 (bits .or .u64 (bits .or .u64 (IntKind.u64.wrap (b 4)) (IntKind.u64.wrap (IntKind.u64.wrap (b 5) * 2 ^ min (8 : Int).toNat IntKind.u64.bits))) (IntKind.u64.wrap (IntKind.u64.wrap (b 6) * 2 ^ min (16 : Int).toNat IntKind.u64.bits))) (IntKind.u64.wrap (IntKind.u64.wrap (b 7) * 2 ^ min (24 : Int).toNat IntKind.u64.bits)) * 2 ^ min (32 : Int).toNat IntKind.u64.bits))
theorem or64' (y x : Int) (X : Int) (n : Nat) (hX : X = x * 2 ^ n) (hx : 0 ≤ x) (hy : 0 ≤ y) (hn : y < 2 ^ n) (hl : y + X < 18446744073709551616) : bits .or .u64 y X = y + X := by
  have h := or64 X x y n hX hx hy hn (by omega)
  obtain ⟨a, rfl⟩ := Int.eq_ofNat_of_zero_le hy
  have hX0 : 0 ≤ X := by rw [hX]; exact Int.mul_nonneg hx (Int.pow_nonneg (by omega))
  obtain ⟨c, rfl⟩ := Int.eq_ofNat_of_zero_le hX0
  rw [bits_or_u64_nat _ _ (by omega) (by omega)] at h ⊢
  rw [Nat.or_comm, h]
  omega
theorem four_or (b0 b1 b2 b3 : Int) (h0 : 0 ≤ b0 ∧ b0 < 256) (h1 : 0 ≤ b1 ∧ b1 < 256) (h2 : 0 ≤ b2 ∧ b2 < 256) (h3 : 0 ≤ b3 ∧ b3 < 256) :
    bits .or .u64 (bits .or .u64 (bits .or .u64 (IntKind.u64.wrap b0) (IntKind.u64.wrap (IntKind.u64.wrap b1 * 2 ^ min (8 : Int).toNat IntKind.u64.bits))) (IntKind.u64.wrap (IntKind.u64.wrap b2 * 2 ^ min (16 : Int).toNat IntKind.u64.bits))) (IntKind.u64.wrap (IntKind.u64.wrap b3 * 2 ^ min (24 : Int).toNat IntKind.u64.bits)) = b0 + 256 * b1 + 65536 * b2 + 16777216 * b3 := by
  have w : ∀ x : Int, 0 ≤ x ∧ x < 18446744073709551616 → IntKind.u64.wrap x = x := fun x h => by rw [IntKind.wrap_u64]; omega
  rw [show ((2 : Int) ^ min (8 : Int).toNat IntKind.u64.bits) = 256 from rfl, show ((2 : Int) ^ min (16 : Int).toNat IntKind.u64.bits) = 65536 from rfl, show ((2 : Int) ^ min (24 : Int).toNat IntKind.u64.bits) = 16777216 from rfl]
  rw [w b0 (by omega), w b1 (by omega), w b2 (by omega), w b3 (by omega), w (b1 * 256) (by omega), w (b2 * 65536) (by omega), w (b3 * 16777216) (by omega)]
  rw [or64' b0 b1 (b1 * 256) 8 (by omega) (by omega) (by omega) (by omega) (by omega), or64' (b0 + b1 * 256) b2 (b2 * 65536) 16 (by omega) (by omega) (by omega) (by omega) (by omega), or64' (b0 + b1 * 256 + b2 * 65536) b3 (b3 * 16777216) 24 (by omega) (by omega) (by omega) (by omega) (by omega)]
  omega
theorem eor_dg (n i : Nat) : eor (fun j => bt n (8 * i + j)) = dg n i := by
  have hb := fun j => bt_byte n (8 * i + j)
  unfold eor
  rw [four_or _ _ _ _ (hb 0) (hb 1) (hb 2) (hb 3), four_or _ _ _ _ (hb 4) (hb 5) (hb 6) (hb 7)]
  have hq : ∀ j, bt n (8 * i + j) = ((n / 18446744073709551616 ^ i / 2 ^ (8 * j) % 256 : Nat) : Int) := by
    intro j
    rw [bt, Nat.div_div_eq_div_mul, show (18446744073709551616 : Nat) = 2 ^ 64 from rfl, ← Nat.pow_mul, ← Nat.pow_add, show 8 * (8 * i + j) = 64 * i + 8 * j by omega]
  rw [dg]
  simp only [hq]
  generalize n / 18446744073709551616 ^ i = m
  rw [show ((2 : Int) ^ min (32 : Int).toNat IntKind.u64.bits) = 4294967296 from rfl, IntKind.wrap_u64]
  simp only [Nat.mul_zero, Nat.pow_zero, Nat.div_one]
  rw [or64' _ (((m / 2 ^ (8 * 4) % 256 : Nat) : Int) + 256 * ((m / 2 ^ (8 * 5) % 256 : Nat) : Int) + 65536 * ((m / 2 ^ (8 * 6) % 256 : Nat) : Int) + 16777216 * ((m / 2 ^ (8 * 7) % 256 : Nat) : Int)) _ 32 (by omega) (by omega) (by omega) (by omega) (by omega)]
  omega
set_option maxRecDepth 100000 in
set_option maxHeartbeats 3200000 in
theorem read_exec (n : Nat) (l : List Int) (hl : l = by32 n) : execF E0 Tryz.f85 [.agg (.flat .u8 l)] (ret1 (W n)) := by
  have hlen : l.length = 32 := by rw [hl, byk_len]
  ((conv => whnf); repeat ((first | refine ⟨_, rfl, ?_⟩ | refine ⟨by decide, ?_⟩ | refine ⟨rfl, ?_⟩ | refine ⟨fun _ => ?_, fun h => absurd h (by decide)⟩ | refine ⟨fun h => absurd h (by decide), fun _ => ?_⟩ | refine ⟨inI_of (by omega), ?_⟩ | refine ⟨⟨rfl, inI_of (by omega)⟩, ?_⟩ | refine ⟨⟨rfl, by decide⟩, ?_⟩ | (apply Exists.intro; refine ⟨?_, ?_⟩; ((try simp only); (try simp only [Nat.zero_add]); (try simp only [Nat.mul_one]); (try simp only [Int.toNat_natCast]); first | exact at_g (by omega) | exact put_flat (by omega))) | refine ⟨_, cut_all (by omega), ?_⟩ | refine ⟨_, lay_all (by omega) (by omega), ?_⟩ | refine ⟨_, lay_all (by (try simp only); (try simp only [List.length_replicate]); (try simp only [List.length_cons]); (try simp only [List.length_nil]); omega) (by omega), ?_⟩ | refine ⟨by omega, ?_⟩ | refine ⟨len_flat (by omega), ?_⟩ | refine ⟨apart_uv _ _ _, ?_⟩ | refine ⟨_, resSlot_own rfl (by omega) (by first | exact .inl rfl | exact .inr ⟨rfl, rfl⟩), ?_⟩ | refine ⟨(by kernel_rfl : regB _ = true), ?_⟩ | refine ⟨⟨rfl, inI_of (by omega), by decide⟩, ?_⟩ | (apply Exists.intro; refine ⟨?_, ?_⟩; ((try simp only); (try simp only [Nat.zero_add]); (try simp only [Nat.mul_one]); (try simp only [Int.toNat_natCast]); first | exact at_drop_g (by omega) | exact cut_rest (by omega)))); conv => whnf))
  refine .inl ⟨fun m st => ∃ (i : Nat) (o : List Int), m = 4 - i ∧ i ≤ 4 ∧ o = upd (dg n) [0, 0, 0, 0] i ∧ st = ⟨[.poison, .ptr 8 0, .ptr 16 0, .ptr 24 0, .poison, .poison, .poison, .poison, iv .i64 i, .poison, .poison, .poison, .poison, .poison, .poison, .poison, .poison, .poison, .poison, .poison, .poison, .poison, .poison, .poison, .poison, .poison, .poison, .poison, .poison, .poison, .poison, .poison, .poison, .poison, .poison, .poison, .poison, .poison, .poison, .poison, .poison, .poison, .poison, .poison, .poison, .poison, .poison, .poison, .poison, .poison, .poison, .poison, .poison, .poison, .poison, .poison, .poison, .poison, .poison, .poison, .poison, .poison, .poison, .poison, .poison, .poison, .poison, .poison, .poison],
      [(8, ⟨.flat .u8 l, 23, false⟩), (16, ⟨.flat .u64 [0, 0, 0, 0], 89, false⟩), (24, ⟨.flat .u64 o, 89, false⟩)]⟩,
      ⟨[0, 4, 5, 6, 7, 9, 10, 11, 12, 13, 14, 15, 16, 17, 18, 19, 20, 21, 22, 23, 24, 25, 26, 27, 28, 29, 30, 31, 32, 33, 34, 35, 36, 37, 38, 39, 40, 41, 42, 43, 44, 45, 46, 47, 48, 49, 50, 51, 52, 53, 54, 55, 56, 57, 58, 59, 60, 61, 62, 63, 64, 65, 66, 67, 68], [], 4, 0, [0, 0, 0, 0], rfl, by omega, (upd_zero _ _).symm, by kernel_rfl⟩, ?_⟩
  rintro _ _ ⟨i, o, rfl, hi, ho, rfl⟩
  have hol : o.length = 4 := by rw [ho, upd_len]; rfl
  conv => whnf
  refine ⟨fun h => ?_, fun h => ?_⟩
  · have h := of_decide_eq_true h
    have h4 : i < 4 := by omega
    have e1 := eight i (by omega)
    have e2 := eight8 i (by omega)
    have e5 := up1 i (by omega)
    have hlo : LV.v (.int .i64 (IntKind.i64.wrap (8 * (i : Int)))) = .v (.int .i64 ((8 * i : Nat) : Int)) := by rw [e1]
    have hhi : LV.v (.int .i64 (IntKind.i64.wrap (IntKind.i64.wrap (8 * (i : Int)) + 8))) = .v (.int .i64 ((8 * i + 8 : Nat) : Int)) := by rw [e1, e2]
    have e3 : eor (fun j => g l (8 * i + j)) = dg n i := by
      have hg : ∀ j, j < 8 → g l (8 * i + j) = bt n (8 * i + j) := fun j hj => by rw [hl, g_byk (by omega)]
      rw [← eor_dg]
      unfold eor
      dsimp only
      rw [hg 0 (by omega), hg 1 (by omega), hg 2 (by omega), hg 3 (by omega), hg 4 (by omega), hg 5 (by omega), hg 6 (by omega), hg 7 (by omega)]
    ((conv => whnf); repeat ((first | refine ⟨_, slice_arr (l := 8 * i) (m := 8) rfl rfl hlo hhi (by omega) (by omega), ?_⟩ | refine ⟨_, rfl, ?_⟩ | refine ⟨by decide, ?_⟩ | refine ⟨rfl, ?_⟩ | refine ⟨fun _ => ?_, fun h => absurd h (by decide)⟩ | refine ⟨fun h => absurd h (by decide), fun _ => ?_⟩ | refine ⟨inI_of (by omega), ?_⟩ | refine ⟨⟨rfl, inI_of (by omega)⟩, ?_⟩ | refine ⟨⟨rfl, by decide⟩, ?_⟩ | (apply Exists.intro; refine ⟨?_, ?_⟩; ((try simp only); (try simp only [Nat.zero_add]); (try simp only [Nat.mul_one]); (try simp only [Int.toNat_natCast]); first | exact at_g (by omega) | exact put_flat (by omega))) | refine ⟨_, cut_all (by omega), ?_⟩ | refine ⟨_, lay_all (by omega) (by omega), ?_⟩ | refine ⟨_, lay_all (by (try simp only); (try simp only [List.length_replicate]); (try simp only [List.length_cons]); (try simp only [List.length_nil]); omega) (by omega), ?_⟩ | refine ⟨by omega, ?_⟩ | refine ⟨len_flat (by omega), ?_⟩ | refine ⟨apart_uv _ _ _, ?_⟩ | refine ⟨_, resSlot_own rfl (by omega) (by first | exact .inl rfl | exact .inr ⟨rfl, rfl⟩), ?_⟩ | refine ⟨(by kernel_rfl : regB _ = true), ?_⟩ | refine ⟨⟨rfl, inI_of (by omega), by decide⟩, ?_⟩ | (apply Exists.intro; refine ⟨?_, ?_⟩; ((try simp only); (try simp only [Nat.zero_add]); (try simp only [Nat.mul_one]); (try simp only [Int.toNat_natCast]); first | exact at_drop_g (by omega) | exact cut_rest (by omega)))); conv => whnf))
    refine ⟨[0, 4, 5, 6, 7, 9, 10, 11, 12, 13, 14, 15, 16, 17, 18, 19, 20, 21, 22, 23, 24, 25, 26, 27, 28, 29, 30, 31, 32, 33, 34, 35, 36, 37, 38, 39, 40, 41, 42, 43, 44, 45, 46, 47, 48, 49, 50, 51, 52, 53, 54, 55, 56, 57, 58, 59, 60, 61, 62, 63, 64, 65, 66, 67, 68], [], 4 - (i + 1), ?_, i + 1, o.set i (dg n i), rfl, by omega, by rw [ho, upd_set _ _ h4], ?_⟩
    · omega
    · rw [← e5, ← e3]; kernel_rfl
  · have h := of_decide_eq_false h
    have hi' : i = 4 := by omega
    subst hi'
    have e3 : o = wd n := by rw [ho]; exact upd_all (dg n) [0, 0, 0, 0] (n := 4) rfl
    ((conv => whnf); repeat ((first | refine ⟨_, rfl, ?_⟩ | refine ⟨by decide, ?_⟩ | refine ⟨rfl, ?_⟩ | refine ⟨fun _ => ?_, fun h => absurd h (by decide)⟩ | refine ⟨fun h => absurd h (by decide), fun _ => ?_⟩ | refine ⟨inI_of (by omega), ?_⟩ | refine ⟨⟨rfl, inI_of (by omega)⟩, ?_⟩ | refine ⟨⟨rfl, by decide⟩, ?_⟩ | (apply Exists.intro; refine ⟨?_, ?_⟩; ((try simp only); (try simp only [Nat.zero_add]); (try simp only [Nat.mul_one]); (try simp only [Int.toNat_natCast]); first | exact at_g (by omega) | exact put_flat (by omega))) | refine ⟨_, cut_all (by omega), ?_⟩ | refine ⟨_, lay_all (by omega) (by omega), ?_⟩ | refine ⟨_, lay_all (by (try simp only); (try simp only [List.length_replicate]); (try simp only [List.length_cons]); (try simp only [List.length_nil]); omega) (by omega), ?_⟩ | refine ⟨by omega, ?_⟩ | refine ⟨len_flat (by omega), ?_⟩ | refine ⟨apart_uv _ _ _, ?_⟩ | refine ⟨_, resSlot_own rfl (by omega) (by first | exact .inl rfl | exact .inr ⟨rfl, rfl⟩), ?_⟩ | refine ⟨(by kernel_rfl : regB _ = true), ?_⟩ | refine ⟨⟨rfl, inI_of (by omega), by decide⟩, ?_⟩ | (apply Exists.intro; refine ⟨?_, ?_⟩; ((try simp only); (try simp only [Nat.zero_add]); (try simp only [Nat.mul_one]); (try simp only [Int.toNat_natCast]); first | exact at_drop_g (by omega) | exact cut_rest (by omega)))); conv => whnf))
    rw [e3]; rfl
theorem read_call (a : Nat) (_ : a < 2 ^ 256) : CallOk Tryz.prog 85 [F a] (ret1 (W a)) := execF_ok follows_ok E0_ok Tryz.func85 (read_exec a _ rfl)
end Go.Proofs.YtdeigmjbcbjgeaaGreatDoor
