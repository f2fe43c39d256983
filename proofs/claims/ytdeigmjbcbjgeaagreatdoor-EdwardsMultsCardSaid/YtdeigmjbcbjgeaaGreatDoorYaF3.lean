/-
  Layer 8: products of numbers of four words.
-/
import Derived.Test.YtdeigmjbcbjgeaaGreatDoorYaF2
namespace Go.Proofs.YtdeigmjbcbjgeaaGreatDoor
open Go.RowKit

/-! words as a number, over any base -/
def V (M : Int) : List Int → Int
  | [] => 0
  | x :: l => x + M * V M l
theorem V_set (M : Int) : ∀ (l : List Int) (k : Nat) (x : Int), k < l.length → V M (l.set k x) = V M l + (x - g l k) * M ^ k
  | [], k, x, h => by simp at h
  | y :: l, 0, x, _ => by
    simp only [List.set_cons_zero, V, Int.pow_zero, Int.mul_one]
    have : g (y :: l) 0 = y := rfl
    rw [this]; omega
  | y :: l, k + 1, x, h => by
    simp only [List.set_cons_succ, V]
    rw [V_set M l k x (by simpa using h)]
    have e : g (y :: l) (k + 1) = g l k := by simp [g]
    rw [e, Int.mul_add, Int.pow_succ, Int.mul_left_comm M, Int.mul_comm M (M ^ k)]
    omega
theorem V_take (M : Int) : ∀ (l : List Int) (i : Nat), i < l.length → V M (l.take (i + 1)) = V M (l.take i) + g l i * M ^ i
  | [], i, h => by simp at h
  | y :: l, 0, _ => by
    have : g (y :: l) 0 = y := rfl
    simp [V, this]
  | y :: l, i + 1, h => by
    have ih := V_take M l i (by simpa using h)
    have e : g (y :: l) (i + 1) = g l i := by simp [g]
    rw [List.take_succ_cons, List.take_succ_cons, V, V, ih, e, Int.mul_add, Int.pow_succ, Int.mul_left_comm M, Int.mul_comm M (M ^ i)]
    omega
def UL (l : List Int) : Prop := ∀ x ∈ l, U x
theorem UL.g {l : List Int} (h : UL l) (i : Nat) : U (g l i) := by
  unfold Proofs.YtdeigmjbcbjgeaaGreatDoor.g
  by_cases hi : i < l.length
  · rw [List.getD_eq_getElem?_getD, List.getElem?_eq_getElem hi]
    exact h _ (List.getElem_mem hi)
  · rw [List.getD_eq_getElem?_getD, List.getElem?_eq_none (by omega)]
    exact U_zero
theorem UL.set {l : List Int} (h : UL l) {x : Int} (hx : U x) (k : Nat) : UL (l.set k x) := by
  intro y hy
  rcases List.mem_or_eq_of_mem_set hy with hy | rfl
  · exact h y hy
  · exact hx
theorem prod_step (M x y o c l h V0 P K : Int) (e : l + M * h = x * y + o + c) (hv : V0 + c * P = K) : V0 + (l - o) * P + h * (P * M) = K + x * y * P := by
  have e1 := congrArg (· * P) e
  simp only [Int.add_mul] at e1
  have e2 : h * (P * M) = M * h * P := by rw [Int.mul_comm M h, Int.mul_assoc, Int.mul_comm M P]
  rw [Int.sub_mul, e2]
  omega
abbrev Mw : Int := 18446744073709551616
theorem isOV {f : Nat} {ds : List LV} {K : LRes → Prop} (h : ∃ y, EV.orc f ds = some y ∧ K y) : ∃ y, EV.orc f ds = some y ∧ K y := h
theorem list4 {l : List Int} (h : l.length = 4) : ∃ a b c d, l = [a, b, c, d] := by
  match l, h with
  | [a, b, c, d], _ => exact ⟨a, b, c, d, rfl⟩
theorem list8 {l : List Int} (h : l.length = 8) : ∃ a b c d e f g h, l = [a, b, c, d, e, f, g, h] := by
  match l, h with
  | [a, b, c, d, e, f, g, h], _ => exact ⟨a, b, c, d, e, f, g, h, rfl⟩
theorem wd8_V {l : List Int} {n : Nat} (h : l.length = 8) (hu : UL l) (hv : V Mw l = n) : l = wd8 n := by
  obtain ⟨a, b, c, d, e, f, g, k, rfl⟩ := list8 h
  refine (wd8_of (hu a (by simp)) (hu b (by simp)) (hu c (by simp)) (hu d (by simp)) (hu e (by simp)) (hu f (by simp)) (hu g (by simp)) (hu k (by simp)) ?_).symm
  rw [← hv]
  simp only [V, Mw]
  omega
theorem V_wd (n : Nat) (h : n < 2 ^ 256) : V Mw (wd n) = n := by
  obtain ⟨a, b, c, d, e, _, _, _, _, q⟩ := wd_split n h
  rw [e, q]
  simp only [V, Mw]
  omega
theorem UL_wd (n : Nat) : UL (wd n) := by
  intro x hx
  simp only [wd, List.mem_cons, List.not_mem_nil, or_false] at hx
  rcases hx with rfl | rfl | rfl | rfl <;> exact dg_U _ _
theorem wd_len (n : Nat) : (wd n).length = 4 := rfl
/-- The rounds of the inner loop, and of the outer one. -/
theorem prod_in {M A B K c l h : Int} {o : List Int} {i j : Nat} (hi : i + j < o.length) (e : l + M * h = A * B + g o (i + j) + c) {S : Int} (hv : V M o + c * M ^ (i + j) = K + A * S * M ^ i) :
    V M (o.set (i + j) l) + h * M ^ (i + (j + 1)) = K + A * (S + B * M ^ j) * M ^ i := by
  rw [V_set M o (i + j) l hi, show i + (j + 1) = i + j + 1 from rfl, Int.pow_succ]
  rw [prod_step M A B (g o (i + j)) c l h (V M o) (M ^ (i + j)) _ e hv, Int.mul_add, Int.add_mul, ← Int.add_assoc]
  congr 1
  rw [Int.pow_add, Int.mul_assoc A, Int.mul_assoc A, Int.mul_assoc B, Int.mul_comm (M ^ i)]
theorem prod_out {M A K c S T : Int} {o : List Int} {i : Nat} (hi : i + 4 < o.length) (h0 : g o (i + 4) = 0) (hv : V M o + c * M ^ (i + 4) = K + T * S + A * S * M ^ i) :
    V M (o.set (i + 4) c) = K + (T + A * M ^ i) * S := by
  rw [V_set M o (i + 4) c hi, h0, Int.sub_zero, hv, Int.add_mul, ← Int.add_assoc, Int.mul_right_comm A]
set_option maxRecDepth 100000 in
set_option maxHeartbeats 1600000 in
theorem product_exec (a b c : List Int) (n : Nat) (ha : a.length = 4) (hb : b.length = 4) (hc : c.length = 4) (ua : UL a) (ub : UL b) (uc : UL c) (hn : (n : Int) = V Mw c + V Mw a * V Mw b) :
    execF EV Tryz.f94 [.agg (.flat .u64 a), .agg (.flat .u64 b), .agg (.flat .u64 c)] (ret1 (W8 n)) := by
  obtain ⟨c0, c1, c2, c3, rfl⟩ := list4 hc
  ((conv => whnf); repeat ((first | refine ⟨_, rfl, ?_⟩ | refine ⟨by decide, ?_⟩ | refine ⟨rfl, ?_⟩ | refine ⟨fun _ => ?_, fun h => absurd h (by decide)⟩ | refine ⟨fun h => absurd h (by decide), fun _ => ?_⟩ | refine ⟨inI_of (by omega), ?_⟩ | refine ⟨⟨rfl, inI_of (by omega)⟩, ?_⟩ | refine ⟨⟨rfl, by decide⟩, ?_⟩ | (apply Exists.intro; refine ⟨?_, ?_⟩; ((try simp only); (try simp only [Nat.zero_add]); (try simp only [Nat.mul_one]); (try simp only [Int.toNat_natCast]); first | exact at_g (by omega) | exact put_flat (by omega))) | refine ⟨_, cut_all (by omega), ?_⟩ | refine ⟨_, lay_all (by omega) (by omega), ?_⟩ | refine ⟨_, lay_all (by (try simp only); (try simp only [List.length_replicate]); (try simp only [List.length_cons]); (try simp only [List.length_nil]); omega) (by omega), ?_⟩ | refine ⟨by omega, ?_⟩ | refine ⟨len_flat (by omega), ?_⟩ | refine ⟨apart_uv _ _ _, ?_⟩ | refine ⟨_, resSlot_own rfl (by omega) (by first | exact .inl rfl | exact .inr ⟨rfl, rfl⟩), ?_⟩ | refine ⟨(by kernel_rfl : regB _ = true), ?_⟩ | refine ⟨⟨rfl, inI_of (by omega), by decide⟩, ?_⟩ | (apply Exists.intro; refine ⟨?_, ?_⟩; ((try simp only); (try simp only [Nat.zero_add]); (try simp only [Nat.mul_one]); (try simp only [Int.toNat_natCast]); first | exact at_drop_g (by omega) | exact cut_rest (by omega)))); conv => whnf))
  refine .inl ⟨fun m st => ∃ (i : Nat) (o : List Int), m = 4 - i ∧ i ≤ 4 ∧ o.length = 8 ∧ UL o ∧ (∀ k, i + 4 ≤ k → g o k = 0) ∧ V Mw o = V Mw [c0, c1, c2, c3] + V Mw (a.take i) * V Mw b ∧
      st = ⟨[.poison, .poison, .poison, .ptr 24 0, .ptr 32 0, .ptr 40 0, .ptr 48 0, .ptr 56 0, .poison, .poison, .poison, .poison, .poison, .poison, .poison, .poison, .poison, .poison, .poison, .poison, .poison, .poison, .agg (.flat .u64 a), iv .i64 i, .poison, .poison, .poison, .poison, .poison, .poison, .poison, .poison, .poison, .poison, .poison, .poison, .poison, .poison, .poison, .poison, .poison, .poison, .poison, .poison, .poison, .poison, .poison, .poison, .poison, .poison, .poison, .poison, .poison, .poison, .poison],
      [(24, ⟨.flat .u64 a, 89, false⟩), (32, ⟨.flat .u64 b, 89, false⟩), (40, ⟨.flat .u64 [c0, c1, c2, c3], 89, false⟩), (48, ⟨.flat .u64 [0, 0, 0, 0, 0, 0, 0, 0], 87, false⟩), (56, ⟨.flat .u64 o, 87, false⟩)]⟩,
      ⟨[0, 1, 2, 8, 9, 10, 11, 12, 13, 14, 15, 16, 17, 18, 19, 20, 21, 24, 25, 26, 27, 28, 29, 30, 31, 32, 33, 34, 35, 36, 37, 38, 39, 40, 41, 42, 43, 44, 45, 46, 47, 48, 49, 50, 51, 52, 53, 54], [], 4, 0, [c0, c1, c2, c3, 0, 0, 0, 0], rfl, by omega, rfl, ?_, ?_, ?_, by kernel_rfl⟩, ?_⟩
  · intro x hx
    simp only [List.mem_cons, List.not_mem_nil, or_false] at hx
    rcases hx with rfl | rfl | rfl | rfl | rfl | rfl | rfl | rfl <;> first | exact U_zero | exact uc _ (by simp)
  · intro k hk
    rcases Nat.lt_or_ge k 8 with h | h
    · have : k = 4 ∨ k = 5 ∨ k = 6 ∨ k = 7 := by omega
      rcases this with rfl | rfl | rfl | rfl <;> rfl
    · simp only [g, List.getD_eq_getElem?_getD]
      rw [List.getElem?_eq_none (by simpa using h)]
      rfl
  · simp only [V, Mw, List.take_zero]
    omega
  rintro _ _ ⟨i, o, rfl, hi, hol, uo, ho, hv, rfl⟩
  conv => whnf
  refine ⟨fun h => ?_, fun h => ?_⟩
  · have h := of_decide_eq_true h
    have h4 : i < 4 := by omega
    ((conv => whnf); repeat ((first | refine ⟨_, rfl, ?_⟩ | refine ⟨by decide, ?_⟩ | refine ⟨rfl, ?_⟩ | refine ⟨fun _ => ?_, fun h => absurd h (by decide)⟩ | refine ⟨fun h => absurd h (by decide), fun _ => ?_⟩ | refine ⟨inI_of (by omega), ?_⟩ | refine ⟨⟨rfl, inI_of (by omega)⟩, ?_⟩ | refine ⟨⟨rfl, by decide⟩, ?_⟩ | (apply Exists.intro; refine ⟨?_, ?_⟩; ((try simp only); (try simp only [Nat.zero_add]); (try simp only [Nat.mul_one]); (try simp only [Int.toNat_natCast]); first | exact at_g (by omega) | exact put_flat (by omega))) | refine ⟨_, cut_all (by omega), ?_⟩ | refine ⟨_, lay_all (by omega) (by omega), ?_⟩ | refine ⟨_, lay_all (by (try simp only); (try simp only [List.length_replicate]); (try simp only [List.length_cons]); (try simp only [List.length_nil]); omega) (by omega), ?_⟩ | refine ⟨by omega, ?_⟩ | refine ⟨len_flat (by omega), ?_⟩ | refine ⟨apart_uv _ _ _, ?_⟩ | refine ⟨_, resSlot_own rfl (by omega) (by first | exact .inl rfl | exact .inr ⟨rfl, rfl⟩), ?_⟩ | refine ⟨(by kernel_rfl : regB _ = true), ?_⟩ | refine ⟨⟨rfl, inI_of (by omega), by decide⟩, ?_⟩ | (apply Exists.intro; refine ⟨?_, ?_⟩; ((try simp only); (try simp only [Nat.zero_add]); (try simp only [Nat.mul_one]); (try simp only [Int.toNat_natCast]); first | exact at_drop_g (by omega) | exact cut_rest (by omega)))); conv => whnf))
    refine .inl ⟨fun m st => ∃ (j : Nat) (p : List Int) (cy : Int), m = 4 - j ∧ j ≤ 4 ∧ p.length = 8 ∧ UL p ∧ U cy ∧ (∀ k, i + 4 ≤ k → g p k = 0) ∧ V Mw p + cy * Mw ^ (i + j) = V Mw o + g a i * V Mw (b.take j) * Mw ^ i ∧
      st = ⟨[.poison, .poison, .poison, .ptr 24 0, .ptr 32 0, .ptr 40 0, .ptr 48 0, .ptr 56 0, iv .i64 i, iv .u64 (g a i), iv .u64 cy, .poison, .poison, .poison, .poison, .poison, .poison, .poison, .poison, .poison, .poison, .poison, .agg (.flat .u64 a), iv .i64 i, .poison, .poison, .poison, .agg (.flat .u64 b), iv .i64 j, .poison, .poison, .poison, .poison, .poison, .poison, .poison, .poison, .poison, .poison, .poison, .poison, .poison, .poison, .poison, .poison, .poison, .poison, .poison, .poison, .poison, .poison, .poison, .poison, .poison, .poison],
      [(24, ⟨.flat .u64 a, 89, false⟩), (32, ⟨.flat .u64 b, 89, false⟩), (40, ⟨.flat .u64 [c0, c1, c2, c3], 89, false⟩), (48, ⟨.flat .u64 [0, 0, 0, 0, 0, 0, 0, 0], 87, false⟩), (56, ⟨.flat .u64 p, 87, false⟩)]⟩,
      ⟨[0, 1, 2, 11, 12, 13, 14, 15, 16, 17, 18, 19, 20, 21, 24, 25, 26, 29, 30, 31, 32, 33, 34, 35, 36, 37, 38, 39, 40, 41, 42, 43, 44, 45, 46, 47, 48, 49, 50, 51, 52, 53, 54], [], 4, 0, o, 0, rfl, by omega, hol, uo, U_zero, ho, ?_, by kernel_rfl⟩, ?_⟩
    · simp [V]
    rintro _ _ ⟨j, p, cy, rfl, hj, hpl, up, ucy, hp, hvp, rfl⟩
    conv => whnf
    refine ⟨fun h => ?_, fun h => ?_⟩
    · have h := of_decide_eq_true h
      have j4 : j < 4 := by omega
      have e1 : IntKind.i64.wrap ((i : Int) + (j : Int)) = ((i + j : Nat) : Int) := by rw [wrap64 (by omega)]; omega
      obtain ⟨l, hh, f, ul, uh, q⟩ := oWord (ua.g i) (ub.g j) (up.g (i + j)) ucy
      ((conv => whnf); repeat ((first | ((with_reducible refine isOV ?_); refine ⟨_, f, ?_⟩) | refine ⟨_, rfl, ?_⟩ | refine ⟨by decide, ?_⟩ | refine ⟨rfl, ?_⟩ | refine ⟨fun _ => ?_, fun h => absurd h (by decide)⟩ | refine ⟨fun h => absurd h (by decide), fun _ => ?_⟩ | refine ⟨inI_of (by omega), ?_⟩ | refine ⟨⟨rfl, inI_of (by omega)⟩, ?_⟩ | refine ⟨⟨rfl, by decide⟩, ?_⟩ | refine ⟨by (try simp only); (try simp only [e1]); exact inI_of (by omega), ?_⟩ | refine ⟨⟨rfl, by (try simp only); (try simp only [e1]); exact inI_of (by omega)⟩, ?_⟩ | (apply Exists.intro; refine ⟨?_, ?_⟩; ((try simp only); (try simp only [e1]); (try simp only [Nat.zero_add]); (try simp only [Nat.mul_one]); (try simp only [Int.toNat_natCast]); (try simp only [e1]); (try simp only [Nat.zero_add]); (try simp only [Nat.mul_one]); (try simp only [Int.toNat_natCast]); first | exact at_g (by omega) | exact put_flat (by omega))) | refine ⟨_, cut_all (by omega), ?_⟩ | refine ⟨_, lay_all (by omega) (by omega), ?_⟩ | refine ⟨_, lay_all (by (try simp only); (try simp only [List.length_replicate]); (try simp only [List.length_cons]); (try simp only [List.length_nil]); omega) (by omega), ?_⟩ | refine ⟨by omega, ?_⟩ | refine ⟨len_flat (by omega), ?_⟩ | refine ⟨apart_uv _ _ _, ?_⟩ | refine ⟨_, resSlot_own rfl (by omega) (by first | exact .inl rfl | exact .inr ⟨rfl, rfl⟩), ?_⟩ | refine ⟨(by kernel_rfl : regB _ = true), ?_⟩ | refine ⟨⟨rfl, inI_of (by omega), by decide⟩, ?_⟩ | refine ⟨⟨rfl, by (try simp only); (try simp only [e1]); exact inI_of (by omega), by decide⟩, ?_⟩ | (apply Exists.intro; refine ⟨?_, ?_⟩; ((try simp only); (try simp only [e1]); (try simp only [Nat.zero_add]); (try simp only [Nat.mul_one]); (try simp only [Int.toNat_natCast]); (try simp only [e1]); (try simp only [Nat.zero_add]); (try simp only [Nat.mul_one]); (try simp only [Int.toNat_natCast]); first | exact at_drop_g (by omega) | exact cut_rest (by omega)))); conv => whnf))
      have e2 : IntKind.i64.wrap ((j : Int) + 1) = ((j + 1 : Nat) : Int) := by rw [wrap64 (by omega)]; omega
      refine ⟨[0, 1, 2, 11, 12, 13, 14, 15, 16, 17, 18, 19, 20, 21, 24, 25, 26, 29, 30, 31, 32, 33, 34, 35, 36, 37, 38, 39, 40, 41, 42, 43, 44, 45, 46, 47, 48, 49, 50, 51, 52, 53, 54], [], 4 - (j + 1), ?_, j + 1, p.set (i + j) l, hh, rfl, by omega, by rw [List.length_set, hpl], up.set ul _, uh, fun k hk => ?_, ?_, ?_⟩
      · omega
      · rw [g_set (by omega), if_neg (by omega)]
        exact hp k hk
      · rw [V_take _ _ _ (by omega)]
        exact prod_in (by omega) q hvp
      · rw [← e2]; kernel_rfl
    · have h := of_decide_eq_false h
      have hj4 : j = 4 := by omega
      subst hj4
      have e1 : IntKind.i64.wrap ((i : Int) + 4) = ((i + 4 : Nat) : Int) := by rw [wrap64 (by omega)]; omega
      have e2 : IntKind.i64.wrap ((i : Int) + 1) = ((i + 1 : Nat) : Int) := by rw [wrap64 (by omega)]; omega
      ((conv => whnf); repeat ((first | refine ⟨_, rfl, ?_⟩ | refine ⟨by decide, ?_⟩ | refine ⟨rfl, ?_⟩ | refine ⟨fun _ => ?_, fun h => absurd h (by decide)⟩ | refine ⟨fun h => absurd h (by decide), fun _ => ?_⟩ | refine ⟨inI_of (by omega), ?_⟩ | refine ⟨⟨rfl, inI_of (by omega)⟩, ?_⟩ | refine ⟨⟨rfl, by decide⟩, ?_⟩ | refine ⟨by (try simp only); (try simp only [e1]); exact inI_of (by omega), ?_⟩ | refine ⟨⟨rfl, by (try simp only); (try simp only [e1]); exact inI_of (by omega)⟩, ?_⟩ | (apply Exists.intro; refine ⟨?_, ?_⟩; ((try simp only); (try simp only [e1]); (try simp only [Nat.zero_add]); (try simp only [Nat.mul_one]); (try simp only [Int.toNat_natCast]); (try simp only [e1]); (try simp only [Nat.zero_add]); (try simp only [Nat.mul_one]); (try simp only [Int.toNat_natCast]); first | exact at_g (by omega) | exact put_flat (by omega))) | refine ⟨_, cut_all (by omega), ?_⟩ | refine ⟨_, lay_all (by omega) (by omega), ?_⟩ | refine ⟨_, lay_all (by (try simp only); (try simp only [List.length_replicate]); (try simp only [List.length_cons]); (try simp only [List.length_nil]); omega) (by omega), ?_⟩ | refine ⟨by omega, ?_⟩ | refine ⟨len_flat (by omega), ?_⟩ | refine ⟨apart_uv _ _ _, ?_⟩ | refine ⟨_, resSlot_own rfl (by omega) (by first | exact .inl rfl | exact .inr ⟨rfl, rfl⟩), ?_⟩ | refine ⟨(by kernel_rfl : regB _ = true), ?_⟩ | refine ⟨⟨rfl, inI_of (by omega), by decide⟩, ?_⟩ | refine ⟨⟨rfl, by (try simp only); (try simp only [e1]); exact inI_of (by omega), by decide⟩, ?_⟩ | (apply Exists.intro; refine ⟨?_, ?_⟩; ((try simp only); (try simp only [e1]); (try simp only [Nat.zero_add]); (try simp only [Nat.mul_one]); (try simp only [Int.toNat_natCast]); (try simp only [e1]); (try simp only [Nat.zero_add]); (try simp only [Nat.mul_one]); (try simp only [Int.toNat_natCast]); first | exact at_drop_g (by omega) | exact cut_rest (by omega)))); conv => whnf))
      refine ⟨[0, 1, 2, 8, 9, 10, 11, 12, 13, 14, 15, 16, 17, 18, 19, 20, 21, 24, 25, 26, 27, 28, 29, 30, 31, 32, 33, 34, 35, 36, 37, 38, 39, 40, 41, 42, 43, 44, 45, 46, 47, 48, 49, 50, 51, 52, 53, 54], [], 4 - (i + 1), ?_, i + 1, p.set (i + 4) cy, rfl, by omega, by rw [List.length_set, hpl], up.set ucy _, fun k hk => ?_, ?_, ?_⟩
      · omega
      · rw [g_set (by omega), if_neg (by omega)]
        exact hp k (by omega)
      · rw [V_take _ _ _ (by omega)]
        refine prod_out (by omega) (hp _ (Nat.le_refl _)) ?_
        rw [hvp, hv, List.take_of_length_le (Nat.le_of_eq hb)]
      · rw [← e2]; kernel_rfl
  · have h := of_decide_eq_false h
    have hi4 : i = 4 := by omega
    subst hi4
    have er : o = wd8 n := wd8_V hol uo (by rw [hv, List.take_of_length_le (Nat.le_of_eq ha), hn])
    ((conv => whnf); repeat ((first | refine ⟨_, rfl, ?_⟩ | refine ⟨by decide, ?_⟩ | refine ⟨rfl, ?_⟩ | refine ⟨fun _ => ?_, fun h => absurd h (by decide)⟩ | refine ⟨fun h => absurd h (by decide), fun _ => ?_⟩ | refine ⟨inI_of (by omega), ?_⟩ | refine ⟨⟨rfl, inI_of (by omega)⟩, ?_⟩ | refine ⟨⟨rfl, by decide⟩, ?_⟩ | (apply Exists.intro; refine ⟨?_, ?_⟩; ((try simp only); (try simp only [Nat.zero_add]); (try simp only [Nat.mul_one]); (try simp only [Int.toNat_natCast]); first | exact at_g (by omega) | exact put_flat (by omega))) | refine ⟨_, cut_all (by omega), ?_⟩ | refine ⟨_, lay_all (by omega) (by omega), ?_⟩ | refine ⟨_, lay_all (by (try simp only); (try simp only [List.length_replicate]); (try simp only [List.length_cons]); (try simp only [List.length_nil]); omega) (by omega), ?_⟩ | refine ⟨by omega, ?_⟩ | refine ⟨len_flat (by omega), ?_⟩ | refine ⟨apart_uv _ _ _, ?_⟩ | refine ⟨_, resSlot_own rfl (by omega) (by first | exact .inl rfl | exact .inr ⟨rfl, rfl⟩), ?_⟩ | refine ⟨(by kernel_rfl : regB _ = true), ?_⟩ | refine ⟨⟨rfl, inI_of (by omega), by decide⟩, ?_⟩ | (apply Exists.intro; refine ⟨?_, ?_⟩; ((try simp only); (try simp only [Nat.zero_add]); (try simp only [Nat.mul_one]); (try simp only [Int.toNat_natCast]); first | exact at_drop_g (by omega) | exact cut_rest (by omega)))); conv => whnf))
    rw [er]
    rfl
theorem product_call (a b c : Nat) (ha : a < 2 ^ 256) (hb : b < 2 ^ 256) (hc : c < 2 ^ 256) : CallOk Tryz.prog 94 [W a, W b, W c] (ret1 (W8 (a * b + c))) :=
  execF_ok follows_ok EV_ok Tryz.func94 (product_exec _ _ _ _ (wd_len a) (wd_len b) (wd_len c) (UL_wd a) (UL_wd b) (UL_wd c) (by rw [V_wd a ha, V_wd b hb, V_wd c hc]; push_cast; omega))
end Go.Proofs.YtdeigmjbcbjgeaaGreatDoor
