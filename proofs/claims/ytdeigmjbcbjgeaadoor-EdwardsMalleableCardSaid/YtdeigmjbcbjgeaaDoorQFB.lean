/-
  Layer 8: the answer's functions on numbers.
-/
import Derived.Test.YtdeigmjbcbjgeaaDoorQF8
import Derived.Laws.BitsAllLaws
import Derived.Test.YtdeigmjbcbjgeaaDoorQFA
import Derived.Test.YtdeigmjbcbjgeaaDoorQMkP
namespace Go.Proofs.YtdeigmjbcbjgeaaDoor
open Go.RowKit

theorem rQ_call : CallOk Tryd.prog 10 [] (ret1 (W qQ)) := runF_ok follows_ok E0_ok Tryd.func10 (fuel := 100) (by kernel_rfl)
def e1R : Nat := 2 ^ 252 - 2
def e2R : Nat := 2 ^ 253 - 5
def e3R : Nat := 2 ^ 255 - 21
def orcR0 (f : Nat) (ds : List LV) : Option LRes := orcU f ds
theorem orcR0_ok : Known Tryd.prog orcR0 := by
  intro f ds r h
  exact orcU_ok f ds r h
def orcR1 (f : Nat) (ds : List LV) : Option LRes :=
  match f with
  | 10 => match ds with
    | [] => some (ret1 (W qQ))
    | _ => none
  | _ => orcR0 f ds
theorem orcR1_ok : Known Tryd.prog orcR1 := by
  intro f ds r h
  unfold orcR1 at h
  split at h
  · split at h
    · cases h
      exact .inl ⟨⟨_, Tryd.func10, name_ne _ (by kernel_rfl), rfl⟩, rQ_call⟩
    · cases h
  · exact orcR0_ok f ds r h
def orcR2 (f : Nat) (ds : List LV) : Option LRes := orcR1 f ds
theorem orcR2_ok : Known Tryd.prog orcR2 := by
  intro f ds r h
  exact orcR1_ok f ds r h
def orcR3 (f : Nat) (ds : List LV) : Option LRes := orcR2 f ds
theorem orcR3_ok : Known Tryd.prog orcR3 := by
  intro f ds r h
  exact orcR2_ok f ds r h
def minR (a b : Nat) : Nat := if a < b then a + pP - b else a - b
def orcR4 (f : Nat) (ds : List LV) : Option LRes := orcR3 f ds
theorem orcR4_ok : Known Tryd.prog orcR4 := by
  intro f ds r h
  exact orcR3_ok f ds r h
def orcR5 (f : Nat) (ds : List LV) : Option LRes := orcR4 f ds
theorem orcR5_ok : Known Tryd.prog orcR5 := by
  intro f ds r h
  exact orcR4_ok f ds r h
def candR (x : Nat) : Nat := if pw x e1R * pw x e1R % pP = x then pw x e1R else pw x e1R * pw 2 e2R % pP
def rootR (x : Nat) : Nat × Bool := if candR x * candR x % pP = x then (if candR x % 2 = 1 then minR 0 (candR x) else candR x, true) else (0, false)
theorem pw_lt' (x e : Nat) (_ : e = e1R ∨ e = e2R) : pw x e < pP := by
  have : ∀ k, pwk x e (k + 1) < pP := fun k => by rw [pwk]; split <;> exact Nat.mod_lt _ pP_pos
  exact this 255
theorem candR_lt (x : Nat) : candR x < pP := by
  unfold candR
  split
  · exact pw_lt' _ _ (.inl rfl)
  · exact Nat.mod_lt _ pP_pos
end Go.Proofs.YtdeigmjbcbjgeaaDoor
/-
  Layer 8: the answer's exported functions.
-/
namespace Go.Proofs.YtdeigmjbcbjgeaaDoor
open Go.RowKit

theorem store_row {a : List Int} (hc : isW a = true) : CallOk Tryd.prog 9 [.agg (.flat .u64 a)] (ret1 (F (vl a))) := by
  have h0 := hc
  clear hc
  have e0 := isW_eq h0
  have l0 := vl_lt h0
  clear h0
  generalize vl a = n0 at *
  subst e0
  exact store_call n0 l0 
def orcR6 (f : Nat) (ds : List LV) : Option LRes :=
  match f with
  | 9 => match ds with
    | [.agg (.flat .u64 a)] => if isW a = true then some (ret1 (F (vl a))) else none
    | _ => none
  | _ => orcR5 f ds
theorem orcR6_ok : Known Tryd.prog orcR6 := by
  intro f ds r h
  unfold orcR6 at h
  split at h
  · split at h
    · split at h
      · rename_i hc
        cases h
        exact .inl ⟨⟨_, Tryd.func9, name_ne _ (by kernel_rfl), rfl⟩, store_row hc⟩
      · cases h
    · cases h
  · exact orcR5_ok f ds r h
theorem e_eq : e1R = e1P ∧ e2R = e2P ∧ e3R = e3P := ⟨rfl, rfl, rfl⟩
theorem rootR_eq (x : Nat) : rootR (x % pP) = sqrtP x := by
  obtain ⟨h1, h2, _⟩ := e_eq
  have hc := candR_lt (x % pP)
  unfold sqrtP rootP
  generalize x % pP = y at *
  by_cases h : pw y e1P * pw y e1P % pP = y
  · have e : candR y = pw y e1P := by rw [candR, h1, if_pos h]
    rw [rootR, e, if_pos h, if_pos h]
    simp only [if_true]
    rw [e] at hc
    congr 1
    by_cases h3 : pw y e1P % 2 = 1
    · rw [if_pos h3, if_pos h3, minR, if_pos (by omega), Nat.mod_eq_of_lt hc]
      omega
    · rw [if_neg h3, if_neg h3]
  · have e : candR y = pw y e1P * pw 2 e2P % pP := by rw [candR, h1, h2, if_neg h]
    rw [rootR, e, if_neg h]
    dsimp only
    rw [e] at hc
    generalize pw y e1P * pw 2 e2P % pP = r at *
    by_cases h2 : r * r % pP = y
    · simp only [if_pos h2, decide_eq_true h2, if_true]
      by_cases h3 : r % 2 = 1
      · rw [if_pos h3, if_pos h3, minR, if_pos (by omega), Nat.mod_eq_of_lt hc, Nat.zero_add]
      · rw [if_neg h3, if_neg h3]
    · simp only [if_neg h2, decide_eq_false h2, Bool.false_eq_true, if_false]
def orcR7 (f : Nat) (ds : List LV) : Option LRes := orcR6 f ds
theorem orcR7_ok : Known Tryd.prog orcR7 := by
  intro f ds r h
  exact orcR6_ok f ds r h
end Go.Proofs.YtdeigmjbcbjgeaaDoor
/-
  Layer 9: the program's ladder.
-/
namespace Go.Proofs.YtdeigmjbcbjgeaaDoor
open Go.RowKit

def nA (a b : Nat) : Nat := (a + b) % pP
def nS (a b : Nat) : Nat := (a + (pP - b % pP)) % pP
def nM (a b : Nat) : Nat := a * b % pP
theorem nA_lt (a b : Nat) : nA a b < 2 ^ 256 := mod_lt256 (a + b)
theorem nS_lt (a b : Nat) : nS a b < 2 ^ 256 := mod_lt256 (a + (pP - b % pP))
theorem nM_lt (a b : Nat) : nM a b < 2 ^ 256 := mod_lt256 (a * b)
theorem nS_lp (a b : Nat) : nS a b < pP := Nat.mod_lt _ pP_pos
theorem nM_lp (a b : Nat) : nM a b < pP := Nat.mod_lt _ pP_pos
theorem pAdd_row {a b : List Int} (hc : isF a = true ∧ isF b = true) : CallOk Tryd.prog 40 [.agg (.flat .u8 a), .agg (.flat .u8 b)] (ret1 (F (nA (nb a) (nb b)))) := by
  obtain ⟨h0, h1⟩ := hc
  have e0 := isF_eq h0
  have l0 := nb32_lt h0
  clear h0
  generalize nb a = n0 at *
  subst e0
  have e1 := isF_eq h1
  have l1 := nb32_lt h1
  clear h1
  generalize nb b = n1 at *
  subst e1
  exact pAdd_call n0 n1 l0 l1 
theorem pSub_row {a b : List Int} (hc : isF a = true ∧ isF b = true) : CallOk Tryd.prog 42 [.agg (.flat .u8 a), .agg (.flat .u8 b)] (ret1 (F (nS (nb a) (nb b)))) := by
  obtain ⟨h0, h1⟩ := hc
  have e0 := isF_eq h0
  have l0 := nb32_lt h0
  clear h0
  generalize nb a = n0 at *
  subst e0
  have e1 := isF_eq h1
  have l1 := nb32_lt h1
  clear h1
  generalize nb b = n1 at *
  subst e1
  exact pSub_call n0 n1 l0 l1 
theorem pMul_row {a b : List Int} (hc : isF a = true ∧ isF b = true) : CallOk Tryd.prog 27 [.agg (.flat .u8 a), .agg (.flat .u8 b)] (ret1 (F (nM (nb a) (nb b)))) := by
  obtain ⟨h0, h1⟩ := hc
  have e0 := isF_eq h0
  have l0 := nb32_lt h0
  clear h0
  generalize nb a = n0 at *
  subst e0
  have e1 := isF_eq h1
  have l1 := nb32_lt h1
  clear h1
  generalize nb b = n1 at *
  subst e1
  exact pMul_call n0 n1 l0 l1 
theorem pInv_row {a : List Int} (hc : isF a = true) : CallOk Tryd.prog 28 [.agg (.flat .u8 a)] (ret1 (F (pw (nb a) e3P))) := by
  have h0 := hc
  clear hc
  have e0 := isF_eq h0
  have l0 := nb32_lt h0
  clear h0
  generalize nb a = n0 at *
  subst e0
  exact pInv_call n0 l0 
theorem pCanonical_row {a : List Int} (hc : isF a = true) : CallOk Tryd.prog 38 [.agg (.flat .u8 a)] (ret1 (.v (.bool (decide ((nb a) < pP))))) := by
  have h0 := hc
  clear hc
  have e0 := isF_eq h0
  have l0 := nb32_lt h0
  clear h0
  generalize nb a = n0 at *
  subst e0
  exact pCanonical_call n0 l0 
def orcG0 (f : Nat) (ds : List LV) : Option LRes :=
  match f with
  | 40 => match ds with
    | [.agg (.flat .u8 a), .agg (.flat .u8 b)] => if isF a = true ∧ isF b = true then some (ret1 (F (nA (nb a) (nb b)))) else none
    | _ => none
  | 42 => match ds with
    | [.agg (.flat .u8 a), .agg (.flat .u8 b)] => if isF a = true ∧ isF b = true then some (ret1 (F (nS (nb a) (nb b)))) else none
    | _ => none
  | 27 => match ds with
    | [.agg (.flat .u8 a), .agg (.flat .u8 b)] => if isF a = true ∧ isF b = true then some (ret1 (F (nM (nb a) (nb b)))) else none
    | _ => none
  | 28 => match ds with
    | [.agg (.flat .u8 a)] => if isF a = true then some (ret1 (F (pw (nb a) e3P))) else none
    | _ => none
  | 38 => match ds with
    | [.agg (.flat .u8 a)] => if isF a = true then some (ret1 (.v (.bool (decide ((nb a) < pP))))) else none
    | _ => none
  | _ => orcR7 f ds
theorem orcG0_ok : Known Tryd.prog orcG0 := by
  intro f ds r h
  unfold orcG0 at h
  split at h
  · split at h
    · split at h
      · rename_i hc
        cases h
        exact .inl ⟨⟨_, Tryd.func40, name_ne _ (by kernel_rfl), rfl⟩, pAdd_row hc⟩
      · cases h
    · cases h
  · split at h
    · split at h
      · rename_i hc
        cases h
        exact .inl ⟨⟨_, Tryd.func42, name_ne _ (by kernel_rfl), rfl⟩, pSub_row hc⟩
      · cases h
    · cases h
  · split at h
    · split at h
      · rename_i hc
        cases h
        exact .inl ⟨⟨_, Tryd.func27, name_ne _ (by kernel_rfl), rfl⟩, pMul_row hc⟩
      · cases h
    · cases h
  · split at h
    · split at h
      · rename_i hc
        cases h
        exact .inl ⟨⟨_, Tryd.func28, name_ne _ (by kernel_rfl), rfl⟩, pInv_row hc⟩
      · cases h
    · cases h
  · split at h
    · split at h
      · rename_i hc
        cases h
        exact .inl ⟨⟨_, Tryd.func38, name_ne _ (by kernel_rfl), rfl⟩, pCanonical_row hc⟩
      · cases h
    · cases h
  · exact orcR7_ok f ds r h
def EG0 : Env := ⟨tyL, orcG0, false, noWk, noOrw⟩
theorem EG0_ok : EnvOk Tryd.prog EG0 := ⟨tyL_ok, orcG0_ok, noOrw_ok⟩
set_option maxRecDepth 100000 in
theorem o_pAdd {a b : Nat} (ha : a < 2 ^ 256) (hb : b < 2 ^ 256) : EG0.orc 40 [F a, F b] = some (ret1 (F (nA a b))) :=
  (if_pos ⟨isF_by _, isF_by _⟩).trans (by rw [nb_by32 ha, nb_by32 hb])
set_option maxRecDepth 100000 in
theorem o_pSub {a b : Nat} (ha : a < 2 ^ 256) (hb : b < 2 ^ 256) : EG0.orc 42 [F a, F b] = some (ret1 (F (nS a b))) :=
  (if_pos ⟨isF_by _, isF_by _⟩).trans (by rw [nb_by32 ha, nb_by32 hb])
set_option maxRecDepth 100000 in
theorem o_pMul {a b : Nat} (ha : a < 2 ^ 256) (hb : b < 2 ^ 256) : EG0.orc 27 [F a, F b] = some (ret1 (F (nM a b))) :=
  (if_pos ⟨isF_by _, isF_by _⟩).trans (by rw [nb_by32 ha, nb_by32 hb])
set_option maxRecDepth 100000 in
theorem o_pInv {a : Nat} (ha : a < 2 ^ 256) : EG0.orc 28 [F a] = some (ret1 (F (pw a e3P))) :=
  (if_pos (isF_by _)).trans (by rw [nb_by32 ha])
set_option maxRecDepth 100000 in
theorem o_pCanonical {a : Nat} (ha : a < 2 ^ 256) : EG0.orc 38 [F a] = some (ret1 (.v (.bool (decide (a < pP))))) :=
  (if_pos (isF_by _)).trans (by rw [nb_by32 ha])
theorem isN_EG0 (f : Nat) {ds : List LV} {K : LRes → Prop} (h : ∃ y, EG0.orc f ds = some y ∧ K y) : ∃ y, EG0.orc f ds = some y ∧ K y := h
end Go.Proofs.YtdeigmjbcbjgeaaDoor
/-
  Layer 9: the ladder.
-/
namespace Go.Proofs.YtdeigmjbcbjgeaaDoor
open Go.RowKit

@[ext] structure Lad where
  x : Nat
  z : Nat
  v : Nat
  w : Nat
def Lad.lt (s : Lad) : Prop := s.x < pP ∧ s.z < pP ∧ s.v < pP ∧ s.w < pP
theorem lt256 {a : Nat} (h : a < pP) : a < 2 ^ 256 := Nat.lt_trans h pP_lt
/-- Two numbers, side by side. -/
def b2 (x z : Nat) : List Int := by32 x ++ by32 z
theorem runs_eq {α : Type} {o : Option α} {K : α → Prop} {p : α} (h : o = some p) (hk : K p) : runs o K := by
  subst h
  exact hk
/-! bits of bytes -/
def okBit : Bool := (List.range 256).all fun n => (List.range 8).all fun s => decide (bits .and .u8 (((n : Nat) : Int).fdiv (2 ^ s)) 1 = if Nat.testBit n s then 1 else 0)
theorem bit_b8 (n s : Nat) (hn : n < 256) (hs : s < 8) : bits .and .u8 (((n : Nat) : Int).fdiv (2 ^ s)) 1 = if Nat.testBit n s then 1 else 0 := by
  have h : okBit = true := by kernel_rfl
  rw [okBit, List.all_eq_true] at h
  have h1 := h n (List.mem_range.2 hn)
  rw [List.all_eq_true] at h1
  exact of_decide_eq_true (h1 s (List.mem_range.2 hs))
theorem bt_bit (n i : Nat) : Nat.testBit (n / 2 ^ (8 * (i / 8)) % 256) (i % 8) = Nat.testBit n i := by
  rw [show (256 : Nat) = 2 ^ 8 from rfl, Nat.testBit_mod_two_pow, Nat.testBit_div_two_pow, decide_eq_true (show i % 8 < 8 by omega), Bool.true_and, show i % 8 + 8 * (i / 8) = i by omega]
theorem bit_k {l : List Int} {n i : Nat} (h : g l (i / 8) = bt n (i / 8)) : bits .and .u8 ((g l (i / 8)).fdiv (2 ^ min ((i : Int).tmod 8).toNat IntKind.u8.bits)) 1 = if Nat.testBit n i then 1 else 0 := by
  have e : min ((i : Int).tmod 8).toNat IntKind.u8.bits = i % 8 := by
    rw [show (8 : Int) = ((8 : Nat) : Int) from rfl, tmod_nat, Int.toNat_natCast]
    exact Nat.min_eq_left (by show i % 8 ≤ 8; omega)
  rw [h, bt, e, bit_b8 _ _ (by omega) (by omega), bt_bit]
theorem tdiv8k (i : Nat) (h : i < 1000) : IntKind.i64.wrap ((i : Int).tdiv 8) = ((i / 8 : Nat) : Int) := by
  rw [show (8 : Int) = ((8 : Nat) : Int) from rfl, ← Int.ofNat_tdiv, wrap64 (by omega)]
theorem tmod8_nn (i : Nat) : 0 ≤ (i : Int).tmod 8 := Int.tmod_nonneg _ (by omega)
end Go.Proofs.YtdeigmjbcbjgeaaDoor
/-
  Layer 9: Clamp, Mult.
-/
namespace Go.Proofs.YtdeigmjbcbjgeaaDoor
open Go.RowKit

/-- A number with the bits 0, 1, 2 and 255 cleared, and bit 254 set. -/
def clampN (n : Nat) : Nat := n % 2 ^ 254 / 8 * 8 + 2 ^ 254
theorem clampN_lt (n : Nat) : clampN n < 2 ^ 256 := by unfold clampN; omega
def okClamp : Bool := (List.range 256).all fun n => decide (bits .andNot .u8 (n : Nat) 7 = ((n / 8 * 8 : Nat) : Int)) && decide (bits .or .u8 (bits .andNot .u8 (n : Nat) 128) 64 = ((n % 64 + 64 : Nat) : Int)) && decide (bits .and .u8 (n : Nat) 248 = ((n / 8 * 8 : Nat) : Int)) && decide (bits .or .u8 (bits .and .u8 (n : Nat) 127) 64 = ((n % 64 + 64 : Nat) : Int)) && decide (bits .andNot .u8 (n : Nat) 128 = ((n % 128 : Nat) : Int)) && decide (bits .and .u8 (n : Nat) 127 = ((n % 128 : Nat) : Int))
theorem clamp_bits (n : Nat) (h : n < 256) : bits .andNot .u8 (n : Nat) 7 = ((n / 8 * 8 : Nat) : Int) ∧ bits .or .u8 (bits .andNot .u8 (n : Nat) 128) 64 = ((n % 64 + 64 : Nat) : Int) ∧ bits .and .u8 (n : Nat) 248 = ((n / 8 * 8 : Nat) : Int) ∧ bits .or .u8 (bits .and .u8 (n : Nat) 127) 64 = ((n % 64 + 64 : Nat) : Int) ∧ bits .andNot .u8 (n : Nat) 128 = ((n % 128 : Nat) : Int) ∧ bits .and .u8 (n : Nat) 127 = ((n % 128 : Nat) : Int) := by
  have h1 : okClamp = true := by kernel_rfl
  rw [okClamp, List.all_eq_true] at h1
  have h2 := h1 n (List.mem_range.2 h)
  simp only [Bool.and_eq_true, decide_eq_true_eq] at h2
  obtain ⟨⟨⟨⟨⟨a, b⟩, c⟩, d⟩, e⟩, f⟩ := h2
  exact ⟨a, b, c, d, e, f⟩
theorem bt_clamp (n i : Nat) (h : i < 32) : bt (clampN n) i = if i = 0 then ((n / 2 ^ (8 * 0) % 256 / 8 * 8 : Nat) : Int) else if i = 31 then ((n / 2 ^ (8 * 31) % 256 % 64 + 64 : Nat) : Int) else bt n i := by
  have hi : i = 0 ∨ i = 1 ∨ i = 2 ∨ i = 3 ∨ i = 4 ∨ i = 5 ∨ i = 6 ∨ i = 7 ∨ i = 8 ∨ i = 9 ∨ i = 10 ∨ i = 11 ∨ i = 12 ∨ i = 13 ∨ i = 14 ∨ i = 15 ∨ i = 16 ∨ i = 17 ∨ i = 18 ∨ i = 19 ∨ i = 20 ∨ i = 21 ∨ i = 22 ∨ i = 23 ∨ i = 24 ∨ i = 25 ∨ i = 26 ∨ i = 27 ∨ i = 28 ∨ i = 29 ∨ i = 30 ∨ i = 31 := by omega
  unfold clampN bt
  rcases hi with rfl | rfl | rfl | rfl | rfl | rfl | rfl | rfl | rfl | rfl | rfl | rfl | rfl | rfl | rfl | rfl | rfl | rfl | rfl | rfl | rfl | rfl | rfl | rfl | rfl | rfl | rfl | rfl | rfl | rfl | rfl | rfl
  all_goals (simp only [Nat.reduceMul, Nat.reducePow, Nat.reduceEqDiff, if_true, if_false]; omega)
theorem bt_mask (n i : Nat) (h : i < 32) : bt (n % 2 ^ 255) i = if i = 31 then ((n / 2 ^ (8 * 31) % 256 % 128 : Nat) : Int) else bt n i := by
  have hi : i = 0 ∨ i = 1 ∨ i = 2 ∨ i = 3 ∨ i = 4 ∨ i = 5 ∨ i = 6 ∨ i = 7 ∨ i = 8 ∨ i = 9 ∨ i = 10 ∨ i = 11 ∨ i = 12 ∨ i = 13 ∨ i = 14 ∨ i = 15 ∨ i = 16 ∨ i = 17 ∨ i = 18 ∨ i = 19 ∨ i = 20 ∨ i = 21 ∨ i = 22 ∨ i = 23 ∨ i = 24 ∨ i = 25 ∨ i = 26 ∨ i = 27 ∨ i = 28 ∨ i = 29 ∨ i = 30 ∨ i = 31 := by omega
  unfold bt
  rcases hi with rfl | rfl | rfl | rfl | rfl | rfl | rfl | rfl | rfl | rfl | rfl | rfl | rfl | rfl | rfl | rfl | rfl | rfl | rfl | rfl | rfl | rfl | rfl | rfl | rfl | rfl | rfl | rfl | rfl | rfl | rfl | rfl
  all_goals (simp only [Nat.reduceMul, Nat.reducePow, Nat.reduceEqDiff, if_true, if_false]; omega)
/-- Byte 0 without three bits, byte 31 without bit 7 and with bit 6. -/
theorem clamp_list (n : Nat) (a b : Int) (ha : a = ((n / 2 ^ (8 * 0) % 256 / 8 * 8 : Nat) : Int)) (hb : b = ((n / 2 ^ (8 * 31) % 256 % 64 + 64 : Nat) : Int)) : ((by32 n).set 0 a).set 31 b = by32 (clampN n) := by
  refine ext_g (by rw [List.length_set, List.length_set, byk_len, byk_len]) fun i hi => ?_
  rw [List.length_set, List.length_set, byk_len] at hi
  rw [g_byk hi, bt_clamp n i hi, g_set (by rw [List.length_set, byk_len]; decide), g_set (by rw [byk_len]; decide), g_byk hi]
  by_cases h31 : i = 31
  · subst h31
    rw [if_pos rfl, if_neg (by decide), if_pos rfl]
    exact hb
  · rw [if_neg h31]
    by_cases h0 : i = 0
    · subst h0
      rw [if_pos rfl, if_pos rfl]
      exact ha
    · rw [if_neg h0, if_neg h0, if_neg h31]
theorem mask_list (n : Nat) (b : Int) (hb : b = ((n / 2 ^ (8 * 31) % 256 % 128 : Nat) : Int)) : (by32 n).set 31 b = by32 (n % 2 ^ 255) := by
  refine ext_g (by rw [List.length_set, byk_len, byk_len]) fun i hi => ?_
  rw [List.length_set, byk_len] at hi
  rw [g_byk hi, bt_mask n i hi, g_set (by rw [byk_len]; decide), g_byk hi]
  by_cases h31 : i = 31
  · subst h31
    rw [if_pos rfl, if_pos rfl]
    exact hb
  · rw [if_neg h31, if_neg h31]
def okOr : Bool := (List.range 128).all fun n => decide (bits .or .u8 (n : Nat) 0 = ((n : Nat) : Int)) && decide (bits .or .u8 (n : Nat) 128 = ((n + 128 : Nat) : Int))
theorem or_bits (n : Nat) (h : n < 128) : bits .or .u8 (n : Nat) 0 = ((n : Nat) : Int) ∧ bits .or .u8 (n : Nat) 128 = ((n + 128 : Nat) : Int) := by
  have h1 : okOr = true := by kernel_rfl
  rw [okOr, List.all_eq_true] at h1
  have h2 := h1 n (List.mem_range.2 h)
  simp only [Bool.and_eq_true, decide_eq_true_eq] at h2
  exact h2
theorem bt_top (n b i : Nat) (h : i < 32) (hn : n < 2 ^ 255) (hb : b ≤ 1) : bt (n + b * 2 ^ 255) i = if i = 31 then ((n / 2 ^ (8 * 31) % 256 + 128 * b : Nat) : Int) else bt n i := by
  have hi : i = 0 ∨ i = 1 ∨ i = 2 ∨ i = 3 ∨ i = 4 ∨ i = 5 ∨ i = 6 ∨ i = 7 ∨ i = 8 ∨ i = 9 ∨ i = 10 ∨ i = 11 ∨ i = 12 ∨ i = 13 ∨ i = 14 ∨ i = 15 ∨ i = 16 ∨ i = 17 ∨ i = 18 ∨ i = 19 ∨ i = 20 ∨ i = 21 ∨ i = 22 ∨ i = 23 ∨ i = 24 ∨ i = 25 ∨ i = 26 ∨ i = 27 ∨ i = 28 ∨ i = 29 ∨ i = 30 ∨ i = 31 := by omega
  have hb : b = 0 ∨ b = 1 := by omega
  unfold bt
  rcases hb with rfl | rfl
  all_goals (rcases hi with rfl | rfl | rfl | rfl | rfl | rfl | rfl | rfl | rfl | rfl | rfl | rfl | rfl | rfl | rfl | rfl | rfl | rfl | rfl | rfl | rfl | rfl | rfl | rfl | rfl | rfl | rfl | rfl | rfl | rfl | rfl | rfl)
  all_goals (simp only [Nat.reduceMul, Nat.reducePow, Nat.reduceEqDiff, if_true, if_false]; omega)
theorem top_list (n b : Nat) (e : Int) (hn : n < 2 ^ 255) (hb : b ≤ 1) (he : e = ((128 * b : Nat) : Int)) : (by32 n).set 31 (bits .or .u8 (bt n 31) e) = by32 (n + b * 2 ^ 255) := by
  refine ext_g (by rw [List.length_set, byk_len, byk_len]) fun i hi => ?_
  rw [List.length_set, byk_len] at hi
  rw [g_byk hi, bt_top n b i hi hn hb, g_set (by rw [byk_len]; decide), g_byk hi]
  by_cases h31 : i = 31
  · subst h31
    rw [if_pos rfl, if_pos rfl, bt, he]
    have h := or_bits (n / 2 ^ (8 * 31) % 256) (by omega)
    have : b = 0 ∨ b = 1 := by omega
    rcases this with rfl | rfl
    · exact h.1
    · exact h.2
  · rw [if_neg h31, if_neg h31]
end Go.Proofs.YtdeigmjbcbjgeaaDoor
/-
  Layer 9: the answer's ladder.
-/
namespace Go.Proofs.YtdeigmjbcbjgeaaDoor
open Go.RowKit

theorem e3_same : e3R = e3P := by kernel_rfl
end Go.Proofs.YtdeigmjbcbjgeaaDoor
/-
  Layer 10: the answer's D, Neutral, Sum, Times.
-/
namespace Go.Proofs.YtdeigmjbcbjgeaaDoor
open Go.RowKit

def dN : Nat := 37095705934669439343138083508754565189542113879843219016388785533085940283555
theorem dN_lt : dN < pP := by decide
@[ext] structure Pn where
  x : Nat
  y : Nat
  z : Nat
  t : Nat
def Pn.lt (p : Pn) : Prop := p.x < pP ∧ p.y < pP ∧ p.z < pP ∧ p.t < pP
def w4 (p : Pn) : List Int := wd p.x ++ (wd p.y ++ (wd p.z ++ wd p.t))
/-- The sum of two points. -/
def sumN (d : Nat) (p q : Pn) : Pn where
  x := nM (nS (nM (nA p.y p.x) (nA q.y q.x)) (nM (nS p.y p.x) (nS q.y q.x))) (nS (nA (nM p.z q.z) (nM p.z q.z)) (nM (nM p.t q.t) (nA d d)))
  y := nM (nA (nA (nM p.z q.z) (nM p.z q.z)) (nM (nM p.t q.t) (nA d d))) (nA (nM (nA p.y p.x) (nA q.y q.x)) (nM (nS p.y p.x) (nS q.y q.x)))
  z := nM (nS (nA (nM p.z q.z) (nM p.z q.z)) (nM (nM p.t q.t) (nA d d))) (nA (nA (nM p.z q.z) (nM p.z q.z)) (nM (nM p.t q.t) (nA d d)))
  t := nM (nS (nM (nA p.y p.x) (nA q.y q.x)) (nM (nS p.y p.x) (nS q.y q.x))) (nA (nM (nA p.y p.x) (nA q.y q.x)) (nM (nS p.y p.x) (nS q.y q.x)))
def neuN : Pn := ⟨0, 1, 1, 0⟩
theorem neuN_lt : neuN.lt := by unfold Pn.lt neuN; decide
/-- The multiple after j bits of k, from bit 255 on. -/
def timN (d k : Nat) (p : Pn) : Nat → Pn
  | 0 => neuN
  | j + 1 => if k.testBit (255 - j) then sumN d (sumN d (timN d k p j) (timN d k p j)) p else sumN d (timN d k p j) (timN d k p j)
def Pn.ok (p : Pn) : Bool := decide (p.x < pP) && decide (p.y < pP) && decide (p.z < pP) && decide (p.t < pP)
theorem Pn.ok_iff {p : Pn} : p.ok = true ↔ p.lt := by simp [Pn.ok, Pn.lt, and_assoc]
end Go.Proofs.YtdeigmjbcbjgeaaDoor
/-
  Layer 10: the answer's Write and Read.
-/
namespace Go.Proofs.YtdeigmjbcbjgeaaDoor
open Go.RowKit

/-- The number that a point is written as. -/
def wrN (p : Pn) : Nat := nM p.y (pw p.z e3R) + nM p.x (pw p.z e3R) % 2 * 2 ^ 255
theorem rootR_lp (x : Nat) : (rootR x).1 < pP := by
  unfold rootR
  split
  · split
    · rename_i h1 h2
      have hc := candR_lt x
      show minR 0 (candR x) < pP
      unfold minR
      split <;> omega
    · exact candR_lt x
  · exact pP_pos
/-- What a number is read as. -/
def rdX (n : Nat) : Nat × Bool := rootR (nM (nS (nM (n % 2 ^ 255) (n % 2 ^ 255)) 1) (pw (nA (nM dN (nM (n % 2 ^ 255) (n % 2 ^ 255))) 1) e3R))
def rdOk (n : Nat) : Bool := decide (n % 2 ^ 255 < pP) && (rdX n).2 && !(decide ((rdX n).1 = 0) && decide (n / 2 ^ 255 = 1))
def rdS (n : Nat) : Nat := if n / 2 ^ 255 = 1 then nS 0 (rdX n).1 else (rdX n).1
def rdP (n : Nat) : Pn := if rdOk n then ⟨rdS n, n % 2 ^ 255, 1, nM (rdS n) (n % 2 ^ 255)⟩ else ⟨0, 0, 0, 0⟩
theorem rdS_lp (n : Nat) : rdS n < pP := by
  unfold rdS
  split
  · exact nS_lp _ _
  · exact rootR_lp _
theorem rdP_lt (n : Nat) : (rdP n).lt := by
  unfold rdP
  split
  · rename_i h
    simp only [rdOk, Bool.and_eq_true, decide_eq_true_eq] at h
    exact ⟨rdS_lp n, h.1.1, by show 1 < pP; decide, nM_lp _ _⟩
  · exact ⟨pP_pos, pP_pos, pP_pos, pP_pos⟩
end Go.Proofs.YtdeigmjbcbjgeaaDoor
/-
  Layer 10: the answer's Opposite, Base, BasePoint, Decodes, Add, Mult, Small.
-/
namespace Go.Proofs.YtdeigmjbcbjgeaaDoor
open Go.RowKit

def baseN : Nat := 46316835694926478169428394003475163141307993866256225615783033603165251855960
/-- The negative of a point. -/
def oppN (p : Pn) : Pn := ⟨nS 0 p.x, p.y, p.z, nS 0 p.t⟩
theorem oppN_lt {p : Pn} (h : p.lt) : (oppN p).lt := ⟨nS_lp _ _, h.2.1, h.2.2.1, nS_lp _ _⟩
theorem by32_z : by32 0 = List.replicate 32 0 := by kernel_rfl
end Go.Proofs.YtdeigmjbcbjgeaaDoor
/-
  Layer 9: Public, Shared.
-/
namespace Go.Proofs.YtdeigmjbcbjgeaaDoor
open Go.RowKit

theorem resSlot_all {β β' : Nat → Option Blk} {b e : Nat} {l : List Int} (hb : β b = some ⟨.flat .u8 l, e, false⟩) (hl : l.length = 32) (h7 : b % 8 ≠ 7) : resSlot β β' (.sl 1 b 0 32 (some 32)) = some (.own 1 32 e (.flat .u8 l)) := by
  rw [resSlot_own hb (by omega) (.inr ⟨rfl, by rw [hl]; rfl⟩) h7, List.take_of_length_le (by omega)]
end Go.Proofs.YtdeigmjbcbjgeaaDoor
