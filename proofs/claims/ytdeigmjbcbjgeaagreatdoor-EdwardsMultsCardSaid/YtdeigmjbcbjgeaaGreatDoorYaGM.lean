/-
  Layer 9: the program's ladder.
-/
import Derived.Test.YtdeigmjbcbjgeaaGreatDoorYaFC
namespace Go.Proofs.YtdeigmjbcbjgeaaGreatDoor
open Go.RowKit

def nA (a b : Nat) : Nat := (a + b) % pP
def nS (a b : Nat) : Nat := (a + (pP - b % pP)) % pP
def nM (a b : Nat) : Nat := a * b % pP
theorem nA_lt (a b : Nat) : nA a b < 2 ^ 256 := mod_lt256 (a + b)
theorem nS_lt (a b : Nat) : nS a b < 2 ^ 256 := mod_lt256 (a + (pP - b % pP))
theorem nM_lt (a b : Nat) : nM a b < 2 ^ 256 := mod_lt256 (a * b)
theorem nA_lp (a b : Nat) : nA a b < pP := Nat.mod_lt _ pP_pos
theorem nS_lp (a b : Nat) : nS a b < pP := Nat.mod_lt _ pP_pos
theorem nM_lp (a b : Nat) : nM a b < pP := Nat.mod_lt _ pP_pos
theorem pAdd_row {a b : List Int} (hc : isF a = true ∧ isF b = true) : CallOk Tryz.prog 77 [.agg (.flat .u8 a), .agg (.flat .u8 b)] (ret1 (F (nA (nb a) (nb b)))) := by
  obtain ⟨h0, h1⟩ := hc
  have e0 := isF_eq h0
  have l0 := nb32_lt h0
  clear h0
  generalize nb a = n0 at *
  subst e0
  have e1 := isF_eq h1
  have l1 := nb32_lt h1
  clear h1
  generalize nb b = n1 at *
  subst e1
  exact pAdd_call n0 n1 l0 l1 
theorem pSub_row {a b : List Int} (hc : isF a = true ∧ isF b = true) : CallOk Tryz.prog 79 [.agg (.flat .u8 a), .agg (.flat .u8 b)] (ret1 (F (nS (nb a) (nb b)))) := by
  obtain ⟨h0, h1⟩ := hc
  have e0 := isF_eq h0
  have l0 := nb32_lt h0
  clear h0
  generalize nb a = n0 at *
  subst e0
  have e1 := isF_eq h1
  have l1 := nb32_lt h1
  clear h1
  generalize nb b = n1 at *
  subst e1
  exact pSub_call n0 n1 l0 l1 
theorem pMul_row {a b : List Int} (hc : isF a = true ∧ isF b = true) : CallOk Tryz.prog 45 [.agg (.flat .u8 a), .agg (.flat .u8 b)] (ret1 (F (nM (nb a) (nb b)))) := by
  obtain ⟨h0, h1⟩ := hc
  have e0 := isF_eq h0
  have l0 := nb32_lt h0
  clear h0
  generalize nb a = n0 at *
  subst e0
  have e1 := isF_eq h1
  have l1 := nb32_lt h1
  clear h1
  generalize nb b = n1 at *
  subst e1
  exact pMul_call n0 n1 l0 l1 
theorem pInv_row {a : List Int} (hc : isF a = true) : CallOk Tryz.prog 46 [.agg (.flat .u8 a)] (ret1 (F (pw (nb a) e3P))) := by
  have h0 := hc
  clear hc
  have e0 := isF_eq h0
  have l0 := nb32_lt h0
  clear h0
  generalize nb a = n0 at *
  subst e0
  exact pInv_call n0 l0 
theorem pCanonical_row {a : List Int} (hc : isF a = true) : CallOk Tryz.prog 75 [.agg (.flat .u8 a)] (ret1 (.v (.bool (decide ((nb a) < pP))))) := by
  have h0 := hc
  clear hc
  have e0 := isF_eq h0
  have l0 := nb32_lt h0
  clear h0
  generalize nb a = n0 at *
  subst e0
  exact pCanonical_call n0 l0 
def orcG0 (f : Nat) (ds : List LV) : Option LRes :=
  match f with
  | 77 => match ds with
    | [.agg (.flat .u8 a), .agg (.flat .u8 b)] => if isF a = true ∧ isF b = true then some (ret1 (F (nA (nb a) (nb b)))) else none
    | _ => none
  | 79 => match ds with
    | [.agg (.flat .u8 a), .agg (.flat .u8 b)] => if isF a = true ∧ isF b = true then some (ret1 (F (nS (nb a) (nb b)))) else none
    | _ => none
  | 45 => match ds with
    | [.agg (.flat .u8 a), .agg (.flat .u8 b)] => if isF a = true ∧ isF b = true then some (ret1 (F (nM (nb a) (nb b)))) else none
    | _ => none
  | 46 => match ds with
    | [.agg (.flat .u8 a)] => if isF a = true then some (ret1 (F (pw (nb a) e3P))) else none
    | _ => none
  | 75 => match ds with
    | [.agg (.flat .u8 a)] => if isF a = true then some (ret1 (.v (.bool (decide ((nb a) < pP))))) else none
    | _ => none
  | _ => orcR7 f ds
theorem orcG0_ok : Known Tryz.prog orcG0 := by
  intro f ds r h
  unfold orcG0 at h
  split at h
  · split at h
    · split at h
      · rename_i hc
        cases h
        exact .inl ⟨⟨_, Tryz.func77, name_ne _ (by kernel_rfl), rfl⟩, pAdd_row hc⟩
      · cases h
    · cases h
  · split at h
    · split at h
      · rename_i hc
        cases h
        exact .inl ⟨⟨_, Tryz.func79, name_ne _ (by kernel_rfl), rfl⟩, pSub_row hc⟩
      · cases h
    · cases h
  · split at h
    · split at h
      · rename_i hc
        cases h
        exact .inl ⟨⟨_, Tryz.func45, name_ne _ (by kernel_rfl), rfl⟩, pMul_row hc⟩
      · cases h
    · cases h
  · split at h
    · split at h
      · rename_i hc
        cases h
        exact .inl ⟨⟨_, Tryz.func46, name_ne _ (by kernel_rfl), rfl⟩, pInv_row hc⟩
      · cases h
    · cases h
  · split at h
    · split at h
      · rename_i hc
        cases h
        exact .inl ⟨⟨_, Tryz.func75, name_ne _ (by kernel_rfl), rfl⟩, pCanonical_row hc⟩
      · cases h
    · cases h
  · exact orcR7_ok f ds r h
def EG0 : Env := ⟨tyL, orcG0, false, noWk, noOrw⟩
theorem EG0_ok : EnvOk Tryz.prog EG0 := ⟨tyL_ok, orcG0_ok, noOrw_ok⟩
set_option maxRecDepth 100000 in
theorem o_pAdd {a b : Nat} (ha : a < 2 ^ 256) (hb : b < 2 ^ 256) : EG0.orc 77 [F a, F b] = some (ret1 (F (nA a b))) :=
  (if_pos ⟨isF_by _, isF_by _⟩).trans (by rw [nb_by32 ha, nb_by32 hb])
set_option maxRecDepth 100000 in
theorem o_pSub {a b : Nat} (ha : a < 2 ^ 256) (hb : b < 2 ^ 256) : EG0.orc 79 [F a, F b] = some (ret1 (F (nS a b))) :=
  (if_pos ⟨isF_by _, isF_by _⟩).trans (by rw [nb_by32 ha, nb_by32 hb])
set_option maxRecDepth 100000 in
theorem o_pMul {a b : Nat} (ha : a < 2 ^ 256) (hb : b < 2 ^ 256) : EG0.orc 45 [F a, F b] = some (ret1 (F (nM a b))) :=
  (if_pos ⟨isF_by _, isF_by _⟩).trans (by rw [nb_by32 ha, nb_by32 hb])
set_option maxRecDepth 100000 in
theorem o_pInv {a : Nat} (ha : a < 2 ^ 256) : EG0.orc 46 [F a] = some (ret1 (F (pw a e3P))) :=
  (if_pos (isF_by _)).trans (by rw [nb_by32 ha])
set_option maxRecDepth 100000 in
theorem o_pCanonical {a : Nat} (ha : a < 2 ^ 256) : EG0.orc 75 [F a] = some (ret1 (.v (.bool (decide (a < pP))))) :=
  (if_pos (isF_by _)).trans (by rw [nb_by32 ha])
theorem isN_EG0 (f : Nat) {ds : List LV} {K : LRes → Prop} (h : ∃ y, EG0.orc f ds = some y ∧ K y) : ∃ y, EG0.orc f ds = some y ∧ K y := h
def orcG1 (f : Nat) (ds : List LV) : Option LRes := orcG0 f ds
theorem orcG1_ok : Known Tryz.prog orcG1 := by
  intro f ds r h
  exact orcG0_ok f ds r h
end Go.Proofs.YtdeigmjbcbjgeaaGreatDoor
/-
  Layer 9: the ladder.
-/
namespace Go.Proofs.YtdeigmjbcbjgeaaGreatDoor
open Go.RowKit

@[ext] structure Lad where
  x : Nat
  z : Nat
  v : Nat
  w : Nat
def Lad.lt (s : Lad) : Prop := s.x < pP ∧ s.z < pP ∧ s.v < pP ∧ s.w < pP
theorem lt256 {a : Nat} (h : a < pP) : a < 2 ^ 256 := Nat.lt_trans h pP_lt
/-- Two numbers, side by side. -/
def b2 (x z : Nat) : List Int := by32 x ++ by32 z
def orcG2 (f : Nat) (ds : List LV) : Option LRes := orcG1 f ds
theorem orcG2_ok : Known Tryz.prog orcG2 := by
  intro f ds r h
  exact orcG1_ok f ds r h
def EG2 : Env := ⟨tyL, orcG2, false, noWk, noOrw⟩
theorem EG2_ok : EnvOk Tryz.prog EG2 := ⟨tyL_ok, orcG2_ok, noOrw_ok⟩
theorem runs_eq {α : Type} {o : Option α} {K : α → Prop} {p : α} (h : o = some p) (hk : K p) : runs o K := by
  subst h
  exact hk
/-! bits of bytes -/
def okBit : Bool := (List.range 256).all fun n => (List.range 8).all fun s => decide (bits .and .u8 (((n : Nat) : Int).fdiv (2 ^ s)) 1 = if Nat.testBit n s then 1 else 0)
theorem bit_b8 (n s : Nat) (hn : n < 256) (hs : s < 8) : bits .and .u8 (((n : Nat) : Int).fdiv (2 ^ s)) 1 = if Nat.testBit n s then 1 else 0 := by
  have h : okBit = true := by kernel_rfl
  rw [okBit, List.all_eq_true] at h
  have h1 := h n (List.mem_range.2 hn)
  rw [List.all_eq_true] at h1
  exact of_decide_eq_true (h1 s (List.mem_range.2 hs))
theorem bt_bit (n i : Nat) : Nat.testBit (n / 2 ^ (8 * (i / 8)) % 256) (i % 8) = Nat.testBit n i := by
  rw [show (256 : Nat) = 2 ^ 8 from rfl, Nat.testBit_mod_two_pow, Nat.testBit_div_two_pow, decide_eq_true (show i % 8 < 8 by omega), Bool.true_and, show i % 8 + 8 * (i / 8) = i by omega]
theorem bit_k {l : List Int} {n i : Nat} (h : g l (i / 8) = bt n (i / 8)) : bits .and .u8 ((g l (i / 8)).fdiv (2 ^ min ((i : Int).tmod 8).toNat IntKind.u8.bits)) 1 = if Nat.testBit n i then 1 else 0 := by
  have e : min ((i : Int).tmod 8).toNat IntKind.u8.bits = i % 8 := by
    rw [show (8 : Int) = ((8 : Nat) : Int) from rfl, tmod_nat, Int.toNat_natCast]
    exact Nat.min_eq_left (by show i % 8 ≤ 8; omega)
  rw [h, bt, e, bit_b8 _ _ (by omega) (by omega), bt_bit]
theorem bit_ku {l : List Int} {n i : Nat} (h : g l (i / 8) = bt n (i / 8)) : bits .and .u8 ((g l (i / 8)).fdiv (2 ^ min (IntKind.u64.wrap ((i : Int).tmod 8)).toNat IntKind.u8.bits)) 1 = if Nat.testBit n i then 1 else 0 := by
  rw [show IntKind.u64.wrap ((i : Int).tmod 8) = (i : Int).tmod 8 by rw [show (8 : Int) = ((8 : Nat) : Int) from rfl, tmod_nat, wrapN _ (by omega)]]
  exact bit_k h
theorem tdiv8k (i : Nat) (h : i < 1000) : IntKind.i64.wrap ((i : Int).tdiv 8) = ((i / 8 : Nat) : Int) := by
  rw [show (8 : Int) = ((8 : Nat) : Int) from rfl, ← Int.ofNat_tdiv, wrap64 (by omega)]
theorem tmod8_nn (i : Nat) : 0 ≤ (i : Int).tmod 8 := Int.tmod_nonneg _ (by omega)
end Go.Proofs.YtdeigmjbcbjgeaaGreatDoor
