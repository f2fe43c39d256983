/-
  Layer 8: awake; the table for the laws.
-/
import Derived.Test.YtepbhihklmclaaaFD
namespace Go.Proofs.Ytepbhihklmclaaa
open Go.RowKit
noncomputable section

theorem pCanonical_row {a : List Int} (hc : isF a = true) : CallOk Try.prog 11 [.agg (.flat .u8 a)] (ret1 (.v (.bool (decide ((nb a) < pP))))) := by
  have h0 := hc
  clear hc
  have e0 := isF_eq h0
  have l0 := nb32_lt h0
  clear h0
  generalize nb a = n0 at *
  subst e0
  exact pCanonical_call n0 l0 
theorem rCanonical_row {a : List Int} (hc : isF a = true) : CallOk Try.prog 12 [.agg (.flat .u8 a)] (ret1 (.v (.bool (decide ((nb a) < pP))))) := by
  have h0 := hc
  clear hc
  have e0 := isF_eq h0
  have l0 := nb32_lt h0
  clear h0
  generalize nb a = n0 at *
  subst e0
  exact rCanonical_call n0 l0 
theorem pReduce_row {a : List Int} (hc : isF a = true) : CallOk Try.prog 13 [.agg (.flat .u8 a)] (ret1 (F ((nb a) % pP))) := by
  have h0 := hc
  clear hc
  have e0 := isF_eq h0
  have l0 := nb32_lt h0
  clear h0
  generalize nb a = n0 at *
  subst e0
  exact pReduce_call n0 l0 
theorem rReduce_row {a : List Int} (hc : isF a = true) : CallOk Try.prog 14 [.agg (.flat .u8 a)] (ret1 (F ((nb a) % pP))) := by
  have h0 := hc
  clear hc
  have e0 := isF_eq h0
  have l0 := nb32_lt h0
  clear h0
  generalize nb a = n0 at *
  subst e0
  exact rReduce_call n0 l0 
theorem pLess_row {a b : List Int} (hc : isF a = true ∧ isF b = true) : CallOk Try.prog 15 [.agg (.flat .u8 a), .agg (.flat .u8 b)] (ret1 (.v (.bool (decide ((nb a) < (nb b)))))) := by
  obtain ⟨h0, h1⟩ := hc
  have e0 := isF_eq h0
  have l0 := nb32_lt h0
  clear h0
  generalize nb a = n0 at *
  subst e0
  have e1 := isF_eq h1
  have l1 := nb32_lt h1
  clear h1
  generalize nb b = n1 at *
  subst e1
  exact pLess_call n0 n1 l0 l1 
theorem rLess_row {a b : List Int} (hc : isF a = true ∧ isF b = true) : CallOk Try.prog 16 [.agg (.flat .u8 a), .agg (.flat .u8 b)] (ret1 (.v (.bool (decide ((nb a) < (nb b)))))) := by
  obtain ⟨h0, h1⟩ := hc
  have e0 := isF_eq h0
  have l0 := nb32_lt h0
  clear h0
  generalize nb a = n0 at *
  subst e0
  have e1 := isF_eq h1
  have l1 := nb32_lt h1
  clear h1
  generalize nb b = n1 at *
  subst e1
  exact rLess_call n0 n1 l0 l1 
theorem pAdd_row {a b : List Int} (hc : isF a = true ∧ isF b = true) : CallOk Try.prog 18 [.agg (.flat .u8 a), .agg (.flat .u8 b)] (ret1 (F (((nb a) + (nb b)) % pP))) := by
  obtain ⟨h0, h1⟩ := hc
  have e0 := isF_eq h0
  have l0 := nb32_lt h0
  clear h0
  generalize nb a = n0 at *
  subst e0
  have e1 := isF_eq h1
  have l1 := nb32_lt h1
  clear h1
  generalize nb b = n1 at *
  subst e1
  exact pAdd_call n0 n1 l0 l1 
theorem rAdd_row {a b : List Int} (hc : isF a = true ∧ isF b = true) : CallOk Try.prog 19 [.agg (.flat .u8 a), .agg (.flat .u8 b)] (ret1 (F (((nb a) + (nb b)) % pP))) := by
  obtain ⟨h0, h1⟩ := hc
  have e0 := isF_eq h0
  have l0 := nb32_lt h0
  clear h0
  generalize nb a = n0 at *
  subst e0
  have e1 := isF_eq h1
  have l1 := nb32_lt h1
  clear h1
  generalize nb b = n1 at *
  subst e1
  exact rAdd_call n0 n1 l0 l1 
theorem pSub_row {a b : List Int} (hc : isF a = true ∧ isF b = true) : CallOk Try.prog 20 [.agg (.flat .u8 a), .agg (.flat .u8 b)] (ret1 (F (((nb a) + (pP - (nb b) % pP)) % pP))) := by
  obtain ⟨h0, h1⟩ := hc
  have e0 := isF_eq h0
  have l0 := nb32_lt h0
  clear h0
  generalize nb a = n0 at *
  subst e0
  have e1 := isF_eq h1
  have l1 := nb32_lt h1
  clear h1
  generalize nb b = n1 at *
  subst e1
  exact pSub_call n0 n1 l0 l1 
theorem rSub_row {a b : List Int} (hc : isF a = true ∧ isF b = true) : CallOk Try.prog 21 [.agg (.flat .u8 a), .agg (.flat .u8 b)] (ret1 (F (((nb a) + (pP - (nb b) % pP)) % pP))) := by
  obtain ⟨h0, h1⟩ := hc
  have e0 := isF_eq h0
  have l0 := nb32_lt h0
  clear h0
  generalize nb a = n0 at *
  subst e0
  have e1 := isF_eq h1
  have l1 := nb32_lt h1
  clear h1
  generalize nb b = n1 at *
  subst e1
  exact rSub_call n0 n1 l0 l1 
theorem pMul_row {a b : List Int} (hc : isF a = true ∧ isF b = true) : CallOk Try.prog 22 [.agg (.flat .u8 a), .agg (.flat .u8 b)] (ret1 (F ((nb a) * (nb b) % pP))) := by
  obtain ⟨h0, h1⟩ := hc
  have e0 := isF_eq h0
  have l0 := nb32_lt h0
  clear h0
  generalize nb a = n0 at *
  subst e0
  have e1 := isF_eq h1
  have l1 := nb32_lt h1
  clear h1
  generalize nb b = n1 at *
  subst e1
  exact pMul_call n0 n1 l0 l1 
theorem rMul_row {a b : List Int} (hc : isF a = true ∧ isF b = true) : CallOk Try.prog 23 [.agg (.flat .u8 a), .agg (.flat .u8 b)] (ret1 (F ((nb a) * (nb b) % pP))) := by
  obtain ⟨h0, h1⟩ := hc
  have e0 := isF_eq h0
  have l0 := nb32_lt h0
  clear h0
  generalize nb a = n0 at *
  subst e0
  have e1 := isF_eq h1
  have l1 := nb32_lt h1
  clear h1
  generalize nb b = n1 at *
  subst e1
  exact rMul_call n0 n1 l0 l1 
theorem pInv_row {a : List Int} (hc : isF a = true) : CallOk Try.prog 26 [.agg (.flat .u8 a)] (ret1 (F (pw (nb a) e3P))) := by
  have h0 := hc
  clear hc
  have e0 := isF_eq h0
  have l0 := nb32_lt h0
  clear h0
  generalize nb a = n0 at *
  subst e0
  exact pInv_call n0 l0 
theorem rInv_row {a : List Int} (hc : isF a = true) : CallOk Try.prog 27 [.agg (.flat .u8 a)] (ret1 (F (pw (nb a) e3P))) := by
  have h0 := hc
  clear hc
  have e0 := isF_eq h0
  have l0 := nb32_lt h0
  clear h0
  generalize nb a = n0 at *
  subst e0
  exact rInv_call n0 l0 
theorem pSqrt_row {a : List Int} (hc : isF a = true) : CallOk Try.prog 24 [.agg (.flat .u8 a)] (.many [.val (F (sqrtP (nb a)).1), .val (.v (.bool (sqrtP (nb a)).2))]) := by
  have h0 := hc
  clear hc
  have e0 := isF_eq h0
  have l0 := nb32_lt h0
  clear h0
  generalize nb a = n0 at *
  subst e0
  exact pSqrt_call n0 l0 
theorem rSqrt_row {a : List Int} (hc : isF a = true) : CallOk Try.prog 25 [.agg (.flat .u8 a)] (.many [.val (F (sqrtP (nb a)).1), .val (.v (.bool (sqrtP (nb a)).2))]) := by
  have h0 := hc
  clear hc
  have e0 := isF_eq h0
  have l0 := nb32_lt h0
  clear h0
  generalize nb a = n0 at *
  subst e0
  exact rSqrt_call n0 l0 
theorem pMulAdd_row {a b c : List Int} (hc : isF a = true ∧ isF b = true ∧ isF c = true) : CallOk Try.prog 32 [.agg (.flat .u8 a), .agg (.flat .u8 b), .agg (.flat .u8 c)] (ret1 (F (((nb a) * (nb b) + (nb c)) % qQ))) := by
  obtain ⟨h0, h1, h2⟩ := hc
  have e0 := isF_eq h0
  have l0 := nb32_lt h0
  clear h0
  generalize nb a = n0 at *
  subst e0
  have e1 := isF_eq h1
  have l1 := nb32_lt h1
  clear h1
  generalize nb b = n1 at *
  subst e1
  have e2 := isF_eq h2
  have l2 := nb32_lt h2
  clear h2
  generalize nb c = n2 at *
  subst e2
  exact pMulAdd_call n0 n1 n2 l0 l1 l2 
theorem rMulAdd_row {a b c : List Int} (hc : isF a = true ∧ isF b = true ∧ isF c = true) : CallOk Try.prog 33 [.agg (.flat .u8 a), .agg (.flat .u8 b), .agg (.flat .u8 c)] (ret1 (F (((nb a) * (nb b) + (nb c)) % qQ))) := by
  obtain ⟨h0, h1, h2⟩ := hc
  have e0 := isF_eq h0
  have l0 := nb32_lt h0
  clear h0
  generalize nb a = n0 at *
  subst e0
  have e1 := isF_eq h1
  have l1 := nb32_lt h1
  clear h1
  generalize nb b = n1 at *
  subst e1
  have e2 := isF_eq h2
  have l2 := nb32_lt h2
  clear h2
  generalize nb c = n2 at *
  subst e2
  exact rMulAdd_call n0 n1 n2 l0 l1 l2 
def orcLa (f : Nat) (ds : List LV) : Option LRes :=
  match f with
  | 11 => match ds with
    | [.agg (.flat .u8 a)] => if isF a = true then some (ret1 (.v (.bool (decide ((nb a) < pP))))) else none
    | _ => none
  | 12 => match ds with
    | [.agg (.flat .u8 a)] => if isF a = true then some (ret1 (.v (.bool (decide ((nb a) < pP))))) else none
    | _ => none
  | 13 => match ds with
    | [.agg (.flat .u8 a)] => if isF a = true then some (ret1 (F ((nb a) % pP))) else none
    | _ => none
  | 14 => match ds with
    | [.agg (.flat .u8 a)] => if isF a = true then some (ret1 (F ((nb a) % pP))) else none
    | _ => none
  | 15 => match ds with
    | [.agg (.flat .u8 a), .agg (.flat .u8 b)] => if isF a = true ∧ isF b = true then some (ret1 (.v (.bool (decide ((nb a) < (nb b)))))) else none
    | _ => none
  | 16 => match ds with
    | [.agg (.flat .u8 a), .agg (.flat .u8 b)] => if isF a = true ∧ isF b = true then some (ret1 (.v (.bool (decide ((nb a) < (nb b)))))) else none
    | _ => none
  | 18 => match ds with
    | [.agg (.flat .u8 a), .agg (.flat .u8 b)] => if isF a = true ∧ isF b = true then some (ret1 (F (((nb a) + (nb b)) % pP))) else none
    | _ => none
  | 19 => match ds with
    | [.agg (.flat .u8 a), .agg (.flat .u8 b)] => if isF a = true ∧ isF b = true then some (ret1 (F (((nb a) + (nb b)) % pP))) else none
    | _ => none
  | 20 => match ds with
    | [.agg (.flat .u8 a), .agg (.flat .u8 b)] => if isF a = true ∧ isF b = true then some (ret1 (F (((nb a) + (pP - (nb b) % pP)) % pP))) else none
    | _ => none
  | 21 => match ds with
    | [.agg (.flat .u8 a), .agg (.flat .u8 b)] => if isF a = true ∧ isF b = true then some (ret1 (F (((nb a) + (pP - (nb b) % pP)) % pP))) else none
    | _ => none
  | 22 => match ds with
    | [.agg (.flat .u8 a), .agg (.flat .u8 b)] => if isF a = true ∧ isF b = true then some (ret1 (F ((nb a) * (nb b) % pP))) else none
    | _ => none
  | 23 => match ds with
    | [.agg (.flat .u8 a), .agg (.flat .u8 b)] => if isF a = true ∧ isF b = true then some (ret1 (F ((nb a) * (nb b) % pP))) else none
    | _ => none
  | 26 => match ds with
    | [.agg (.flat .u8 a)] => if isF a = true then some (ret1 (F (pw (nb a) e3P))) else none
    | _ => none
  | 27 => match ds with
    | [.agg (.flat .u8 a)] => if isF a = true then some (ret1 (F (pw (nb a) e3P))) else none
    | _ => none
  | 24 => match ds with
    | [.agg (.flat .u8 a)] => if isF a = true then some (.many [.val (F (sqrtP (nb a)).1), .val (.v (.bool (sqrtP (nb a)).2))]) else none
    | _ => none
  | 25 => match ds with
    | [.agg (.flat .u8 a)] => if isF a = true then some (.many [.val (F (sqrtP (nb a)).1), .val (.v (.bool (sqrtP (nb a)).2))]) else none
    | _ => none
  | 32 => match ds with
    | [.agg (.flat .u8 a), .agg (.flat .u8 b), .agg (.flat .u8 c)] => if isF a = true ∧ isF b = true ∧ isF c = true then some (ret1 (F (((nb a) * (nb b) + (nb c)) % qQ))) else none
    | _ => none
  | 33 => match ds with
    | [.agg (.flat .u8 a), .agg (.flat .u8 b), .agg (.flat .u8 c)] => if isF a = true ∧ isF b = true ∧ isF c = true then some (ret1 (F (((nb a) * (nb b) + (nb c)) % qQ))) else none
    | _ => none
  | _ => orcL0 f ds
theorem orcLa_ok : Known Try.prog orcLa := by
  intro f ds r h
  unfold orcLa at h
  split at h
  · split at h
    · split at h
      · rename_i hc
        cases h
        exact .inl ⟨⟨_, Try.func11, name_ne _ (by kernel_rfl), rfl⟩, pCanonical_row hc⟩
      · cases h
    · cases h
  · split at h
    · split at h
      · rename_i hc
        cases h
        exact .inl ⟨⟨_, Try.func12, name_ne _ (by kernel_rfl), rfl⟩, rCanonical_row hc⟩
      · cases h
    · cases h
  · split at h
    · split at h
      · rename_i hc
        cases h
        exact .inl ⟨⟨_, Try.func13, name_ne _ (by kernel_rfl), rfl⟩, pReduce_row hc⟩
      · cases h
    · cases h
  · split at h
    · split at h
      · rename_i hc
        cases h
        exact .inl ⟨⟨_, Try.func14, name_ne _ (by kernel_rfl), rfl⟩, rReduce_row hc⟩
      · cases h
    · cases h
  · split at h
    · split at h
      · rename_i hc
        cases h
        exact .inl ⟨⟨_, Try.func15, name_ne _ (by kernel_rfl), rfl⟩, pLess_row hc⟩
      · cases h
    · cases h
  · split at h
    · split at h
      · rename_i hc
        cases h
        exact .inl ⟨⟨_, Try.func16, name_ne _ (by kernel_rfl), rfl⟩, rLess_row hc⟩
      · cases h
    · cases h
  · split at h
    · split at h
      · rename_i hc
        cases h
        exact .inl ⟨⟨_, Try.func18, name_ne _ (by kernel_rfl), rfl⟩, pAdd_row hc⟩
      · cases h
    · cases h
  · split at h
    · split at h
      · rename_i hc
        cases h
        exact .inl ⟨⟨_, Try.func19, name_ne _ (by kernel_rfl), rfl⟩, rAdd_row hc⟩
      · cases h
    · cases h
  · split at h
    · split at h
      · rename_i hc
        cases h
        exact .inl ⟨⟨_, Try.func20, name_ne _ (by kernel_rfl), rfl⟩, pSub_row hc⟩
      · cases h
    · cases h
  · split at h
    · split at h
      · rename_i hc
        cases h
        exact .inl ⟨⟨_, Try.func21, name_ne _ (by kernel_rfl), rfl⟩, rSub_row hc⟩
      · cases h
    · cases h
  · split at h
    · split at h
      · rename_i hc
        cases h
        exact .inl ⟨⟨_, Try.func22, name_ne _ (by kernel_rfl), rfl⟩, pMul_row hc⟩
      · cases h
    · cases h
  · split at h
    · split at h
      · rename_i hc
        cases h
        exact .inl ⟨⟨_, Try.func23, name_ne _ (by kernel_rfl), rfl⟩, rMul_row hc⟩
      · cases h
    · cases h
  · split at h
    · split at h
      · rename_i hc
        cases h
        exact .inl ⟨⟨_, Try.func26, name_ne _ (by kernel_rfl), rfl⟩, pInv_row hc⟩
      · cases h
    · cases h
  · split at h
    · split at h
      · rename_i hc
        cases h
        exact .inl ⟨⟨_, Try.func27, name_ne _ (by kernel_rfl), rfl⟩, rInv_row hc⟩
      · cases h
    · cases h
  · split at h
    · split at h
      · rename_i hc
        cases h
        exact .inl ⟨⟨_, Try.func24, name_ne _ (by kernel_rfl), rfl⟩, pSqrt_row hc⟩
      · cases h
    · cases h
  · split at h
    · split at h
      · rename_i hc
        cases h
        exact .inl ⟨⟨_, Try.func25, name_ne _ (by kernel_rfl), rfl⟩, rSqrt_row hc⟩
      · cases h
    · cases h
  · split at h
    · split at h
      · rename_i hc
        cases h
        exact .inl ⟨⟨_, Try.func32, name_ne _ (by kernel_rfl), rfl⟩, pMulAdd_row hc⟩
      · cases h
    · cases h
  · split at h
    · split at h
      · rename_i hc
        cases h
        exact .inl ⟨⟨_, Try.func33, name_ne _ (by kernel_rfl), rfl⟩, rMulAdd_row hc⟩
      · cases h
    · cases h
  · exact orcL0_ok f ds r h
def ELa : Env := ⟨tyL, orcLa, false, noWk, noOrw⟩
theorem ELa_ok : EnvOk Try.prog ELa := ⟨tyL_ok, orcLa_ok, noOrw_ok⟩
theorem isN_ELa (f : Nat) {ds : List LV} {K : LRes → Prop} (h : ∃ y, ELa.orc f ds = some y ∧ K y) : ∃ y, ELa.orc f ds = some y ∧ K y := h
theorem is_ELa {f : Nat} {ds : List LV} {K : LRes → Prop} (h : ∃ y, ELa.orc f ds = some y ∧ K y) : ∃ y, ELa.orc f ds = some y ∧ K y := h
set_option maxRecDepth 100000 in
theorem o_pCanonical {a : Nat} (ha : a < 2 ^ 256) : ELa.orc 11 [F a] = some (ret1 (.v (.bool (decide (a < pP))))) :=
  (if_pos (isF_by _)).trans (by rw [nb_by32 ha])
set_option maxRecDepth 100000 in
theorem o_rCanonical {a : Nat} (ha : a < 2 ^ 256) : ELa.orc 12 [F a] = some (ret1 (.v (.bool (decide (a < pP))))) :=
  (if_pos (isF_by _)).trans (by rw [nb_by32 ha])
set_option maxRecDepth 100000 in
theorem o_pReduce {a : Nat} (ha : a < 2 ^ 256) : ELa.orc 13 [F a] = some (ret1 (F (a % pP))) :=
  (if_pos (isF_by _)).trans (by rw [nb_by32 ha])
set_option maxRecDepth 100000 in
theorem o_rReduce {a : Nat} (ha : a < 2 ^ 256) : ELa.orc 14 [F a] = some (ret1 (F (a % pP))) :=
  (if_pos (isF_by _)).trans (by rw [nb_by32 ha])
set_option maxRecDepth 100000 in
theorem o_pLess {a b : Nat} (ha : a < 2 ^ 256) (hb : b < 2 ^ 256) : ELa.orc 15 [F a, F b] = some (ret1 (.v (.bool (decide (a < b))))) :=
  (if_pos ⟨isF_by _, isF_by _⟩).trans (by rw [nb_by32 ha, nb_by32 hb])
set_option maxRecDepth 100000 in
theorem o_rLess {a b : Nat} (ha : a < 2 ^ 256) (hb : b < 2 ^ 256) : ELa.orc 16 [F a, F b] = some (ret1 (.v (.bool (decide (a < b))))) :=
  (if_pos ⟨isF_by _, isF_by _⟩).trans (by rw [nb_by32 ha, nb_by32 hb])
set_option maxRecDepth 100000 in
theorem o_pAdd {a b : Nat} (ha : a < 2 ^ 256) (hb : b < 2 ^ 256) : ELa.orc 18 [F a, F b] = some (ret1 (F ((a + b) % pP))) :=
  (if_pos ⟨isF_by _, isF_by _⟩).trans (by rw [nb_by32 ha, nb_by32 hb])
set_option maxRecDepth 100000 in
theorem o_rAdd {a b : Nat} (ha : a < 2 ^ 256) (hb : b < 2 ^ 256) : ELa.orc 19 [F a, F b] = some (ret1 (F ((a + b) % pP))) :=
  (if_pos ⟨isF_by _, isF_by _⟩).trans (by rw [nb_by32 ha, nb_by32 hb])
set_option maxRecDepth 100000 in
theorem o_pSub {a b : Nat} (ha : a < 2 ^ 256) (hb : b < 2 ^ 256) : ELa.orc 20 [F a, F b] = some (ret1 (F ((a + (pP - b % pP)) % pP))) :=
  (if_pos ⟨isF_by _, isF_by _⟩).trans (by rw [nb_by32 ha, nb_by32 hb])
set_option maxRecDepth 100000 in
theorem o_rSub {a b : Nat} (ha : a < 2 ^ 256) (hb : b < 2 ^ 256) : ELa.orc 21 [F a, F b] = some (ret1 (F ((a + (pP - b % pP)) % pP))) :=
  (if_pos ⟨isF_by _, isF_by _⟩).trans (by rw [nb_by32 ha, nb_by32 hb])
set_option maxRecDepth 100000 in
theorem o_pMul {a b : Nat} (ha : a < 2 ^ 256) (hb : b < 2 ^ 256) : ELa.orc 22 [F a, F b] = some (ret1 (F (a * b % pP))) :=
  (if_pos ⟨isF_by _, isF_by _⟩).trans (by rw [nb_by32 ha, nb_by32 hb])
set_option maxRecDepth 100000 in
theorem o_rMul {a b : Nat} (ha : a < 2 ^ 256) (hb : b < 2 ^ 256) : ELa.orc 23 [F a, F b] = some (ret1 (F (a * b % pP))) :=
  (if_pos ⟨isF_by _, isF_by _⟩).trans (by rw [nb_by32 ha, nb_by32 hb])
set_option maxRecDepth 100000 in
theorem o_pInv {a : Nat} (ha : a < 2 ^ 256) : ELa.orc 26 [F a] = some (ret1 (F (pw a e3P))) :=
  (if_pos (isF_by _)).trans (by rw [nb_by32 ha])
set_option maxRecDepth 100000 in
theorem o_rInv {a : Nat} (ha : a < 2 ^ 256) : ELa.orc 27 [F a] = some (ret1 (F (pw a e3P))) :=
  (if_pos (isF_by _)).trans (by rw [nb_by32 ha])
set_option maxRecDepth 100000 in
theorem o_pSqrt {a : Nat} (ha : a < 2 ^ 256) : ELa.orc 24 [F a] = some (.many [.val (F (sqrtP a).1), .val (.v (.bool (sqrtP a).2))]) :=
  (if_pos (isF_by _)).trans (by rw [nb_by32 ha])
set_option maxRecDepth 100000 in
theorem o_rSqrt {a : Nat} (ha : a < 2 ^ 256) : ELa.orc 25 [F a] = some (.many [.val (F (sqrtP a).1), .val (.v (.bool (sqrtP a).2))]) :=
  (if_pos (isF_by _)).trans (by rw [nb_by32 ha])
set_option maxRecDepth 100000 in
theorem o_pMulAdd {a b c : Nat} (ha : a < 2 ^ 256) (hb : b < 2 ^ 256) (hc : c < 2 ^ 256) : ELa.orc 32 [F a, F b, F c] = some (ret1 (F ((a * b + c) % qQ))) :=
  (if_pos ⟨isF_by _, isF_by _, isF_by _⟩).trans (by rw [nb_by32 ha, nb_by32 hb, nb_by32 hc])
set_option maxRecDepth 100000 in
theorem o_rMulAdd {a b c : Nat} (ha : a < 2 ^ 256) (hb : b < 2 ^ 256) (hc : c < 2 ^ 256) : ELa.orc 33 [F a, F b, F c] = some (ret1 (F ((a * b + c) % qQ))) :=
  (if_pos ⟨isF_by _, isF_by _, isF_by _⟩).trans (by rw [nb_by32 ha, nb_by32 hb, nb_by32 hc])
set_option maxRecDepth 100000 in
theorem awake8_call : CallOk Try.prog 17 [] (ret1 (.v (.bool true))) := runF_ok follows_ok ELa_ok Try.func17 (fuel := 100) (by kernel_rfl)
theorem element_row {a : List Int} (n : Int) (h : isF a = true) : CallOk Try.prog 10 [.agg (.flat .u8 a), iv .i64 n] (ret1 (F (elN (nb a) n))) := by
  have := element_call (nb a) n
  rwa [F, ← isF_eq h] at this
theorem some_row {k m : Int} (h0 : 0 < m) (h1 : m ≤ 100000) : CallOk Try.prog 28 [iv .i64 k, iv .i64 m] (.one (.own 1 m.toNat 5 (.flat .u8 (smP k m.toNat)))) := by
  obtain ⟨j, rfl⟩ := Int.eq_ofNat_of_zero_le (show 0 ≤ m by omega)
  exact some_call k j (by omega) (by omega)
def orcLb (f : Nat) (ds : List LV) : Option LRes :=
  match f with
  | 10 => match ds with
    | [.agg (.flat .u8 a), .v (.int .i64 n)] => if isF a = true then some (ret1 (F (elN (nb a) n))) else none
    | _ => none
  | 17 => match ds with
    | [] => some (ret1 (.v (.bool true)))
    | _ => none
  | 28 => match ds with
    | [.v (.int .i64 k), .v (.int .i64 m)] => if 0 < m ∧ m ≤ 100000 then some (.one (.own 1 m.toNat 5 (.flat .u8 (smP k m.toNat)))) else none
    | _ => none
  | 30 => match ds with
    | [.im 1 n _ (.flat .u8 b)] => if b.length = n ∧ byteOk b = true then some (wideR n b) else none
    | _ => none
  | 31 => match ds with
    | [.im 1 n _ (.flat .u8 b)] => if b.length = n ∧ byteOk b = true then some (wideR n b) else none
    | _ => none
  | _ => orcLa f ds
theorem orcLb_ok : Known Try.prog orcLb := by
  intro f ds r h
  unfold orcLb at h
  split at h
  · split at h
    · split at h
      · rename_i hc
        cases h
        exact .inl ⟨⟨_, Try.func10, name_ne _ (by kernel_rfl), rfl⟩, element_row _ hc⟩
      · cases h
    · cases h
  · split at h
    · cases h
      exact .inl ⟨⟨_, Try.func17, name_ne _ (by kernel_rfl), rfl⟩, awake8_call⟩
    · cases h
  · split at h
    · split at h
      · rename_i hc
        cases h
        exact .inl ⟨⟨_, Try.func28, name_ne _ (by kernel_rfl), rfl⟩, some_row hc.1 hc.2⟩
      · cases h
    · cases h
  · split at h
    · split at h
      · rename_i hc
        cases h
        exact .inl ⟨⟨_, Try.func30, name_ne _ (by kernel_rfl), rfl⟩, pWide_call _ _ _ hc.1 (byteAll hc.2)⟩
      · cases h
    · cases h
  · split at h
    · split at h
      · rename_i hc
        cases h
        exact .inl ⟨⟨_, Try.func31, name_ne _ (by kernel_rfl), rfl⟩, rWide_call _ _ _ hc.1 (byteAll hc.2)⟩
      · cases h
    · cases h
  · exact orcLa_ok f ds r h
def ELb : Env := ⟨tyL, orcLb, false, noWk, noOrw⟩
theorem ELb_ok : EnvOk Try.prog ELb := ⟨tyL_ok, orcLb_ok, noOrw_ok⟩
theorem isN_ELb (f : Nat) {ds : List LV} {K : LRes → Prop} (h : ∃ y, ELb.orc f ds = some y ∧ K y) : ∃ y, ELb.orc f ds = some y ∧ K y := h
theorem l_awake : ELb.orc 17 [] = some (ret1 (.v (.bool true))) := rfl
set_option maxRecDepth 100000 in
theorem l_element {a : Nat} (n : Int) (ha : a < 2 ^ 256) : ELb.orc 10 [F a, iv .i64 n] = some (ret1 (F (elN a n))) := (if_pos (isF_by _)).trans (by rw [nb_by32 ha])
theorem l_Mod (v n : Int) (h : 0 < n ∧ n < 9223372036854775808) : ELb.orc 29 [iv .i64 v, iv .i64 n] = some (ret1 (iv .i64 (v % n))) := o_Mod0 v n h
theorem l_Some {k m : Int} (h0 : 0 < m) (h1 : m ≤ 100000) : ELb.orc 28 [iv .i64 k, iv .i64 m] = some (.one (.own 1 m.toNat 5 (.flat .u8 (smP k m.toNat)))) := if_pos ⟨h0, h1⟩
theorem l_pWide {n : Nat} {c : Option Nat} {b : List Int} (h : b.length = n) (hb : By b) : ELb.orc 30 [.im 1 n c (.flat .u8 b)] = some (wideR n b) := if_pos ⟨h, hb.ok⟩
theorem l_rWide {n : Nat} {c : Option Nat} {b : List Int} (h : b.length = n) (hb : By b) : ELb.orc 31 [.im 1 n c (.flat .u8 b)] = some (wideR n b) := if_pos ⟨h, hb.ok⟩
theorem l_pCanonical {a : Nat} (ha : a < 2 ^ 256) : ELb.orc 11 [F a] = some (ret1 (.v (.bool (decide (a < pP))))) := (show ELb.orc 11 [F a] = ELa.orc 11 [F a] from rfl).trans (o_pCanonical ha)
theorem l_rCanonical {a : Nat} (ha : a < 2 ^ 256) : ELb.orc 12 [F a] = some (ret1 (.v (.bool (decide (a < pP))))) := (show ELb.orc 12 [F a] = ELa.orc 12 [F a] from rfl).trans (o_rCanonical ha)
theorem l_pReduce {a : Nat} (ha : a < 2 ^ 256) : ELb.orc 13 [F a] = some (ret1 (F (a % pP))) := (show ELb.orc 13 [F a] = ELa.orc 13 [F a] from rfl).trans (o_pReduce ha)
theorem l_rReduce {a : Nat} (ha : a < 2 ^ 256) : ELb.orc 14 [F a] = some (ret1 (F (a % pP))) := (show ELb.orc 14 [F a] = ELa.orc 14 [F a] from rfl).trans (o_rReduce ha)
theorem l_pLess {a b : Nat} (ha : a < 2 ^ 256) (hb : b < 2 ^ 256) : ELb.orc 15 [F a, F b] = some (ret1 (.v (.bool (decide (a < b))))) := (show ELb.orc 15 [F a, F b] = ELa.orc 15 [F a, F b] from rfl).trans (o_pLess ha hb)
theorem l_rLess {a b : Nat} (ha : a < 2 ^ 256) (hb : b < 2 ^ 256) : ELb.orc 16 [F a, F b] = some (ret1 (.v (.bool (decide (a < b))))) := (show ELb.orc 16 [F a, F b] = ELa.orc 16 [F a, F b] from rfl).trans (o_rLess ha hb)
theorem l_pAdd {a b : Nat} (ha : a < 2 ^ 256) (hb : b < 2 ^ 256) : ELb.orc 18 [F a, F b] = some (ret1 (F ((a + b) % pP))) := (show ELb.orc 18 [F a, F b] = ELa.orc 18 [F a, F b] from rfl).trans (o_pAdd ha hb)
theorem l_rAdd {a b : Nat} (ha : a < 2 ^ 256) (hb : b < 2 ^ 256) : ELb.orc 19 [F a, F b] = some (ret1 (F ((a + b) % pP))) := (show ELb.orc 19 [F a, F b] = ELa.orc 19 [F a, F b] from rfl).trans (o_rAdd ha hb)
theorem l_pSub {a b : Nat} (ha : a < 2 ^ 256) (hb : b < 2 ^ 256) : ELb.orc 20 [F a, F b] = some (ret1 (F ((a + (pP - b % pP)) % pP))) := (show ELb.orc 20 [F a, F b] = ELa.orc 20 [F a, F b] from rfl).trans (o_pSub ha hb)
theorem l_rSub {a b : Nat} (ha : a < 2 ^ 256) (hb : b < 2 ^ 256) : ELb.orc 21 [F a, F b] = some (ret1 (F ((a + (pP - b % pP)) % pP))) := (show ELb.orc 21 [F a, F b] = ELa.orc 21 [F a, F b] from rfl).trans (o_rSub ha hb)
theorem l_pMul {a b : Nat} (ha : a < 2 ^ 256) (hb : b < 2 ^ 256) : ELb.orc 22 [F a, F b] = some (ret1 (F (a * b % pP))) := (show ELb.orc 22 [F a, F b] = ELa.orc 22 [F a, F b] from rfl).trans (o_pMul ha hb)
theorem l_rMul {a b : Nat} (ha : a < 2 ^ 256) (hb : b < 2 ^ 256) : ELb.orc 23 [F a, F b] = some (ret1 (F (a * b % pP))) := (show ELb.orc 23 [F a, F b] = ELa.orc 23 [F a, F b] from rfl).trans (o_rMul ha hb)
theorem l_pInv {a : Nat} (ha : a < 2 ^ 256) : ELb.orc 26 [F a] = some (ret1 (F (pw a e3P))) := (show ELb.orc 26 [F a] = ELa.orc 26 [F a] from rfl).trans (o_pInv ha)
theorem l_rInv {a : Nat} (ha : a < 2 ^ 256) : ELb.orc 27 [F a] = some (ret1 (F (pw a e3P))) := (show ELb.orc 27 [F a] = ELa.orc 27 [F a] from rfl).trans (o_rInv ha)
theorem l_pSqrt {a : Nat} (ha : a < 2 ^ 256) : ELb.orc 24 [F a] = some (.many [.val (F (sqrtP a).1), .val (.v (.bool (sqrtP a).2))]) := (show ELb.orc 24 [F a] = ELa.orc 24 [F a] from rfl).trans (o_pSqrt ha)
theorem l_rSqrt {a : Nat} (ha : a < 2 ^ 256) : ELb.orc 25 [F a] = some (.many [.val (F (sqrtP a).1), .val (.v (.bool (sqrtP a).2))]) := (show ELb.orc 25 [F a] = ELa.orc 25 [F a] from rfl).trans (o_rSqrt ha)
theorem l_pMulAdd {a b c : Nat} (ha : a < 2 ^ 256) (hb : b < 2 ^ 256) (hc : c < 2 ^ 256) : ELb.orc 32 [F a, F b, F c] = some (ret1 (F ((a * b + c) % qQ))) := (show ELb.orc 32 [F a, F b, F c] = ELa.orc 32 [F a, F b, F c] from rfl).trans (o_pMulAdd ha hb hc)
theorem l_rMulAdd {a b c : Nat} (ha : a < 2 ^ 256) (hb : b < 2 ^ 256) (hc : c < 2 ^ 256) : ELb.orc 33 [F a, F b, F c] = some (ret1 (F ((a * b + c) % qQ))) := (show ELb.orc 33 [F a, F b, F c] = ELa.orc 33 [F a, F b, F c] from rfl).trans (o_rMulAdd ha hb hc)
theorem eq_self (l : List Int) : (l == l) = true := by simp
theorem ne_self (l : List Int) : (!(l == l)) = false := by simp
theorem nb_self (b : Bool) : (!(b == b)) = false := by simp
end
end Go.Proofs.Ytepbhihklmclaaa
