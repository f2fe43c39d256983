/-
  Layer 8: awake; the table for the laws.
-/
import Derived.Test.YtkennahakodfnaaFD
namespace Go.Proofs.Ytkennahakodfnaa
open Go.RowKit
noncomputable section

theorem pCanonical_row {a : List Int} (hc : isF a = true) : CallOk Try.prog 25 [.agg (.flat .u8 a)] (ret1 (.v (.bool (decide ((nb a) < pP))))) := by
  have h0 := hc
  clear hc
  have e0 := isF_eq h0
  have l0 := nb32_lt h0
  clear h0
  generalize nb a = n0 at *
  subst e0
  exact pCanonical_call n0 l0 
theorem pReduce_row {a : List Int} (hc : isF a = true) : CallOk Try.prog 24 [.agg (.flat .u8 a)] (ret1 (F ((nb a) % pP))) := by
  have h0 := hc
  clear hc
  have e0 := isF_eq h0
  have l0 := nb32_lt h0
  clear h0
  generalize nb a = n0 at *
  subst e0
  exact pReduce_call n0 l0 
theorem pAdd_row {a b : List Int} (hc : isF a = true ∧ isF b = true) : CallOk Try.prog 72 [.agg (.flat .u8 a), .agg (.flat .u8 b)] (ret1 (F (((nb a) + (nb b)) % pP))) := by
  obtain ⟨h0, h1⟩ := hc
  have e0 := isF_eq h0
  have l0 := nb32_lt h0
  clear h0
  generalize nb a = n0 at *
  subst e0
  have e1 := isF_eq h1
  have l1 := nb32_lt h1
  clear h1
  generalize nb b = n1 at *
  subst e1
  exact pAdd_call n0 n1 l0 l1 
theorem pSub_row {a b : List Int} (hc : isF a = true ∧ isF b = true) : CallOk Try.prog 73 [.agg (.flat .u8 a), .agg (.flat .u8 b)] (ret1 (F (((nb a) + (pP - (nb b) % pP)) % pP))) := by
  obtain ⟨h0, h1⟩ := hc
  have e0 := isF_eq h0
  have l0 := nb32_lt h0
  clear h0
  generalize nb a = n0 at *
  subst e0
  have e1 := isF_eq h1
  have l1 := nb32_lt h1
  clear h1
  generalize nb b = n1 at *
  subst e1
  exact pSub_call n0 n1 l0 l1 
theorem rSub_row {a b : List Int} (hc : isF a = true ∧ isF b = true) : CallOk Try.prog 17 [.agg (.flat .u8 a), .agg (.flat .u8 b)] (ret1 (F (((nb a) + (pP - (nb b) % pP)) % pP))) := by
  obtain ⟨h0, h1⟩ := hc
  have e0 := isF_eq h0
  have l0 := nb32_lt h0
  clear h0
  generalize nb a = n0 at *
  subst e0
  have e1 := isF_eq h1
  have l1 := nb32_lt h1
  clear h1
  generalize nb b = n1 at *
  subst e1
  exact rSub_call n0 n1 l0 l1 
theorem pMul_row {a b : List Int} (hc : isF a = true ∧ isF b = true) : CallOk Try.prog 54 [.agg (.flat .u8 a), .agg (.flat .u8 b)] (ret1 (F ((nb a) * (nb b) % pP))) := by
  obtain ⟨h0, h1⟩ := hc
  have e0 := isF_eq h0
  have l0 := nb32_lt h0
  clear h0
  generalize nb a = n0 at *
  subst e0
  have e1 := isF_eq h1
  have l1 := nb32_lt h1
  clear h1
  generalize nb b = n1 at *
  subst e1
  exact pMul_call n0 n1 l0 l1 
theorem pInv_row {a : List Int} (hc : isF a = true) : CallOk Try.prog 55 [.agg (.flat .u8 a)] (ret1 (F (pw (nb a) e3P))) := by
  have h0 := hc
  clear hc
  have e0 := isF_eq h0
  have l0 := nb32_lt h0
  clear h0
  generalize nb a = n0 at *
  subst e0
  exact pInv_call n0 l0 
theorem pSqrt_row {a : List Int} (hc : isF a = true) : CallOk Try.prog 53 [.agg (.flat .u8 a)] (.many [.val (F (sqrtP (nb a)).1), .val (.v (.bool (sqrtP (nb a)).2))]) := by
  have h0 := hc
  clear hc
  have e0 := isF_eq h0
  have l0 := nb32_lt h0
  clear h0
  generalize nb a = n0 at *
  subst e0
  exact pSqrt_call n0 l0 
theorem pMulAdd_row {a b c : List Int} (hc : isF a = true ∧ isF b = true ∧ isF c = true) : CallOk Try.prog 29 [.agg (.flat .u8 a), .agg (.flat .u8 b), .agg (.flat .u8 c)] (ret1 (F (((nb a) * (nb b) + (nb c)) % qQ))) := by
  obtain ⟨h0, h1, h2⟩ := hc
  have e0 := isF_eq h0
  have l0 := nb32_lt h0
  clear h0
  generalize nb a = n0 at *
  subst e0
  have e1 := isF_eq h1
  have l1 := nb32_lt h1
  clear h1
  generalize nb b = n1 at *
  subst e1
  have e2 := isF_eq h2
  have l2 := nb32_lt h2
  clear h2
  generalize nb c = n2 at *
  subst e2
  exact pMulAdd_call n0 n1 n2 l0 l1 l2 
theorem rMulAdd_row {a b c : List Int} (hc : isF a = true ∧ isF b = true ∧ isF c = true) : CallOk Try.prog 30 [.agg (.flat .u8 a), .agg (.flat .u8 b), .agg (.flat .u8 c)] (ret1 (F (((nb a) * (nb b) + (nb c)) % qQ))) := by
  obtain ⟨h0, h1, h2⟩ := hc
  have e0 := isF_eq h0
  have l0 := nb32_lt h0
  clear h0
  generalize nb a = n0 at *
  subst e0
  have e1 := isF_eq h1
  have l1 := nb32_lt h1
  clear h1
  generalize nb b = n1 at *
  subst e1
  have e2 := isF_eq h2
  have l2 := nb32_lt h2
  clear h2
  generalize nb c = n2 at *
  subst e2
  exact rMulAdd_call n0 n1 n2 l0 l1 l2 
def orcLa (f : Nat) (ds : List LV) : Option LRes :=
  match f with
  | 25 => match ds with
    | [.agg (.flat .u8 a)] => if isF a = true then some (ret1 (.v (.bool (decide ((nb a) < pP))))) else none
    | _ => none
  | 24 => match ds with
    | [.agg (.flat .u8 a)] => if isF a = true then some (ret1 (F ((nb a) % pP))) else none
    | _ => none
  | 72 => match ds with
    | [.agg (.flat .u8 a), .agg (.flat .u8 b)] => if isF a = true ∧ isF b = true then some (ret1 (F (((nb a) + (nb b)) % pP))) else none
    | _ => none
  | 73 => match ds with
    | [.agg (.flat .u8 a), .agg (.flat .u8 b)] => if isF a = true ∧ isF b = true then some (ret1 (F (((nb a) + (pP - (nb b) % pP)) % pP))) else none
    | _ => none
  | 17 => match ds with
    | [.agg (.flat .u8 a), .agg (.flat .u8 b)] => if isF a = true ∧ isF b = true then some (ret1 (F (((nb a) + (pP - (nb b) % pP)) % pP))) else none
    | _ => none
  | 54 => match ds with
    | [.agg (.flat .u8 a), .agg (.flat .u8 b)] => if isF a = true ∧ isF b = true then some (ret1 (F ((nb a) * (nb b) % pP))) else none
    | _ => none
  | 55 => match ds with
    | [.agg (.flat .u8 a)] => if isF a = true then some (ret1 (F (pw (nb a) e3P))) else none
    | _ => none
  | 53 => match ds with
    | [.agg (.flat .u8 a)] => if isF a = true then some (.many [.val (F (sqrtP (nb a)).1), .val (.v (.bool (sqrtP (nb a)).2))]) else none
    | _ => none
  | 29 => match ds with
    | [.agg (.flat .u8 a), .agg (.flat .u8 b), .agg (.flat .u8 c)] => if isF a = true ∧ isF b = true ∧ isF c = true then some (ret1 (F (((nb a) * (nb b) + (nb c)) % qQ))) else none
    | _ => none
  | 30 => match ds with
    | [.agg (.flat .u8 a), .agg (.flat .u8 b), .agg (.flat .u8 c)] => if isF a = true ∧ isF b = true ∧ isF c = true then some (ret1 (F (((nb a) * (nb b) + (nb c)) % qQ))) else none
    | _ => none
  | _ => orcL0 f ds
theorem orcLa_ok : Known Try.prog orcLa := by
  intro f ds r h
  unfold orcLa at h
  split at h
  · split at h
    · split at h
      · rename_i hc
        cases h
        exact .inl ⟨⟨_, Try.func25, name_ne _ (by kernel_rfl), rfl⟩, pCanonical_row hc⟩
      · cases h
    · cases h
  · split at h
    · split at h
      · rename_i hc
        cases h
        exact .inl ⟨⟨_, Try.func24, name_ne _ (by kernel_rfl), rfl⟩, pReduce_row hc⟩
      · cases h
    · cases h
  · split at h
    · split at h
      · rename_i hc
        cases h
        exact .inl ⟨⟨_, Try.func72, name_ne _ (by kernel_rfl), rfl⟩, pAdd_row hc⟩
      · cases h
    · cases h
  · split at h
    · split at h
      · rename_i hc
        cases h
        exact .inl ⟨⟨_, Try.func73, name_ne _ (by kernel_rfl), rfl⟩, pSub_row hc⟩
      · cases h
    · cases h
  · split at h
    · split at h
      · rename_i hc
        cases h
        exact .inl ⟨⟨_, Try.func17, name_ne _ (by kernel_rfl), rfl⟩, rSub_row hc⟩
      · cases h
    · cases h
  · split at h
    · split at h
      · rename_i hc
        cases h
        exact .inl ⟨⟨_, Try.func54, name_ne _ (by kernel_rfl), rfl⟩, pMul_row hc⟩
      · cases h
    · cases h
  · split at h
    · split at h
      · rename_i hc
        cases h
        exact .inl ⟨⟨_, Try.func55, name_ne _ (by kernel_rfl), rfl⟩, pInv_row hc⟩
      · cases h
    · cases h
  · split at h
    · split at h
      · rename_i hc
        cases h
        exact .inl ⟨⟨_, Try.func53, name_ne _ (by kernel_rfl), rfl⟩, pSqrt_row hc⟩
      · cases h
    · cases h
  · split at h
    · split at h
      · rename_i hc
        cases h
        exact .inl ⟨⟨_, Try.func29, name_ne _ (by kernel_rfl), rfl⟩, pMulAdd_row hc⟩
      · cases h
    · cases h
  · split at h
    · split at h
      · rename_i hc
        cases h
        exact .inl ⟨⟨_, Try.func30, name_ne _ (by kernel_rfl), rfl⟩, rMulAdd_row hc⟩
      · cases h
    · cases h
  · exact orcL0_ok f ds r h
def ELa : Env := ⟨tyL, orcLa, false, noWk, noOrw⟩
theorem ELa_ok : EnvOk Try.prog ELa := ⟨tyL_ok, orcLa_ok, noOrw_ok⟩
theorem isN_ELa (f : Nat) {ds : List LV} {K : LRes → Prop} (h : ∃ y, ELa.orc f ds = some y ∧ K y) : ∃ y, ELa.orc f ds = some y ∧ K y := h
theorem is_ELa {f : Nat} {ds : List LV} {K : LRes → Prop} (h : ∃ y, ELa.orc f ds = some y ∧ K y) : ∃ y, ELa.orc f ds = some y ∧ K y := h
set_option maxRecDepth 100000 in
theorem o_pCanonical {a : Nat} (ha : a < 2 ^ 256) : ELa.orc 25 [F a] = some (ret1 (.v (.bool (decide (a < pP))))) :=
  (if_pos (isF_by _)).trans (by rw [nb_by32 ha])
set_option maxRecDepth 100000 in
theorem o_pReduce {a : Nat} (ha : a < 2 ^ 256) : ELa.orc 24 [F a] = some (ret1 (F (a % pP))) :=
  (if_pos (isF_by _)).trans (by rw [nb_by32 ha])
set_option maxRecDepth 100000 in
theorem o_pAdd {a b : Nat} (ha : a < 2 ^ 256) (hb : b < 2 ^ 256) : ELa.orc 72 [F a, F b] = some (ret1 (F ((a + b) % pP))) :=
  (if_pos ⟨isF_by _, isF_by _⟩).trans (by rw [nb_by32 ha, nb_by32 hb])
set_option maxRecDepth 100000 in
theorem o_pSub {a b : Nat} (ha : a < 2 ^ 256) (hb : b < 2 ^ 256) : ELa.orc 73 [F a, F b] = some (ret1 (F ((a + (pP - b % pP)) % pP))) :=
  (if_pos ⟨isF_by _, isF_by _⟩).trans (by rw [nb_by32 ha, nb_by32 hb])
set_option maxRecDepth 100000 in
theorem o_rSub {a b : Nat} (ha : a < 2 ^ 256) (hb : b < 2 ^ 256) : ELa.orc 17 [F a, F b] = some (ret1 (F ((a + (pP - b % pP)) % pP))) :=
  (if_pos ⟨isF_by _, isF_by _⟩).trans (by rw [nb_by32 ha, nb_by32 hb])
set_option maxRecDepth 100000 in
theorem o_pMul {a b : Nat} (ha : a < 2 ^ 256) (hb : b < 2 ^ 256) : ELa.orc 54 [F a, F b] = some (ret1 (F (a * b % pP))) :=
  (if_pos ⟨isF_by _, isF_by _⟩).trans (by rw [nb_by32 ha, nb_by32 hb])
set_option maxRecDepth 100000 in
theorem o_pInv {a : Nat} (ha : a < 2 ^ 256) : ELa.orc 55 [F a] = some (ret1 (F (pw a e3P))) :=
  (if_pos (isF_by _)).trans (by rw [nb_by32 ha])
set_option maxRecDepth 100000 in
theorem o_pSqrt {a : Nat} (ha : a < 2 ^ 256) : ELa.orc 53 [F a] = some (.many [.val (F (sqrtP a).1), .val (.v (.bool (sqrtP a).2))]) :=
  (if_pos (isF_by _)).trans (by rw [nb_by32 ha])
set_option maxRecDepth 100000 in
theorem o_pMulAdd {a b c : Nat} (ha : a < 2 ^ 256) (hb : b < 2 ^ 256) (hc : c < 2 ^ 256) : ELa.orc 29 [F a, F b, F c] = some (ret1 (F ((a * b + c) % qQ))) :=
  (if_pos ⟨isF_by _, isF_by _, isF_by _⟩).trans (by rw [nb_by32 ha, nb_by32 hb, nb_by32 hc])
set_option maxRecDepth 100000 in
theorem o_rMulAdd {a b c : Nat} (ha : a < 2 ^ 256) (hb : b < 2 ^ 256) (hc : c < 2 ^ 256) : ELa.orc 30 [F a, F b, F c] = some (ret1 (F ((a * b + c) % qQ))) :=
  (if_pos ⟨isF_by _, isF_by _, isF_by _⟩).trans (by rw [nb_by32 ha, nb_by32 hb, nb_by32 hc])
set_option maxRecDepth 100000 in
theorem awake8_call : CallOk Try.prog 31 [] (ret1 (.v (.bool true))) := runF_ok follows_ok ELa_ok Try.func31 (fuel := 100) (by kernel_rfl)
theorem element_row {a : List Int} (n : Int) (h : isF a = true) : CallOk Try.prog 28 [.agg (.flat .u8 a), iv .i64 n] (ret1 (F (elN (nb a) n))) := by
  have := element_call (nb a) n
  rwa [F, ← isF_eq h] at this
theorem some_row {k m : Int} (h0 : 0 < m) (h1 : m ≤ 100000) : CallOk Try.prog 21 [iv .i64 k, iv .i64 m] (.one (.own 1 m.toNat 5 (.flat .u8 (smP k m.toNat)))) := by
  obtain ⟨j, rfl⟩ := Int.eq_ofNat_of_zero_le (show 0 ≤ m by omega)
  exact some_call k j (by omega) (by omega)
def orcLb (f : Nat) (ds : List LV) : Option LRes :=
  match f with
  | 28 => match ds with
    | [.agg (.flat .u8 a), .v (.int .i64 n)] => if isF a = true then some (ret1 (F (elN (nb a) n))) else none
    | _ => none
  | 31 => match ds with
    | [] => some (ret1 (.v (.bool true)))
    | _ => none
  | 21 => match ds with
    | [.v (.int .i64 k), .v (.int .i64 m)] => if 0 < m ∧ m ≤ 100000 then some (.one (.own 1 m.toNat 5 (.flat .u8 (smP k m.toNat)))) else none
    | _ => none
  | 26 => match ds with
    | [.im 1 n _ (.flat .u8 b)] => if b.length = n ∧ byteOk b = true then some (wideR n b) else none
    | _ => none
  | 27 => match ds with
    | [.im 1 n _ (.flat .u8 b)] => if b.length = n ∧ byteOk b = true then some (wideR n b) else none
    | _ => none
  | _ => orcLa f ds
theorem orcLb_ok : Known Try.prog orcLb := by
  intro f ds r h
  unfold orcLb at h
  split at h
  · split at h
    · split at h
      · rename_i hc
        cases h
        exact .inl ⟨⟨_, Try.func28, name_ne _ (by kernel_rfl), rfl⟩, element_row _ hc⟩
      · cases h
    · cases h
  · split at h
    · cases h
      exact .inl ⟨⟨_, Try.func31, name_ne _ (by kernel_rfl), rfl⟩, awake8_call⟩
    · cases h
  · split at h
    · split at h
      · rename_i hc
        cases h
        exact .inl ⟨⟨_, Try.func21, name_ne _ (by kernel_rfl), rfl⟩, some_row hc.1 hc.2⟩
      · cases h
    · cases h
  · split at h
    · split at h
      · rename_i hc
        cases h
        exact .inl ⟨⟨_, Try.func26, name_ne _ (by kernel_rfl), rfl⟩, pWide_call _ _ _ hc.1 (byteAll hc.2)⟩
      · cases h
    · cases h
  · split at h
    · split at h
      · rename_i hc
        cases h
        exact .inl ⟨⟨_, Try.func27, name_ne _ (by kernel_rfl), rfl⟩, rWide_call _ _ _ hc.1 (byteAll hc.2)⟩
      · cases h
    · cases h
  · exact orcLa_ok f ds r h
def ELb : Env := ⟨tyL, orcLb, false, noWk, noOrw⟩
theorem ELb_ok : EnvOk Try.prog ELb := ⟨tyL_ok, orcLb_ok, noOrw_ok⟩
theorem isN_ELb (f : Nat) {ds : List LV} {K : LRes → Prop} (h : ∃ y, ELb.orc f ds = some y ∧ K y) : ∃ y, ELb.orc f ds = some y ∧ K y := h
theorem l_awake : ELb.orc 31 [] = some (ret1 (.v (.bool true))) := rfl
set_option maxRecDepth 100000 in
theorem l_element {a : Nat} (n : Int) (ha : a < 2 ^ 256) : ELb.orc 28 [F a, iv .i64 n] = some (ret1 (F (elN a n))) := (if_pos (isF_by _)).trans (by rw [nb_by32 ha])
theorem l_Mod (v n : Int) (h : 0 < n ∧ n < 9223372036854775808) : ELb.orc 18 [iv .i64 v, iv .i64 n] = some (ret1 (iv .i64 (v % n))) := o_Mod0 v n h
theorem l_Some {k m : Int} (h0 : 0 < m) (h1 : m ≤ 100000) : ELb.orc 21 [iv .i64 k, iv .i64 m] = some (.one (.own 1 m.toNat 5 (.flat .u8 (smP k m.toNat)))) := if_pos ⟨h0, h1⟩
theorem l_pWide {n : Nat} {c : Option Nat} {b : List Int} (h : b.length = n) (hb : By b) : ELb.orc 26 [.im 1 n c (.flat .u8 b)] = some (wideR n b) := if_pos ⟨h, hb.ok⟩
theorem l_rWide {n : Nat} {c : Option Nat} {b : List Int} (h : b.length = n) (hb : By b) : ELb.orc 27 [.im 1 n c (.flat .u8 b)] = some (wideR n b) := if_pos ⟨h, hb.ok⟩
theorem l_pCanonical {a : Nat} (ha : a < 2 ^ 256) : ELb.orc 25 [F a] = some (ret1 (.v (.bool (decide (a < pP))))) := (show ELb.orc 25 [F a] = ELa.orc 25 [F a] from rfl).trans (o_pCanonical ha)
theorem l_pReduce {a : Nat} (ha : a < 2 ^ 256) : ELb.orc 24 [F a] = some (ret1 (F (a % pP))) := (show ELb.orc 24 [F a] = ELa.orc 24 [F a] from rfl).trans (o_pReduce ha)
theorem l_pAdd {a b : Nat} (ha : a < 2 ^ 256) (hb : b < 2 ^ 256) : ELb.orc 72 [F a, F b] = some (ret1 (F ((a + b) % pP))) := (show ELb.orc 72 [F a, F b] = ELa.orc 72 [F a, F b] from rfl).trans (o_pAdd ha hb)
theorem l_pSub {a b : Nat} (ha : a < 2 ^ 256) (hb : b < 2 ^ 256) : ELb.orc 73 [F a, F b] = some (ret1 (F ((a + (pP - b % pP)) % pP))) := (show ELb.orc 73 [F a, F b] = ELa.orc 73 [F a, F b] from rfl).trans (o_pSub ha hb)
theorem l_rSub {a b : Nat} (ha : a < 2 ^ 256) (hb : b < 2 ^ 256) : ELb.orc 17 [F a, F b] = some (ret1 (F ((a + (pP - b % pP)) % pP))) := (show ELb.orc 17 [F a, F b] = ELa.orc 17 [F a, F b] from rfl).trans (o_rSub ha hb)
theorem l_pMul {a b : Nat} (ha : a < 2 ^ 256) (hb : b < 2 ^ 256) : ELb.orc 54 [F a, F b] = some (ret1 (F (a * b % pP))) := (show ELb.orc 54 [F a, F b] = ELa.orc 54 [F a, F b] from rfl).trans (o_pMul ha hb)
theorem l_pInv {a : Nat} (ha : a < 2 ^ 256) : ELb.orc 55 [F a] = some (ret1 (F (pw a e3P))) := (show ELb.orc 55 [F a] = ELa.orc 55 [F a] from rfl).trans (o_pInv ha)
theorem l_pSqrt {a : Nat} (ha : a < 2 ^ 256) : ELb.orc 53 [F a] = some (.many [.val (F (sqrtP a).1), .val (.v (.bool (sqrtP a).2))]) := (show ELb.orc 53 [F a] = ELa.orc 53 [F a] from rfl).trans (o_pSqrt ha)
theorem l_pMulAdd {a b c : Nat} (ha : a < 2 ^ 256) (hb : b < 2 ^ 256) (hc : c < 2 ^ 256) : ELb.orc 29 [F a, F b, F c] = some (ret1 (F ((a * b + c) % qQ))) := (show ELb.orc 29 [F a, F b, F c] = ELa.orc 29 [F a, F b, F c] from rfl).trans (o_pMulAdd ha hb hc)
theorem l_rMulAdd {a b c : Nat} (ha : a < 2 ^ 256) (hb : b < 2 ^ 256) (hc : c < 2 ^ 256) : ELb.orc 30 [F a, F b, F c] = some (ret1 (F ((a * b + c) % qQ))) := (show ELb.orc 30 [F a, F b, F c] = ELa.orc 30 [F a, F b, F c] from rfl).trans (o_rMulAdd ha hb hc)
theorem eq_self (l : List Int) : (l == l) = true := by simp
theorem ne_self (l : List Int) : (!(l == l)) = false := by simp
theorem nb_self (b : Bool) : (!(b == b)) = false := by simp
end
end Go.Proofs.Ytkennahakodfnaa
