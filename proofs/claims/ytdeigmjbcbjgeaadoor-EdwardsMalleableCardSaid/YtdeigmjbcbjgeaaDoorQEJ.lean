/-
  Layer 10: the program's base, Decodes, Add, Mult, Small.
-/
import Derived.Test.YtdeigmjbcbjgeaaDoorQEI
namespace Go.Proofs.YtdeigmjbcbjgeaaDoor
open Go.RowKit

theorem eEncode_row {a : List Int} (hc : isQ a = true ∧ (qnOf a).ok = true) : CallOk Tryd.prog 15 [.agg (.flat .u8 a)] (ret1 (F (wrN (qnOf a)))) := by
  have h := eEncode_call (qnOf a) (Pn.ok_iff.1 hc.2)
  rwa [Q4, ← isQ_eq hc.1] at h
theorem eDecode_row {a : List Int} (hc : isF a = true) : CallOk Tryd.prog 21 [.agg (.flat .u8 a)] (.many [.val (Q4 (rdP (nb a))), .val (.v (.bool (rdOk (nb a))))]) := by
  have h := eDecode_call (nb a) (nb32_lt hc)
  rwa [F, ← isF_eq hc] at h
theorem eMul_row {a b : List Int} (hc : isF a = true ∧ isQ b = true ∧ (qnOf b).ok = true) : CallOk Tryd.prog 16 [.agg (.flat .u8 a), .agg (.flat .u8 b)] (ret1 (Q4 (pmulN (nb a) (qnOf b) 256))) := by
  have h := eMul_call (nb a) (qnOf b) (nb32_lt hc.1) (Pn.ok_iff.1 hc.2.2)
  rwa [F, Q4, ← isF_eq hc.1, ← isQ_eq hc.2.1] at h
theorem eSmall_row {a : List Int} (hc : isQ a = true ∧ (qnOf a).ok = true) : CallOk Tryd.prog 23 [.agg (.flat .u8 a)] (ret1 (.v (.bool (psmN (qnOf a))))) := by
  have h := eSmall_call (qnOf a) (Pn.ok_iff.1 hc.2)
  rwa [Q4, ← isQ_eq hc.1] at h
theorem eNeg_row {a : List Int} (hc : isQ a = true ∧ (qnOf a).ok = true) : CallOk Tryd.prog 26 [.agg (.flat .u8 a)] (ret1 (Q4 (oppN (qnOf a)))) := by
  have h := eNeg_call (qnOf a) (Pn.ok_iff.1 hc.2)
  rwa [Q4, ← isQ_eq hc.1] at h
def orcPE3 (f : Nat) (ds : List LV) : Option LRes :=
  match f with
  | 15 => match ds with
    | [.agg (.flat .u8 a)] => if isQ a = true ∧ (qnOf a).ok = true then some (ret1 (F (wrN (qnOf a)))) else none
    | _ => none
  | 21 => match ds with
    | [.agg (.flat .u8 a)] => if isF a = true then some (.many [.val (Q4 (rdP (nb a))), .val (.v (.bool (rdOk (nb a))))]) else none
    | _ => none
  | 16 => match ds with
    | [.agg (.flat .u8 a), .agg (.flat .u8 b)] => if isF a = true ∧ isQ b = true ∧ (qnOf b).ok = true then some (ret1 (Q4 (pmulN (nb a) (qnOf b) 256))) else none
    | _ => none
  | 23 => match ds with
    | [.agg (.flat .u8 a)] => if isQ a = true ∧ (qnOf a).ok = true then some (ret1 (.v (.bool (psmN (qnOf a))))) else none
    | _ => none
  | 26 => match ds with
    | [.agg (.flat .u8 a)] => if isQ a = true ∧ (qnOf a).ok = true then some (ret1 (Q4 (oppN (qnOf a)))) else none
    | _ => none
  | 12 => match ds with
    | [] => some (ret1 (F baseN))
    | _ => none
  | _ => orcPE2 f ds
theorem orcPE3_ok : Known Tryd.prog orcPE3 := by
  intro f ds r h
  unfold orcPE3 at h
  split at h
  · split at h
    · split at h
      · rename_i hc
        cases h
        exact .inl ⟨⟨_, Tryd.func15, name_ne _ (by kernel_rfl), rfl⟩, eEncode_row hc⟩
      · cases h
    · cases h
  · split at h
    · split at h
      · rename_i hc
        cases h
        exact .inl ⟨⟨_, Tryd.func21, name_ne _ (by kernel_rfl), rfl⟩, eDecode_row hc⟩
      · cases h
    · cases h
  · split at h
    · split at h
      · rename_i hc
        cases h
        exact .inl ⟨⟨_, Tryd.func16, name_ne _ (by kernel_rfl), rfl⟩, eMul_row hc⟩
      · cases h
    · cases h
  · split at h
    · split at h
      · rename_i hc
        cases h
        exact .inl ⟨⟨_, Tryd.func23, name_ne _ (by kernel_rfl), rfl⟩, eSmall_row hc⟩
      · cases h
    · cases h
  · split at h
    · split at h
      · rename_i hc
        cases h
        exact .inl ⟨⟨_, Tryd.func26, name_ne _ (by kernel_rfl), rfl⟩, eNeg_row hc⟩
      · cases h
    · cases h
  · split at h
    · cases h
      exact .inl ⟨⟨_, Tryd.func12, name_ne _ (by kernel_rfl), rfl⟩, eBase_call⟩
    · cases h
  · exact orcPE2_ok f ds r h
def PE3 : Env := ⟨tyL, orcPE3, false, noWk, noOrw⟩
theorem PE3_ok : EnvOk Tryd.prog PE3 := ⟨tyL_ok, orcPE3_ok, noOrw_ok⟩
theorem isN_PE3 (f : Nat) {ds : List LV} {K : LRes → Prop} (h : ∃ y, PE3.orc f ds = some y ∧ K y) : ∃ y, PE3.orc f ds = some y ∧ K y := h
set_option maxRecDepth 100000 in
theorem p_eEncode {p : Pn} (hp : p.lt) : PE3.orc 15 [Q4 p] = some (ret1 (F (wrN p))) := (if_pos ⟨(isQ_b4 hp).1, by rw [(isQ_b4 hp).2]; exact Pn.ok_iff.2 hp⟩).trans (by rw [(isQ_b4 hp).2])
set_option maxRecDepth 100000 in
theorem p_eDecode {pn : Nat} (hpn : pn < 2 ^ 256) : PE3.orc 21 [F pn] = some (.many [.val (Q4 (rdP pn)), .val (.v (.bool (rdOk pn)))]) := (if_pos (isF_by _)).trans (by rw [nb_by32 hpn])
set_option maxRecDepth 100000 in
theorem p_eMul {pn : Nat} (hpn : pn < 2 ^ 256) {q : Pn} (hq : q.lt) : PE3.orc 16 [F pn, Q4 q] = some (ret1 (Q4 (pmulN pn q 256))) := (if_pos ⟨isF_by _, (isQ_b4 hq).1, by rw [(isQ_b4 hq).2]; exact Pn.ok_iff.2 hq⟩).trans (by rw [nb_by32 hpn, (isQ_b4 hq).2])
set_option maxRecDepth 100000 in
theorem p_eSmall {p : Pn} (hp : p.lt) : PE3.orc 23 [Q4 p] = some (ret1 (.v (.bool (psmN p)))) := (if_pos ⟨(isQ_b4 hp).1, by rw [(isQ_b4 hp).2]; exact Pn.ok_iff.2 hp⟩).trans (by rw [(isQ_b4 hp).2])
set_option maxRecDepth 100000 in
theorem p_eNeg {p : Pn} (hp : p.lt) : PE3.orc 26 [Q4 p] = some (ret1 (Q4 (oppN p))) := (if_pos ⟨(isQ_b4 hp).1, by rw [(isQ_b4 hp).2]; exact Pn.ok_iff.2 hp⟩).trans (by rw [(isQ_b4 hp).2])
theorem p_eBase : PE3.orc 12 [] = some (ret1 (F baseN)) := rfl
theorem p3_eAdd {p q : Pn} (hp : p.lt) (hq : q.lt) : PE3.orc 25 [Q4 p, Q4 q] = some (ret1 (Q4 (paddN p q))) := (show PE3.orc 25 [Q4 p, Q4 q] = PE2.orc 25 [Q4 p, Q4 q] from rfl).trans (p_eAdd hp hq)
set_option maxRecDepth 100000 in
set_option maxHeartbeats 8000000 in
theorem base_gen10 (b V : List Int) (k : Bool) (lV : V.length = 128) (f1 : PE3.orc 12 [] = some (ret1 (.agg (.flat .u8 b)))) (f2 : PE3.orc 21 [.agg (.flat .u8 b)] = some (.many [.val (.agg (.flat .u8 V)), .val (.v (.bool k))])) : execF PE3 Tryd.f17 [] (ret1 (.agg (.flat .u8 V))) := by
  have zV : layOne (.flat .u8 (List.replicate 128 0)) 0 (.flat .u8 V) = some (.flat .u8 V) := lay_all (by rw [List.length_replicate, lV]) (by omega)
  have nV : (Cont.flat .u8 V).len = 128 := lV
  have cV : (Cont.flat .u8 V).cut 0 128 = some (.flat .u8 V) := cut_all lV
  ((conv => whnf); repeat ((first | refine ⟨_, cV, ?_⟩ | refine ⟨_, zV, ?_⟩ | refine ⟨nV, ?_⟩ | ((with_reducible refine isN_PE3 12 ?_); first | refine ⟨_, f1, ?_⟩) | ((with_reducible refine isN_PE3 21 ?_); first | refine ⟨_, f2, ?_⟩) | refine ⟨_, rfl, ?_⟩ | refine ⟨rfl, ?_⟩); conv => whnf))
  rfl
theorem ebase_call : CallOk Tryd.prog 17 [] (ret1 (Q4 (rdP baseN))) := execF_ok follows_ok PE3_ok Tryd.func17 (base_gen10 _ _ _ (b4_len _) p_eBase (p_eDecode (show baseN < 2 ^ 256 by decide)))
set_option maxRecDepth 100000 in
set_option maxHeartbeats 8000000 in
theorem eSmallX_gen (a V : List Int) (k q : Bool) (la : a.length = 32) (lV : V.length = 128) (f1 : PE3.orc 21 [.agg (.flat .u8 a)] = some (.many [.val (.agg (.flat .u8 V)), .val (.v (.bool k))])) (f3 : PE3.orc 23 [.agg (.flat .u8 V)] = some (ret1 (.v (.bool q)))) :
    execF PE3 Tryd.f13 [.agg (.flat .u8 a)] (ret1 (.v (.bool (k && q)))) := by
  have ca : (Cont.flat .u8 a).cut 0 32 = some (.flat .u8 a) := cut_all la
  have zV : layOne (.flat .u8 (List.replicate 128 0)) 0 (.flat .u8 V) = some (.flat .u8 V) := lay_all (by rw [List.length_replicate, lV]) (by omega)
  have nV : (Cont.flat .u8 V).len = 128 := lV
  have cV : (Cont.flat .u8 V).cut 0 128 = some (.flat .u8 V) := cut_all lV
  cases k <;> cases q
  all_goals
    ((conv => whnf); repeat ((first | refine ⟨_, ca, ?_⟩ | refine ⟨_, cV, ?_⟩ | refine ⟨_, zV, ?_⟩ | refine ⟨nV, ?_⟩ | ((with_reducible refine isN_PE3 21 ?_); first | refine ⟨_, f1, ?_⟩) | ((with_reducible refine isN_PE3 23 ?_); first | refine ⟨_, f3, ?_⟩) | refine ⟨_, rfl, ?_⟩ | refine ⟨rfl, ?_⟩ | refine ⟨fun _ => ?_, fun h => absurd h (by decide)⟩ | refine ⟨fun h => absurd h (by decide), fun _ => ?_⟩); conv => whnf))
    rfl
end Go.Proofs.YtdeigmjbcbjgeaaDoor
/-
  Layer 10: the laws' awake.
-/
namespace Go.Proofs.YtdeigmjbcbjgeaaDoor
open Go.RowKit

set_option maxRecDepth 100000 in
set_option maxHeartbeats 1600000 in
theorem eSignNil_call : CallOk Tryd.prog 8 [nilV, nilV] (.many [.val nilV, .val (iv .i64 1)]) := by
  refine execF_ok follows_ok PE3_ok Tryd.func8 ?_
  ((conv => whnf); repeat ((first | refine ⟨_, rfl, ?_⟩ | refine ⟨by decide, ?_⟩ | refine ⟨fun _ => ?_, fun h => absurd h (by decide)⟩); conv => whnf))
  rfl
theorem eSmallA_row {a : List Int} (hc : isF a = true) : CallOk Tryd.prog 13 [.agg (.flat .u8 a)] (ret1 (.v (.bool (rdOk (nb a) && psmN (rdP (nb a)))))) := by
  have h : CallOk Tryd.prog 13 [.agg (.flat .u8 (by32 (nb a)))] _ := execF_ok follows_ok PE3_ok Tryd.func13 (eSmallX_gen _ _ _ _ (byk_len _ _) (b4_len _) (p_eDecode (nb32_lt hc)) (p_eSmall (rdP_lt (nb a))))
  rwa [← isF_eq hc] at h
def orcLA (f : Nat) (ds : List LV) : Option LRes :=
  match f with
  | 13 => match ds with
    | [.agg (.flat .u8 a)] => if isF a = true then some (ret1 (.v (.bool (rdOk (nb a) && psmN (rdP (nb a)))))) else none
    | _ => none
  | 8 => match ds with
    | [.v (.slice none 0 0), .v (.slice none 0 0)] => some (.many [.val nilV, .val (iv .i64 1)])
    | _ => none
  | _ => orcPE3 f ds
theorem orcLA_ok : Known Tryd.prog orcLA := by
  intro f ds r h
  unfold orcLA at h
  split at h
  · split at h
    · split at h
      · rename_i hc
        cases h
        exact .inl ⟨⟨_, Tryd.func13, name_ne _ (by kernel_rfl), rfl⟩, eSmallA_row hc⟩
      · cases h
    · cases h
  · split at h
    · cases h
      exact .inl ⟨⟨_, Tryd.func8, name_ne _ (by kernel_rfl), rfl⟩, eSignNil_call⟩
    · cases h
  · exact orcPE3_ok f ds r h
def LPA : Env := ⟨tyL, orcLA, false, noWk, noOrw⟩
theorem LPA_ok : EnvOk Tryd.prog LPA := ⟨tyL_ok, orcLA_ok, noOrw_ok⟩
set_option maxRecDepth 100000 in
theorem awake10_call : CallOk Tryd.prog 5 [] (ret1 (.v (.bool true))) := runF_ok follows_ok LPA_ok Tryd.func5 (fuel := 200) (by kernel_rfl)
end Go.Proofs.YtdeigmjbcbjgeaaDoor
