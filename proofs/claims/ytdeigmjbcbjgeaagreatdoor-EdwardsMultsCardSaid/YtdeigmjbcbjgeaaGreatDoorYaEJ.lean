/-
  Layer 10: the program's base, Decodes, Add, Mult, Small.
-/
import Derived.Test.YtdeigmjbcbjgeaaGreatDoorYaEI
namespace Go.Proofs.YtdeigmjbcbjgeaaGreatDoor
open Go.RowKit

theorem eEncode_row {a : List Int} (hc : isQ a = true ∧ (qnOf a).ok = true) : CallOk Tryz.prog 39 [.agg (.flat .u8 a)] (ret1 (F (wrN (qnOf a)))) := by
  have h := eEncode_call (qnOf a) (Pn.ok_iff.1 hc.2)
  rwa [Q4, ← isQ_eq hc.1] at h
theorem eDecode_row {a : List Int} (hc : isF a = true) : CallOk Tryz.prog 38 [.agg (.flat .u8 a)] (.many [.val (Q4 (rdP (nb a))), .val (.v (.bool (rdOk (nb a))))]) := by
  have h := eDecode_call (nb a) (nb32_lt hc)
  rwa [F, ← isF_eq hc] at h
theorem eMul_row {a b : List Int} (hc : isF a = true ∧ isQ b = true ∧ (qnOf b).ok = true) : CallOk Tryz.prog 49 [.agg (.flat .u8 a), .agg (.flat .u8 b)] (ret1 (Q4 (pmulN (nb a) (qnOf b) 256))) := by
  have h := eMul_call (nb a) (qnOf b) (nb32_lt hc.1) (Pn.ok_iff.1 hc.2.2)
  rwa [F, Q4, ← isF_eq hc.1, ← isQ_eq hc.2.1] at h
theorem eSmall_row {a : List Int} (hc : isQ a = true ∧ (qnOf a).ok = true) : CallOk Tryz.prog 47 [.agg (.flat .u8 a)] (ret1 (.v (.bool (psmN (qnOf a))))) := by
  have h := eSmall_call (qnOf a) (Pn.ok_iff.1 hc.2)
  rwa [Q4, ← isQ_eq hc.1] at h
theorem eNeg_row {a : List Int} (hc : isQ a = true ∧ (qnOf a).ok = true) : CallOk Tryz.prog 61 [.agg (.flat .u8 a)] (ret1 (Q4 (oppN (qnOf a)))) := by
  have h := eNeg_call (qnOf a) (Pn.ok_iff.1 hc.2)
  rwa [Q4, ← isQ_eq hc.1] at h
def orcPE3 (f : Nat) (ds : List LV) : Option LRes :=
  match f with
  | 39 => match ds with
    | [.agg (.flat .u8 a)] => if isQ a = true ∧ (qnOf a).ok = true then some (ret1 (F (wrN (qnOf a)))) else none
    | _ => none
  | 38 => match ds with
    | [.agg (.flat .u8 a)] => if isF a = true then some (.many [.val (Q4 (rdP (nb a))), .val (.v (.bool (rdOk (nb a))))]) else none
    | _ => none
  | 49 => match ds with
    | [.agg (.flat .u8 a), .agg (.flat .u8 b)] => if isF a = true ∧ isQ b = true ∧ (qnOf b).ok = true then some (ret1 (Q4 (pmulN (nb a) (qnOf b) 256))) else none
    | _ => none
  | 47 => match ds with
    | [.agg (.flat .u8 a)] => if isQ a = true ∧ (qnOf a).ok = true then some (ret1 (.v (.bool (psmN (qnOf a))))) else none
    | _ => none
  | 61 => match ds with
    | [.agg (.flat .u8 a)] => if isQ a = true ∧ (qnOf a).ok = true then some (ret1 (Q4 (oppN (qnOf a)))) else none
    | _ => none
  | 12 => match ds with
    | [] => some (ret1 (F baseN))
    | _ => none
  | _ => orcPE2 f ds
theorem orcPE3_ok : Known Tryz.prog orcPE3 := by
  intro f ds r h
  unfold orcPE3 at h
  split at h
  · split at h
    · split at h
      · rename_i hc
        cases h
        exact .inl ⟨⟨_, Tryz.func39, name_ne _ (by kernel_rfl), rfl⟩, eEncode_row hc⟩
      · cases h
    · cases h
  · split at h
    · split at h
      · rename_i hc
        cases h
        exact .inl ⟨⟨_, Tryz.func38, name_ne _ (by kernel_rfl), rfl⟩, eDecode_row hc⟩
      · cases h
    · cases h
  · split at h
    · split at h
      · rename_i hc
        cases h
        exact .inl ⟨⟨_, Tryz.func49, name_ne _ (by kernel_rfl), rfl⟩, eMul_row hc⟩
      · cases h
    · cases h
  · split at h
    · split at h
      · rename_i hc
        cases h
        exact .inl ⟨⟨_, Tryz.func47, name_ne _ (by kernel_rfl), rfl⟩, eSmall_row hc⟩
      · cases h
    · cases h
  · split at h
    · split at h
      · rename_i hc
        cases h
        exact .inl ⟨⟨_, Tryz.func61, name_ne _ (by kernel_rfl), rfl⟩, eNeg_row hc⟩
      · cases h
    · cases h
  · split at h
    · cases h
      exact .inl ⟨⟨_, Tryz.func12, name_ne _ (by kernel_rfl), rfl⟩, eBase_call⟩
    · cases h
  · exact orcPE2_ok f ds r h
def PE3 : Env := ⟨tyL, orcPE3, false, noWk, noOrw⟩
theorem PE3_ok : EnvOk Tryz.prog PE3 := ⟨tyL_ok, orcPE3_ok, noOrw_ok⟩
theorem isN_PE3 (f : Nat) {ds : List LV} {K : LRes → Prop} (h : ∃ y, PE3.orc f ds = some y ∧ K y) : ∃ y, PE3.orc f ds = some y ∧ K y := h
set_option maxRecDepth 100000 in
theorem p_eEncode {p : Pn} (hp : p.lt) : PE3.orc 39 [Q4 p] = some (ret1 (F (wrN p))) := (if_pos ⟨(isQ_b4 hp).1, by rw [(isQ_b4 hp).2]; exact Pn.ok_iff.2 hp⟩).trans (by rw [(isQ_b4 hp).2])
set_option maxRecDepth 100000 in
theorem p_eDecode {pn : Nat} (hpn : pn < 2 ^ 256) : PE3.orc 38 [F pn] = some (.many [.val (Q4 (rdP pn)), .val (.v (.bool (rdOk pn)))]) := (if_pos (isF_by _)).trans (by rw [nb_by32 hpn])
set_option maxRecDepth 100000 in
theorem p_eMul {pn : Nat} (hpn : pn < 2 ^ 256) {q : Pn} (hq : q.lt) : PE3.orc 49 [F pn, Q4 q] = some (ret1 (Q4 (pmulN pn q 256))) := (if_pos ⟨isF_by _, (isQ_b4 hq).1, by rw [(isQ_b4 hq).2]; exact Pn.ok_iff.2 hq⟩).trans (by rw [nb_by32 hpn, (isQ_b4 hq).2])
set_option maxRecDepth 100000 in
theorem p_eSmall {p : Pn} (hp : p.lt) : PE3.orc 47 [Q4 p] = some (ret1 (.v (.bool (psmN p)))) := (if_pos ⟨(isQ_b4 hp).1, by rw [(isQ_b4 hp).2]; exact Pn.ok_iff.2 hp⟩).trans (by rw [(isQ_b4 hp).2])
theorem p3_eAdd {p q : Pn} (hp : p.lt) (hq : q.lt) : PE3.orc 40 [Q4 p, Q4 q] = some (ret1 (Q4 (paddN p q))) := (show PE3.orc 40 [Q4 p, Q4 q] = PE2.orc 40 [Q4 p, Q4 q] from rfl).trans (p_eAdd hp hq)
set_option maxRecDepth 100000 in
set_option maxHeartbeats 8000000 in
theorem eDecodes_gen (a V : List Int) (k : Bool) (la : a.length = 32) (lV : V.length = 128) (f1 : PE3.orc 38 [.agg (.flat .u8 a)] = some (.many [.val (.agg (.flat .u8 V)), .val (.v (.bool k))])) : execF PE3 Tryz.f14 [.agg (.flat .u8 a)] (ret1 (.v (.bool k))) := by
  have ca : (Cont.flat .u8 a).cut 0 32 = some (.flat .u8 a) := cut_all la
  have zV : layOne (.flat .u8 (List.replicate 128 0)) 0 (.flat .u8 V) = some (.flat .u8 V) := lay_all (by rw [List.length_replicate, lV]) (by omega)
  have nV : (Cont.flat .u8 V).len = 128 := lV
  have cV : (Cont.flat .u8 V).cut 0 128 = some (.flat .u8 V) := cut_all lV
  ((conv => whnf); repeat ((first | refine ⟨_, ca, ?_⟩ | refine ⟨_, cV, ?_⟩ | refine ⟨_, zV, ?_⟩ | refine ⟨nV, ?_⟩ | ((with_reducible refine isN_PE3 38 ?_); first | refine ⟨_, f1, ?_⟩) | refine ⟨_, rfl, ?_⟩ | refine ⟨by decide, ?_⟩ | refine ⟨rfl, ?_⟩ | refine ⟨fun _ => ?_, fun h => absurd h (by decide)⟩ | refine ⟨fun h => absurd h (by decide), fun _ => ?_⟩ | refine ⟨inI_of (by omega), ?_⟩ | refine ⟨⟨rfl, inI_of (by omega)⟩, ?_⟩ | refine ⟨⟨rfl, by decide⟩, ?_⟩ | (apply Exists.intro; refine ⟨?_, ?_⟩; ((try simp only); (try simp only [Nat.zero_add]); (try simp only [Nat.mul_one]); (try simp only [Int.toNat_natCast]); first | exact at_g (by omega) | exact put_flat (by omega))) | refine ⟨_, cut_all (by omega), ?_⟩ | refine ⟨_, lay_all (by omega) (by omega), ?_⟩ | refine ⟨_, lay_all (by (try simp only); (try simp only [List.length_replicate]); (try simp only [List.length_cons]); (try simp only [List.length_nil]); omega) (by omega), ?_⟩ | refine ⟨by omega, ?_⟩ | refine ⟨len_flat (by omega), ?_⟩ | refine ⟨apart_uv _ _ _, ?_⟩ | refine ⟨_, resSlot_own rfl (by omega) (by first | exact .inl rfl | exact .inr ⟨rfl, rfl⟩), ?_⟩ | refine ⟨(by kernel_rfl : regB _ = true), ?_⟩ | refine ⟨⟨rfl, inI_of (by omega), by decide⟩, ?_⟩ | (apply Exists.intro; refine ⟨?_, ?_⟩; ((try simp only); (try simp only [Nat.zero_add]); (try simp only [Nat.mul_one]); (try simp only [Int.toNat_natCast]); first | exact at_drop_g (by omega) | exact cut_rest (by omega)))); conv => whnf))
  rfl
theorem eDecodes_call (a : Nat) (ha : a < 2 ^ 256) : CallOk Tryz.prog 14 [F a] (ret1 (.v (.bool (rdOk a)))) := execF_ok follows_ok PE3_ok Tryz.func14 (eDecodes_gen _ _ _ (byk_len _ _) (b4_len _) (p_eDecode ha))
set_option maxRecDepth 100000 in
set_option maxHeartbeats 8000000 in
theorem eAddX_gen (a b V U S r : List Int) (k j : Bool) (la : a.length = 32) (lb : b.length = 32) (lV : V.length = 128) (lU : U.length = 128) (lr : r.length = 32) (f1 : PE3.orc 38 [.agg (.flat .u8 a)] = some (.many [.val (.agg (.flat .u8 V)), .val (.v (.bool k))])) (f2 : PE3.orc 38 [.agg (.flat .u8 b)] = some (.many [.val (.agg (.flat .u8 U)), .val (.v (.bool j))]))
    (f3 : PE3.orc 40 [.agg (.flat .u8 V), .agg (.flat .u8 U)] = some (ret1 (.agg (.flat .u8 S)))) (f4 : PE3.orc 39 [.agg (.flat .u8 S)] = some (ret1 (.agg (.flat .u8 r)))) :
    execF PE3 Tryz.f10 [.agg (.flat .u8 a), .agg (.flat .u8 b)] (if k && j then .many [.val (.agg (.flat .u8 r)), .val (iv .i64 0)] else .many [.val (F 0), .val (iv .i64 12)]) := by
  have ca : (Cont.flat .u8 a).cut 0 32 = some (.flat .u8 a) := cut_all la
  have cb : (Cont.flat .u8 b).cut 0 32 = some (.flat .u8 b) := cut_all lb
  have zV : layOne (.flat .u8 (List.replicate 128 0)) 0 (.flat .u8 V) = some (.flat .u8 V) := lay_all (by rw [List.length_replicate, lV]) (by omega)
  have nV : (Cont.flat .u8 V).len = 128 := lV
  have cV : (Cont.flat .u8 V).cut 0 128 = some (.flat .u8 V) := cut_all lV
  have zU : layOne (.flat .u8 (List.replicate 128 0)) 0 (.flat .u8 U) = some (.flat .u8 U) := lay_all (by rw [List.length_replicate, lU]) (by omega)
  have nU : (Cont.flat .u8 U).len = 128 := lU
  have cU : (Cont.flat .u8 U).cut 0 128 = some (.flat .u8 U) := cut_all lU
  have zr : layOne (.flat .u8 (List.replicate 32 0)) 0 (.flat .u8 r) = some (.flat .u8 r) := lay_all (by rw [List.length_replicate, lr]) (by omega)
  have nr : (Cont.flat .u8 r).len = 32 := lr
  have cr : (Cont.flat .u8 r).cut 0 32 = some (.flat .u8 r) := cut_all lr
  rw [F, by32_z]
  cases k <;> cases j
  all_goals
    ((conv => whnf); repeat ((first | refine ⟨_, ca, ?_⟩ | refine ⟨_, cb, ?_⟩ | refine ⟨_, cV, ?_⟩ | refine ⟨_, cU, ?_⟩ | refine ⟨_, cr, ?_⟩ | refine ⟨_, zV, ?_⟩ | refine ⟨nV, ?_⟩ | refine ⟨_, zU, ?_⟩ | refine ⟨nU, ?_⟩ | refine ⟨_, zr, ?_⟩ | refine ⟨nr, ?_⟩ | ((with_reducible refine isN_PE3 38 ?_); first | refine ⟨_, f1, ?_⟩ | refine ⟨_, f2, ?_⟩) | ((with_reducible refine isN_PE3 40 ?_); first | refine ⟨_, f3, ?_⟩) | ((with_reducible refine isN_PE3 39 ?_); first | refine ⟨_, f4, ?_⟩) | refine ⟨_, rfl, ?_⟩ | refine ⟨by decide, ?_⟩ | refine ⟨rfl, ?_⟩ | refine ⟨fun _ => ?_, fun h => absurd h (by decide)⟩ | refine ⟨fun h => absurd h (by decide), fun _ => ?_⟩ | refine ⟨inI_of (by omega), ?_⟩ | refine ⟨⟨rfl, inI_of (by omega)⟩, ?_⟩ | refine ⟨⟨rfl, by decide⟩, ?_⟩ | (apply Exists.intro; refine ⟨?_, ?_⟩; ((try simp only); (try simp only [Nat.zero_add]); (try simp only [Nat.mul_one]); (try simp only [Int.toNat_natCast]); first | exact at_g (by omega) | exact put_flat (by omega))) | refine ⟨_, cut_all (by omega), ?_⟩ | refine ⟨_, lay_all (by omega) (by omega), ?_⟩ | refine ⟨_, lay_all (by (try simp only); (try simp only [List.length_replicate]); (try simp only [List.length_cons]); (try simp only [List.length_nil]); omega) (by omega), ?_⟩ | refine ⟨by omega, ?_⟩ | refine ⟨len_flat (by omega), ?_⟩ | refine ⟨apart_uv _ _ _, ?_⟩ | refine ⟨_, resSlot_own rfl (by omega) (by first | exact .inl rfl | exact .inr ⟨rfl, rfl⟩), ?_⟩ | refine ⟨(by kernel_rfl : regB _ = true), ?_⟩ | refine ⟨⟨rfl, inI_of (by omega), by decide⟩, ?_⟩ | (apply Exists.intro; refine ⟨?_, ?_⟩; ((try simp only); (try simp only [Nat.zero_add]); (try simp only [Nat.mul_one]); (try simp only [Int.toNat_natCast]); first | exact at_drop_g (by omega) | exact cut_rest (by omega)))); conv => whnf))
    rfl
def paddR (a b : Nat) : LRes := if rdOk a && rdOk b then .many [.val (F (wrN (paddN (rdP a) (rdP b)))), .val (iv .i64 0)] else .many [.val (F 0), .val (iv .i64 12)]
theorem eAddX_call (a b : Nat) (ha : a < 2 ^ 256) (hb : b < 2 ^ 256) : CallOk Tryz.prog 10 [F a, F b] (paddR a b) := execF_ok follows_ok PE3_ok Tryz.func10 (eAddX_gen _ _ _ _ _ _ _ _ (byk_len _ _) (byk_len _ _) (b4_len _) (b4_len _) (byk_len _ _) (p_eDecode ha) (p_eDecode hb) (p3_eAdd (rdP_lt a) (rdP_lt b)) (p_eEncode (paddN_lt _ _)))
set_option maxRecDepth 100000 in
set_option maxHeartbeats 8000000 in
theorem eMulX_gen (q a V S r : List Int) (k : Bool) (lq : q.length = 32) (la : a.length = 32) (lV : V.length = 128) (lr : r.length = 32) (f1 : PE3.orc 38 [.agg (.flat .u8 a)] = some (.many [.val (.agg (.flat .u8 V)), .val (.v (.bool k))]))
    (f3 : PE3.orc 49 [.agg (.flat .u8 q), .agg (.flat .u8 V)] = some (ret1 (.agg (.flat .u8 S)))) (f4 : PE3.orc 39 [.agg (.flat .u8 S)] = some (ret1 (.agg (.flat .u8 r)))) :
    execF PE3 Tryz.f19 [.agg (.flat .u8 q), .agg (.flat .u8 a)] (if k then .many [.val (.agg (.flat .u8 r)), .val (iv .i64 0)] else .many [.val (F 0), .val (iv .i64 12)]) := by
  have cq : (Cont.flat .u8 q).cut 0 32 = some (.flat .u8 q) := cut_all lq
  have ca : (Cont.flat .u8 a).cut 0 32 = some (.flat .u8 a) := cut_all la
  have zV : layOne (.flat .u8 (List.replicate 128 0)) 0 (.flat .u8 V) = some (.flat .u8 V) := lay_all (by rw [List.length_replicate, lV]) (by omega)
  have nV : (Cont.flat .u8 V).len = 128 := lV
  have cV : (Cont.flat .u8 V).cut 0 128 = some (.flat .u8 V) := cut_all lV
  have zr : layOne (.flat .u8 (List.replicate 32 0)) 0 (.flat .u8 r) = some (.flat .u8 r) := lay_all (by rw [List.length_replicate, lr]) (by omega)
  have nr : (Cont.flat .u8 r).len = 32 := lr
  have cr : (Cont.flat .u8 r).cut 0 32 = some (.flat .u8 r) := cut_all lr
  rw [F, by32_z]
  cases k
  all_goals
    ((conv => whnf); repeat ((first | refine ⟨_, cq, ?_⟩ | refine ⟨_, ca, ?_⟩ | refine ⟨_, cV, ?_⟩ | refine ⟨_, cr, ?_⟩ | refine ⟨_, zV, ?_⟩ | refine ⟨nV, ?_⟩ | refine ⟨_, zr, ?_⟩ | refine ⟨nr, ?_⟩ | ((with_reducible refine isN_PE3 38 ?_); first | refine ⟨_, f1, ?_⟩) | ((with_reducible refine isN_PE3 49 ?_); first | refine ⟨_, f3, ?_⟩) | ((with_reducible refine isN_PE3 39 ?_); first | refine ⟨_, f4, ?_⟩) | refine ⟨_, rfl, ?_⟩ | refine ⟨by decide, ?_⟩ | refine ⟨rfl, ?_⟩ | refine ⟨fun _ => ?_, fun h => absurd h (by decide)⟩ | refine ⟨fun h => absurd h (by decide), fun _ => ?_⟩ | refine ⟨inI_of (by omega), ?_⟩ | refine ⟨⟨rfl, inI_of (by omega)⟩, ?_⟩ | refine ⟨⟨rfl, by decide⟩, ?_⟩ | (apply Exists.intro; refine ⟨?_, ?_⟩; ((try simp only); (try simp only [Nat.zero_add]); (try simp only [Nat.mul_one]); (try simp only [Int.toNat_natCast]); first | exact at_g (by omega) | exact put_flat (by omega))) | refine ⟨_, cut_all (by omega), ?_⟩ | refine ⟨_, lay_all (by omega) (by omega), ?_⟩ | refine ⟨_, lay_all (by (try simp only); (try simp only [List.length_replicate]); (try simp only [List.length_cons]); (try simp only [List.length_nil]); omega) (by omega), ?_⟩ | refine ⟨by omega, ?_⟩ | refine ⟨len_flat (by omega), ?_⟩ | refine ⟨apart_uv _ _ _, ?_⟩ | refine ⟨_, resSlot_own rfl (by omega) (by first | exact .inl rfl | exact .inr ⟨rfl, rfl⟩), ?_⟩ | refine ⟨(by kernel_rfl : regB _ = true), ?_⟩ | refine ⟨⟨rfl, inI_of (by omega), by decide⟩, ?_⟩ | (apply Exists.intro; refine ⟨?_, ?_⟩; ((try simp only); (try simp only [Nat.zero_add]); (try simp only [Nat.mul_one]); (try simp only [Int.toNat_natCast]); first | exact at_drop_g (by omega) | exact cut_rest (by omega)))); conv => whnf))
    rfl
def pmulR (k a : Nat) : LRes := if rdOk a then .many [.val (F (wrN (pmulN k (rdP a) 256))), .val (iv .i64 0)] else .many [.val (F 0), .val (iv .i64 12)]
theorem eMulX_call (k a : Nat) (hk : k < 2 ^ 256) (ha : a < 2 ^ 256) : CallOk Tryz.prog 19 [F k, F a] (pmulR k a) := execF_ok follows_ok PE3_ok Tryz.func19 (eMulX_gen _ _ _ _ _ _ (byk_len _ _) (byk_len _ _) (b4_len _) (byk_len _ _) (p_eDecode ha) (p_eMul hk (rdP_lt a)) (p_eEncode (pmulN_lt _ _ _)))
set_option maxRecDepth 100000 in
set_option maxHeartbeats 8000000 in
theorem eSmallX_gen (a V : List Int) (k q : Bool) (la : a.length = 32) (lV : V.length = 128) (f1 : PE3.orc 38 [.agg (.flat .u8 a)] = some (.many [.val (.agg (.flat .u8 V)), .val (.v (.bool k))])) (f3 : PE3.orc 47 [.agg (.flat .u8 V)] = some (ret1 (.v (.bool q)))) :
    execF PE3 Tryz.f16 [.agg (.flat .u8 a)] (ret1 (.v (.bool (k && q)))) := by
  have ca : (Cont.flat .u8 a).cut 0 32 = some (.flat .u8 a) := cut_all la
  have zV : layOne (.flat .u8 (List.replicate 128 0)) 0 (.flat .u8 V) = some (.flat .u8 V) := lay_all (by rw [List.length_replicate, lV]) (by omega)
  have nV : (Cont.flat .u8 V).len = 128 := lV
  have cV : (Cont.flat .u8 V).cut 0 128 = some (.flat .u8 V) := cut_all lV
  cases k <;> cases q
  all_goals
    ((conv => whnf); repeat ((first | refine ⟨_, ca, ?_⟩ | refine ⟨_, cV, ?_⟩ | refine ⟨_, zV, ?_⟩ | refine ⟨nV, ?_⟩ | ((with_reducible refine isN_PE3 38 ?_); first | refine ⟨_, f1, ?_⟩) | ((with_reducible refine isN_PE3 47 ?_); first | refine ⟨_, f3, ?_⟩) | refine ⟨_, rfl, ?_⟩ | refine ⟨by decide, ?_⟩ | refine ⟨rfl, ?_⟩ | refine ⟨fun _ => ?_, fun h => absurd h (by decide)⟩ | refine ⟨fun h => absurd h (by decide), fun _ => ?_⟩ | refine ⟨inI_of (by omega), ?_⟩ | refine ⟨⟨rfl, inI_of (by omega)⟩, ?_⟩ | refine ⟨⟨rfl, by decide⟩, ?_⟩ | (apply Exists.intro; refine ⟨?_, ?_⟩; ((try simp only); (try simp only [Nat.zero_add]); (try simp only [Nat.mul_one]); (try simp only [Int.toNat_natCast]); first | exact at_g (by omega) | exact put_flat (by omega))) | refine ⟨_, cut_all (by omega), ?_⟩ | refine ⟨_, lay_all (by omega) (by omega), ?_⟩ | refine ⟨_, lay_all (by (try simp only); (try simp only [List.length_replicate]); (try simp only [List.length_cons]); (try simp only [List.length_nil]); omega) (by omega), ?_⟩ | refine ⟨by omega, ?_⟩ | refine ⟨len_flat (by omega), ?_⟩ | refine ⟨apart_uv _ _ _, ?_⟩ | refine ⟨_, resSlot_own rfl (by omega) (by first | exact .inl rfl | exact .inr ⟨rfl, rfl⟩), ?_⟩ | refine ⟨(by kernel_rfl : regB _ = true), ?_⟩ | refine ⟨⟨rfl, inI_of (by omega), by decide⟩, ?_⟩ | (apply Exists.intro; refine ⟨?_, ?_⟩; ((try simp only); (try simp only [Nat.zero_add]); (try simp only [Nat.mul_one]); (try simp only [Int.toNat_natCast]); first | exact at_drop_g (by omega) | exact cut_rest (by omega)))); conv => whnf))
    rfl
theorem eSmallX_call (a : Nat) (ha : a < 2 ^ 256) : CallOk Tryz.prog 16 [F a] (ret1 (.v (.bool (smaN a)))) := by
  rw [sma_same ha]
  exact execF_ok follows_ok PE3_ok Tryz.func16 (eSmallX_gen _ _ _ _ (byk_len _ _) (b4_len _) (p_eDecode ha) (p_eSmall (rdP_lt a)))
theorem paddR_same {a b : Nat} (ha : a < 2 ^ 256) (hb : b < 2 ^ 256) : paddR a b = addR a b := by
  unfold paddR addR
  rcases h : rdOk a && rdOk b with _ | _
  · rw [if_neg (by decide), if_neg (by decide)]
  · rw [Bool.and_eq_true] at h
    obtain ⟨P, hP, _⟩ := rd_enc ha h.1
    obtain ⟨Q, hQ, _⟩ := rd_enc hb h.2
    rw [wr_enc (For_padd hP hQ), wr_enc (For_sum hP hQ)]
theorem pmulR_same {k a : Nat} (hk : k < 2 ^ 256) (ha : a < 2 ^ 256) : pmulR k a = mulR k a := by
  unfold pmulR mulR
  rcases h : rdOk a with _ | _
  · rw [if_neg (by decide), if_neg (by decide)]
  · obtain ⟨P, hP, _⟩ := rd_enc ha h
    rw [wr_enc (For_pmul hk hP), wr_enc (For_tim hk hP)]
end Go.Proofs.YtdeigmjbcbjgeaaGreatDoor
