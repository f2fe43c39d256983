/-
  Layer 10: the answer's Opposite, Base, BasePoint, Decodes, Add, Mult, Small.
-/
import Derived.Test.YtdeigmjbcbjgeaaGreatDoorYaEB
namespace Go.Proofs.YtdeigmjbcbjgeaaGreatDoor
open Go.RowKit

def baseN : Nat := 46316835694926478169428394003475163141307993866256225615783033603165251855960
theorem rWrite_row {a : List Int} (hc : isP a = true ∧ (pnOf a).ok = true) : CallOk Tryz.prog 42 [.agg (.flat .u64 a)] (ret1 (F (wrN (pnOf a)))) := by
  have h := execF_ok follows_ok EE1_ok Tryz.func42 (rWrite_exec (pnOf a) (Pn.ok_iff.1 hc.2))
  rwa [P4, ← isP_eq hc.1] at h
theorem rTimes10_row {a b : List Int} (hc : isF a = true ∧ isP b = true ∧ (pnOf b).ok = true) : CallOk Tryz.prog 48 [.agg (.flat .u8 a), .agg (.flat .u64 b)] (ret1 (P4 (timN dN (nb a) (pnOf b) 256))) := by
  have h := execF_ok follows_ok EE1_ok Tryz.func48 (rTimes10_exec (nb a) a (pnOf b) (isF_eq hc.1) (Pn.ok_iff.1 hc.2.2))
  rwa [P4, ← isP_eq hc.2.1] at h
theorem rRead10_call (a : Nat) (ha : a < 2 ^ 256) : CallOk Tryz.prog 41 [F a] (.many [.val (P4 (rdP a)), .val (.v (.bool (rdOk a)))]) := execF_ok follows_ok EE1_ok Tryz.func41 (rRead_exec a ha)
set_option maxRecDepth 100000 in
theorem rBase_call : CallOk Tryz.prog 13 [] (ret1 (F baseN)) := runF_ok follows_ok EE1_ok Tryz.func13 (fuel := 1000) (by kernel_rfl)
theorem rRead10_row {a : List Int} (hc : isF a = true) : CallOk Tryz.prog 41 [.agg (.flat .u8 a)] (.many [.val (P4 (rdP (nb a))), .val (.v (.bool (rdOk (nb a))))]) := by
  have h0 := hc
  clear hc
  have e0 := isF_eq h0
  have l0 := nb32_lt h0
  clear h0
  generalize nb a = n0 at *
  subst e0
  exact rRead10_call n0 l0 
def orcE2 (f : Nat) (ds : List LV) : Option LRes :=
  match f with
  | 41 => match ds with
    | [.agg (.flat .u8 a)] => if isF a = true then some (.many [.val (P4 (rdP (nb a))), .val (.v (.bool (rdOk (nb a))))]) else none
    | _ => none
  | 13 => match ds with
    | [] => some (ret1 (F baseN))
    | _ => none
  | 42 => match ds with
    | [.agg (.flat .u64 a)] => if isP a = true ∧ (pnOf a).ok = true then some (ret1 (F (wrN (pnOf a)))) else none
    | _ => none
  | 48 => match ds with
    | [.agg (.flat .u8 a), .agg (.flat .u64 b)] => if isF a = true ∧ isP b = true ∧ (pnOf b).ok = true then some (ret1 (P4 (timN dN (nb a) (pnOf b) 256))) else none
    | _ => none
  | _ => orcE1 f ds
theorem orcE2_ok : Known Tryz.prog orcE2 := by
  intro f ds r h
  unfold orcE2 at h
  split at h
  · split at h
    · split at h
      · rename_i hc
        cases h
        exact .inl ⟨⟨_, Tryz.func41, name_ne _ (by kernel_rfl), rfl⟩, rRead10_row hc⟩
      · cases h
    · cases h
  · split at h
    · cases h
      exact .inl ⟨⟨_, Tryz.func13, name_ne _ (by kernel_rfl), rfl⟩, rBase_call⟩
    · cases h
  · split at h
    · split at h
      · rename_i hc
        cases h
        exact .inl ⟨⟨_, Tryz.func42, name_ne _ (by kernel_rfl), rfl⟩, rWrite_row hc⟩
      · cases h
    · cases h
  · split at h
    · split at h
      · rename_i hc
        cases h
        exact .inl ⟨⟨_, Tryz.func48, name_ne _ (by kernel_rfl), rfl⟩, rTimes10_row hc⟩
      · cases h
    · cases h
  · exact orcE1_ok f ds r h
def EE2 : Env := ⟨tyL, orcE2, false, noWk, noOrw⟩
theorem EE2_ok : EnvOk Tryz.prog EE2 := ⟨tyL_ok, orcE2_ok, noOrw_ok⟩
set_option maxRecDepth 100000 in
theorem o_rRead10 {a : Nat} (ha : a < 2 ^ 256) : EE2.orc 41 [F a] = some (.many [.val (P4 (rdP a)), .val (.v (.bool (rdOk a)))]) :=
  (if_pos (isF_by _)).trans (by rw [nb_by32 ha])
theorem isN_EE2 (f : Nat) {ds : List LV} {K : LRes → Prop} (h : ∃ y, EE2.orc f ds = some y ∧ K y) : ∃ y, EE2.orc f ds = some y ∧ K y := h
theorem e2_Write {p : Pn} (hp : p.lt) : EE2.orc 42 [P4 p] = some (ret1 (F (wrN p))) := (if_pos ⟨(isP_w4 hp).1, by rw [(isP_w4 hp).2]; exact Pn.ok_iff.2 hp⟩).trans (by rw [(isP_w4 hp).2])
set_option maxRecDepth 100000 in
theorem e2_Times {k : Nat} {p : Pn} (hk : k < 2 ^ 256) (hp : p.lt) : EE2.orc 48 [F k, P4 p] = some (ret1 (P4 (timN dN k p 256))) := (if_pos ⟨isF_by _, (isP_w4 hp).1, by rw [(isP_w4 hp).2]; exact Pn.ok_iff.2 hp⟩).trans (by rw [(isP_w4 hp).2, nb_by32 hk])
theorem e2_Sum {p q : Pn} {d : Nat} (hp : p.lt) (hq : q.lt) (hd : d < pP) : EE2.orc 43 [P4 p, P4 q, W d] = some (ret1 (P4 (sumN d p q))) := (show EE2.orc 43 [P4 p, P4 q, W d] = EE1.orc 43 [P4 p, P4 q, W d] from rfl).trans (e_Sum hp hq hd)
theorem e2_D : EE2.orc 44 [] = some (ret1 (W dN)) := rfl
/-- The negative of a point. -/
def oppN (p : Pn) : Pn := ⟨nS 0 p.x, p.y, p.z, nS 0 p.t⟩
set_option maxRecDepth 100000 in
set_option maxHeartbeats 8000000 in
theorem dec_gen (a V : List Int) (k : Bool) (la : a.length = 32) (lV : V.length = 16) (f1 : (EE2.orc 41 [.agg (.flat .u8 a)] = some (.many [.val (.agg (.flat .u64 V)), .val (.v (.bool k))]))) : execF EE2 Tryz.f15 [.agg (.flat .u8 a)] (ret1 (.v (.bool k))) := by
  have ca : (Cont.flat .u8 a).cut 0 32 = some (.flat .u8 a) := cut_all la
  have zV : layOne (.flat .u64 (List.replicate 16 0)) 0 (.flat .u64 V) = some (.flat .u64 V) := lay_all (by rw [List.length_replicate, lV]) (by omega)
  have nV : (Cont.flat .u64 V).len = 16 := lV
  have cV : (Cont.flat .u64 V).cut 0 16 = some (.flat .u64 V) := cut_all lV
  ((conv => whnf); repeat ((first | refine ⟨_, ca, ?_⟩ | refine ⟨_, zV, ?_⟩ | refine ⟨nV, ?_⟩ | refine ⟨_, cV, ?_⟩ | ((with_reducible refine isN_EE2 41 ?_); first | refine ⟨_, f1, ?_⟩) | refine ⟨_, rfl, ?_⟩ | refine ⟨by decide, ?_⟩ | refine ⟨rfl, ?_⟩ | refine ⟨fun _ => ?_, fun h => absurd h (by decide)⟩ | refine ⟨fun h => absurd h (by decide), fun _ => ?_⟩ | refine ⟨inI_of (by omega), ?_⟩ | refine ⟨⟨rfl, inI_of (by omega)⟩, ?_⟩ | refine ⟨⟨rfl, by decide⟩, ?_⟩ | (apply Exists.intro; refine ⟨?_, ?_⟩; ((try simp only); (try simp only [Nat.zero_add]); (try simp only [Nat.mul_one]); (try simp only [Int.toNat_natCast]); first | exact at_g (by omega) | exact put_flat (by omega))) | refine ⟨_, cut_all (by omega), ?_⟩ | refine ⟨_, lay_all (by omega) (by omega), ?_⟩ | refine ⟨_, lay_all (by (try simp only); (try simp only [List.length_replicate]); (try simp only [List.length_cons]); (try simp only [List.length_nil]); omega) (by omega), ?_⟩ | refine ⟨by omega, ?_⟩ | refine ⟨len_flat (by omega), ?_⟩ | refine ⟨apart_uv _ _ _, ?_⟩ | refine ⟨_, resSlot_own rfl (by omega) (by first | exact .inl rfl | exact .inr ⟨rfl, rfl⟩), ?_⟩ | refine ⟨(by kernel_rfl : regB _ = true), ?_⟩ | refine ⟨⟨rfl, inI_of (by omega), by decide⟩, ?_⟩ | (apply Exists.intro; refine ⟨?_, ?_⟩; ((try simp only); (try simp only [Nat.zero_add]); (try simp only [Nat.mul_one]); (try simp only [Int.toNat_natCast]); first | exact at_drop_g (by omega) | exact cut_rest (by omega)))); conv => whnf))
  rfl
theorem rDec_call (a : Nat) (ha : a < 2 ^ 256) : CallOk Tryz.prog 15 [F a] (ret1 (.v (.bool (rdOk a)))) := execF_ok follows_ok EE2_ok Tryz.func15 (dec_gen _ _ _ (byk_len _ _) (w4_len _) (o_rRead10 ha))
theorem by32_z : by32 0 = List.replicate 32 0 := by kernel_rfl
set_option maxRecDepth 100000 in
set_option maxHeartbeats 8000000 in
theorem add_gen (a b V U S D r : List Int) (k j : Bool) (la : a.length = 32) (lb : b.length = 32) (lV : V.length = 16) (lU : U.length = 16) (_ : S.length = 16) (lr : r.length = 32) (f1 : (EE2.orc 41 [.agg (.flat .u8 a)] = some (.many [.val (.agg (.flat .u64 V)), .val (.v (.bool k))]))) (f2 : (EE2.orc 41 [.agg (.flat .u8 b)] = some (.many [.val (.agg (.flat .u64 U)), .val (.v (.bool j))]))) (f3 : EE2.orc 44 [] = some (ret1 (.agg (.flat .u64 D)))) (f4 : EE2.orc 43 [.agg (.flat .u64 V), .agg (.flat .u64 U), .agg (.flat .u64 D)] = some (ret1 (.agg (.flat .u64 S)))) (f5 : EE2.orc 42 [.agg (.flat .u64 S)] = some (ret1 (.agg (.flat .u8 r)))) :
    execF EE2 Tryz.f11 [.agg (.flat .u8 a), .agg (.flat .u8 b)] (if k && j then .many [.val (.agg (.flat .u8 r)), .val (iv .i64 0)] else .many [.val (F 0), .val (iv .i64 12)]) := by
  have ca : (Cont.flat .u8 a).cut 0 32 = some (.flat .u8 a) := cut_all la
  have cb : (Cont.flat .u8 b).cut 0 32 = some (.flat .u8 b) := cut_all lb
  have zV : layOne (.flat .u64 (List.replicate 16 0)) 0 (.flat .u64 V) = some (.flat .u64 V) := lay_all (by rw [List.length_replicate, lV]) (by omega)
  have nV : (Cont.flat .u64 V).len = 16 := lV
  have cV : (Cont.flat .u64 V).cut 0 16 = some (.flat .u64 V) := cut_all lV
  have zU : layOne (.flat .u64 (List.replicate 16 0)) 0 (.flat .u64 U) = some (.flat .u64 U) := lay_all (by rw [List.length_replicate, lU]) (by omega)
  have nU : (Cont.flat .u64 U).len = 16 := lU
  have cU : (Cont.flat .u64 U).cut 0 16 = some (.flat .u64 U) := cut_all lU
  have zr : layOne (.flat .u8 (List.replicate 32 0)) 0 (.flat .u8 r) = some (.flat .u8 r) := lay_all (by rw [List.length_replicate, lr]) (by omega)
  have nr : (Cont.flat .u8 r).len = 32 := lr
  have cr : (Cont.flat .u8 r).cut 0 32 = some (.flat .u8 r) := cut_all lr
  rw [F, by32_z]
  cases k <;> cases j
  all_goals
    ((conv => whnf); repeat ((first | refine ⟨_, ca, ?_⟩ | refine ⟨_, cb, ?_⟩ | refine ⟨_, zV, ?_⟩ | refine ⟨nV, ?_⟩ | refine ⟨_, cV, ?_⟩ | refine ⟨_, zU, ?_⟩ | refine ⟨nU, ?_⟩ | refine ⟨_, cU, ?_⟩ | refine ⟨_, zr, ?_⟩ | refine ⟨nr, ?_⟩ | refine ⟨_, cr, ?_⟩ | ((with_reducible refine isN_EE2 41 ?_); first | refine ⟨_, f1, ?_⟩ | refine ⟨_, f2, ?_⟩) | ((with_reducible refine isN_EE2 44 ?_); first | refine ⟨_, f3, ?_⟩) | ((with_reducible refine isN_EE2 43 ?_); first | refine ⟨_, f4, ?_⟩) | ((with_reducible refine isN_EE2 42 ?_); first | refine ⟨_, f5, ?_⟩) | refine ⟨_, rfl, ?_⟩ | refine ⟨by decide, ?_⟩ | refine ⟨rfl, ?_⟩ | refine ⟨fun _ => ?_, fun h => absurd h (by decide)⟩ | refine ⟨fun h => absurd h (by decide), fun _ => ?_⟩ | refine ⟨inI_of (by omega), ?_⟩ | refine ⟨⟨rfl, inI_of (by omega)⟩, ?_⟩ | refine ⟨⟨rfl, by decide⟩, ?_⟩ | (apply Exists.intro; refine ⟨?_, ?_⟩; ((try simp only); (try simp only [Nat.zero_add]); (try simp only [Nat.mul_one]); (try simp only [Int.toNat_natCast]); first | exact at_g (by omega) | exact put_flat (by omega))) | refine ⟨_, cut_all (by omega), ?_⟩ | refine ⟨_, lay_all (by omega) (by omega), ?_⟩ | refine ⟨_, lay_all (by (try simp only); (try simp only [List.length_replicate]); (try simp only [List.length_cons]); (try simp only [List.length_nil]); omega) (by omega), ?_⟩ | refine ⟨by omega, ?_⟩ | refine ⟨len_flat (by omega), ?_⟩ | refine ⟨apart_uv _ _ _, ?_⟩ | refine ⟨_, resSlot_own rfl (by omega) (by first | exact .inl rfl | exact .inr ⟨rfl, rfl⟩), ?_⟩ | refine ⟨(by kernel_rfl : regB _ = true), ?_⟩ | refine ⟨⟨rfl, inI_of (by omega), by decide⟩, ?_⟩ | (apply Exists.intro; refine ⟨?_, ?_⟩; ((try simp only); (try simp only [Nat.zero_add]); (try simp only [Nat.mul_one]); (try simp only [Int.toNat_natCast]); first | exact at_drop_g (by omega) | exact cut_rest (by omega)))); conv => whnf))
    rfl
def addR (a b : Nat) : LRes := if rdOk a && rdOk b then .many [.val (F (wrN (sumN dN (rdP a) (rdP b)))), .val (iv .i64 0)] else .many [.val (F 0), .val (iv .i64 12)]
theorem rAdd10_call (a b : Nat) (ha : a < 2 ^ 256) (hb : b < 2 ^ 256) : CallOk Tryz.prog 11 [F a, F b] (addR a b) := execF_ok follows_ok EE2_ok Tryz.func11 (add_gen _ _ _ _ _ _ _ _ _ (byk_len _ _) (byk_len _ _) (w4_len _) (w4_len _) (w4_len _) (byk_len _ _) (o_rRead10 ha) (o_rRead10 hb) e2_D (e2_Sum (rdP_lt a) (rdP_lt b) dN_lt) (e2_Write (sumN_lt _ _ _)))
set_option maxRecDepth 100000 in
set_option maxHeartbeats 8000000 in
theorem mul_gen (q a V S r : List Int) (k : Bool) (lq : q.length = 32) (la : a.length = 32) (lV : V.length = 16) (_ : S.length = 16) (lr : r.length = 32) (f1 : (EE2.orc 41 [.agg (.flat .u8 a)] = some (.many [.val (.agg (.flat .u64 V)), .val (.v (.bool k))]))) (f4 : EE2.orc 48 [.agg (.flat .u8 q), .agg (.flat .u64 V)] = some (ret1 (.agg (.flat .u64 S)))) (f5 : EE2.orc 42 [.agg (.flat .u64 S)] = some (ret1 (.agg (.flat .u8 r)))) :
    execF EE2 Tryz.f20 [.agg (.flat .u8 q), .agg (.flat .u8 a)] (if k then .many [.val (.agg (.flat .u8 r)), .val (iv .i64 0)] else .many [.val (F 0), .val (iv .i64 12)]) := by
  have ca : (Cont.flat .u8 a).cut 0 32 = some (.flat .u8 a) := cut_all la
  have cq : (Cont.flat .u8 q).cut 0 32 = some (.flat .u8 q) := cut_all lq
  have zV : layOne (.flat .u64 (List.replicate 16 0)) 0 (.flat .u64 V) = some (.flat .u64 V) := lay_all (by rw [List.length_replicate, lV]) (by omega)
  have nV : (Cont.flat .u64 V).len = 16 := lV
  have cV : (Cont.flat .u64 V).cut 0 16 = some (.flat .u64 V) := cut_all lV
  have zr : layOne (.flat .u8 (List.replicate 32 0)) 0 (.flat .u8 r) = some (.flat .u8 r) := lay_all (by rw [List.length_replicate, lr]) (by omega)
  have nr : (Cont.flat .u8 r).len = 32 := lr
  have cr : (Cont.flat .u8 r).cut 0 32 = some (.flat .u8 r) := cut_all lr
  rw [F, by32_z]
  cases k
  all_goals
    ((conv => whnf); repeat ((first | refine ⟨_, ca, ?_⟩ | refine ⟨_, cq, ?_⟩ | refine ⟨_, zV, ?_⟩ | refine ⟨nV, ?_⟩ | refine ⟨_, cV, ?_⟩ | refine ⟨_, zr, ?_⟩ | refine ⟨nr, ?_⟩ | refine ⟨_, cr, ?_⟩ | ((with_reducible refine isN_EE2 41 ?_); first | refine ⟨_, f1, ?_⟩) | ((with_reducible refine isN_EE2 48 ?_); first | refine ⟨_, f4, ?_⟩) | ((with_reducible refine isN_EE2 42 ?_); first | refine ⟨_, f5, ?_⟩) | refine ⟨_, rfl, ?_⟩ | refine ⟨by decide, ?_⟩ | refine ⟨rfl, ?_⟩ | refine ⟨fun _ => ?_, fun h => absurd h (by decide)⟩ | refine ⟨fun h => absurd h (by decide), fun _ => ?_⟩ | refine ⟨inI_of (by omega), ?_⟩ | refine ⟨⟨rfl, inI_of (by omega)⟩, ?_⟩ | refine ⟨⟨rfl, by decide⟩, ?_⟩ | (apply Exists.intro; refine ⟨?_, ?_⟩; ((try simp only); (try simp only [Nat.zero_add]); (try simp only [Nat.mul_one]); (try simp only [Int.toNat_natCast]); first | exact at_g (by omega) | exact put_flat (by omega))) | refine ⟨_, cut_all (by omega), ?_⟩ | refine ⟨_, lay_all (by omega) (by omega), ?_⟩ | refine ⟨_, lay_all (by (try simp only); (try simp only [List.length_replicate]); (try simp only [List.length_cons]); (try simp only [List.length_nil]); omega) (by omega), ?_⟩ | refine ⟨by omega, ?_⟩ | refine ⟨len_flat (by omega), ?_⟩ | refine ⟨apart_uv _ _ _, ?_⟩ | refine ⟨_, resSlot_own rfl (by omega) (by first | exact .inl rfl | exact .inr ⟨rfl, rfl⟩), ?_⟩ | refine ⟨(by kernel_rfl : regB _ = true), ?_⟩ | refine ⟨⟨rfl, inI_of (by omega), by decide⟩, ?_⟩ | (apply Exists.intro; refine ⟨?_, ?_⟩; ((try simp only); (try simp only [Nat.zero_add]); (try simp only [Nat.mul_one]); (try simp only [Int.toNat_natCast]); first | exact at_drop_g (by omega) | exact cut_rest (by omega)))); conv => whnf))
    rfl
def mulR (k a : Nat) : LRes := if rdOk a then .many [.val (F (wrN (timN dN k (rdP a) 256))), .val (iv .i64 0)] else .many [.val (F 0), .val (iv .i64 12)]
theorem rMult10_call (k a : Nat) (hk : k < 2 ^ 256) (ha : a < 2 ^ 256) : CallOk Tryz.prog 20 [F k, F a] (mulR k a) := execF_ok follows_ok EE2_ok Tryz.func20 (mul_gen _ _ _ _ _ _ (byk_len _ _) (byk_len _ _) (w4_len _) (w4_len _) (byk_len _ _) (o_rRead10 ha) (e2_Times hk (rdP_lt a)) (e2_Write (timN_lt _ _ _ _)))
theorem eql_goE {a b : List Int} {q : Bool} {K : LV × List (Nat × Blk) → Prop} (ha : a.length = 32) (hb : b.length = 32) (hq : (a == b) = q) (h : K (.v (.bool q), [])) : runs (opBin EE2 .eql 23 (.agg (.flat .u8 a)) (.agg (.flat .u8 b))) K := by
  have e : opBin EE2 .eql 23 (.agg (.flat .u8 a)) (.agg (.flat .u8 b)) = some (.v (.bool (a == b)), []) := if_pos ⟨rfl, ha, hb⟩
  rw [e, hq]
  exact h
theorem by32_8 : by32 8 = [8, 0, 0, 0, 0, 0, 0, 0, 0, 0, 0, 0, 0, 0, 0, 0, 0, 0, 0, 0, 0, 0, 0, 0, 0, 0, 0, 0, 0, 0, 0, 0] := by kernel_rfl
theorem by32_1 : by32 1 = [1, 0, 0, 0, 0, 0, 0, 0, 0, 0, 0, 0, 0, 0, 0, 0, 0, 0, 0, 0, 0, 0, 0, 0, 0, 0, 0, 0, 0, 0, 0, 0] := by kernel_rfl
set_option maxRecDepth 100000 in
set_option maxHeartbeats 8000000 in
theorem small_gen (a V S r : List Int) (k q : Bool) (la : a.length = 32) (lV : V.length = 16) (_ : S.length = 16) (lr : r.length = 32) (f1 : (EE2.orc 41 [.agg (.flat .u8 a)] = some (.many [.val (.agg (.flat .u64 V)), .val (.v (.bool k))]))) (f4 : EE2.orc 48 [.agg (.flat .u8 [8, 0, 0, 0, 0, 0, 0, 0, 0, 0, 0, 0, 0, 0, 0, 0, 0, 0, 0, 0, 0, 0, 0, 0, 0, 0, 0, 0, 0, 0, 0, 0]), .agg (.flat .u64 V)] = some (ret1 (.agg (.flat .u64 S)))) (f5 : EE2.orc 42 [.agg (.flat .u64 S)] = some (ret1 (.agg (.flat .u8 r)))) (hq : (r == [1, 0, 0, 0, 0, 0, 0, 0, 0, 0, 0, 0, 0, 0, 0, 0, 0, 0, 0, 0, 0, 0, 0, 0, 0, 0, 0, 0, 0, 0, 0, 0]) = q) :
    execF EE2 Tryz.f17 [.agg (.flat .u8 a)] (ret1 (.v (.bool (k && q)))) := by
  have ca : (Cont.flat .u8 a).cut 0 32 = some (.flat .u8 a) := cut_all la
  have zV : layOne (.flat .u64 (List.replicate 16 0)) 0 (.flat .u64 V) = some (.flat .u64 V) := lay_all (by rw [List.length_replicate, lV]) (by omega)
  have nV : (Cont.flat .u64 V).len = 16 := lV
  have cV : (Cont.flat .u64 V).cut 0 16 = some (.flat .u64 V) := cut_all lV
  cases k
  · show execF _ _ _ (ret1 (.v (.bool false)))
    ((conv => whnf); repeat ((first | refine ⟨_, ca, ?_⟩ | refine ⟨_, zV, ?_⟩ | refine ⟨nV, ?_⟩ | refine ⟨_, cV, ?_⟩ | ((with_reducible refine isN_EE2 41 ?_); first | refine ⟨_, f1, ?_⟩) | ((with_reducible refine isN_EE2 48 ?_); first | refine ⟨_, f4, ?_⟩) | ((with_reducible refine isN_EE2 42 ?_); first | refine ⟨_, f5, ?_⟩) | refine ⟨_, rfl, ?_⟩ | refine ⟨by decide, ?_⟩ | refine ⟨rfl, ?_⟩ | refine ⟨fun _ => ?_, fun h => absurd h (by decide)⟩ | refine ⟨fun h => absurd h (by decide), fun _ => ?_⟩ | refine ⟨inI_of (by omega), ?_⟩ | refine ⟨⟨rfl, inI_of (by omega)⟩, ?_⟩ | refine ⟨⟨rfl, by decide⟩, ?_⟩ | (apply Exists.intro; refine ⟨?_, ?_⟩; ((try simp only); (try simp only [Nat.zero_add]); (try simp only [Nat.mul_one]); (try simp only [Int.toNat_natCast]); first | exact at_g (by omega) | exact put_flat (by omega))) | refine ⟨_, cut_all (by omega), ?_⟩ | refine ⟨_, lay_all (by omega) (by omega), ?_⟩ | refine ⟨_, lay_all (by (try simp only); (try simp only [List.length_replicate]); (try simp only [List.length_cons]); (try simp only [List.length_nil]); omega) (by omega), ?_⟩ | refine ⟨by omega, ?_⟩ | refine ⟨len_flat (by omega), ?_⟩ | refine ⟨apart_uv _ _ _, ?_⟩ | refine ⟨_, resSlot_own rfl (by omega) (by first | exact .inl rfl | exact .inr ⟨rfl, rfl⟩), ?_⟩ | refine ⟨(by kernel_rfl : regB _ = true), ?_⟩ | refine ⟨⟨rfl, inI_of (by omega), by decide⟩, ?_⟩ | (apply Exists.intro; refine ⟨?_, ?_⟩; ((try simp only); (try simp only [Nat.zero_add]); (try simp only [Nat.mul_one]); (try simp only [Int.toNat_natCast]); first | exact at_drop_g (by omega) | exact cut_rest (by omega)))); conv => whnf))
    rfl
  · show execF _ _ _ (ret1 (.v (.bool q)))
    ((conv => whnf); repeat ((first | refine ⟨_, ca, ?_⟩ | refine ⟨_, zV, ?_⟩ | refine ⟨nV, ?_⟩ | refine ⟨_, cV, ?_⟩ | ((with_reducible refine isN_EE2 41 ?_); first | refine ⟨_, f1, ?_⟩) | ((with_reducible refine isN_EE2 48 ?_); first | refine ⟨_, f4, ?_⟩) | ((with_reducible refine isN_EE2 42 ?_); first | refine ⟨_, f5, ?_⟩) | refine ⟨_, rfl, ?_⟩ | refine ⟨by decide, ?_⟩ | refine ⟨rfl, ?_⟩ | refine ⟨fun _ => ?_, fun h => absurd h (by decide)⟩ | refine ⟨fun h => absurd h (by decide), fun _ => ?_⟩ | refine ⟨inI_of (by omega), ?_⟩ | refine ⟨⟨rfl, inI_of (by omega)⟩, ?_⟩ | refine ⟨⟨rfl, by decide⟩, ?_⟩ | (apply Exists.intro; refine ⟨?_, ?_⟩; ((try simp only); (try simp only [Nat.zero_add]); (try simp only [Nat.mul_one]); (try simp only [Int.toNat_natCast]); first | exact at_g (by omega) | exact put_flat (by omega))) | refine ⟨_, cut_all (by omega), ?_⟩ | refine ⟨_, lay_all (by omega) (by omega), ?_⟩ | refine ⟨_, lay_all (by (try simp only); (try simp only [List.length_replicate]); (try simp only [List.length_cons]); (try simp only [List.length_nil]); omega) (by omega), ?_⟩ | refine ⟨by omega, ?_⟩ | refine ⟨len_flat (by omega), ?_⟩ | refine ⟨apart_uv _ _ _, ?_⟩ | refine ⟨_, resSlot_own rfl (by omega) (by first | exact .inl rfl | exact .inr ⟨rfl, rfl⟩), ?_⟩ | refine ⟨(by kernel_rfl : regB _ = true), ?_⟩ | refine ⟨⟨rfl, inI_of (by omega), by decide⟩, ?_⟩ | (apply Exists.intro; refine ⟨?_, ?_⟩; ((try simp only); (try simp only [Nat.zero_add]); (try simp only [Nat.mul_one]); (try simp only [Int.toNat_natCast]); first | exact at_drop_g (by omega) | exact cut_rest (by omega)))); conv => whnf))
    refine eql_goE lr rfl hq ?_
    clear hq
    cases q
    · skip
      ((conv => whnf); repeat ((first | refine ⟨_, ca, ?_⟩ | refine ⟨_, zV, ?_⟩ | refine ⟨nV, ?_⟩ | refine ⟨_, cV, ?_⟩ | ((with_reducible refine isN_EE2 41 ?_); first | refine ⟨_, f1, ?_⟩) | ((with_reducible refine isN_EE2 48 ?_); first | refine ⟨_, f4, ?_⟩) | ((with_reducible refine isN_EE2 42 ?_); first | refine ⟨_, f5, ?_⟩) | refine ⟨_, rfl, ?_⟩ | refine ⟨by decide, ?_⟩ | refine ⟨rfl, ?_⟩ | refine ⟨fun _ => ?_, fun h => absurd h (by decide)⟩ | refine ⟨fun h => absurd h (by decide), fun _ => ?_⟩ | refine ⟨inI_of (by omega), ?_⟩ | refine ⟨⟨rfl, inI_of (by omega)⟩, ?_⟩ | refine ⟨⟨rfl, by decide⟩, ?_⟩ | (apply Exists.intro; refine ⟨?_, ?_⟩; ((try simp only); (try simp only [Nat.zero_add]); (try simp only [Nat.mul_one]); (try simp only [Int.toNat_natCast]); first | exact at_g (by omega) | exact put_flat (by omega))) | refine ⟨_, cut_all (by omega), ?_⟩ | refine ⟨_, lay_all (by omega) (by omega), ?_⟩ | refine ⟨_, lay_all (by (try simp only); (try simp only [List.length_replicate]); (try simp only [List.length_cons]); (try simp only [List.length_nil]); omega) (by omega), ?_⟩ | refine ⟨by omega, ?_⟩ | refine ⟨len_flat (by omega), ?_⟩ | refine ⟨apart_uv _ _ _, ?_⟩ | refine ⟨_, resSlot_own rfl (by omega) (by first | exact .inl rfl | exact .inr ⟨rfl, rfl⟩), ?_⟩ | refine ⟨(by kernel_rfl : regB _ = true), ?_⟩ | refine ⟨⟨rfl, inI_of (by omega), by decide⟩, ?_⟩ | (apply Exists.intro; refine ⟨?_, ?_⟩; ((try simp only); (try simp only [Nat.zero_add]); (try simp only [Nat.mul_one]); (try simp only [Int.toNat_natCast]); first | exact at_drop_g (by omega) | exact cut_rest (by omega)))); conv => whnf))
      rfl
    · skip
      ((conv => whnf); repeat ((first | refine ⟨_, ca, ?_⟩ | refine ⟨_, zV, ?_⟩ | refine ⟨nV, ?_⟩ | refine ⟨_, cV, ?_⟩ | ((with_reducible refine isN_EE2 41 ?_); first | refine ⟨_, f1, ?_⟩) | ((with_reducible refine isN_EE2 48 ?_); first | refine ⟨_, f4, ?_⟩) | ((with_reducible refine isN_EE2 42 ?_); first | refine ⟨_, f5, ?_⟩) | refine ⟨_, rfl, ?_⟩ | refine ⟨by decide, ?_⟩ | refine ⟨rfl, ?_⟩ | refine ⟨fun _ => ?_, fun h => absurd h (by decide)⟩ | refine ⟨fun h => absurd h (by decide), fun _ => ?_⟩ | refine ⟨inI_of (by omega), ?_⟩ | refine ⟨⟨rfl, inI_of (by omega)⟩, ?_⟩ | refine ⟨⟨rfl, by decide⟩, ?_⟩ | (apply Exists.intro; refine ⟨?_, ?_⟩; ((try simp only); (try simp only [Nat.zero_add]); (try simp only [Nat.mul_one]); (try simp only [Int.toNat_natCast]); first | exact at_g (by omega) | exact put_flat (by omega))) | refine ⟨_, cut_all (by omega), ?_⟩ | refine ⟨_, lay_all (by omega) (by omega), ?_⟩ | refine ⟨_, lay_all (by (try simp only); (try simp only [List.length_replicate]); (try simp only [List.length_cons]); (try simp only [List.length_nil]); omega) (by omega), ?_⟩ | refine ⟨by omega, ?_⟩ | refine ⟨len_flat (by omega), ?_⟩ | refine ⟨apart_uv _ _ _, ?_⟩ | refine ⟨_, resSlot_own rfl (by omega) (by first | exact .inl rfl | exact .inr ⟨rfl, rfl⟩), ?_⟩ | refine ⟨(by kernel_rfl : regB _ = true), ?_⟩ | refine ⟨⟨rfl, inI_of (by omega), by decide⟩, ?_⟩ | (apply Exists.intro; refine ⟨?_, ?_⟩; ((try simp only); (try simp only [Nat.zero_add]); (try simp only [Nat.mul_one]); (try simp only [Int.toNat_natCast]); first | exact at_drop_g (by omega) | exact cut_rest (by omega)))); conv => whnf))
      rfl
def smaN (a : Nat) : Bool := rdOk a && decide (wrN (timN dN 8 (rdP a) 256) = 1)
theorem rSmall_call (a : Nat) (ha : a < 2 ^ 256) : CallOk Tryz.prog 17 [F a] (ret1 (.v (.bool (smaN a)))) := by
  have f4 := e2_Times (k := 8) (by decide) (rdP_lt a)
  have hq := beq_by (wrN_lt (timN dN 8 (rdP a) 256)) (show 1 < 2 ^ 256 by decide)
  rw [F, by32_8] at f4
  rw [by32_1] at hq
  exact execF_ok follows_ok EE2_ok Tryz.func17 (small_gen _ _ _ _ _ _ (byk_len _ _) (w4_len _) (w4_len _) (byk_len _ _) (o_rRead10 ha) f4 (e2_Write (timN_lt _ _ _ _)) hq)
end Go.Proofs.YtdeigmjbcbjgeaaGreatDoor
