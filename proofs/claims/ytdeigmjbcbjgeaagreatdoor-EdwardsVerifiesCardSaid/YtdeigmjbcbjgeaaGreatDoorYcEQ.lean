import Derived.Test.YtdeigmjbcbjgeaaGreatDoorYcEI
import Derived.Test.YtdeigmjbcbjgeaaGreatDoorYcMkP
namespace Go.Proofs.YtdeigmjbcbjgeaaGreatDoor
open Go.RowKit
theorem eAddY_call (a b : Nat) (ha : a < 2 ^ 256) (hb : b < 2 ^ 256) : CallOk Tryz.prog 10 [F a, F b] (addR a b) := by
 rw [← paddR_same ha hb]
 exact eAddX_call a b ha hb
theorem eMulY_call (a b : Nat) (ha : a < 2 ^ 256) (hb : b < 2 ^ 256) : CallOk Tryz.prog 19 [F a, F b] (mulR a b) := by
 rw [← pmulR_same ha hb]
 exact eMulX_call a b ha hb
theorem rDecY_call (a : Nat) (ha : a < 2 ^ 256) : CallOk Tryz.prog 15 [F a] (ret1 (.v (.bool (rdOk a)))) := rDec_call a ha
theorem rSmallY_call (a : Nat) (ha : a < 2 ^ 256) : CallOk Tryz.prog 17 [F a] (ret1 (.v (.bool (smaN a)))) := rSmall_call a ha
theorem rSubY_call (a b : Nat) (ha : a < 2 ^ 256) (hb : b < 2 ^ 256) : CallOk Tryz.prog 34 [F a, F b] (ret1 (F (nS a b))) := rSub_call a b ha hb
theorem rAddY_call (a b : Nat) (ha : a < 2 ^ 256) (hb : b < 2 ^ 256) : CallOk Tryz.prog 37 [F a, F b] (ret1 (F (nA a b))) := rAdd_call a b ha hb
theorem rSqrtY_call (a : Nat) (ha : a < 2 ^ 256) : CallOk Tryz.prog 33 [F a] (.many [.val (F (sqrtP a).1), .val (.v (.bool (sqrtP a).2))]) := rSqrt_call a ha
theorem eDecodes_row {a : List Int} (hc : isF a = true) : CallOk Tryz.prog 14 [.agg (.flat .u8 a)] (ret1 (.v (.bool (rdOk (nb a))))) := by
 have h0 := hc
 clear hc
 have e0 := isF_eq h0
 have l0 := nb32_lt h0
 clear h0
 generalize nb a = n0 at *
 subst e0
 exact eDecodes_call n0 l0
theorem eAddY_row {a b : List Int} (hc : isF a = true ∧ isF b = true) : CallOk Tryz.prog 10 [.agg (.flat .u8 a), .agg (.flat .u8 b)] (addR (nb a) (nb b)) := by
 obtain ⟨h0, h1⟩ := hc
 have e0 := isF_eq h0
 have l0 := nb32_lt h0
 clear h0
 generalize nb a = n0 at *
 subst e0
 have e1 := isF_eq h1
 have l1 := nb32_lt h1
 clear h1
 generalize nb b = n1 at *
 subst e1
 exact eAddY_call n0 n1 l0 l1
theorem eMulY_row {a b : List Int} (hc : isF a = true ∧ isF b = true) : CallOk Tryz.prog 19 [.agg (.flat .u8 a), .agg (.flat .u8 b)] (mulR (nb a) (nb b)) := by
 obtain ⟨h0, h1⟩ := hc
 have e0 := isF_eq h0
 have l0 := nb32_lt h0
 clear h0
 generalize nb a = n0 at *
 subst e0
 have e1 := isF_eq h1
 have l1 := nb32_lt h1
 clear h1
 generalize nb b = n1 at *
 subst e1
 exact eMulY_call n0 n1 l0 l1
theorem eSmallX_row {a : List Int} (hc : isF a = true) : CallOk Tryz.prog 16 [.agg (.flat .u8 a)] (ret1 (.v (.bool (smaN (nb a))))) := by
 have h0 := hc
 clear hc
 have e0 := isF_eq h0
 have l0 := nb32_lt h0
 clear h0
 generalize nb a = n0 at *
 subst e0
 exact eSmallX_call n0 l0
theorem rDecY_row {a : List Int} (hc : isF a = true) : CallOk Tryz.prog 15 [.agg (.flat .u8 a)] (ret1 (.v (.bool (rdOk (nb a))))) := by
 have h0 := hc
 clear hc
 have e0 := isF_eq h0
 have l0 := nb32_lt h0
 clear h0
 generalize nb a = n0 at *
 subst e0
 exact rDecY_call n0 l0
theorem rAdd10_row {a b : List Int} (hc : isF a = true ∧ isF b = true) : CallOk Tryz.prog 11 [.agg (.flat .u8 a), .agg (.flat .u8 b)] (addR (nb a) (nb b)) := by
 obtain ⟨h0, h1⟩ := hc
 have e0 := isF_eq h0
 have l0 := nb32_lt h0
 clear h0
 generalize nb a = n0 at *
 subst e0
 have e1 := isF_eq h1
 have l1 := nb32_lt h1
 clear h1
 generalize nb b = n1 at *
 subst e1
 exact rAdd10_call n0 n1 l0 l1
theorem rMult10_row {a b : List Int} (hc : isF a = true ∧ isF b = true) : CallOk Tryz.prog 20 [.agg (.flat .u8 a), .agg (.flat .u8 b)] (mulR (nb a) (nb b)) := by
 obtain ⟨h0, h1⟩ := hc
 have e0 := isF_eq h0
 have l0 := nb32_lt h0
 clear h0
 generalize nb a = n0 at *
 subst e0
 have e1 := isF_eq h1
 have l1 := nb32_lt h1
 clear h1
 generalize nb b = n1 at *
 subst e1
 exact rMult10_call n0 n1 l0 l1
theorem rSmallY_row {a : List Int} (hc : isF a = true) : CallOk Tryz.prog 17 [.agg (.flat .u8 a)] (ret1 (.v (.bool (smaN (nb a))))) := by
 have h0 := hc
 clear hc
 have e0 := isF_eq h0
 have l0 := nb32_lt h0
 clear h0
 generalize nb a = n0 at *
 subst e0
 exact rSmallY_call n0 l0
theorem rSubY_row {a b : List Int} (hc : isF a = true ∧ isF b = true) : CallOk Tryz.prog 34 [.agg (.flat .u8 a), .agg (.flat .u8 b)] (ret1 (F (nS (nb a) (nb b)))) := by
 obtain ⟨h0, h1⟩ := hc
 have e0 := isF_eq h0
 have l0 := nb32_lt h0
 clear h0
 generalize nb a = n0 at *
 subst e0
 have e1 := isF_eq h1
 have l1 := nb32_lt h1
 clear h1
 generalize nb b = n1 at *
 subst e1
 exact rSubY_call n0 n1 l0 l1
theorem rAddY_row {a b : List Int} (hc : isF a = true ∧ isF b = true) : CallOk Tryz.prog 37 [.agg (.flat .u8 a), .agg (.flat .u8 b)] (ret1 (F (nA (nb a) (nb b)))) := by
 obtain ⟨h0, h1⟩ := hc
 have e0 := isF_eq h0
 have l0 := nb32_lt h0
 clear h0
 generalize nb a = n0 at *
 subst e0
 have e1 := isF_eq h1
 have l1 := nb32_lt h1
 clear h1
 generalize nb b = n1 at *
 subst e1
 exact rAddY_call n0 n1 l0 l1
theorem rSqrtY_row {a : List Int} (hc : isF a = true) : CallOk Tryz.prog 33 [.agg (.flat .u8 a)] (.many [.val (F (sqrtP (nb a)).1), .val (.v (.bool (sqrtP (nb a)).2))]) := by
 have h0 := hc
 clear hc
 have e0 := isF_eq h0
 have l0 := nb32_lt h0
 clear h0
 generalize nb a = n0 at *
 subst e0
 exact rSqrtY_call n0 l0
def orcL1 (f : Nat) (ds : List LV) : Option LRes :=
 match f with
 | 12 => match ds with
  | [] => some (ret1 (F baseN))
  | _ => none
 | 14 => match ds with
  | [.agg (.flat .u8 a)] => if isF a = true then some (ret1 (.v (.bool (rdOk (nb a))))) else none
  | _ => none
 | 10 => match ds with
  | [.agg (.flat .u8 a), .agg (.flat .u8 b)] => if isF a = true ∧ isF b = true then some (addR (nb a) (nb b)) else none
  | _ => none
 | 19 => match ds with
  | [.agg (.flat .u8 a), .agg (.flat .u8 b)] => if isF a = true ∧ isF b = true then some (mulR (nb a) (nb b)) else none
  | _ => none
 | 16 => match ds with
  | [.agg (.flat .u8 a)] => if isF a = true then some (ret1 (.v (.bool (smaN (nb a))))) else none
  | _ => none
 | 15 => match ds with
  | [.agg (.flat .u8 a)] => if isF a = true then some (ret1 (.v (.bool (rdOk (nb a))))) else none
  | _ => none
 | 11 => match ds with
  | [.agg (.flat .u8 a), .agg (.flat .u8 b)] => if isF a = true ∧ isF b = true then some (addR (nb a) (nb b)) else none
  | _ => none
 | 20 => match ds with
  | [.agg (.flat .u8 a), .agg (.flat .u8 b)] => if isF a = true ∧ isF b = true then some (mulR (nb a) (nb b)) else none
  | _ => none
 | 17 => match ds with
  | [.agg (.flat .u8 a)] => if isF a = true then some (ret1 (.v (.bool (smaN (nb a))))) else none
  | _ => none
 | 34 => match ds with
  | [.agg (.flat .u8 a), .agg (.flat .u8 b)] => if isF a = true ∧ isF b = true then some (ret1 (F (nS (nb a) (nb b)))) else none
  | _ => none
 | 37 => match ds with
  | [.agg (.flat .u8 a), .agg (.flat .u8 b)] => if isF a = true ∧ isF b = true then some (ret1 (F (nA (nb a) (nb b)))) else none
  | _ => none
 | 33 => match ds with
  | [.agg (.flat .u8 a)] => if isF a = true then some (.many [.val (F (sqrtP (nb a)).1), .val (.v (.bool (sqrtP (nb a)).2))]) else none
  | _ => none
 | 23 => match ds with
  | [.v (.int .i64 v), .v (.int .i64 n)] => if 0 < n ∧ n < 9223372036854775808 then some (ret1 (iv .i64 (v % n))) else none
  | _ => none
 | _ => orcE2 f ds
theorem orcL1_ok : Known Tryz.prog orcL1 := by
 intro f ds r h
 unfold orcL1 at h
 split at h
 ·split at h
  ·cases h
   exact .inl ⟨⟨_, Tryz.func12, name_ne _ (by kernel_rfl), rfl⟩, eBase_call⟩
  ·cases h
 ·split at h
  ·split at h
   ·rename_i hc
    cases h
    exact .inl ⟨⟨_, Tryz.func14, name_ne _ (by kernel_rfl), rfl⟩, eDecodes_row hc⟩
   ·cases h
  ·cases h
 ·split at h
  ·split at h
   ·rename_i hc
    cases h
    exact .inl ⟨⟨_, Tryz.func10, name_ne _ (by kernel_rfl), rfl⟩, eAddY_row hc⟩
   ·cases h
  ·cases h
 ·split at h
  ·split at h
   ·rename_i hc
    cases h
    exact .inl ⟨⟨_, Tryz.func19, name_ne _ (by kernel_rfl), rfl⟩, eMulY_row hc⟩
   ·cases h
  ·cases h
 ·split at h
  ·split at h
   ·rename_i hc
    cases h
    exact .inl ⟨⟨_, Tryz.func16, name_ne _ (by kernel_rfl), rfl⟩, eSmallX_row hc⟩
   ·cases h
  ·cases h
 ·split at h
  ·split at h
   ·rename_i hc
    cases h
    exact .inl ⟨⟨_, Tryz.func15, name_ne _ (by kernel_rfl), rfl⟩, rDecY_row hc⟩
   ·cases h
  ·cases h
 ·split at h
  ·split at h
   ·rename_i hc
    cases h
    exact .inl ⟨⟨_, Tryz.func11, name_ne _ (by kernel_rfl), rfl⟩, rAdd10_row hc⟩
   ·cases h
  ·cases h
 ·split at h
  ·split at h
   ·rename_i hc
    cases h
    exact .inl ⟨⟨_, Tryz.func20, name_ne _ (by kernel_rfl), rfl⟩, rMult10_row hc⟩
   ·cases h
  ·cases h
 ·split at h
  ·split at h
   ·rename_i hc
    cases h
    exact .inl ⟨⟨_, Tryz.func17, name_ne _ (by kernel_rfl), rfl⟩, rSmallY_row hc⟩
   ·cases h
  ·cases h
 ·split at h
  ·split at h
   ·rename_i hc
    cases h
    exact .inl ⟨⟨_, Tryz.func34, name_ne _ (by kernel_rfl), rfl⟩, rSubY_row hc⟩
   ·cases h
  ·cases h
 ·split at h
  ·split at h
   ·rename_i hc
    cases h
    exact .inl ⟨⟨_, Tryz.func37, name_ne _ (by kernel_rfl), rfl⟩, rAddY_row hc⟩
   ·cases h
  ·cases h
 ·split at h
  ·split at h
   ·rename_i hc
    cases h
    exact .inl ⟨⟨_, Tryz.func33, name_ne _ (by kernel_rfl), rfl⟩, rSqrtY_row hc⟩
   ·cases h
  ·cases h
 ·split at h
  ·split at h
   ·rename_i hc
    cases h
    exact .inl ⟨⟨_, Tryz.func23, name_ne _ (by kernel_rfl), rfl⟩, mod_call _ _ hc.1 hc.2⟩
   ·cases h
  ·cases h
 ·exact orcE2_ok f ds r h
def LP1 : Env := ⟨tyL, orcL1, false, noWk, noOrw⟩
theorem LP1_ok : EnvOk Tryz.prog LP1 := ⟨tyL_ok, orcL1_ok, noOrw_ok⟩
set_option maxRecDepth 100000 in
theorem o_rAdd10 {a b : Nat} (ha : a < 2 ^ 256) (hb : b < 2 ^ 256) : LP1.orc 11 [F a, F b] = some (addR a b) :=
 (if_pos ⟨isF_by _, isF_by _⟩).trans (by rw [nb_by32 ha, nb_by32 hb])
set_option maxRecDepth 100000 in
theorem o_rSubY {a b : Nat} (ha : a < 2 ^ 256) (hb : b < 2 ^ 256) : LP1.orc 34 [F a, F b] = some (ret1 (F (nS a b))) :=
 (if_pos ⟨isF_by _, isF_by _⟩).trans (by rw [nb_by32 ha, nb_by32 hb])
set_option maxRecDepth 100000 in
theorem o_rAddY {a b : Nat} (ha : a < 2 ^ 256) (hb : b < 2 ^ 256) : LP1.orc 37 [F a, F b] = some (ret1 (F (nA a b))) :=
 (if_pos ⟨isF_by _, isF_by _⟩).trans (by rw [nb_by32 ha, nb_by32 hb])
set_option maxRecDepth 100000 in
theorem o_rSqrtY {a : Nat} (ha : a < 2 ^ 256) : LP1.orc 33 [F a] = some (.many [.val (F (sqrtP a).1), .val (.v (.bool (sqrtP a).2))]) :=
 (if_pos (isF_by _)).trans (by rw [nb_by32 ha])
theorem isN_LP1 (f : Nat) {ds : List LV} {K : LRes → Prop} (h : ∃ y, LP1.orc f ds = some y ∧ K y) : ∃ y, LP1.orc f ds = some y ∧ K y := h
theorem l1_Mod (v n : Int) (h : 0 < n ∧ n < 9223372036854775808) : LP1.orc 23 [iv .i64 v, iv .i64 n] = some (ret1 (iv .i64 (v % n))) := if_pos h
theorem l1_P : LP1.orc 36 [] = some (ret1 (W pP)) := rfl
theorem l1_RBase : LP1.orc 13 [] = some (ret1 (F baseN)) := rfl
theorem l1_Store {a : Nat} (ha : a < 2 ^ 256) : LP1.orc 35 [W a] = some (ret1 (F a)) := (show LP1.orc 35 [W a] = EE1.orc 35 [W a] from rfl).trans (g_Store ha)
set_option maxRecDepth 100000 in
set_option maxHeartbeats 8000000 in
theorem point_0 (a : List Int) (n : Int) (la : a.length = 32) (h : n % 4 = 0) : execF LP1 Tryz.f9 [.agg (.flat .u8 a), iv .i64 n] (ret1 (.agg (.flat .u8 a))) := by
 have g1 := l1_Mod n 4 (by decide)
 rw [h] at g1
 have ca : (Cont.flat .u8 a).cut 0 32 = some (.flat .u8 a) := cut_all la
 have na : (Cont.flat .u8 a).len = 32 := la
 have za : layOne (.flat .u8 (List.replicate 32 0)) 0 (.flat .u8 a) = some (.flat .u8 a) := lay_all (by rw [List.length_replicate, la]) (by omega)
 ((conv => whnf); repeat ((first | refine ⟨_, ca, ?_⟩ | refine ⟨_, za, ?_⟩ | refine ⟨na, ?_⟩ | ((with_reducible refine isN_LP1 23 ?_); refine ⟨_, g1, ?_⟩) | refine ⟨_, rfl, ?_⟩ | refine ⟨rfl, ?_⟩ | refine ⟨fun _ => ?_, fun h => absurd h (by decide)⟩); conv => whnf))
 rfl
set_option maxRecDepth 100000 in
set_option maxHeartbeats 8000000 in
theorem point_1 (a L1 I L4 L5 Wl X M : List Int) (n b x31 : Int) (k : Nat) (s : Bool) (_ : a.length = 32) (lI : I.length = 32) (lX : X.length = 32) (hk : k = 0 ∨ k = 1 ∨ k = 2 ∨ k = 3 ∨ k = 4 ∨ k = 5) (hx : (Cont.flat .u8 Wl).cut (k * 32) 32 = some (.flat .u8 X)) (aX : (Cont.flat .u8 X).at? 31 = some (.v (.int .u8 x31)))
  (hM : M = X.set 31 (bits .or .u8 x31 (IntKind.u8.wrap (IntKind.u8.wrap b * 2 ^ min (Int.toNat 7) IntKind.u8.bits))))
  (g1 : LP1.orc 23 [iv .i64 n, iv .i64 4] = some (ret1 (iv .i64 1))) (g2 : LP1.orc 23 [iv .i64 (IntKind.i64.wrap (n.tdiv 4)), iv .i64 6] = some (ret1 (iv .i64 (k : Nat)))) (g3 : LP1.orc 23 [iv .i64 (IntKind.i64.wrap (n.tdiv 24)), iv .i64 2] = some (ret1 (iv .i64 b)))
  (f1 : LP1.orc 34 [.agg (.flat .u8 (List.replicate 32 0)), .agg (.flat .u8 ((List.replicate 32 0).set 0 1))] = some (ret1 (.agg (.flat .u8 L1)))) (f2 : LP1.orc 33 [.agg (.flat .u8 L1)] = some (.many [.val (.agg (.flat .u8 I)), .val (.v (.bool s))])) (f3 : LP1.orc 35 [W pP] = some (ret1 (.agg (.flat .u8 L4)))) (f4 : LP1.orc 37 [.agg (.flat .u8 L4), .agg (.flat .u8 ((List.replicate 32 0).set 0 1))] = some (ret1 (.agg (.flat .u8 L5))))
  (hb : opBuildSlice LP1 36 56 6 [0, 1, 2, 3, 4, 5] [.agg (.flat .u8 ((List.replicate 32 0).set 0 1)), .agg (.flat .u8 L1), .agg (.flat .u8 (List.replicate 32 0)), .agg (.flat .u8 I), .agg (.flat .u8 L4), .agg (.flat .u8 L5)] = some (.sl 32 (8 * 36) 0 6 (some 6), [(8 * 36, ⟨.flat .u8 Wl, 23, false⟩)])) :
  execF LP1 Tryz.f9 [.agg (.flat .u8 a), iv .i64 n] (ret1 (.agg (.flat .u8 M))) := by
 have lM : M.length = 32 := by rw [hM, List.length_set]; exact lX
 have pM : layOne (.flat .u8 X) 31 (.flat .u8 [bits .or .u8 x31 (IntKind.u8.wrap (IntKind.u8.wrap b * 2 ^ min (Int.toNat 7) IntKind.u8.bits))]) = some (.flat .u8 M) := by rw [hM]; exact put_flat (by omega)
 have cI : (Cont.flat .u8 I).cut 0 32 = some (.flat .u8 I) := cut_all lI
 have zI : layOne (.flat .u8 (List.replicate 32 0)) 0 (.flat .u8 I) = some (.flat .u8 I) := lay_all (by rw [List.length_replicate, lI]) (by omega)
 have cX : (Cont.flat .u8 X).cut 0 32 = some (.flat .u8 X) := cut_all lX
 have nX : (Cont.flat .u8 X).len = 32 := lX
 have zX : layOne (.flat .u8 (List.replicate 32 0)) 0 (.flat .u8 X) = some (.flat .u8 X) := lay_all (by rw [List.length_replicate, lX]) (by omega)
 have cM : (Cont.flat .u8 M).cut 0 32 = some (.flat .u8 M) := cut_all lM
 have nM : (Cont.flat .u8 M).len = 32 := lM
 have zM : layOne (.flat .u8 (List.replicate 32 0)) 0 (.flat .u8 M) = some (.flat .u8 M) := lay_all (by rw [List.length_replicate, lM]) (by omega)
 clear hM
 ((conv => whnf); repeat ((first | refine ⟨_, cI, ?_⟩ | refine ⟨_, zI, ?_⟩ | ((with_reducible refine isN_LP1 23 ?_); first | refine ⟨_, g1, ?_⟩ | refine ⟨_, g2, ?_⟩ | refine ⟨_, g3, ?_⟩) | ((with_reducible refine isN_LP1 34 ?_); first | refine ⟨_, f1, ?_⟩) | ((with_reducible refine isN_LP1 33 ?_); first | refine ⟨_, f2, ?_⟩) | ((with_reducible refine isN_LP1 36 ?_); first | refine ⟨_, l1_P, ?_⟩) | ((with_reducible refine isN_LP1 35 ?_); first | refine ⟨_, f3, ?_⟩) | ((with_reducible refine isN_LP1 37 ?_); first | refine ⟨_, f4, ?_⟩) | refine ⟨_, rfl, ?_⟩ | refine ⟨by decide, ?_⟩ | refine ⟨rfl, ?_⟩ | refine ⟨fun _ => ?_, fun h => absurd h (by decide)⟩ | refine ⟨fun h => absurd h (by decide), fun _ => ?_⟩ | refine ⟨len_flat (by omega), ?_⟩); conv => whnf))
 refine runs_eq hb ?_
 rcases hk with rfl | rfl | rfl | rfl | rfl | rfl
 all_goals
  have c0 := hx
  ((conv => whnf); repeat ((first | refine ⟨_, c0, ?_⟩ | refine ⟨_, aX, ?_⟩ | refine ⟨_, pM, ?_⟩ | refine ⟨_, cM, ?_⟩ | refine ⟨_, zM, ?_⟩ | refine ⟨_, zX, ?_⟩ | refine ⟨nM, ?_⟩ | refine ⟨nX, ?_⟩ | ((with_reducible refine isN_LP1 23 ?_); first | refine ⟨_, g1, ?_⟩ | refine ⟨_, g2, ?_⟩ | refine ⟨_, g3, ?_⟩) | refine ⟨_, rfl, ?_⟩ | refine ⟨by decide, ?_⟩ | refine ⟨rfl, ?_⟩); conv => whnf))
  rfl
def ptB : Nat → Nat
 | 0 => baseN
 | k + 1 => wrN (sumN dN (rdP (ptB k)) (rdP baseN))
def flipN (n : Nat) : Nat := if n / 2 ^ 255 = 1 then n - 2 ^ 255 else n + 2 ^ 255
def okB : Bool := (List.range 5).all fun k => rdOk (ptB k) && rdOk (flipN (ptB k))
theorem okB_true : okB = true := by kernel_rfl
theorem ptB_lt : ∀ k, ptB k < 2 ^ 256
 | 0 => by show baseN < 2 ^ 256; decide
 | k + 1 => wrN_lt _
theorem ptB_ok {k : Nat} (hk : k < 5) : rdOk (ptB k) = true ∧ rdOk (flipN (ptB k)) = true := by
 have h := okB_true
 rw [okB, List.all_eq_true] at h
 have h2 := h k (List.mem_range.2 hk)
 rw [Bool.and_eq_true] at h2
 exact h2
theorem l1_addB {k : Nat} (hk : k < 5) : LP1.orc 11 [F (ptB k), F baseN] = some (.many [.val (F (ptB (k + 1))), .val (iv .i64 0)]) := by
 rw [o_rAdd10 (ptB_lt k) (show baseN < 2 ^ 256 by decide), addR, (ptB_ok hk).1, (show rdOk baseN = true from (ptB_ok (k := 0) (by decide)).1), Bool.and_self, if_pos rfl]
 rfl
set_option maxRecDepth 100000 in
set_option maxHeartbeats 8000000 in
theorem point_2 (a M : List Int) (n b r x31 : Int) (k : Nat) (hr : r = 2 ∨ r = 3) (_ : a.length = 32) (hk : k < 5) (aX : (Cont.flat .u8 (by32 (ptB k))).at? 31 = some (.v (.int .u8 x31)))
  (hM : M = (by32 (ptB k)).set 31 (bits .xor .u8 x31 (IntKind.u8.wrap (IntKind.u8.wrap b * 2 ^ min (Int.toNat 7) IntKind.u8.bits))))
  (g1 : LP1.orc 23 [iv .i64 n, iv .i64 4] = some (ret1 (iv .i64 r))) (g2 : LP1.orc 23 [iv .i64 (IntKind.i64.wrap (n.tdiv 4)), iv .i64 5] = some (ret1 (iv .i64 (k : Nat)))) (g3 : LP1.orc 23 [iv .i64 (IntKind.i64.wrap (n.tdiv 20)), iv .i64 2] = some (ret1 (iv .i64 b))) :
  execF LP1 Tryz.f9 [.agg (.flat .u8 a), iv .i64 n] (ret1 (.agg (.flat .u8 M))) := by
 have lM : M.length = 32 := by rw [hM, List.length_set, byk_len]
 have pM : layOne (.flat .u8 (by32 (ptB k))) 31 (.flat .u8 [bits .xor .u8 x31 (IntKind.u8.wrap (IntKind.u8.wrap b * 2 ^ min (Int.toNat 7) IntKind.u8.bits))]) = some (.flat .u8 M) := by rw [hM]; exact put_flat (by rw [byk_len]; decide)
 have cM : (Cont.flat .u8 M).cut 0 32 = some (.flat .u8 M) := cut_all lM
 have nM : (Cont.flat .u8 M).len = 32 := lM
 have zM : layOne (.flat .u8 (List.replicate 32 0)) 0 (.flat .u8 M) = some (.flat .u8 M) := lay_all (by rw [List.length_replicate, lM]) (by omega)
 clear hM
 have f0 := l1_RBase
 have f1' := fun (i : Nat) (h : i < 5) => l1_addB h
 obtain ⟨B, hB⟩ : ∃ B, B = by32 baseN := ⟨_, rfl⟩
 have lB : B.length = 32 := by rw [hB, byk_len]
 simp only [F] at f0 f1'
 rw [← hB] at f0
 simp only [← hB] at f1'
 have hB0 : B = by32 (ptB 0) := hB
 clear hB
 have cB : (Cont.flat .u8 B).cut 0 32 = some (.flat .u8 B) := cut_all lB
 have nB : (Cont.flat .u8 B).len = 32 := lB
 have zB : layOne (.flat .u8 (List.replicate 32 0)) 0 (.flat .u8 B) = some (.flat .u8 B) := lay_all (by rw [List.length_replicate, lB]) (by omega)
 rcases hr with rfl | rfl
 all_goals
  ((conv => whnf); repeat ((first | refine ⟨_, zB, ?_⟩ | refine ⟨nB, ?_⟩ | ((with_reducible refine isN_LP1 23 ?_); first | refine ⟨_, g1, ?_⟩ | refine ⟨_, g2, ?_⟩ | refine ⟨_, g3, ?_⟩) | ((with_reducible refine isN_LP1 13 ?_); first | refine ⟨_, f0, ?_⟩) | refine ⟨_, rfl, ?_⟩ | refine ⟨by decide, ?_⟩ | refine ⟨rfl, ?_⟩ | refine ⟨fun h => absurd h (by decide), fun _ => ?_⟩); conv => whnf))
  refine .inl ⟨fun m st => ∃ (i : Nat) (X : List Int), m = k - i ∧ i ≤ k ∧ X = by32 (ptB i) ∧ st = ⟨[.poison, iv .i64 n, .ptr 16 0, .poison, .ptr 32 0, .poison, .poison, .poison, .poison, .ptr 72 0, .poison, .poison, .poison, .poison, .poison, .poison, .poison, .poison, .poison, .poison, .poison, .poison, .poison, .poison, .poison, .poison, .poison, .poison, .poison, .poison, .poison, .poison, .poison, .poison, .poison, .poison, .poison, .poison, .poison, .poison, .poison, .poison, .poison, .poison, .poison, .poison, .poison, .poison, .poison, .poison, .poison, .poison, .poison, .poison, .poison, .poison, iv .i64 (k : Nat), iv .i64 (i : Nat), .poison, .poison, .poison, .poison, .poison, .poison, .poison, .poison, .poison, .poison, .poison, .poison, .poison, .poison, .poison, .poison, .poison, .poison],
    [(16, ⟨.flat .u8 a, 23, false⟩), (32, ⟨.flat .u8 (List.replicate 32 0), 23, false⟩), (72, ⟨.flat .u8 X, 23, false⟩)]⟩,
    ⟨[0, 3, 5, 6, 7, 8, 10, 11, 12, 13, 14, 15, 16, 17, 18, 19, 20, 21, 22, 23, 24, 25, 26, 27, 28, 29, 30, 31, 32, 33, 34, 35, 36, 37, 38, 39, 40, 41, 42, 43, 44, 45, 46, 47, 48, 49, 50, 51, 52, 53, 54, 55, 58, 59, 60, 61, 62, 63, 64, 65, 66, 67, 68, 69, 70, 71, 72, 73, 74, 75], [], k, 0, B, rfl, by omega, hB0, by kernel_rfl⟩, ?_⟩
  rintro m _ ⟨i, X, hm, hi, hX, rfl⟩
  have lX : X.length = 32 := by rw [hX, byk_len]
  have cX : (Cont.flat .u8 X).cut 0 32 = some (.flat .u8 X) := cut_all lX
  have nX : (Cont.flat .u8 X).len = 32 := lX
  conv => whnf
  refine ⟨fun h => ?_, fun h => ?_⟩
  ·have h := of_decide_eq_true h
   have hik : i < k := by omega
   have f1 := f1' i (by omega)
   rw [← hX] at f1
   obtain ⟨Y, hY⟩ : ∃ Y, Y = by32 (ptB (i + 1)) := ⟨_, rfl⟩
   rw [← hY] at f1
   have lY : Y.length = 32 := by rw [hY, byk_len]
   have cY : (Cont.flat .u8 Y).cut 0 32 = some (.flat .u8 Y) := cut_all lY
   have nY : (Cont.flat .u8 Y).len = 32 := lY
   have zXY : layOne (.flat .u8 X) 0 (.flat .u8 Y) = some (.flat .u8 Y) := lay_all (by rw [lX, lY]) (by omega)
   have e2 : IntKind.i64.wrap ((i : Int) + 1) = ((i + 1 : Nat) : Int) := by rw [wrap64 (by omega)]; omega
   ((conv => whnf); repeat ((first | refine ⟨_, cX, ?_⟩ | refine ⟨_, zXY, ?_⟩ | refine ⟨nY, ?_⟩ | ((with_reducible refine isN_LP1 13 ?_); first | refine ⟨_, f0, ?_⟩) | ((with_reducible refine isN_LP1 11 ?_); first | refine ⟨_, f1, ?_⟩) | refine ⟨_, rfl, ?_⟩ | refine ⟨by decide, ?_⟩ | refine ⟨rfl, ?_⟩); conv => whnf))
   refine ⟨[0, 3, 5, 6, 7, 8, 10, 11, 12, 13, 14, 15, 16, 17, 18, 19, 20, 21, 22, 23, 24, 25, 26, 27, 28, 29, 30, 31, 32, 33, 34, 35, 36, 37, 38, 39, 40, 41, 42, 43, 44, 45, 46, 47, 48, 49, 50, 51, 52, 53, 54, 55, 58, 59, 60, 61, 62, 63, 64, 65, 66, 67, 68, 69, 70, 71, 72, 73, 74, 75], [], k - (i + 1), ?_, i + 1, Y, rfl, by omega, hY, ?_⟩
   ·omega
   ·rw [e2]; kernel_rfl
  ·have h := of_decide_eq_false h
   have hik : i = k := by omega
   rw [hik] at hX
   rw [← hX] at aX pM
   clear hX
   ((conv => whnf); repeat ((first | refine ⟨_, aX, ?_⟩ | refine ⟨_, pM, ?_⟩ | refine ⟨_, cM, ?_⟩ | refine ⟨_, zM, ?_⟩ | refine ⟨nM, ?_⟩ | ((with_reducible refine isN_LP1 23 ?_); first | refine ⟨_, g1, ?_⟩ | refine ⟨_, g2, ?_⟩ | refine ⟨_, g3, ?_⟩) | refine ⟨_, rfl, ?_⟩ | refine ⟨by decide, ?_⟩ | refine ⟨rfl, ?_⟩); conv => whnf))
   rfl
def okOr10 : Bool := (List.range 256).all fun n => decide (0 ≤ bits .or .u8 (n : Nat) 0 ∧ bits .or .u8 (n : Nat) 0 < 256 ∧ 0 ≤ bits .or .u8 (n : Nat) 128 ∧ bits .or .u8 (n : Nat) 128 < 256 ∧ bits .xor .u8 (n : Nat) 0 = n ∧ bits .xor .u8 (n : Nat) 128 = ((if n < 128 then n + 128 else n - 128 : Nat) : Int))
theorem or_facts10 (n : Nat) (h : n < 256) : 0 ≤ bits .or .u8 (n : Nat) 0 ∧ bits .or .u8 (n : Nat) 0 < 256 ∧ 0 ≤ bits .or .u8 (n : Nat) 128 ∧ bits .or .u8 (n : Nat) 128 < 256 ∧ bits .xor .u8 (n : Nat) 0 = n ∧ bits .xor .u8 (n : Nat) 128 = ((if n < 128 then n + 128 else n - 128 : Nat) : Int) := by
 have h1 : okOr10 = true := by kernel_rfl
 rw [okOr10, List.all_eq_true] at h1
 exact of_decide_eq_true (h1 n (List.mem_range.2 h))
theorem shl_b (b : Int) (hb : b = 0 ∨ b = 1) : IntKind.u8.wrap (IntKind.u8.wrap b * 2 ^ min (Int.toNat 7) IntKind.u8.bits) = 0 ∧ b = 0 ∨ IntKind.u8.wrap (IntKind.u8.wrap b * 2 ^ min (Int.toNat 7) IntKind.u8.bits) = 128 ∧ b = 1 := by
 rcases hb with rfl | rfl
 ·exact .inl ⟨rfl, rfl⟩
 ·exact .inr ⟨rfl, rfl⟩
end Go.Proofs.YtdeigmjbcbjgeaaGreatDoor
namespace Go.Proofs.YtdeigmjbcbjgeaaGreatDoor
open Go.RowKit
noncomputable section
theorem by_take10 {l : List Int} (h : By l) (n : Nat) : By (l.take n) := fun x hx => h x (List.mem_of_mem_take hx)
theorem by_drop10 {l : List Int} (h : By l) (n : Nat) : By (l.drop n) := fun x hx => h x (List.mem_of_mem_drop hx)
theorem by_set10 {l : List Int} (h : By l) (i : Nat) {v : Int} (hv : 0 ≤ v ∧ v < 256) : By (l.set i v) := fun x hx => by
 rcases List.mem_or_eq_of_mem_set hx with q | q
 ·exact h x q
 ·rw [q]; exact hv
theorem flip_list (n : Nat) (hn : n < 2 ^ 256) : (by32 n).set 31 (bits .xor .u8 (bt n 31) 128) = by32 (flipN n) := by
 obtain ⟨m, b, hm, hb, rfl⟩ : ∃ m b, m < 2 ^ 255 ∧ b ≤ 1 ∧ n = m + b * 2 ^ 255 := ⟨n % 2 ^ 255, n / 2 ^ 255, by omega, by omega, by omega⟩
 have hf : flipN (m + b * 2 ^ 255) = m + (1 - b) * 2 ^ 255 := by
  unfold flipN
  have : b = 0 ∨ b = 1 := by omega
  rcases this with rfl | rfl
  ·rw [if_neg (by omega)]
  ·rw [if_pos (by omega)]; omega
 rw [hf]
 refine ext_g (by rw [List.length_set, byk_len, byk_len]) fun i hi => ?_
 rw [List.length_set, byk_len] at hi
 rw [g_byk hi, bt_top m (1 - b) i hi hm (by omega), g_set (by rw [byk_len]; decide), g_byk hi]
 by_cases h31 : i = 31
 ·subst h31
  rw [if_pos rfl, if_pos rfl, bt_top m b 31 (by decide) hm hb, if_pos rfl]
  have hlt : m / 2 ^ (8 * 31) % 256 < 128 := by omega
  clear hf hn hm
  generalize m / 2 ^ (8 * 31) % 256 = y at *
  have h := (or_facts10 (y + 128 * b) (by omega)).2.2.2.2.2
  rw [h]
  congr 1
  split <;> omega
 ·rw [if_neg h31, if_neg h31, bt_top m b i hi hm hb, if_neg h31]
theorem flipN_lt {n : Nat} (hn : n < 2 ^ 256) : flipN n < 2 ^ 256 := by
 unfold flipN
 split <;> omega
theorem mod_two (x : Int) : x % 2 = 0 ∨ x % 2 = 1 := by omega
def ptW : List Int := by32 1 ++ (by32 (nS 0 1) ++ (by32 0 ++ (by32 (sqrtP (nS 0 1)).1 ++ (by32 pP ++ by32 (nA pP 1)))))
theorem ptW_len : ptW.length = 192 := by simp only [ptW, List.length_append, byk_len]
theorem ptW_by : By ptW := (byk_by _ _).append ((byk_by _ _).append ((byk_by _ _).append ((byk_by _ _).append ((byk_by _ _).append (byk_by _ _)))))
set_option maxRecDepth 100000 in
theorem ptW_build : opBuildSlice LP1 36 56 6 [0, 1, 2, 3, 4, 5] [.agg (.flat .u8 ((List.replicate 32 0).set 0 1)), F (nS 0 1), .agg (.flat .u8 (List.replicate 32 0)), F (sqrtP (nS 0 1)).1, F pP, F (nA pP 1)] = some (.sl 32 (8 * 36) 0 6 (some 6), [(8 * 36, ⟨.flat .u8 ptW, 23, false⟩)]) := by kernel_rfl
theorem isF_F {l : List Int} (h : isF l = true) : F (nb l) = .agg (.flat .u8 l) := by rw [F, ← isF_eq h]
theorem point_ex (a : Nat) (n : Int) (_ : a < 2 ^ 256) : ∃ m, m < 2 ^ 256 ∧ (n % 4 = 2 ∨ n % 4 = 3 → rdOk m = true) ∧ CallOk Tryz.prog 9 [F a, iv .i64 n] (ret1 (F m)) := by
 have h4 : n % 4 = 0 ∨ n % 4 = 1 ∨ n % 4 = 2 ∨ n % 4 = 3 := by omega
 have g1 := l1_Mod n 4 (by decide)
 rcases h4 with h | h | h
 ·exact ⟨a, by assumption, fun h' => by omega, execF_ok follows_ok LP1_ok Tryz.func9 (point_0 _ n (byk_len _ _) h)⟩
 ·have g2 := l1_Mod (IntKind.i64.wrap (n.tdiv 4)) 6 (by decide)
  have g3 := l1_Mod (IntKind.i64.wrap (n.tdiv 24)) 2 (by decide)
  rw [h] at g1
  have hb2 := mod_two (IntKind.i64.wrap (n.tdiv 24))
  have hk0 : 0 ≤ IntKind.i64.wrap (n.tdiv 4) % 6 ∧ IntKind.i64.wrap (n.tdiv 4) % 6 < 6 := ⟨Int.emod_nonneg _ (by decide), Int.emod_lt_of_pos _ (by decide)⟩
  generalize IntKind.i64.wrap (n.tdiv 24) % 2 = b at g3 hb2
  generalize IntKind.i64.wrap (n.tdiv 4) % 6 = k0 at g2 hk0
  obtain ⟨k, rfl⟩ := Int.eq_ofNat_of_zero_le hk0.1
  have hk : k < 6 := by omega
  obtain ⟨X, hX⟩ : ∃ X, X = (ptW.drop (k * 32)).take 32 := ⟨_, rfl⟩
  have lX : X.length = 32 := by rw [hX, List.length_take, List.length_drop, ptW_len]; omega
  have bX : By X := by rw [hX]; exact by_take10 (by_drop10 ptW_by _) _
  have hx : (Cont.flat .u8 ptW).cut (k * 32) 32 = some (.flat .u8 X) := by rw [hX]; exact cut_flat (by rw [ptW_len]; omega)
  have hg : 0 ≤ g X 31 ∧ g X 31 < 256 := by
   rw [g, List.getD_eq_getElem?_getD, List.getElem?_eq_getElem (show 31 < X.length by omega)]
   exact bX _ (List.getElem_mem _)
  have f1 := o_rSubY (show 0 < 2 ^ 256 by decide) (show 1 < 2 ^ 256 by decide)
  have f2 := o_rSqrtY (nS_lt 0 1)
  have f3 := l1_Store pP_lt
  have f4 := o_rAddY pP_lt (show 1 < 2 ^ 256 by decide)
  simp only [F] at f1 f2 f3 f4
  rw [by32_z, by_one] at f1
  rw [by_one] at f4
  have hbu := ptW_build
  simp only [F] at hbu
  obtain ⟨M, hM⟩ : ∃ M, M = X.set 31 (bits .or .u8 (g X 31) (IntKind.u8.wrap (IntKind.u8.wrap b * 2 ^ min (Int.toNat 7) IntKind.u8.bits))) := ⟨_, rfl⟩
  have hF : isF M = true := by
   rw [hM]
   refine isF_of (by rw [List.length_set]; exact lX) (by_set10 bX _ ?_)
   obtain ⟨y, hy⟩ := Int.eq_ofNat_of_zero_le hg.1
   rw [hy] at hg ⊢
   have hf := or_facts10 y (by omega)
   rcases shl_b b hb2 with ⟨e, _⟩ | ⟨e, _⟩
   ·rw [e]; exact ⟨hf.1, hf.2.1⟩
   ·rw [e]; exact ⟨hf.2.2.1, hf.2.2.2.1⟩
  refine ⟨nb M, nb32_lt hF, fun h' => by omega, ?_⟩
  rw [isF_F hF]
  exact execF_ok follows_ok LP1_ok Tryz.func9 (point_1 _ _ _ _ _ _ X M n b _ k _ (byk_len _ _) (byk_len _ _) lX (by omega) hx (at_g (by omega)) hM g1 g2 g3 f1 f2 f3 f4 hbu)
 ·have g2 := l1_Mod (IntKind.i64.wrap (n.tdiv 4)) 5 (by decide)
  have g3 := l1_Mod (IntKind.i64.wrap (n.tdiv 20)) 2 (by decide)
  have hb2 := mod_two (IntKind.i64.wrap (n.tdiv 20))
  have hk0 : 0 ≤ IntKind.i64.wrap (n.tdiv 4) % 5 ∧ IntKind.i64.wrap (n.tdiv 4) % 5 < 5 := ⟨Int.emod_nonneg _ (by decide), Int.emod_lt_of_pos _ (by decide)⟩
  generalize IntKind.i64.wrap (n.tdiv 20) % 2 = b at g3 hb2
  generalize IntKind.i64.wrap (n.tdiv 4) % 5 = k0 at g2 hk0
  obtain ⟨k, rfl⟩ := Int.eq_ofNat_of_zero_le hk0.1
  have hk : k < 5 := by omega
  have aX : (Cont.flat .u8 (by32 (ptB k))).at? 31 = some (.v (.int .u8 (bt (ptB k) 31))) := by
   rw [← g_byk (n := ptB k) (k := 32) (i := 31) (by decide)]
   exact at_g (by rw [byk_len]; decide)
  have hok := ptB_ok hk
  have hlt := ptB_lt k
  rcases shl_b b hb2 with ⟨e, _⟩ | ⟨e, _⟩
  ·refine ⟨ptB k, hlt, fun _ => hok.1, ?_⟩
   have hM : by32 (ptB k) = (by32 (ptB k)).set 31 (bits .xor .u8 (bt (ptB k) 31) (IntKind.u8.wrap (IntKind.u8.wrap b * 2 ^ min (Int.toNat 7) IntKind.u8.bits))) := by
    have hf := (or_facts10 (ptB k / 2 ^ (8 * 31) % 256) (by omega)).2.2.2.2.1
    rw [e, show bits .xor .u8 (bt (ptB k) 31) 0 = bt (ptB k) 31 from hf]
    refine ext_g (by rw [List.length_set]) fun i hi => ?_
    rw [byk_len] at hi
    rw [g_set (by rw [byk_len]; decide), g_byk hi]
    split
    ·rename_i h31; rw [h31]
    ·rfl
   exact execF_ok follows_ok LP1_ok Tryz.func9 (point_2 _ _ n b (n % 4) _ k h (byk_len _ _) hk aX hM g1 g2 g3)
  ·refine ⟨flipN (ptB k), flipN_lt hlt, fun _ => hok.2, ?_⟩
   exact execF_ok follows_ok LP1_ok Tryz.func9 (point_2 _ _ n b (n % 4) _ k h (byk_len _ _) hk aX (by rw [e]; exact (flip_list _ hlt).symm) g1 g2 g3)
open Classical in
def ptN (a : Nat) (n : Int) : Nat := if h : a < 2 ^ 256 then Classical.choose (point_ex a n h) else 0
theorem ptN_spec {a : Nat} (n : Int) (h : a < 2 ^ 256) : ptN a n < 2 ^ 256 ∧ (n % 4 = 2 ∨ n % 4 = 3 → rdOk (ptN a n) = true) ∧ CallOk Tryz.prog 9 [F a, iv .i64 n] (ret1 (F (ptN a n))) := by
 unfold ptN
 rw [dif_pos h]
 exact Classical.choose_spec (point_ex a n h)
theorem point_row {a : List Int} (n : Int) (h : isF a = true) : CallOk Tryz.prog 9 [.agg (.flat .u8 a), iv .i64 n] (ret1 (F (ptN (nb a) n))) := by
 have h1 := (ptN_spec n (nb32_lt h)).2.2
 rwa [isF_F h] at h1
def orcL2 (f : Nat) (ds : List LV) : Option LRes :=
 match f with
 | 9 => match ds with
  | [.agg (.flat .u8 a), .v (.int .i64 n)] => if isF a = true then some (ret1 (F (ptN (nb a) n))) else none
  | _ => none
 | 18 => match ds with
  | [] => some (ret1 (.v (.bool true)))
  | _ => none
 | _ => orcL1 f ds
theorem orcL2_ok : Known Tryz.prog orcL2 := by
 intro f ds r h
 unfold orcL2 at h
 split at h
 ·split at h
  ·split at h
   ·rename_i hc
    cases h
    exact .inl ⟨⟨_, Tryz.func9, name_ne _ (by kernel_rfl), rfl⟩, point_row _ hc⟩
   ·cases h
  ·cases h
 ·split at h
  ·cases h
   exact .inl ⟨⟨_, Tryz.func18, name_ne _ (by kernel_rfl), rfl⟩, awake10_call⟩
  ·cases h
 ·exact orcL1_ok f ds r h
theorem beq_self10 (l : Bool) : (l == l) = true := by simp
end
end Go.Proofs.YtdeigmjbcbjgeaaGreatDoor
