import Derived.Test.YtdeigmjbcbjgeaaGreatDoorYcFP
namespace Go.Proofs.YtdeigmjbcbjgeaaGreatDoor
open Go.RowKit
theorem eAdd_row {a b : List Int} (hc : isQ a = true ∧ isQ b = true ∧ (qnOf a).ok = true ∧ (qnOf b).ok = true) : CallOk Tryz.prog 40 [.agg (.flat .u8 a), .agg (.flat .u8 b)] (ret1 (Q4 (paddN (qnOf a) (qnOf b)))) := by
 have h := eAdd_call (qnOf a) (qnOf b) (Pn.ok_iff.1 hc.2.2.1) (Pn.ok_iff.1 hc.2.2.2)
 rwa [Q4, Q4, ← isQ_eq hc.1, ← isQ_eq hc.2.1] at h
theorem eDouble_row {a : List Int} (hc : isQ a = true ∧ (qnOf a).ok = true) : CallOk Tryz.prog 88 [.agg (.flat .u8 a)] (ret1 (Q4 (pdblN (qnOf a)))) := by
 have h := eDouble_call (qnOf a) (Pn.ok_iff.1 hc.2)
 rwa [Q4, ← isQ_eq hc.1] at h
def orcPE2 (f : Nat) (ds : List LV) : Option LRes :=
 match f with
 | 40 => match ds with
  | [.agg (.flat .u8 a), .agg (.flat .u8 b)] => if isQ a = true ∧ isQ b = true ∧ (qnOf a).ok = true ∧ (qnOf b).ok = true then some (ret1 (Q4 (paddN (qnOf a) (qnOf b)))) else none
  | _ => none
 | 88 => match ds with
  | [.agg (.flat .u8 a)] => if isQ a = true ∧ (qnOf a).ok = true then some (ret1 (Q4 (pdblN (qnOf a)))) else none
  | _ => none
 | 90 => match ds with
  | [] => some (ret1 (Q4 neuN))
  | _ => none
 | _ => orcPE1 f ds
theorem orcPE2_ok : Known Tryz.prog orcPE2 := by
 intro f ds r h
 unfold orcPE2 at h
 split at h
 ·split at h
  ·split at h
   ·rename_i hc
    cases h
    exact .inl ⟨⟨_, Tryz.func40, name_ne _ (by kernel_rfl), rfl⟩, eAdd_row hc⟩
   ·cases h
  ·cases h
 ·split at h
  ·split at h
   ·rename_i hc
    cases h
    exact .inl ⟨⟨_, Tryz.func88, name_ne _ (by kernel_rfl), rfl⟩, eDouble_row hc⟩
   ·cases h
  ·cases h
 ·split at h
  ·cases h
   exact .inl ⟨⟨_, Tryz.func90, name_ne _ (by kernel_rfl), rfl⟩, eNeu_call⟩
  ·cases h
 ·exact orcPE1_ok f ds r h
def PE2 : Env := ⟨tyL, orcPE2, false, noWk, noOrw⟩
theorem PE2_ok : EnvOk Tryz.prog PE2 := ⟨tyL_ok, orcPE2_ok, noOrw_ok⟩
theorem isN_PE2 (f : Nat) {ds : List LV} {K : LRes → Prop} (h : ∃ y, PE2.orc f ds = some y ∧ K y) : ∃ y, PE2.orc f ds = some y ∧ K y := h
set_option maxRecDepth 100000 in
theorem p_eAdd {p : Pn} (hp : p.lt) {q : Pn} (hq : q.lt) : PE2.orc 40 [Q4 p, Q4 q] = some (ret1 (Q4 (paddN p q))) := (if_pos ⟨(isQ_b4 hp).1, (isQ_b4 hq).1, by rw [(isQ_b4 hp).2]; exact Pn.ok_iff.2 hp, by rw [(isQ_b4 hq).2]; exact Pn.ok_iff.2 hq⟩).trans (by rw [(isQ_b4 hp).2, (isQ_b4 hq).2])
set_option maxRecDepth 100000 in
theorem p_eDouble {p : Pn} (hp : p.lt) : PE2.orc 88 [Q4 p] = some (ret1 (Q4 (pdblN p))) := (if_pos ⟨(isQ_b4 hp).1, by rw [(isQ_b4 hp).2]; exact Pn.ok_iff.2 hp⟩).trans (by rw [(isQ_b4 hp).2])
theorem p_eNeu : PE2.orc 90 [] = some (ret1 (Q4 neuN)) := rfl
set_option maxRecDepth 100000 in
set_option maxHeartbeats 8000000 in
theorem eEncode_gen (X Y Z T I U V L : List Int) (u0 y1 : Int) (lX : X.length = 32) (lY : Y.length = 32) (lZ : Z.length = 32) (lT : T.length = 32) (lU : U.length = 32) (lV : V.length = 32) (lI : I.length = 32) (hL : L = V.set 31 (bits .or .u8 y1 (IntKind.u8.wrap (u0 * 2 ^ 7))))
  (a1 : (Cont.flat .u8 U).at? 0 = some (.v (.int .u8 u0))) (a2 : (Cont.flat .u8 V).at? 31 = some (.v (.int .u8 y1)))
  (f1 : PE1.orc 46 [.agg (.flat .u8 Z)] = some (ret1 (.agg (.flat .u8 I)))) (f2 : PE1.orc 45 [.agg (.flat .u8 X), .agg (.flat .u8 I)] = some (ret1 (.agg (.flat .u8 U)))) (f3 : PE1.orc 45 [.agg (.flat .u8 Y), .agg (.flat .u8 I)] = some (ret1 (.agg (.flat .u8 V)))) :
  execF PE1 Tryz.f39 [.agg (.flat .u8 (X ++ (Y ++ (Z ++ T))))] (ret1 (.agg (.flat .u8 L))) := by
 obtain ⟨c1, c2, c3, _⟩ := cut4b lX lY lZ lT
 have lP : (X ++ (Y ++ (Z ++ T))).length = 128 := by simp only [List.length_append]; omega
 have lL : L.length = 32 := by rw [hL, List.length_set]; exact lV
 have p2 : layOne (.flat .u8 V) 31 (.flat .u8 [bits .or .u8 y1 (IntKind.u8.wrap (u0 * 2 ^ min (Int.toNat 7) IntKind.u8.bits))]) = some (.flat .u8 L) := by rw [hL]; exact put_flat (by omega)
 obtain ⟨P, hP⟩ : ∃ P, P = X ++ (Y ++ (Z ++ T)) := ⟨_, rfl⟩
 rw [← hP] at c1 c2 c3 lP ⊢
 clear hP hL
 have nL : (Cont.flat .u8 L).len = 32 := lL
 have zL : layOne (.flat .u8 (List.replicate 32 0)) 0 (.flat .u8 L) = some (.flat .u8 L) := lay_all (by rw [List.length_replicate, lL]) (by omega)
 have cL : (Cont.flat .u8 L).cut 0 32 = some (.flat .u8 L) := cut_all lL
 ((conv => whnf); repeat ((first | refine ⟨_, c1, ?_⟩ | refine ⟨_, c2, ?_⟩ | refine ⟨_, c3, ?_⟩ | refine ⟨_, a1, ?_⟩ | refine ⟨_, a2, ?_⟩ | refine ⟨_, p2, ?_⟩ | refine ⟨_, zL, ?_⟩ | refine ⟨nL, ?_⟩ | refine ⟨_, cL, ?_⟩ | ((with_reducible refine isN_PE1 46 ?_); refine ⟨_, f1, ?_⟩) | ((with_reducible refine isN_PE1 45 ?_); first | refine ⟨_, f2, ?_⟩ | refine ⟨_, f3, ?_⟩) | refine ⟨_, rfl, ?_⟩ | refine ⟨by decide, ?_⟩ | refine ⟨rfl, ?_⟩ | refine ⟨_, cut_all (by omega), ?_⟩ | refine ⟨_, lay_all (by (try simp only); (try simp only [List.length_replicate]); (try simp only [List.length_cons]); (try simp only [List.length_nil]); omega) (by omega), ?_⟩ | refine ⟨len_flat (by omega), ?_⟩); conv => whnf))
 rfl
def okShl7 : Bool := (List.range 256).all fun n => decide (IntKind.u8.wrap (((n : Nat) : Int) * 2 ^ 7) = ((128 * (n % 2) : Nat) : Int))
theorem shl7 (u : Nat) : IntKind.u8.wrap (bt u 0 * 2 ^ 7) = ((128 * (u % 2) : Nat) : Int) := by
 have e : bt u 0 = ((u % 256 : Nat) : Int) := by unfold bt; rw [Nat.mul_zero, Nat.pow_zero, Nat.div_one]
 have h1 : okShl7 = true := by kernel_rfl
 rw [okShl7, List.all_eq_true] at h1
 have h2 := of_decide_eq_true (h1 (u % 256) (List.mem_range.2 (by omega)))
 rw [e, h2, show u % 256 % 2 = u % 2 by omega]
theorem eEncode_call (p : Pn) (hp : p.lt) : CallOk Tryz.prog 39 [Q4 p] (ret1 (F (wrN p))) := by
 obtain ⟨h1, h2, h3, _⟩ := hp
 have f1 := p1_Inv (lt256 h3)
 have f2 := p1_Mul (lt256 h1) (pw_lt p.z e3P)
 have f3 := p1_Mul (lt256 h2) (pw_lt p.z e3P)
 have hvl : nM p.y (pw p.z e3P) < pP := nM_lp _ _
 have hpp : pP < 2 ^ 255 := by decide
 have hw : wrN p = nM p.y (pw p.z e3P) + nM p.x (pw p.z e3P) % 2 * 2 ^ 255 := by rw [← e3_same]; rfl
 rw [hw]
 generalize nM p.y (pw p.z e3P) = v at *
 generalize nM p.x (pw p.z e3P) = u at *
 have e : by32 (v + u % 2 * 2 ^ 255) = (by32 v).set 31 (bits .or .u8 (bt v 31) (IntKind.u8.wrap (bt u 0 * 2 ^ 7))) := (top_list v (u % 2) _ (by omega) (by omega) (shl7 u)).symm
 exact execF_ok follows_ok PE1_ok Tryz.func39 (eEncode_gen (by32 p.x) (by32 p.y) (by32 p.z) (by32 p.t) _ _ _ _ (bt u 0) (bt v 31) (byk_len _ _) (byk_len _ _) (byk_len _ _) (byk_len _ _) (byk_len _ _) (byk_len _ _) (byk_len _ _) e
  (by rw [← g_byk (n := u) (k := 32) (i := 0) (by decide)]; exact at_g (by rw [byk_len]; decide)) (by rw [← g_byk (n := v) (k := 32) (i := 31) (by decide)]; exact at_g (by rw [byk_len]; decide)) f1 f2 f3)
theorem eql_goP {a b : List Int} {q : Bool} {K : LV × List (Nat × Blk) → Prop} (ha : a.length = 32) (hb : b.length = 32) (hq : (a == b) = q) (h : K (.v (.bool q), [])) : runs (opBin PE1 .eql 23 (.agg (.flat .u8 a)) (.agg (.flat .u8 b))) K := by
 have e : opBin PE1 .eql 23 (.agg (.flat .u8 a)) (.agg (.flat .u8 b)) = some (.v (.bool (a == b)), []) := if_pos ⟨rfl, ha, hb⟩
 rw [e, hq]
 exact h
set_option maxRecDepth 100000 in
set_option maxHeartbeats 8000000 in
theorem eDecode_gen (l m YY U DY DE NU IV VV X NG V : List Int) (x1 : Int) (cn rb od z : Bool) (ll : l.length = 32) (lm : m.length = 32) (lYY : YY.length = 32) (lDE : DE.length = 32) (lX : X.length = 32) (lN : NG.length = 32) (lV : V.length = 128) (hU : U = (List.replicate 32 0).set 0 1)
  (a1 : (Cont.flat .u8 l).at? 31 = some (.v (.int .u8 x1))) (p1 : layOne (.flat .u8 l) 31 (.flat .u8 [bits .andNot .u8 x1 128]) = some (.flat .u8 m)) (hs : (x1.fdiv (2 ^ min (Int.toNat 7) IntKind.u8.bits) == 1) = od) (hz : (X == List.replicate 32 0) = z)
  (f1 : PE1.orc 75 [.agg (.flat .u8 m)] = some (ret1 (.v (.bool cn)))) (f2 : PE1.orc 76 [.agg (.flat .u8 m)] = some (ret1 (.agg (.flat .u8 YY)))) (f3 : PE1.orc 45 [.agg (.flat .u8 [163, 120, 89, 19, 202, 77, 235, 117, 171, 216, 65, 65, 77, 10, 112, 0, 152, 232, 121, 119, 121, 64, 199, 140, 115, 254, 111, 43, 238, 108, 3, 82]), .agg (.flat .u8 YY)] = some (ret1 (.agg (.flat .u8 DY)))) (f4 : PE1.orc 77 [.agg (.flat .u8 DY), .agg (.flat .u8 U)] = some (ret1 (.agg (.flat .u8 DE))))
  (f5 : PE1.orc 79 [.agg (.flat .u8 YY), .agg (.flat .u8 U)] = some (ret1 (.agg (.flat .u8 NU)))) (f6 : PE1.orc 46 [.agg (.flat .u8 DE)] = some (ret1 (.agg (.flat .u8 IV)))) (f7 : PE1.orc 45 [.agg (.flat .u8 NU), .agg (.flat .u8 IV)] = some (ret1 (.agg (.flat .u8 VV)))) (f8 : PE1.orc 78 [.agg (.flat .u8 VV)] = some (.many [.val (.agg (.flat .u8 X)), .val (.v (.bool rb))]))
  (f9 : PE1.orc 79 [.agg (.flat .u8 (List.replicate 32 0)), .agg (.flat .u8 X)] = some (ret1 (.agg (.flat .u8 NG)))) (f10 : PE1.orc 80 [.agg (.flat .u8 (bif od then NG else X)), .agg (.flat .u8 m)] = some (ret1 (.agg (.flat .u8 V)))) :
  execF PE1 Tryz.f38 [.agg (.flat .u8 l)] (bif cn && (rb && !(od && z)) then .many [.val (.agg (.flat .u8 V)), .val (.v (.bool true))] else .many [.val (.agg (.flat .u8 (List.replicate 128 0))), .val (.v (.bool false))]) := by
 have cl : (Cont.flat .u8 l).cut 0 32 = some (.flat .u8 l) := cut_all ll
 have cm : (Cont.flat .u8 m).cut 0 32 = some (.flat .u8 m) := cut_all lm
 have cX : (Cont.flat .u8 X).cut 0 32 = some (.flat .u8 X) := cut_all lX
 have cN : (Cont.flat .u8 NG).cut 0 32 = some (.flat .u8 NG) := cut_all lN
 have cYY : (Cont.flat .u8 YY).cut 0 32 = some (.flat .u8 YY) := cut_all lYY
 have cDE : (Cont.flat .u8 DE).cut 0 32 = some (.flat .u8 DE) := cut_all lDE
 have zN : layOne (.flat .u8 X) 0 (.flat .u8 NG) = some (.flat .u8 NG) := lay_all (by rw [lX, lN]) (by omega)
 have nN : (Cont.flat .u8 NG).len = 32 := lN
 subst hU
 have zV : layOne (.flat .u8 (List.replicate 128 0)) 0 (.flat .u8 V) = some (.flat .u8 V) := lay_all (by rw [List.length_replicate, lV]) (by omega)
 have nV : (Cont.flat .u8 V).len = 128 := lV
 have cV : (Cont.flat .u8 V).cut 0 128 = some (.flat .u8 V) := cut_all lV
 cases cn
 ·((conv => whnf); repeat ((first | refine ⟨_, cl, ?_⟩ | refine ⟨_, cm, ?_⟩ | refine ⟨_, a1, ?_⟩ | refine ⟨_, p1, ?_⟩ | ((with_reducible refine isN_PE1 75 ?_); first | refine ⟨_, f1, ?_⟩) | refine ⟨_, rfl, ?_⟩ | refine ⟨by decide, ?_⟩ | refine ⟨rfl, ?_⟩ | refine ⟨fun _ => ?_, fun h => absurd h (by decide)⟩ | refine ⟨_, lay_all (by (try simp only); (try simp only [List.length_replicate]); (try simp only [List.length_cons]); (try simp only [List.length_nil]); omega) (by omega), ?_⟩ | refine ⟨len_flat (by omega), ?_⟩); conv => whnf))
  rfl
 cases rb
 ·((conv => whnf); repeat ((first | refine ⟨_, cl, ?_⟩ | refine ⟨_, cm, ?_⟩ | refine ⟨_, cYY, ?_⟩ | refine ⟨_, cDE, ?_⟩ | refine ⟨_, a1, ?_⟩ | refine ⟨_, p1, ?_⟩ | ((with_reducible refine isN_PE1 75 ?_); first | refine ⟨_, f1, ?_⟩) | ((with_reducible refine isN_PE1 76 ?_); first | refine ⟨_, f2, ?_⟩) | ((with_reducible refine isN_PE1 45 ?_); first | refine ⟨_, f3, ?_⟩ | refine ⟨_, f7, ?_⟩) | ((with_reducible refine isN_PE1 77 ?_); first | refine ⟨_, f4, ?_⟩) | ((with_reducible refine isN_PE1 79 ?_); first | refine ⟨_, f5, ?_⟩ | refine ⟨_, f9, ?_⟩) | ((with_reducible refine isN_PE1 46 ?_); first | refine ⟨_, f6, ?_⟩) | ((with_reducible refine isN_PE1 78 ?_); first | refine ⟨_, f8, ?_⟩) | refine ⟨_, rfl, ?_⟩ | refine ⟨by decide, ?_⟩ | refine ⟨rfl, ?_⟩ | refine ⟨fun _ => ?_, fun h => absurd h (by decide)⟩ | refine ⟨fun h => absurd h (by decide), fun _ => ?_⟩ | refine ⟨_, lay_all (by (try simp only); (try simp only [List.length_replicate]); (try simp only [List.length_cons]); (try simp only [List.length_nil]); omega) (by omega), ?_⟩ | refine ⟨len_flat (by omega), ?_⟩); conv => whnf))
  rfl
 cases od <;> cases z
 all_goals
  ((conv => whnf); repeat ((first | refine ⟨_, cl, ?_⟩ | refine ⟨_, cm, ?_⟩ | refine ⟨_, cX, ?_⟩ | refine ⟨_, cN, ?_⟩ | refine ⟨_, cYY, ?_⟩ | refine ⟨_, cDE, ?_⟩ | refine ⟨_, a1, ?_⟩ | refine ⟨_, p1, ?_⟩ | refine ⟨_, zN, ?_⟩ | refine ⟨_, zV, ?_⟩ | refine ⟨_, cV, ?_⟩ | refine ⟨nV, ?_⟩ | refine ⟨nN, ?_⟩ | refine ⟨fun _ => ?_, fun h => absurd ((hs).symm.trans h) (by decide)⟩ | refine ⟨fun h => absurd ((hs).symm.trans h) (by decide), fun _ => ?_⟩ | ((with_reducible refine isN_PE1 75 ?_); first | refine ⟨_, f1, ?_⟩) | ((with_reducible refine isN_PE1 76 ?_); first | refine ⟨_, f2, ?_⟩) | ((with_reducible refine isN_PE1 45 ?_); first | refine ⟨_, f3, ?_⟩ | refine ⟨_, f7, ?_⟩) | ((with_reducible refine isN_PE1 77 ?_); first | refine ⟨_, f4, ?_⟩) | ((with_reducible refine isN_PE1 79 ?_); first | refine ⟨_, f5, ?_⟩ | refine ⟨_, f9, ?_⟩) | ((with_reducible refine isN_PE1 46 ?_); first | refine ⟨_, f6, ?_⟩) | ((with_reducible refine isN_PE1 78 ?_); first | refine ⟨_, f8, ?_⟩) | ((with_reducible refine isN_PE1 80 ?_); first | refine ⟨_, f10, ?_⟩) | refine ⟨_, rfl, ?_⟩ | refine ⟨by decide, ?_⟩ | refine ⟨rfl, ?_⟩ | refine ⟨fun _ => ?_, fun h => absurd h (by decide)⟩ | refine ⟨fun h => absurd h (by decide), fun _ => ?_⟩ | refine ⟨_, lay_all (by (try simp only); (try simp only [List.length_replicate]); (try simp only [List.length_cons]); (try simp only [List.length_nil]); omega) (by omega), ?_⟩ | refine ⟨len_flat (by omega), ?_⟩ | refine eql_goP lX (List.length_replicate ..) hz ?_); conv => whnf))
  rfl
theorem Q4_zero : Q4 ⟨0, 0, 0, 0⟩ = .agg (.flat .u8 (List.replicate 128 0)) := by kernel_rfl
theorem sgn_bit (n : Nat) (hn : n < 2 ^ 256) : ((bt n 31).fdiv (2 ^ min (Int.toNat 7) IntKind.u8.bits) == 1) = decide (n / 2 ^ 255 = 1) := by
 have e : (bt n 31).fdiv (2 ^ min (Int.toNat 7) IntKind.u8.bits) = ((n / 2 ^ 255 : Nat) : Int) := by
  rw [bt]
  show (((n / 2 ^ (8 * 31) % 256 : Nat) : Int)).fdiv ((2 ^ 7 : Nat) : Int) = _
  rw [Int.fdiv_eq_ediv_of_nonneg _ (by omega), ← Int.natCast_ediv]
  congr 1
  omega
 rw [e]
 by_cases h : n / 2 ^ 255 = 1
 ·rw [h]; rfl
 ·rw [decide_eq_false h, show n / 2 ^ 255 = 0 by omega]; rfl
theorem clr_list (n : Nat) : (by32 n).set 31 (bits .andNot .u8 (bt n 31) 128) = by32 (n % 2 ^ 255) := by
 have h : bits .andNot .u8 (bt n 31) 128 = ((n / 2 ^ (8 * 31) % 256 % 128 : Nat) : Int) := (clamp_bits (n / 2 ^ (8 * 31) % 256) (by omega)).2.2.2.2.1
 exact mask_list n _ h
theorem eDecode_call (n : Nat) (hn : n < 2 ^ 256) : CallOk Tryz.prog 38 [F n] (.many [.val (Q4 (rdP n)), .val (.v (.bool (rdOk n)))]) := by
 have hy : n % 2 ^ 255 < 2 ^ 256 := by omega
 have hvl : nM (nS (nM (n % 2 ^ 255) (n % 2 ^ 255)) 1) (pw (nA (nM dN (nM (n % 2 ^ 255) (n % 2 ^ 255))) 1) e3P) < pP := nM_lp _ _
 have hr : sqrtP (nM (nS (nM (n % 2 ^ 255) (n % 2 ^ 255)) 1) (pw (nA (nM dN (nM (n % 2 ^ 255) (n % 2 ^ 255))) 1) e3P)) = rdX n := by
  rw [← rootR_eq, Nat.mod_eq_of_lt hvl, ← e3_same]
  rfl
 have hx0 : (rdX n).1 < pP := rootR_lp _
 have f8 := o_pSqrt (lt256 hvl)
 rw [hr] at f8
 have f1 := p1_Can hy
 have f2 := o_eSquare hy
 have f3 := p1_Mul (lt256 dN_lt) (nM_lt (n % 2 ^ 255) (n % 2 ^ 255))
 have f4 := p1_Add (nM_lt dN (nM (n % 2 ^ 255) (n % 2 ^ 255))) (show 1 < 2 ^ 256 by decide)
 have f5 := p1_Sub (nM_lt (n % 2 ^ 255) (n % 2 ^ 255)) (show 1 < 2 ^ 256 by decide)
 have f6 := p1_Inv (nA_lt (nM dN (nM (n % 2 ^ 255) (n % 2 ^ 255))) 1)
 have f7 := p1_Mul (nS_lt (nM (n % 2 ^ 255) (n % 2 ^ 255)) 1) (pw_lt (nA (nM dN (nM (n % 2 ^ 255) (n % 2 ^ 255))) 1) e3P)
 have f9 := p1_Sub (show 0 < 2 ^ 256 by decide) (lt256 hx0)
 have f10 := o_eAt (lt256 (rdS_lp n)) hy
 have hS : by32 (rdS n) = bif decide (n / 2 ^ 255 = 1) then by32 (nS 0 (rdX n).1) else by32 (rdX n).1 := by
  rw [show rdS n = if n / 2 ^ 255 = 1 then nS 0 (rdX n).1 else (rdX n).1 from rfl]
  by_cases h : n / 2 ^ 255 = 1
  ·rw [if_pos h, decide_eq_true h, cond_true]
  ·rw [if_neg h, decide_eq_false h, cond_false]
 have hz : (by32 (rdX n).1 == List.replicate 32 0) = decide ((rdX n).1 = 0) := by
  rw [← by32_z]
  by_cases h : (rdX n).1 = 0
  ·rw [h]; decide
  ·rw [decide_eq_false h]
   refine Bool.eq_false_iff.2 fun e => h (by32_inj (lt256 hx0) (by decide) (eq_of_beq e))
 have hok : rdOk n = (decide (n % 2 ^ 255 < pP) && ((rdX n).2 && !(decide (n / 2 ^ 255 = 1) && decide ((rdX n).1 = 0)))) := by
  unfold rdOk
  rw [Bool.and_assoc, Bool.and_comm (decide (n / 2 ^ 255 = 1))]
 have hres : (.many [.val (Q4 (rdP n)), .val (.v (.bool (rdOk n)))] : LRes) = bif decide (n % 2 ^ 255 < pP) && ((rdX n).2 && !(decide (n / 2 ^ 255 = 1) && decide ((rdX n).1 = 0))) then .many [.val (Q4 ⟨rdS n, n % 2 ^ 255, 1, nM (rdS n) (n % 2 ^ 255)⟩), .val (.v (.bool true))] else .many [.val (.agg (.flat .u8 (List.replicate 128 0))), .val (.v (.bool false))] := by
  rw [← hok, rdP]
  cases rdOk n with
  | false => rw [if_neg (by decide), Q4_zero, cond_false]
  | true => rw [if_pos rfl, cond_true]
 have hd := sgn_bit n hn
 have hc := clr_list n
 have a1 : (Cont.flat .u8 (by32 n)).at? 31 = some (.v (.int .u8 (bt n 31))) := by
  rw [← g_byk (n := n) (k := 32) (i := 31) (by decide)]
  exact at_g (by rw [byk_len]; decide)
 have p1 : layOne (.flat .u8 (by32 n)) 31 (.flat .u8 [bits .andNot .u8 (bt n 31) 128]) = some (.flat .u8 (by32 (n % 2 ^ 255))) := by
  rw [← hc]
  exact put_flat (by rw [byk_len]; decide)
 rw [hres]
 rw [F, hS] at f10
 have lV := b4_len ⟨rdS n, n % 2 ^ 255, 1, nM (rdS n) (n % 2 ^ 255)⟩
 simp only [F, Q4] at f1 f2 f3 f4 f5 f6 f7 f8 f9 f10 ⊢
 rw [dl_eq] at f3
 rw [by32_z] at f9
 have l1 := byk_len n 32
 have l2 := byk_len (n % 2 ^ 255) 32
 have l3 := byk_len (nM (n % 2 ^ 255) (n % 2 ^ 255)) 32
 have l4 := byk_len (nA (nM dN (nM (n % 2 ^ 255) (n % 2 ^ 255))) 1) 32
 have l5 := byk_len (rdX n).1 32
 have l6 := byk_len (nS 0 (rdX n).1) 32
 generalize b4 ⟨rdS n, n % 2 ^ 255, 1, nM (rdS n) (n % 2 ^ 255)⟩ = V at *
 exact execF_ok follows_ok PE1_ok Tryz.func38 (eDecode_gen _ _ _ _ _ _ _ _ _ _ _ _ _ _ _ _ _ l1 l2 l3 l4 l5 l6 lV by_one a1 p1 hd hz f1 f2 f3 f4 f5 f6 f7 f8 f9 f10)
theorem eql_goP2 {a b : List Int} {q : Bool} {K : LV × List (Nat × Blk) → Prop} (ha : a.length = 32) (hb : b.length = 32) (hq : (a == b) = q) (h : K (.v (.bool q), [])) : runs (opBin PE2 .eql 23 (.agg (.flat .u8 a)) (.agg (.flat .u8 b))) K := by
 have e : opBin PE2 .eql 23 (.agg (.flat .u8 a)) (.agg (.flat .u8 b)) = some (.v (.bool (a == b)), []) := if_pos ⟨rfl, ha, hb⟩
 rw [e, hq]
 exact h
set_option maxRecDepth 100000 in
set_option maxHeartbeats 8000000 in
theorem eSmall_gen (P A B C X Y Z : List Int) (q1 q2 : Bool) (lP : P.length = 128) (lA : A.length = 128) (lB : B.length = 128) (lC : C.length = 128) (lX : X.length = 32) (lY : Y.length = 32) (lZ : Z.length = 32)
  (c0 : (Cont.flat .u8 C).cut 0 32 = some (.flat .u8 X)) (c1 : (Cont.flat .u8 C).cut 32 32 = some (.flat .u8 Y)) (c2 : (Cont.flat .u8 C).cut 64 32 = some (.flat .u8 Z)) (h1 : (X == List.replicate 32 0) = q1) (h2 : (Y == Z) = q2)
  (f1 : PE2.orc 88 [.agg (.flat .u8 P)] = some (ret1 (.agg (.flat .u8 A)))) (f2 : PE2.orc 88 [.agg (.flat .u8 A)] = some (ret1 (.agg (.flat .u8 B)))) (f3 : PE2.orc 88 [.agg (.flat .u8 B)] = some (ret1 (.agg (.flat .u8 C)))) :
  execF PE2 Tryz.f47 [.agg (.flat .u8 P)] (ret1 (.v (.bool (q1 && q2)))) := by
 have cP : (Cont.flat .u8 P).cut 0 128 = some (.flat .u8 P) := cut_all lP
 have nP : (Cont.flat .u8 P).len = 128 := lP
 have cA : (Cont.flat .u8 A).cut 0 128 = some (.flat .u8 A) := cut_all lA
 have nA : (Cont.flat .u8 A).len = 128 := lA
 have cB : (Cont.flat .u8 B).cut 0 128 = some (.flat .u8 B) := cut_all lB
 have nB : (Cont.flat .u8 B).len = 128 := lB
 have cC : (Cont.flat .u8 C).cut 0 128 = some (.flat .u8 C) := cut_all lC
 have nC : (Cont.flat .u8 C).len = 128 := lC
 have zPA : layOne (.flat .u8 P) 0 (.flat .u8 A) = some (.flat .u8 A) := lay_all (by rw [lP, lA]) (by omega)
 have zAB : layOne (.flat .u8 A) 0 (.flat .u8 B) = some (.flat .u8 B) := lay_all (by rw [lA, lB]) (by omega)
 have zBC : layOne (.flat .u8 B) 0 (.flat .u8 C) = some (.flat .u8 C) := lay_all (by rw [lB, lC]) (by omega)
 ((conv => whnf); repeat ((first | refine ⟨_, rfl, ?_⟩ | refine ⟨by decide, ?_⟩ | refine ⟨rfl, ?_⟩ | refine ⟨fun _ => ?_, fun h => absurd h (by decide)⟩ | refine ⟨fun h => absurd h (by decide), fun _ => ?_⟩ | refine ⟨inI_of (by omega), ?_⟩ | refine ⟨⟨rfl, inI_of (by omega)⟩, ?_⟩ | refine ⟨⟨rfl, by decide⟩, ?_⟩ | (apply Exists.intro; refine ⟨?_, ?_⟩; ((try simp only); (try simp only [Nat.zero_add]); (try simp only [Nat.mul_one]); (try simp only [Int.toNat_natCast]); first | exact at_g (by omega) | exact put_flat (by omega))) | refine ⟨_, cut_all (by omega), ?_⟩ | refine ⟨_, lay_all (by omega) (by omega), ?_⟩ | refine ⟨_, lay_all (by (try simp only); (try simp only [List.length_replicate]); (try simp only [List.length_cons]); (try simp only [List.length_nil]); omega) (by omega), ?_⟩ | refine ⟨by omega, ?_⟩ | refine ⟨len_flat (by omega), ?_⟩ | refine ⟨apart_uv _ _ _, ?_⟩ | refine ⟨_, resSlot_own rfl (by omega) (by first | exact .inl rfl | exact .inr ⟨rfl, rfl⟩), ?_⟩ | refine ⟨(by kernel_rfl : regB _ = true), ?_⟩ | refine ⟨⟨rfl, inI_of (by omega), by decide⟩, ?_⟩ | (apply Exists.intro; refine ⟨?_, ?_⟩; ((try simp only); (try simp only [Nat.zero_add]); (try simp only [Nat.mul_one]); (try simp only [Int.toNat_natCast]); first | exact at_drop_g (by omega) | exact cut_rest (by omega)))); conv => whnf))
 refine .inr ⟨4, ?_⟩
 ((conv => whnf); repeat ((first | refine ⟨_, cP, ?_⟩ | refine ⟨_, cA, ?_⟩ | refine ⟨_, cB, ?_⟩ | refine ⟨_, zPA, ?_⟩ | refine ⟨_, zAB, ?_⟩ | refine ⟨_, zBC, ?_⟩ | refine ⟨_, c0, ?_⟩ | refine ⟨nA, ?_⟩ | refine ⟨nB, ?_⟩ | refine ⟨nC, ?_⟩ | ((with_reducible refine isN_PE2 88 ?_); first | refine ⟨_, f1, ?_⟩ | refine ⟨_, f2, ?_⟩ | refine ⟨_, f3, ?_⟩) | refine ⟨_, rfl, ?_⟩ | refine ⟨rfl, ?_⟩ | refine ⟨fun _ => ?_, fun h => absurd h (by decide)⟩ | refine ⟨fun h => absurd h (by decide), fun _ => ?_⟩); conv => whnf))
 refine eql_goP2 lX (List.length_replicate ..) h1 ?_
 cases q1 with
 | false =>
  ((conv => whnf); repeat ((first | refine ⟨_, rfl, ?_⟩ | refine ⟨by decide, ?_⟩ | refine ⟨rfl, ?_⟩ | refine ⟨fun h => absurd h (by decide), fun _ => ?_⟩); conv => whnf))
  rfl
 | true =>
  ((conv => whnf); repeat ((first | refine ⟨_, c1, ?_⟩ | refine ⟨_, c2, ?_⟩ | refine ⟨by decide, ?_⟩ | refine ⟨fun _ => ?_, fun h => absurd h (by decide)⟩); conv => whnf))
  refine eql_goP2 lY lZ h2 ?_
  cases q2 with
  | false =>
   ((conv => whnf); repeat ((first | refine ⟨_, rfl, ?_⟩ | refine ⟨by decide, ?_⟩ | refine ⟨rfl, ?_⟩ | refine ⟨fun _ => ?_, fun h => absurd h (by decide)⟩); conv => whnf))
   rfl
  | true =>
   ((conv => whnf); repeat ((first | refine ⟨_, rfl, ?_⟩ | refine ⟨by decide, ?_⟩ | refine ⟨rfl, ?_⟩ | refine ⟨fun _ => ?_, fun h => absurd h (by decide)⟩); conv => whnf))
   rfl
theorem eSmall_call (p : Pn) (hp : p.lt) : CallOk Tryz.prog 47 [Q4 p] (ret1 (.v (.bool (psmN p)))) := by
 have l1 := pdblN_lt p
 have l2 := pdblN_lt (pdblN p)
 have f1 := p_eDouble hp
 have f2 := p_eDouble l1
 have f3 := p_eDouble l2
 have l3 := pdblN_lt (pdblN (pdblN p))
 unfold psmN
 generalize pdblN (pdblN (pdblN p)) = r at *
 obtain ⟨c0, c1, c2, _⟩ := cut4b (byk_len r.x 32) (byk_len r.y 32) (byk_len r.z 32) (byk_len r.t 32)
 have h1 : (by32 r.x == List.replicate 32 0) = decide (r.x = 0) := by
  rw [← by32_z]
  by_cases h : r.x = 0
  ·rw [h]; decide
  ·rw [decide_eq_false h]
   exact Bool.eq_false_iff.2 fun e => h (by32_inj (lt256 l3.1) (by decide) (eq_of_beq e))
 have h2 : (by32 r.y == by32 r.z) = decide (r.y = r.z) := by
  by_cases h : r.y = r.z
  ·rw [h, decide_eq_true rfl]; exact beq_self_eq_true _
  ·rw [decide_eq_false h]
   exact Bool.eq_false_iff.2 fun e => h (by32_inj (lt256 l3.2.1) (lt256 l3.2.2.1) (eq_of_beq e))
 exact execF_ok follows_ok PE2_ok Tryz.func47 (eSmall_gen _ _ _ (b4 r) _ _ _ _ _ (b4_len _) (b4_len _) (b4_len _) (b4_len _) (byk_len _ _) (byk_len _ _) (byk_len _ _) c0 c1 c2 h1 h2 f1 f2 f3)
set_option maxRecDepth 100000 in
set_option maxHeartbeats 8000000 in
theorem eMul_exec (k : Nat) (l : List Int) (p : Pn) (hl : l = by32 k) (hp : p.lt) : execF PE2 Tryz.f49 [.agg (.flat .u8 l), Q4 p] (ret1 (Q4 (pmulN k p 256))) := by
 have hlen : l.length = 32 := by rw [hl, byk_len]
 obtain ⟨N0, hN0⟩ : ∃ N0, N0 = b4 neuN := ⟨_, rfl⟩
 have lN0 : N0.length = 128 := by rw [hN0, b4_len]
 have fN := p_eNeu
 rw [Q4, ← hN0] at fN
 have zN0 : layOne (.flat .u8 (List.replicate 128 0)) 0 (.flat .u8 N0) = some (.flat .u8 N0) := lay_all (by rw [List.length_replicate, lN0]) (by omega)
 have cN0 : (Cont.flat .u8 N0).cut 0 128 = some (.flat .u8 N0) := cut_all lN0
 have nN0 : (Cont.flat .u8 N0).len = 128 := lN0
 ((conv => whnf); repeat ((first | refine ⟨_, zN0, ?_⟩ | refine ⟨nN0, ?_⟩ | ((with_reducible refine isN_PE2 90 ?_); refine ⟨_, fN, ?_⟩) | refine ⟨rfl, ?_⟩); conv => whnf))
 refine .inl ⟨fun m st => ∃ (i : Nat) (O Q : List Int), m = 256 - i ∧ Q = b4 p ∧ i ≤ 256 ∧ O = b4 (pmulN k p i) ∧ st = ⟨[.poison, .poison, .ptr 16 0, .ptr 24 0, .ptr 32 0, .ptr 40 0, .poison, .poison, .poison, iv .i64 i, .poison, .poison, .poison, .poison, .poison, .poison, .poison, .poison, .poison, .poison, .poison, .poison, .poison, .poison, .poison, .poison, .poison, .poison, .poison, .poison],
   [(16, ⟨.flat .u8 l, 23, false⟩), (24, ⟨.flat .u8 Q, 59, false⟩), (32, ⟨.flat .u8 (List.replicate 128 0), 59, false⟩), (40, ⟨.flat .u8 O, 59, false⟩)]⟩,
   ⟨[0, 1, 6, 7, 8, 10, 11, 12, 13, 14, 15, 16, 17, 18, 19, 20, 21, 22, 23, 24, 25, 26, 27, 28, 29], [], 256, 0, N0, b4 p, rfl, rfl, by omega, hN0, by kernel_rfl⟩, ?_⟩
 clear zN0 cN0 nN0 fN lN0 hN0 N0
 rintro m _ ⟨i, O, Q, hm, hQ, hi, hO, rfl⟩
 have lO : O.length = 128 := by rw [hO, b4_len]
 have cO : (Cont.flat .u8 O).cut 0 128 = some (.flat .u8 O) := cut_all lO
 conv => whnf
 refine ⟨fun h => ?_, fun h => ?_⟩
 ·have h := of_decide_eq_true h
  have hi : i < 256 := by omega
  have lQ : Q.length = 128 := by rw [hQ, b4_len]
  have cQ : (Cont.flat .u8 Q).cut 0 128 = some (.flat .u8 Q) := cut_all lQ
  have e0 : IntKind.i64.wrap (255 - (i : Int)) = ((255 - i : Nat) : Int) := by rw [wrap64 (by omega)]; omega
  have e1 := tdiv8k (255 - i) (by omega)
  have e2 : IntKind.i64.wrap ((i : Int) + 1) = ((i + 1 : Nat) : Int) := by rw [wrap64 (by omega)]; omega
  have eb := bit_k (l := l) (n := k) (i := 255 - i) (by rw [hl, g_byk (by omega)])
  have hs : pmulN k p (i + 1) = if Nat.testBit k (255 - i) then paddN (pdblN (pmulN k p i)) p else pdblN (pmulN k p i) := rfl
  have f1 := p_eDouble (pmulN_lt k p i)
  have f2 := p_eAdd (pdblN_lt (pmulN k p i)) hp
  obtain ⟨X, hX⟩ : ∃ X, X = b4 (pdblN (pmulN k p i)) := ⟨_, rfl⟩
  obtain ⟨Y, hY⟩ : ∃ Y, Y = b4 (paddN (pdblN (pmulN k p i)) p) := ⟨_, rfl⟩
  have lX : X.length = 128 := by rw [hX, b4_len]
  have lY : Y.length = 128 := by rw [hY, b4_len]
  rw [Q4, Q4, ← hX, ← hO] at f1
  rw [Q4, Q4, Q4, ← hY, ← hX, ← hQ] at f2
  have cX : (Cont.flat .u8 X).cut 0 128 = some (.flat .u8 X) := cut_all lX
  have nX : (Cont.flat .u8 X).len = 128 := lX
  have nY : (Cont.flat .u8 Y).len = 128 := lY
  have z1 : layOne (.flat .u8 O) 0 (.flat .u8 X) = some (.flat .u8 X) := lay_all (by rw [lO, lX]) (by omega)
  have z2 : layOne (.flat .u8 X) 0 (.flat .u8 Y) = some (.flat .u8 Y) := lay_all (by rw [lX, lY]) (by omega)
  rcases hb : Nat.testBit k (255 - i) with _ | _
  ·rw [hb] at eb hs
   have q : (bits .and .u8 ((g l ((255 - i) / 8)).fdiv (2 ^ min ((IntKind.i64.wrap (255 - (i : Int))).tmod 8).toNat IntKind.u8.bits)) 1 == 1) = false := by rw [e0, eb]; rfl
   ((conv => whnf); repeat ((first | refine ⟨fun _ => ?_, fun h => absurd ((q).symm.trans h) (by decide)⟩ | refine ⟨fun h => absurd ((q).symm.trans h) (by decide), fun _ => ?_⟩ | refine ⟨(by rw [e0]; exact tmod8_nn _), ?_⟩ | refine ⟨_, cO, ?_⟩ | refine ⟨_, z1, ?_⟩ | refine ⟨nX, ?_⟩ | ((with_reducible refine isN_PE2 88 ?_); first | refine ⟨_, f1, ?_⟩) | refine ⟨_, rfl, ?_⟩ | refine ⟨by decide, ?_⟩ | refine ⟨rfl, ?_⟩ | refine ⟨by (try simp only); (try simp only [e0]); (try simp only [e1]); exact inI_of (by omega), ?_⟩ | (apply Exists.intro; refine ⟨?_, ?_⟩; ((try simp only); (try simp only [e0]); (try simp only [e1]); (try simp only [Nat.zero_add]); (try simp only [Nat.mul_one]); (try simp only [Int.toNat_natCast]); (try simp only [e0]); (try simp only [e1]); (try simp only [Nat.zero_add]); (try simp only [Nat.mul_one]); (try simp only [Int.toNat_natCast]); first | exact at_g (by omega) | exact put_flat (by omega)))); conv => whnf))
   refine ⟨[0, 1, 6, 7, 8, 10, 11, 12, 13, 14, 15, 16, 17, 18, 19, 20, 21, 22, 23, 24, 25, 26, 27, 28, 29], [], 256 - (i + 1), ?_, i + 1, X, Q, rfl, hQ, by omega, ?_, ?_⟩
   ·omega
   ·rw [hs]; exact hX
   ·rw [e2]; kernel_rfl
  ·rw [hb] at eb hs
   have q : (bits .and .u8 ((g l ((255 - i) / 8)).fdiv (2 ^ min ((IntKind.i64.wrap (255 - (i : Int))).tmod 8).toNat IntKind.u8.bits)) 1 == 1) = true := by rw [e0, eb]; rfl
   ((conv => whnf); repeat ((first | refine ⟨fun _ => ?_, fun h => absurd ((q).symm.trans h) (by decide)⟩ | refine ⟨fun h => absurd ((q).symm.trans h) (by decide), fun _ => ?_⟩ | refine ⟨(by rw [e0]; exact tmod8_nn _), ?_⟩ | refine ⟨_, cO, ?_⟩ | refine ⟨_, cX, ?_⟩ | refine ⟨_, cQ, ?_⟩ | refine ⟨_, z1, ?_⟩ | refine ⟨_, z2, ?_⟩ | refine ⟨nX, ?_⟩ | refine ⟨nY, ?_⟩ | ((with_reducible refine isN_PE2 88 ?_); first | refine ⟨_, f1, ?_⟩) | ((with_reducible refine isN_PE2 40 ?_); first | refine ⟨_, f2, ?_⟩) | refine ⟨_, rfl, ?_⟩ | refine ⟨by decide, ?_⟩ | refine ⟨rfl, ?_⟩ | refine ⟨by (try simp only); (try simp only [e0]); (try simp only [e1]); exact inI_of (by omega), ?_⟩ | (apply Exists.intro; refine ⟨?_, ?_⟩; ((try simp only); (try simp only [e0]); (try simp only [e1]); (try simp only [Nat.zero_add]); (try simp only [Nat.mul_one]); (try simp only [Int.toNat_natCast]); (try simp only [e0]); (try simp only [e1]); (try simp only [Nat.zero_add]); (try simp only [Nat.mul_one]); (try simp only [Int.toNat_natCast]); first | exact at_g (by omega) | exact put_flat (by omega)))); conv => whnf))
   refine ⟨[0, 1, 6, 7, 8, 10, 11, 12, 13, 14, 15, 16, 17, 18, 19, 20, 21, 22, 23, 24, 25, 26, 27, 28, 29], [], 256 - (i + 1), ?_, i + 1, Y, Q, rfl, hQ, by omega, ?_, ?_⟩
   ·omega
   ·rw [hs]; exact hY
   ·rw [e2]; kernel_rfl
 ·have h := of_decide_eq_false h
  have hi : i = 256 := by omega
  rw [hi] at hO
  rw [Q4, ← hO]
  have nO : (Cont.flat .u8 O).len = 128 := lO
  have zO : layOne (.flat .u8 (List.replicate 128 0)) 0 (.flat .u8 O) = some (.flat .u8 O) := lay_all (by rw [List.length_replicate, lO]) (by omega)
  clear hO
  ((conv => whnf); repeat ((first | refine ⟨_, cO, ?_⟩ | refine ⟨_, zO, ?_⟩ | refine ⟨nO, ?_⟩ | refine ⟨_, rfl, ?_⟩ | refine ⟨rfl, ?_⟩); conv => whnf))
  rfl
theorem eMul_call (k : Nat) (p : Pn) (_ : k < 2 ^ 256) (hp : p.lt) : CallOk Tryz.prog 49 [F k, Q4 p] (ret1 (Q4 (pmulN k p 256))) := execF_ok follows_ok PE2_ok Tryz.func49 (eMul_exec k _ p rfl hp)
set_option maxRecDepth 100000 in
theorem eBase_call : CallOk Tryz.prog 12 [] (ret1 (F baseN)) := runF_ok follows_ok PE1_ok Tryz.func12 (fuel := 200) (by kernel_rfl)
end Go.Proofs.YtdeigmjbcbjgeaaGreatDoor
namespace Go.Proofs.YtdeigmjbcbjgeaaGreatDoor
open Go.RowKit
theorem eEncode_row {a : List Int} (hc : isQ a = true ∧ (qnOf a).ok = true) : CallOk Tryz.prog 39 [.agg (.flat .u8 a)] (ret1 (F (wrN (qnOf a)))) := by
 have h := eEncode_call (qnOf a) (Pn.ok_iff.1 hc.2)
 rwa [Q4, ← isQ_eq hc.1] at h
theorem eDecode_row {a : List Int} (hc : isF a = true) : CallOk Tryz.prog 38 [.agg (.flat .u8 a)] (.many [.val (Q4 (rdP (nb a))), .val (.v (.bool (rdOk (nb a))))]) := by
 have h := eDecode_call (nb a) (nb32_lt hc)
 rwa [F, ← isF_eq hc] at h
theorem eMul_row {a b : List Int} (hc : isF a = true ∧ isQ b = true ∧ (qnOf b).ok = true) : CallOk Tryz.prog 49 [.agg (.flat .u8 a), .agg (.flat .u8 b)] (ret1 (Q4 (pmulN (nb a) (qnOf b) 256))) := by
 have h := eMul_call (nb a) (qnOf b) (nb32_lt hc.1) (Pn.ok_iff.1 hc.2.2)
 rwa [F, Q4, ← isF_eq hc.1, ← isQ_eq hc.2.1] at h
theorem eSmall_row {a : List Int} (hc : isQ a = true ∧ (qnOf a).ok = true) : CallOk Tryz.prog 47 [.agg (.flat .u8 a)] (ret1 (.v (.bool (psmN (qnOf a))))) := by
 have h := eSmall_call (qnOf a) (Pn.ok_iff.1 hc.2)
 rwa [Q4, ← isQ_eq hc.1] at h
theorem eNeg_row {a : List Int} (hc : isQ a = true ∧ (qnOf a).ok = true) : CallOk Tryz.prog 61 [.agg (.flat .u8 a)] (ret1 (Q4 (oppN (qnOf a)))) := by
 have h := eNeg_call (qnOf a) (Pn.ok_iff.1 hc.2)
 rwa [Q4, ← isQ_eq hc.1] at h
def orcPE3 (f : Nat) (ds : List LV) : Option LRes :=
 match f with
 | 39 => match ds with
  | [.agg (.flat .u8 a)] => if isQ a = true ∧ (qnOf a).ok = true then some (ret1 (F (wrN (qnOf a)))) else none
  | _ => none
 | 38 => match ds with
  | [.agg (.flat .u8 a)] => if isF a = true then some (.many [.val (Q4 (rdP (nb a))), .val (.v (.bool (rdOk (nb a))))]) else none
  | _ => none
 | 49 => match ds with
  | [.agg (.flat .u8 a), .agg (.flat .u8 b)] => if isF a = true ∧ isQ b = true ∧ (qnOf b).ok = true then some (ret1 (Q4 (pmulN (nb a) (qnOf b) 256))) else none
  | _ => none
 | 47 => match ds with
  | [.agg (.flat .u8 a)] => if isQ a = true ∧ (qnOf a).ok = true then some (ret1 (.v (.bool (psmN (qnOf a))))) else none
  | _ => none
 | 61 => match ds with
  | [.agg (.flat .u8 a)] => if isQ a = true ∧ (qnOf a).ok = true then some (ret1 (Q4 (oppN (qnOf a)))) else none
  | _ => none
 | 12 => match ds with
  | [] => some (ret1 (F baseN))
  | _ => none
 | _ => orcPE2 f ds
theorem orcPE3_ok : Known Tryz.prog orcPE3 := by
 intro f ds r h
 unfold orcPE3 at h
 split at h
 ·split at h
  ·split at h
   ·rename_i hc
    cases h
    exact .inl ⟨⟨_, Tryz.func39, name_ne _ (by kernel_rfl), rfl⟩, eEncode_row hc⟩
   ·cases h
  ·cases h
 ·split at h
  ·split at h
   ·rename_i hc
    cases h
    exact .inl ⟨⟨_, Tryz.func38, name_ne _ (by kernel_rfl), rfl⟩, eDecode_row hc⟩
   ·cases h
  ·cases h
 ·split at h
  ·split at h
   ·rename_i hc
    cases h
    exact .inl ⟨⟨_, Tryz.func49, name_ne _ (by kernel_rfl), rfl⟩, eMul_row hc⟩
   ·cases h
  ·cases h
 ·split at h
  ·split at h
   ·rename_i hc
    cases h
    exact .inl ⟨⟨_, Tryz.func47, name_ne _ (by kernel_rfl), rfl⟩, eSmall_row hc⟩
   ·cases h
  ·cases h
 ·split at h
  ·split at h
   ·rename_i hc
    cases h
    exact .inl ⟨⟨_, Tryz.func61, name_ne _ (by kernel_rfl), rfl⟩, eNeg_row hc⟩
   ·cases h
  ·cases h
 ·split at h
  ·cases h
   exact .inl ⟨⟨_, Tryz.func12, name_ne _ (by kernel_rfl), rfl⟩, eBase_call⟩
  ·cases h
 ·exact orcPE2_ok f ds r h
def PE3 : Env := ⟨tyL, orcPE3, false, noWk, noOrw⟩
theorem PE3_ok : EnvOk Tryz.prog PE3 := ⟨tyL_ok, orcPE3_ok, noOrw_ok⟩
theorem isN_PE3 (f : Nat) {ds : List LV} {K : LRes → Prop} (h : ∃ y, PE3.orc f ds = some y ∧ K y) : ∃ y, PE3.orc f ds = some y ∧ K y := h
set_option maxRecDepth 100000 in
theorem p_eEncode {p : Pn} (hp : p.lt) : PE3.orc 39 [Q4 p] = some (ret1 (F (wrN p))) := (if_pos ⟨(isQ_b4 hp).1, by rw [(isQ_b4 hp).2]; exact Pn.ok_iff.2 hp⟩).trans (by rw [(isQ_b4 hp).2])
set_option maxRecDepth 100000 in
theorem p_eDecode {pn : Nat} (hpn : pn < 2 ^ 256) : PE3.orc 38 [F pn] = some (.many [.val (Q4 (rdP pn)), .val (.v (.bool (rdOk pn)))]) := (if_pos (isF_by _)).trans (by rw [nb_by32 hpn])
set_option maxRecDepth 100000 in
theorem p_eMul {pn : Nat} (hpn : pn < 2 ^ 256) {q : Pn} (hq : q.lt) : PE3.orc 49 [F pn, Q4 q] = some (ret1 (Q4 (pmulN pn q 256))) := (if_pos ⟨isF_by _, (isQ_b4 hq).1, by rw [(isQ_b4 hq).2]; exact Pn.ok_iff.2 hq⟩).trans (by rw [nb_by32 hpn, (isQ_b4 hq).2])
set_option maxRecDepth 100000 in
theorem p_eSmall {p : Pn} (hp : p.lt) : PE3.orc 47 [Q4 p] = some (ret1 (.v (.bool (psmN p)))) := (if_pos ⟨(isQ_b4 hp).1, by rw [(isQ_b4 hp).2]; exact Pn.ok_iff.2 hp⟩).trans (by rw [(isQ_b4 hp).2])
set_option maxRecDepth 100000 in
theorem p_eNeg {p : Pn} (hp : p.lt) : PE3.orc 61 [Q4 p] = some (ret1 (Q4 (oppN p))) := (if_pos ⟨(isQ_b4 hp).1, by rw [(isQ_b4 hp).2]; exact Pn.ok_iff.2 hp⟩).trans (by rw [(isQ_b4 hp).2])
theorem p_eBase : PE3.orc 12 [] = some (ret1 (F baseN)) := rfl
theorem p3_eAdd {p q : Pn} (hp : p.lt) (hq : q.lt) : PE3.orc 40 [Q4 p, Q4 q] = some (ret1 (Q4 (paddN p q))) := (show PE3.orc 40 [Q4 p, Q4 q] = PE2.orc 40 [Q4 p, Q4 q] from rfl).trans (p_eAdd hp hq)
set_option maxRecDepth 100000 in
set_option maxHeartbeats 8000000 in
theorem base_gen10 (b V : List Int) (k : Bool) (lV : V.length = 128) (f1 : PE3.orc 12 [] = some (ret1 (.agg (.flat .u8 b)))) (f2 : PE3.orc 38 [.agg (.flat .u8 b)] = some (.many [.val (.agg (.flat .u8 V)), .val (.v (.bool k))])) : execF PE3 Tryz.f51 [] (ret1 (.agg (.flat .u8 V))) := by
 have zV : layOne (.flat .u8 (List.replicate 128 0)) 0 (.flat .u8 V) = some (.flat .u8 V) := lay_all (by rw [List.length_replicate, lV]) (by omega)
 have nV : (Cont.flat .u8 V).len = 128 := lV
 have cV : (Cont.flat .u8 V).cut 0 128 = some (.flat .u8 V) := cut_all lV
 ((conv => whnf); repeat ((first | refine ⟨_, cV, ?_⟩ | refine ⟨_, zV, ?_⟩ | refine ⟨nV, ?_⟩ | ((with_reducible refine isN_PE3 12 ?_); first | refine ⟨_, f1, ?_⟩) | ((with_reducible refine isN_PE3 38 ?_); first | refine ⟨_, f2, ?_⟩) | refine ⟨_, rfl, ?_⟩ | refine ⟨rfl, ?_⟩); conv => whnf))
 rfl
theorem ebase_call : CallOk Tryz.prog 51 [] (ret1 (Q4 (rdP baseN))) := execF_ok follows_ok PE3_ok Tryz.func51 (base_gen10 _ _ _ (b4_len _) p_eBase (p_eDecode (show baseN < 2 ^ 256 by decide)))
set_option maxRecDepth 100000 in
set_option maxHeartbeats 8000000 in
theorem eDecodes_gen (a V : List Int) (k : Bool) (la : a.length = 32) (lV : V.length = 128) (f1 : PE3.orc 38 [.agg (.flat .u8 a)] = some (.many [.val (.agg (.flat .u8 V)), .val (.v (.bool k))])) : execF PE3 Tryz.f14 [.agg (.flat .u8 a)] (ret1 (.v (.bool k))) := by
 have ca : (Cont.flat .u8 a).cut 0 32 = some (.flat .u8 a) := cut_all la
 have zV : layOne (.flat .u8 (List.replicate 128 0)) 0 (.flat .u8 V) = some (.flat .u8 V) := lay_all (by rw [List.length_replicate, lV]) (by omega)
 have nV : (Cont.flat .u8 V).len = 128 := lV
 have cV : (Cont.flat .u8 V).cut 0 128 = some (.flat .u8 V) := cut_all lV
 ((conv => whnf); repeat ((first | refine ⟨_, ca, ?_⟩ | refine ⟨_, zV, ?_⟩ | refine ⟨nV, ?_⟩ | ((with_reducible refine isN_PE3 38 ?_); first | refine ⟨_, f1, ?_⟩) | refine ⟨_, rfl, ?_⟩ | refine ⟨rfl, ?_⟩); conv => whnf))
 rfl
theorem eDecodes_call (a : Nat) (ha : a < 2 ^ 256) : CallOk Tryz.prog 14 [F a] (ret1 (.v (.bool (rdOk a)))) := execF_ok follows_ok PE3_ok Tryz.func14 (eDecodes_gen _ _ _ (byk_len _ _) (b4_len _) (p_eDecode ha))
set_option maxRecDepth 100000 in
set_option maxHeartbeats 8000000 in
theorem eAddX_gen (a b V U S r : List Int) (k j : Bool) (la : a.length = 32) (lb : b.length = 32) (lV : V.length = 128) (lU : U.length = 128) (lr : r.length = 32) (f1 : PE3.orc 38 [.agg (.flat .u8 a)] = some (.many [.val (.agg (.flat .u8 V)), .val (.v (.bool k))])) (f2 : PE3.orc 38 [.agg (.flat .u8 b)] = some (.many [.val (.agg (.flat .u8 U)), .val (.v (.bool j))]))
  (f3 : PE3.orc 40 [.agg (.flat .u8 V), .agg (.flat .u8 U)] = some (ret1 (.agg (.flat .u8 S)))) (f4 : PE3.orc 39 [.agg (.flat .u8 S)] = some (ret1 (.agg (.flat .u8 r)))) :
  execF PE3 Tryz.f10 [.agg (.flat .u8 a), .agg (.flat .u8 b)] (if k && j then .many [.val (.agg (.flat .u8 r)), .val (iv .i64 0)] else .many [.val (F 0), .val (iv .i64 12)]) := by
 have ca : (Cont.flat .u8 a).cut 0 32 = some (.flat .u8 a) := cut_all la
 have cb : (Cont.flat .u8 b).cut 0 32 = some (.flat .u8 b) := cut_all lb
 have zV : layOne (.flat .u8 (List.replicate 128 0)) 0 (.flat .u8 V) = some (.flat .u8 V) := lay_all (by rw [List.length_replicate, lV]) (by omega)
 have nV : (Cont.flat .u8 V).len = 128 := lV
 have cV : (Cont.flat .u8 V).cut 0 128 = some (.flat .u8 V) := cut_all lV
 have zU : layOne (.flat .u8 (List.replicate 128 0)) 0 (.flat .u8 U) = some (.flat .u8 U) := lay_all (by rw [List.length_replicate, lU]) (by omega)
 have nU : (Cont.flat .u8 U).len = 128 := lU
 have cU : (Cont.flat .u8 U).cut 0 128 = some (.flat .u8 U) := cut_all lU
 have zr : layOne (.flat .u8 (List.replicate 32 0)) 0 (.flat .u8 r) = some (.flat .u8 r) := lay_all (by rw [List.length_replicate, lr]) (by omega)
 have nr : (Cont.flat .u8 r).len = 32 := lr
 have cr : (Cont.flat .u8 r).cut 0 32 = some (.flat .u8 r) := cut_all lr
 rw [F, by32_z]
 cases k <;> cases j
 all_goals
  ((conv => whnf); repeat ((first | refine ⟨_, ca, ?_⟩ | refine ⟨_, cb, ?_⟩ | refine ⟨_, cV, ?_⟩ | refine ⟨_, cU, ?_⟩ | refine ⟨_, cr, ?_⟩ | refine ⟨_, zV, ?_⟩ | refine ⟨nV, ?_⟩ | refine ⟨_, zU, ?_⟩ | refine ⟨nU, ?_⟩ | refine ⟨_, zr, ?_⟩ | refine ⟨nr, ?_⟩ | ((with_reducible refine isN_PE3 38 ?_); first | refine ⟨_, f1, ?_⟩ | refine ⟨_, f2, ?_⟩) | ((with_reducible refine isN_PE3 40 ?_); first | refine ⟨_, f3, ?_⟩) | ((with_reducible refine isN_PE3 39 ?_); first | refine ⟨_, f4, ?_⟩) | refine ⟨_, rfl, ?_⟩ | refine ⟨by decide, ?_⟩ | refine ⟨rfl, ?_⟩ | refine ⟨fun _ => ?_, fun h => absurd h (by decide)⟩ | refine ⟨fun h => absurd h (by decide), fun _ => ?_⟩); conv => whnf))
  rfl
def paddR (a b : Nat) : LRes := if rdOk a && rdOk b then .many [.val (F (wrN (paddN (rdP a) (rdP b)))), .val (iv .i64 0)] else .many [.val (F 0), .val (iv .i64 12)]
theorem eAddX_call (a b : Nat) (ha : a < 2 ^ 256) (hb : b < 2 ^ 256) : CallOk Tryz.prog 10 [F a, F b] (paddR a b) := execF_ok follows_ok PE3_ok Tryz.func10 (eAddX_gen _ _ _ _ _ _ _ _ (byk_len _ _) (byk_len _ _) (b4_len _) (b4_len _) (byk_len _ _) (p_eDecode ha) (p_eDecode hb) (p3_eAdd (rdP_lt a) (rdP_lt b)) (p_eEncode (paddN_lt _ _)))
set_option maxRecDepth 100000 in
set_option maxHeartbeats 8000000 in
theorem eMulX_gen (q a V S r : List Int) (k : Bool) (lq : q.length = 32) (la : a.length = 32) (lV : V.length = 128) (lr : r.length = 32) (f1 : PE3.orc 38 [.agg (.flat .u8 a)] = some (.many [.val (.agg (.flat .u8 V)), .val (.v (.bool k))]))
  (f3 : PE3.orc 49 [.agg (.flat .u8 q), .agg (.flat .u8 V)] = some (ret1 (.agg (.flat .u8 S)))) (f4 : PE3.orc 39 [.agg (.flat .u8 S)] = some (ret1 (.agg (.flat .u8 r)))) :
  execF PE3 Tryz.f19 [.agg (.flat .u8 q), .agg (.flat .u8 a)] (if k then .many [.val (.agg (.flat .u8 r)), .val (iv .i64 0)] else .many [.val (F 0), .val (iv .i64 12)]) := by
 have cq : (Cont.flat .u8 q).cut 0 32 = some (.flat .u8 q) := cut_all lq
 have ca : (Cont.flat .u8 a).cut 0 32 = some (.flat .u8 a) := cut_all la
 have zV : layOne (.flat .u8 (List.replicate 128 0)) 0 (.flat .u8 V) = some (.flat .u8 V) := lay_all (by rw [List.length_replicate, lV]) (by omega)
 have nV : (Cont.flat .u8 V).len = 128 := lV
 have cV : (Cont.flat .u8 V).cut 0 128 = some (.flat .u8 V) := cut_all lV
 have zr : layOne (.flat .u8 (List.replicate 32 0)) 0 (.flat .u8 r) = some (.flat .u8 r) := lay_all (by rw [List.length_replicate, lr]) (by omega)
 have nr : (Cont.flat .u8 r).len = 32 := lr
 have cr : (Cont.flat .u8 r).cut 0 32 = some (.flat .u8 r) := cut_all lr
 rw [F, by32_z]
 cases k
 all_goals
  ((conv => whnf); repeat ((first | refine ⟨_, cq, ?_⟩ | refine ⟨_, ca, ?_⟩ | refine ⟨_, cV, ?_⟩ | refine ⟨_, cr, ?_⟩ | refine ⟨_, zV, ?_⟩ | refine ⟨nV, ?_⟩ | refine ⟨_, zr, ?_⟩ | refine ⟨nr, ?_⟩ | ((with_reducible refine isN_PE3 38 ?_); first | refine ⟨_, f1, ?_⟩) | ((with_reducible refine isN_PE3 49 ?_); first | refine ⟨_, f3, ?_⟩) | ((with_reducible refine isN_PE3 39 ?_); first | refine ⟨_, f4, ?_⟩) | refine ⟨_, rfl, ?_⟩ | refine ⟨by decide, ?_⟩ | refine ⟨rfl, ?_⟩ | refine ⟨fun _ => ?_, fun h => absurd h (by decide)⟩ | refine ⟨fun h => absurd h (by decide), fun _ => ?_⟩); conv => whnf))
  rfl
def pmulR (k a : Nat) : LRes := if rdOk a then .many [.val (F (wrN (pmulN k (rdP a) 256))), .val (iv .i64 0)] else .many [.val (F 0), .val (iv .i64 12)]
theorem eMulX_call (k a : Nat) (hk : k < 2 ^ 256) (ha : a < 2 ^ 256) : CallOk Tryz.prog 19 [F k, F a] (pmulR k a) := execF_ok follows_ok PE3_ok Tryz.func19 (eMulX_gen _ _ _ _ _ _ (byk_len _ _) (byk_len _ _) (b4_len _) (byk_len _ _) (p_eDecode ha) (p_eMul hk (rdP_lt a)) (p_eEncode (pmulN_lt _ _ _)))
set_option maxRecDepth 100000 in
set_option maxHeartbeats 8000000 in
theorem eSmallX_gen (a V : List Int) (k q : Bool) (la : a.length = 32) (lV : V.length = 128) (f1 : PE3.orc 38 [.agg (.flat .u8 a)] = some (.many [.val (.agg (.flat .u8 V)), .val (.v (.bool k))])) (f3 : PE3.orc 47 [.agg (.flat .u8 V)] = some (ret1 (.v (.bool q)))) :
  execF PE3 Tryz.f16 [.agg (.flat .u8 a)] (ret1 (.v (.bool (k && q)))) := by
 have ca : (Cont.flat .u8 a).cut 0 32 = some (.flat .u8 a) := cut_all la
 have zV : layOne (.flat .u8 (List.replicate 128 0)) 0 (.flat .u8 V) = some (.flat .u8 V) := lay_all (by rw [List.length_replicate, lV]) (by omega)
 have nV : (Cont.flat .u8 V).len = 128 := lV
 have cV : (Cont.flat .u8 V).cut 0 128 = some (.flat .u8 V) := cut_all lV
 cases k <;> cases q
 all_goals
  ((conv => whnf); repeat ((first | refine ⟨_, ca, ?_⟩ | refine ⟨_, cV, ?_⟩ | refine ⟨_, zV, ?_⟩ | refine ⟨nV, ?_⟩ | ((with_reducible refine isN_PE3 38 ?_); first | refine ⟨_, f1, ?_⟩) | ((with_reducible refine isN_PE3 47 ?_); first | refine ⟨_, f3, ?_⟩) | refine ⟨_, rfl, ?_⟩ | refine ⟨rfl, ?_⟩ | refine ⟨fun _ => ?_, fun h => absurd h (by decide)⟩ | refine ⟨fun h => absurd h (by decide), fun _ => ?_⟩); conv => whnf))
  rfl
theorem eSmallX_call (a : Nat) (ha : a < 2 ^ 256) : CallOk Tryz.prog 16 [F a] (ret1 (.v (.bool (smaN a)))) := by
 rw [sma_same ha]
 exact execF_ok follows_ok PE3_ok Tryz.func16 (eSmallX_gen _ _ _ _ (byk_len _ _) (b4_len _) (p_eDecode ha) (p_eSmall (rdP_lt a)))
theorem paddR_same {a b : Nat} (ha : a < 2 ^ 256) (hb : b < 2 ^ 256) : paddR a b = addR a b := by
 unfold paddR addR
 rcases h : rdOk a && rdOk b with _ | _
 ·rw [if_neg (by decide), if_neg (by decide)]
 ·rw [Bool.and_eq_true] at h
  obtain ⟨P, hP, _⟩ := rd_enc ha h.1
  obtain ⟨Q, hQ, _⟩ := rd_enc hb h.2
  rw [wr_enc (For_padd hP hQ), wr_enc (For_sum hP hQ)]
theorem pmulR_same {k a : Nat} (hk : k < 2 ^ 256) (ha : a < 2 ^ 256) : pmulR k a = mulR k a := by
 unfold pmulR mulR
 rcases h : rdOk a with _ | _
 ·rw [if_neg (by decide), if_neg (by decide)]
 ·obtain ⟨P, hP, _⟩ := rd_enc ha h
  rw [wr_enc (For_pmul hk hP), wr_enc (For_tim hk hP)]
end Go.Proofs.YtdeigmjbcbjgeaaGreatDoor
namespace Go.Proofs.YtdeigmjbcbjgeaaGreatDoor
open Go.RowKit
set_option maxRecDepth 100000 in
set_option maxHeartbeats 1600000 in
theorem eSignNil_call : CallOk Tryz.prog 26 [nilV, nilV] (.many [.val nilV, .val (iv .i64 1)]) := by
 refine execF_ok follows_ok PE3_ok Tryz.func26 ?_
 ((conv => whnf); repeat ((first | refine ⟨_, rfl, ?_⟩ | refine ⟨by decide, ?_⟩ | refine ⟨fun _ => ?_, fun h => absurd h (by decide)⟩); conv => whnf))
 rfl
theorem eSmallA_row {a : List Int} (hc : isF a = true) : CallOk Tryz.prog 16 [.agg (.flat .u8 a)] (ret1 (.v (.bool (rdOk (nb a) && psmN (rdP (nb a)))))) := by
 have h : CallOk Tryz.prog 16 [.agg (.flat .u8 (by32 (nb a)))] _ := execF_ok follows_ok PE3_ok Tryz.func16 (eSmallX_gen _ _ _ _ (byk_len _ _) (b4_len _) (p_eDecode (nb32_lt hc)) (p_eSmall (rdP_lt (nb a))))
 rwa [← isF_eq hc] at h
def orcLA (f : Nat) (ds : List LV) : Option LRes :=
 match f with
 | 16 => match ds with
  | [.agg (.flat .u8 a)] => if isF a = true then some (ret1 (.v (.bool (rdOk (nb a) && psmN (rdP (nb a)))))) else none
  | _ => none
 | 26 => match ds with
  | [.v (.slice none 0 0), .v (.slice none 0 0)] => some (.many [.val nilV, .val (iv .i64 1)])
  | _ => none
 | _ => orcPE3 f ds
theorem orcLA_ok : Known Tryz.prog orcLA := by
 intro f ds r h
 unfold orcLA at h
 split at h
 ·split at h
  ·split at h
   ·rename_i hc
    cases h
    exact .inl ⟨⟨_, Tryz.func16, name_ne _ (by kernel_rfl), rfl⟩, eSmallA_row hc⟩
   ·cases h
  ·cases h
 ·split at h
  ·cases h
   exact .inl ⟨⟨_, Tryz.func26, name_ne _ (by kernel_rfl), rfl⟩, eSignNil_call⟩
  ·cases h
 ·exact orcPE3_ok f ds r h
def LPA : Env := ⟨tyL, orcLA, false, noWk, noOrw⟩
theorem LPA_ok : EnvOk Tryz.prog LPA := ⟨tyL_ok, orcLA_ok, noOrw_ok⟩
set_option maxRecDepth 100000 in
theorem awake10_call : CallOk Tryz.prog 18 [] (ret1 (.v (.bool true))) := runF_ok follows_ok LPA_ok Tryz.func18 (fuel := 200) (by kernel_rfl)
end Go.Proofs.YtdeigmjbcbjgeaaGreatDoor
