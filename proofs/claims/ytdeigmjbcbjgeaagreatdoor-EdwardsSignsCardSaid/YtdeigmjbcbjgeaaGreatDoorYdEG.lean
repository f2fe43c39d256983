/-
  Layer 10: the program's points: sums, doubles, negatives.
-/
import Derived.Test.YtdeigmjbcbjgeaaGreatDoorYdFP
namespace Go.Proofs.YtdeigmjbcbjgeaaGreatDoor
open Go.RowKit

/-- A point's cells. -/
def b4 (p : Pn) : List Int := by32 p.x ++ (by32 p.y ++ (by32 p.z ++ by32 p.t))
theorem b4_len (p : Pn) : (b4 p).length = 128 := by simp only [b4, List.length_append, byk_len]
abbrev Q4 (p : Pn) : LV := .agg (.flat .u8 (b4 p))
theorem parts4 {x y z t : List Int} (hx : x.length = 32) (hy : y.length = 32) (hz : z.length = 32) : (x ++ (y ++ (z ++ t))).take 32 = x ∧ ((x ++ (y ++ (z ++ t))).drop 32).take 32 = y ∧ ((x ++ (y ++ (z ++ t))).drop 64).take 32 = z ∧ (x ++ (y ++ (z ++ t))).drop 96 = t := by
  have d1 : (x ++ (y ++ (z ++ t))).drop 32 = y ++ (z ++ t) := List.drop_left' hx
  have d2 : (x ++ (y ++ (z ++ t))).drop 64 = z ++ t := by rw [show (64 : Nat) = 32 + 32 from rfl, ← List.drop_drop, d1, List.drop_left' hy]
  have d3 : (x ++ (y ++ (z ++ t))).drop 96 = t := by rw [show (96 : Nat) = 64 + 32 from rfl, ← List.drop_drop, d2, List.drop_left' hz]
  refine ⟨List.take_left' hx, ?_, ?_, d3⟩
  · rw [d1, List.take_left' hy]
  · rw [d2, List.take_left' hz]
theorem cut4b {x y z t : List Int} (hx : x.length = 32) (hy : y.length = 32) (hz : z.length = 32) (ht : t.length = 32) :
    (Cont.flat .u8 (x ++ (y ++ (z ++ t)))).cut 0 32 = some (.flat .u8 x) ∧ (Cont.flat .u8 (x ++ (y ++ (z ++ t)))).cut 32 32 = some (.flat .u8 y) ∧ (Cont.flat .u8 (x ++ (y ++ (z ++ t)))).cut 64 32 = some (.flat .u8 z) ∧ (Cont.flat .u8 (x ++ (y ++ (z ++ t)))).cut 96 32 = some (.flat .u8 t) := by
  obtain ⟨h1, h2, h3, h4⟩ := parts4 (t := t) hx hy hz
  have hl : (x ++ (y ++ (z ++ t))).length = 128 := by simp only [List.length_append]; omega
  refine ⟨?_, ?_, ?_, ?_⟩
  · rw [cut_flat (by omega), List.drop_zero, h1]
  · rw [cut_flat (by omega), h2]
  · rw [cut_flat (by omega), h3]
  · rw [cut_flat (by omega), h4, List.take_of_length_le (by omega)]
/-- Four numbers that are given as bytes. -/
def isQ (l : List Int) : Bool := isF (l.take 32) && isF ((l.drop 32).take 32) && isF ((l.drop 64).take 32) && isF (l.drop 96)
def qnOf (l : List Int) : Pn := ⟨nb (l.take 32), nb ((l.drop 32).take 32), nb ((l.drop 64).take 32), nb (l.drop 96)⟩
theorem isQ_b4 {p : Pn} (h : p.lt) : isQ (b4 p) = true ∧ qnOf (b4 p) = p := by
  obtain ⟨h1, h2, h3, h4⟩ := h
  obtain ⟨e1, e2, e3, e4⟩ := parts4 (t := by32 p.t) (byk_len p.x 32) (byk_len p.y 32) (byk_len p.z 32)
  constructor
  · unfold isQ b4
    rw [e1, e2, e3, e4, isF_by, isF_by, isF_by, isF_by]
    rfl
  · unfold qnOf b4
    rw [e1, e2, e3, e4, nb_by32 (lt256 h1), nb_by32 (lt256 h2), nb_by32 (lt256 h3), nb_by32 (lt256 h4)]
theorem isQ_eq {l : List Int} (h : isQ l = true) : l = b4 (qnOf l) := by
  simp only [isQ, Bool.and_eq_true] at h
  obtain ⟨⟨⟨h1, h2⟩, h3⟩, h4⟩ := h
  unfold b4 qnOf
  simp only
  rw [← isF_eq h1, ← isF_eq h2, ← isF_eq h3, ← isF_eq h4]
  have e1 : (l.drop 64).take 32 ++ l.drop 96 = l.drop 64 := by
    rw [show l.drop 96 = (l.drop 64).drop 32 by rw [List.drop_drop], List.take_append_drop]
  have e2 : (l.drop 32).take 32 ++ l.drop 64 = l.drop 32 := by
    rw [show l.drop 64 = (l.drop 32).drop 32 by rw [List.drop_drop], List.take_append_drop]
  rw [e1, e2, List.take_append_drop]
set_option maxRecDepth 100000 in
set_option maxHeartbeats 1600000 in
theorem eSquare_call (a : Nat) (ha : a < 2 ^ 256) : CallOk Tryz.prog 76 [F a] (ret1 (F (nM a a))) := by
  refine execF_ok follows_ok EG0_ok Tryz.func76 ?_
  ((conv => whnf); repeat ((first | ((with_reducible refine isN_EG0 45 ?_); refine ⟨_, o_pMul ha ha, ?_⟩) | refine ⟨_, rfl, ?_⟩ | refine ⟨rfl, ?_⟩); conv => whnf))
  rfl
set_option maxRecDepth 100000 in
theorem build4b (x y z t : Nat) : opBuild EG0 59 [0, 1, 2, 3] [F x, F y, F z, F t] = some (Q4 ⟨x, y, z, t⟩, []) := by kernel_rfl
set_option maxRecDepth 100000 in
set_option maxHeartbeats 8000000 in
theorem eRatios_gen (e f g h x y z t V : List Int) (l_e : e.length = 32) (l_f : f.length = 32) (l_g : g.length = 32) (l_h : h.length = 32) (_ : x.length = 32) (_ : y.length = 32) (_ : z.length = 32) (_ : t.length = 32) (lV : V.length = 128)
    (h0 : EG0.orc 45 [.agg (.flat .u8 e), .agg (.flat .u8 g)] = some (ret1 (.agg (.flat .u8 x))))
    (h1 : EG0.orc 45 [.agg (.flat .u8 h), .agg (.flat .u8 f)] = some (ret1 (.agg (.flat .u8 y))))
    (h2 : EG0.orc 45 [.agg (.flat .u8 f), .agg (.flat .u8 g)] = some (ret1 (.agg (.flat .u8 z))))
    (h3 : EG0.orc 45 [.agg (.flat .u8 e), .agg (.flat .u8 h)] = some (ret1 (.agg (.flat .u8 t))))
    (hb : opBuild EG0 59 [0, 1, 2, 3] [.agg (.flat .u8 x), .agg (.flat .u8 y), .agg (.flat .u8 z), .agg (.flat .u8 t)] = some (.agg (.flat .u8 V), []))
    : execF EG0 Tryz.f81 [.agg (.flat .u8 e), .agg (.flat .u8 f), .agg (.flat .u8 g), .agg (.flat .u8 h)] (ret1 (.agg (.flat .u8 V))) := by
  have zV : layOne (.flat .u8 (List.replicate 128 0)) 0 (.flat .u8 V) = some (.flat .u8 V) := lay_all (by rw [List.length_replicate, lV]) (by omega)
  have nV : (Cont.flat .u8 V).len = 128 := lV
  have cV : (Cont.flat .u8 V).cut 0 128 = some (.flat .u8 V) := cut_all lV
  ((conv => whnf); repeat ((first | refine ⟨_, zV, ?_⟩ | refine ⟨nV, ?_⟩ | refine ⟨_, cV, ?_⟩ | ((with_reducible refine isN_EG0 45 ?_); first | refine ⟨_, h0, ?_⟩ | refine ⟨_, h1, ?_⟩ | refine ⟨_, h2, ?_⟩ | refine ⟨_, h3, ?_⟩) | refine ⟨_, rfl, ?_⟩ | refine ⟨by decide, ?_⟩ | refine ⟨rfl, ?_⟩ | refine ⟨_, cut_all (by omega), ?_⟩ | refine runs_eq hb ?_); conv => whnf))
  rfl
theorem eRatios_call (e f g h : Nat) (he : e < 2 ^ 256) (hf : f < 2 ^ 256) (hg : g < 2 ^ 256) (hh : h < 2 ^ 256) : CallOk Tryz.prog 81 [F e, F f, F g, F h] (ret1 (Q4 (ratN e f g h))) :=
  execF_ok follows_ok EG0_ok Tryz.func81 (eRatios_gen _ _ _ _ _ _ _ _ _ (byk_len _ _) (byk_len _ _) (byk_len _ _) (byk_len _ _) (byk_len _ _) (byk_len _ _) (byk_len _ _) (byk_len _ _) (b4_len _) (o_pMul he hg) (o_pMul hh hf) (o_pMul hf hg) (o_pMul he hh) (build4b _ _ _ _))
set_option maxRecDepth 100000 in
set_option maxHeartbeats 8000000 in
theorem at_gen10 (x y t u V : List Int) (l_x : x.length = 32) (l_y : y.length = 32) (_ : t.length = 32) (lV : V.length = 128)
    (hu : u = (List.replicate 32 0).set 0 1)
    (h0 : EG0.orc 45 [.agg (.flat .u8 x), .agg (.flat .u8 y)] = some (ret1 (.agg (.flat .u8 t))))
    (hb : opBuild EG0 59 [0, 1, 2, 3] [.agg (.flat .u8 x), .agg (.flat .u8 y), .agg (.flat .u8 u), .agg (.flat .u8 t)] = some (.agg (.flat .u8 V), []))
    : execF EG0 Tryz.f80 [.agg (.flat .u8 x), .agg (.flat .u8 y)] (ret1 (.agg (.flat .u8 V))) := by
  subst hu
  have zV : layOne (.flat .u8 (List.replicate 128 0)) 0 (.flat .u8 V) = some (.flat .u8 V) := lay_all (by rw [List.length_replicate, lV]) (by omega)
  have nV : (Cont.flat .u8 V).len = 128 := lV
  have cV : (Cont.flat .u8 V).cut 0 128 = some (.flat .u8 V) := cut_all lV
  ((conv => whnf); repeat ((first | refine ⟨_, zV, ?_⟩ | refine ⟨nV, ?_⟩ | refine ⟨_, cV, ?_⟩ | ((with_reducible refine isN_EG0 45 ?_); first | refine ⟨_, h0, ?_⟩) | refine ⟨_, rfl, ?_⟩ | refine ⟨by decide, ?_⟩ | refine ⟨rfl, ?_⟩ | refine ⟨_, cut_all (by omega), ?_⟩ | refine runs_eq hb ?_); conv => whnf))
  rfl
theorem by_one : by32 1 = (List.replicate 32 0).set 0 1 := by kernel_rfl
theorem eAt_call (x y : Nat) (hx : x < 2 ^ 256) (hy : y < 2 ^ 256) : CallOk Tryz.prog 80 [F x, F y] (ret1 (Q4 ⟨x, y, 1, nM x y⟩)) :=
  execF_ok follows_ok EG0_ok Tryz.func80 (at_gen10 _ _ _ _ _ (byk_len _ _) (byk_len _ _) (byk_len _ _) (b4_len _) by_one (o_pMul hx hy) (build4b _ _ _ _))
theorem eSquare_row {a : List Int} (hc : isF a = true) : CallOk Tryz.prog 76 [.agg (.flat .u8 a)] (ret1 (F (nM (nb a) (nb a)))) := by
  have h0 := hc
  clear hc
  have e0 := isF_eq h0
  have l0 := nb32_lt h0
  clear h0
  generalize nb a = n0 at *
  subst e0
  exact eSquare_call n0 l0 
theorem eAt_row {a b : List Int} (hc : isF a = true ∧ isF b = true) : CallOk Tryz.prog 80 [.agg (.flat .u8 a), .agg (.flat .u8 b)] (ret1 (Q4 ⟨(nb a), (nb b), 1, nM (nb a) (nb b)⟩)) := by
  obtain ⟨h0, h1⟩ := hc
  have e0 := isF_eq h0
  have l0 := nb32_lt h0
  clear h0
  generalize nb a = n0 at *
  subst e0
  have e1 := isF_eq h1
  have l1 := nb32_lt h1
  clear h1
  generalize nb b = n1 at *
  subst e1
  exact eAt_call n0 n1 l0 l1 
theorem eRatios_row {a b c d : List Int} (hc : isF a = true ∧ isF b = true ∧ isF c = true ∧ isF d = true) : CallOk Tryz.prog 81 [.agg (.flat .u8 a), .agg (.flat .u8 b), .agg (.flat .u8 c), .agg (.flat .u8 d)] (ret1 (Q4 (ratN (nb a) (nb b) (nb c) (nb d)))) := by
  obtain ⟨h0, h1, h2, h3⟩ := hc
  have e0 := isF_eq h0
  have l0 := nb32_lt h0
  clear h0
  generalize nb a = n0 at *
  subst e0
  have e1 := isF_eq h1
  have l1 := nb32_lt h1
  clear h1
  generalize nb b = n1 at *
  subst e1
  have e2 := isF_eq h2
  have l2 := nb32_lt h2
  clear h2
  generalize nb c = n2 at *
  subst e2
  have e3 := isF_eq h3
  have l3 := nb32_lt h3
  clear h3
  generalize nb d = n3 at *
  subst e3
  exact eRatios_call n0 n1 n2 n3 l0 l1 l2 l3 
theorem pSqrt_row {a : List Int} (hc : isF a = true) : CallOk Tryz.prog 78 [.agg (.flat .u8 a)] (.many [.val (F (sqrtP (nb a)).1), .val (.v (.bool (sqrtP (nb a)).2))]) := by
  have h0 := hc
  clear hc
  have e0 := isF_eq h0
  have l0 := nb32_lt h0
  clear h0
  generalize nb a = n0 at *
  subst e0
  exact pSqrt_call n0 l0 
def orcPE1 (f : Nat) (ds : List LV) : Option LRes :=
  match f with
  | 76 => match ds with
    | [.agg (.flat .u8 a)] => if isF a = true then some (ret1 (F (nM (nb a) (nb a)))) else none
    | _ => none
  | 80 => match ds with
    | [.agg (.flat .u8 a), .agg (.flat .u8 b)] => if isF a = true ∧ isF b = true then some (ret1 (Q4 ⟨(nb a), (nb b), 1, nM (nb a) (nb b)⟩)) else none
    | _ => none
  | 81 => match ds with
    | [.agg (.flat .u8 a), .agg (.flat .u8 b), .agg (.flat .u8 c), .agg (.flat .u8 d)] => if isF a = true ∧ isF b = true ∧ isF c = true ∧ isF d = true then some (ret1 (Q4 (ratN (nb a) (nb b) (nb c) (nb d)))) else none
    | _ => none
  | 78 => match ds with
    | [.agg (.flat .u8 a)] => if isF a = true then some (.many [.val (F (sqrtP (nb a)).1), .val (.v (.bool (sqrtP (nb a)).2))]) else none
    | _ => none
  | _ => orcG0 f ds
theorem orcPE1_ok : Known Tryz.prog orcPE1 := by
  intro f ds r h
  unfold orcPE1 at h
  split at h
  · split at h
    · split at h
      · rename_i hc
        cases h
        exact .inl ⟨⟨_, Tryz.func76, name_ne _ (by kernel_rfl), rfl⟩, eSquare_row hc⟩
      · cases h
    · cases h
  · split at h
    · split at h
      · rename_i hc
        cases h
        exact .inl ⟨⟨_, Tryz.func80, name_ne _ (by kernel_rfl), rfl⟩, eAt_row hc⟩
      · cases h
    · cases h
  · split at h
    · split at h
      · rename_i hc
        cases h
        exact .inl ⟨⟨_, Tryz.func81, name_ne _ (by kernel_rfl), rfl⟩, eRatios_row hc⟩
      · cases h
    · cases h
  · split at h
    · split at h
      · rename_i hc
        cases h
        exact .inl ⟨⟨_, Tryz.func78, name_ne _ (by kernel_rfl), rfl⟩, pSqrt_row hc⟩
      · cases h
    · cases h
  · exact orcG0_ok f ds r h
def PE1 : Env := ⟨tyL, orcPE1, false, noWk, noOrw⟩
theorem PE1_ok : EnvOk Tryz.prog PE1 := ⟨tyL_ok, orcPE1_ok, noOrw_ok⟩
set_option maxRecDepth 100000 in
theorem o_eSquare {a : Nat} (ha : a < 2 ^ 256) : PE1.orc 76 [F a] = some (ret1 (F (nM a a))) :=
  (if_pos (isF_by _)).trans (by rw [nb_by32 ha])
set_option maxRecDepth 100000 in
theorem o_eAt {a b : Nat} (ha : a < 2 ^ 256) (hb : b < 2 ^ 256) : PE1.orc 80 [F a, F b] = some (ret1 (Q4 ⟨a, b, 1, nM a b⟩)) :=
  (if_pos ⟨isF_by _, isF_by _⟩).trans (by rw [nb_by32 ha, nb_by32 hb])
set_option maxRecDepth 100000 in
theorem o_eRatios {a b c d : Nat} (ha : a < 2 ^ 256) (hb : b < 2 ^ 256) (hc : c < 2 ^ 256) (hd : d < 2 ^ 256) : PE1.orc 81 [F a, F b, F c, F d] = some (ret1 (Q4 (ratN a b c d))) :=
  (if_pos ⟨isF_by _, isF_by _, isF_by _, isF_by _⟩).trans (by rw [nb_by32 ha, nb_by32 hb, nb_by32 hc, nb_by32 hd])
set_option maxRecDepth 100000 in
theorem o_pSqrt {a : Nat} (ha : a < 2 ^ 256) : PE1.orc 78 [F a] = some (.many [.val (F (sqrtP a).1), .val (.v (.bool (sqrtP a).2))]) :=
  (if_pos (isF_by _)).trans (by rw [nb_by32 ha])
theorem isN_PE1 (f : Nat) {ds : List LV} {K : LRes → Prop} (h : ∃ y, PE1.orc f ds = some y ∧ K y) : ∃ y, PE1.orc f ds = some y ∧ K y := h
theorem p1_Add {a b : Nat} (ha : a < 2 ^ 256) (hb : b < 2 ^ 256) : PE1.orc 77 [F a, F b] = some (ret1 (F (nA a b))) := (show PE1.orc 77 [F a, F b] = EG0.orc 77 [F a, F b] from rfl).trans (o_pAdd ha hb)
theorem p1_Sub {a b : Nat} (ha : a < 2 ^ 256) (hb : b < 2 ^ 256) : PE1.orc 79 [F a, F b] = some (ret1 (F (nS a b))) := (show PE1.orc 79 [F a, F b] = EG0.orc 79 [F a, F b] from rfl).trans (o_pSub ha hb)
theorem p1_Mul {a b : Nat} (ha : a < 2 ^ 256) (hb : b < 2 ^ 256) : PE1.orc 45 [F a, F b] = some (ret1 (F (nM a b))) := (show PE1.orc 45 [F a, F b] = EG0.orc 45 [F a, F b] from rfl).trans (o_pMul ha hb)
theorem p1_Inv {a : Nat} (ha : a < 2 ^ 256) : PE1.orc 46 [F a] = some (ret1 (F (pw a e3P))) := (show PE1.orc 46 [F a] = EG0.orc 46 [F a] from rfl).trans (o_pInv ha)
theorem p1_Can {a : Nat} (ha : a < 2 ^ 256) : PE1.orc 75 [F a] = some (ret1 (.v (.bool (decide (a < pP))))) := (show PE1.orc 75 [F a] = EG0.orc 75 [F a] from rfl).trans (o_pCanonical ha)
theorem dl_eq : by32 dN = [163, 120, 89, 19, 202, 77, 235, 117, 171, 216, 65, 65, 77, 10, 112, 0, 152, 232, 121, 119, 121, 64, 199, 140, 115, 254, 111, 43, 238, 108, 3, 82] := by kernel_rfl
set_option maxRecDepth 100000 in
set_option maxHeartbeats 8000000 in
theorem eAdd_gen (px py pz pt qx qy qz qt xx yy zz tt dt s u al d1 e f g h V : List Int) (l_px : px.length = 32) (l_py : py.length = 32) (l_pz : pz.length = 32) (l_pt : pt.length = 32) (l_qx : qx.length = 32) (l_qy : qy.length = 32) (l_qz : qz.length = 32) (l_qt : qt.length = 32) (l_xx : xx.length = 32) (l_yy : yy.length = 32) (l_zz : zz.length = 32) (_ : tt.length = 32) (l_dt : dt.length = 32) (_ : s.length = 32) (_ : u.length = 32) (l_al : al.length = 32) (_ : d1.length = 32) (l_e : e.length = 32) (_ : f.length = 32) (_ : g.length = 32) (_ : h.length = 32) (lV : V.length = 128)
    (h0 : PE1.orc 45 [.agg (.flat .u8 px), .agg (.flat .u8 qx)] = some (ret1 (.agg (.flat .u8 xx))))
    (h1 : PE1.orc 45 [.agg (.flat .u8 py), .agg (.flat .u8 qy)] = some (ret1 (.agg (.flat .u8 yy))))
    (h2 : PE1.orc 45 [.agg (.flat .u8 pz), .agg (.flat .u8 qz)] = some (ret1 (.agg (.flat .u8 zz))))
    (h3 : PE1.orc 45 [.agg (.flat .u8 pt), .agg (.flat .u8 qt)] = some (ret1 (.agg (.flat .u8 tt))))
    (h4 : PE1.orc 45 [.agg (.flat .u8 [163, 120, 89, 19, 202, 77, 235, 117, 171, 216, 65, 65, 77, 10, 112, 0, 152, 232, 121, 119, 121, 64, 199, 140, 115, 254, 111, 43, 238, 108, 3, 82]), .agg (.flat .u8 tt)] = some (ret1 (.agg (.flat .u8 dt))))
    (h5 : PE1.orc 77 [.agg (.flat .u8 px), .agg (.flat .u8 py)] = some (ret1 (.agg (.flat .u8 s))))
    (h6 : PE1.orc 77 [.agg (.flat .u8 qx), .agg (.flat .u8 qy)] = some (ret1 (.agg (.flat .u8 u))))
    (h7 : PE1.orc 45 [.agg (.flat .u8 s), .agg (.flat .u8 u)] = some (ret1 (.agg (.flat .u8 al))))
    (h8 : PE1.orc 79 [.agg (.flat .u8 al), .agg (.flat .u8 xx)] = some (ret1 (.agg (.flat .u8 d1))))
    (h9 : PE1.orc 79 [.agg (.flat .u8 d1), .agg (.flat .u8 yy)] = some (ret1 (.agg (.flat .u8 e))))
    (h10 : PE1.orc 77 [.agg (.flat .u8 zz), .agg (.flat .u8 dt)] = some (ret1 (.agg (.flat .u8 f))))
    (h11 : PE1.orc 79 [.agg (.flat .u8 zz), .agg (.flat .u8 dt)] = some (ret1 (.agg (.flat .u8 g))))
    (h12 : PE1.orc 77 [.agg (.flat .u8 yy), .agg (.flat .u8 xx)] = some (ret1 (.agg (.flat .u8 h))))
    (h13 : PE1.orc 81 [.agg (.flat .u8 e), .agg (.flat .u8 f), .agg (.flat .u8 g), .agg (.flat .u8 h)] = some (ret1 (.agg (.flat .u8 V))))
    : execF PE1 Tryz.f40 [.agg (.flat .u8 (px ++ (py ++ (pz ++ pt)))), .agg (.flat .u8 (qx ++ (qy ++ (qz ++ qt))))] (ret1 (.agg (.flat .u8 V))) := by
  obtain ⟨p1, p2, p3, p4⟩ := cut4b l_px l_py l_pz l_pt
  have lWp : (px ++ (py ++ (pz ++ pt))).length = 128 := by simp only [List.length_append]; omega
  obtain ⟨P, hP⟩ : ∃ P, P = px ++ (py ++ (pz ++ pt)) := ⟨_, rfl⟩
  rw [← hP] at p1 p2 p3 p4 lWp ⊢
  clear hP
  have cWp : (Cont.flat .u8 P).cut 0 128 = some (.flat .u8 P) := cut_all lWp
  obtain ⟨q1, q2, q3, q4⟩ := cut4b l_qx l_qy l_qz l_qt
  have lWq : (qx ++ (qy ++ (qz ++ qt))).length = 128 := by simp only [List.length_append]; omega
  obtain ⟨Q, hQ⟩ : ∃ Q, Q = qx ++ (qy ++ (qz ++ qt)) := ⟨_, rfl⟩
  rw [← hQ] at q1 q2 q3 q4 lWq ⊢
  clear hQ
  have cWq : (Cont.flat .u8 Q).cut 0 128 = some (.flat .u8 Q) := cut_all lWq
  have zV : layOne (.flat .u8 (List.replicate 128 0)) 0 (.flat .u8 V) = some (.flat .u8 V) := lay_all (by rw [List.length_replicate, lV]) (by omega)
  have nV : (Cont.flat .u8 V).len = 128 := lV
  have cV : (Cont.flat .u8 V).cut 0 128 = some (.flat .u8 V) := cut_all lV
  ((conv => whnf); repeat ((first | refine ⟨_, p1, ?_⟩ | refine ⟨_, p2, ?_⟩ | refine ⟨_, p3, ?_⟩ | refine ⟨_, p4, ?_⟩ | refine ⟨_, q1, ?_⟩ | refine ⟨_, q2, ?_⟩ | refine ⟨_, q3, ?_⟩ | refine ⟨_, q4, ?_⟩ | refine ⟨_, zV, ?_⟩ | refine ⟨nV, ?_⟩ | refine ⟨_, cV, ?_⟩ | ((with_reducible refine isN_PE1 45 ?_); first | refine ⟨_, h0, ?_⟩ | refine ⟨_, h1, ?_⟩ | refine ⟨_, h2, ?_⟩ | refine ⟨_, h3, ?_⟩ | refine ⟨_, h4, ?_⟩ | refine ⟨_, h7, ?_⟩) | ((with_reducible refine isN_PE1 77 ?_); first | refine ⟨_, h5, ?_⟩ | refine ⟨_, h6, ?_⟩ | refine ⟨_, h10, ?_⟩ | refine ⟨_, h12, ?_⟩) | ((with_reducible refine isN_PE1 79 ?_); first | refine ⟨_, h8, ?_⟩ | refine ⟨_, h9, ?_⟩ | refine ⟨_, h11, ?_⟩) | ((with_reducible refine isN_PE1 81 ?_); first | refine ⟨_, h13, ?_⟩) | refine ⟨_, rfl, ?_⟩ | refine ⟨by decide, ?_⟩ | refine ⟨rfl, ?_⟩ | refine ⟨_, cut_all (by omega), ?_⟩ | refine ⟨_, lay_all (by (try simp only); (try simp only [List.length_replicate]); (try simp only [List.length_cons]); (try simp only [List.length_nil]); omega) (by omega), ?_⟩ | refine ⟨len_flat (by omega), ?_⟩); conv => whnf))
  rfl
set_option maxRecDepth 100000 in
theorem eAdd_call (p q : Pn) (hp : p.lt) (hq : q.lt) : CallOk Tryz.prog 40 [Q4 p, Q4 q] (ret1 (Q4 (paddN p q))) := by
  obtain ⟨p1, p2, p3, p4⟩ := hp
  obtain ⟨q1, q2, q3, q4⟩ := hq
  have hd := p1_Mul (lt256 dN_lt) (nM_lt p.t q.t)
  rw [F, dl_eq] at hd
  exact execF_ok follows_ok PE1_ok Tryz.func40 (eAdd_gen _ _ _ _ _ _ _ _ _ _ _ _ _ _ _ _ _ _ _ _ _ _ (byk_len _ _) (byk_len _ _) (byk_len _ _) (byk_len _ _) (byk_len _ _) (byk_len _ _) (byk_len _ _) (byk_len _ _) (byk_len _ _) (byk_len _ _) (byk_len _ _) (byk_len _ _) (byk_len _ _) (byk_len _ _) (byk_len _ _) (byk_len _ _) (byk_len _ _) (byk_len _ _) (byk_len _ _) (byk_len _ _) (byk_len _ _) (b4_len _) (p1_Mul (lt256 p1) (lt256 q1)) (p1_Mul (lt256 p2) (lt256 q2)) (p1_Mul (lt256 p3) (lt256 q3)) (p1_Mul (lt256 p4) (lt256 q4)) hd (p1_Add (lt256 p1) (lt256 p2)) (p1_Add (lt256 q1) (lt256 q2)) (p1_Mul (nA_lt _ _) (nA_lt _ _)) (p1_Sub (nM_lt _ _) (nM_lt _ _)) (p1_Sub (nS_lt _ _) (nM_lt _ _)) (p1_Add (nM_lt _ _) (nM_lt _ _)) (p1_Sub (nM_lt _ _) (nM_lt _ _)) (p1_Add (nM_lt _ _) (nM_lt _ _)) (o_eRatios (nS_lt _ _) (nA_lt _ _) (nS_lt _ _) (nA_lt _ _)))
set_option maxRecDepth 100000 in
set_option maxHeartbeats 8000000 in
theorem eDouble_gen (px py pz pt xx yy zz h f s s2 e z2 g V : List Int) (l_px : px.length = 32) (l_py : py.length = 32) (l_pz : pz.length = 32) (l_pt : pt.length = 32) (l_xx : xx.length = 32) (l_yy : yy.length = 32) (l_zz : zz.length = 32) (l_h : h.length = 32) (l_f : f.length = 32) (_ : s.length = 32) (_ : s2.length = 32) (l_e : e.length = 32) (_ : z2.length = 32) (_ : g.length = 32) (lV : V.length = 128)
    (h0 : PE1.orc 76 [.agg (.flat .u8 px)] = some (ret1 (.agg (.flat .u8 xx))))
    (h1 : PE1.orc 76 [.agg (.flat .u8 py)] = some (ret1 (.agg (.flat .u8 yy))))
    (h2 : PE1.orc 76 [.agg (.flat .u8 pz)] = some (ret1 (.agg (.flat .u8 zz))))
    (h3 : PE1.orc 77 [.agg (.flat .u8 xx), .agg (.flat .u8 yy)] = some (ret1 (.agg (.flat .u8 h))))
    (h4 : PE1.orc 79 [.agg (.flat .u8 yy), .agg (.flat .u8 xx)] = some (ret1 (.agg (.flat .u8 f))))
    (h5 : PE1.orc 77 [.agg (.flat .u8 px), .agg (.flat .u8 py)] = some (ret1 (.agg (.flat .u8 s))))
    (h6 : PE1.orc 76 [.agg (.flat .u8 s)] = some (ret1 (.agg (.flat .u8 s2))))
    (h7 : PE1.orc 79 [.agg (.flat .u8 s2), .agg (.flat .u8 h)] = some (ret1 (.agg (.flat .u8 e))))
    (h8 : PE1.orc 77 [.agg (.flat .u8 zz), .agg (.flat .u8 zz)] = some (ret1 (.agg (.flat .u8 z2))))
    (h9 : PE1.orc 79 [.agg (.flat .u8 z2), .agg (.flat .u8 f)] = some (ret1 (.agg (.flat .u8 g))))
    (h10 : PE1.orc 81 [.agg (.flat .u8 e), .agg (.flat .u8 f), .agg (.flat .u8 g), .agg (.flat .u8 h)] = some (ret1 (.agg (.flat .u8 V))))
    : execF PE1 Tryz.f88 [.agg (.flat .u8 (px ++ (py ++ (pz ++ pt))))] (ret1 (.agg (.flat .u8 V))) := by
  obtain ⟨p1, p2, p3, p4⟩ := cut4b l_px l_py l_pz l_pt
  have lWp : (px ++ (py ++ (pz ++ pt))).length = 128 := by simp only [List.length_append]; omega
  obtain ⟨P, hP⟩ : ∃ P, P = px ++ (py ++ (pz ++ pt)) := ⟨_, rfl⟩
  rw [← hP] at p1 p2 p3 p4 lWp ⊢
  clear hP
  have cWp : (Cont.flat .u8 P).cut 0 128 = some (.flat .u8 P) := cut_all lWp
  have zV : layOne (.flat .u8 (List.replicate 128 0)) 0 (.flat .u8 V) = some (.flat .u8 V) := lay_all (by rw [List.length_replicate, lV]) (by omega)
  have nV : (Cont.flat .u8 V).len = 128 := lV
  have cV : (Cont.flat .u8 V).cut 0 128 = some (.flat .u8 V) := cut_all lV
  ((conv => whnf); repeat ((first | refine ⟨_, p1, ?_⟩ | refine ⟨_, p2, ?_⟩ | refine ⟨_, p3, ?_⟩ | refine ⟨_, zV, ?_⟩ | refine ⟨nV, ?_⟩ | refine ⟨_, cV, ?_⟩ | ((with_reducible refine isN_PE1 76 ?_); first | refine ⟨_, h0, ?_⟩ | refine ⟨_, h1, ?_⟩ | refine ⟨_, h2, ?_⟩ | refine ⟨_, h6, ?_⟩) | ((with_reducible refine isN_PE1 77 ?_); first | refine ⟨_, h3, ?_⟩ | refine ⟨_, h5, ?_⟩ | refine ⟨_, h8, ?_⟩) | ((with_reducible refine isN_PE1 79 ?_); first | refine ⟨_, h4, ?_⟩ | refine ⟨_, h7, ?_⟩ | refine ⟨_, h9, ?_⟩) | ((with_reducible refine isN_PE1 81 ?_); first | refine ⟨_, h10, ?_⟩) | refine ⟨_, rfl, ?_⟩ | refine ⟨by decide, ?_⟩ | refine ⟨rfl, ?_⟩ | refine ⟨_, cut_all (by omega), ?_⟩ | refine ⟨_, lay_all (by (try simp only); (try simp only [List.length_replicate]); (try simp only [List.length_cons]); (try simp only [List.length_nil]); omega) (by omega), ?_⟩ | refine ⟨len_flat (by omega), ?_⟩); conv => whnf))
  rfl
set_option maxRecDepth 100000 in
theorem eDouble_call (p : Pn) (hp : p.lt) : CallOk Tryz.prog 88 [Q4 p] (ret1 (Q4 (pdblN p))) := by
  obtain ⟨p1, p2, p3, _⟩ := hp
  exact execF_ok follows_ok PE1_ok Tryz.func88 (eDouble_gen _ _ _ _ _ _ _ _ _ _ _ _ _ _ _ (byk_len _ _) (byk_len _ _) (byk_len _ _) (byk_len _ _) (byk_len _ _) (byk_len _ _) (byk_len _ _) (byk_len _ _) (byk_len _ _) (byk_len _ _) (byk_len _ _) (byk_len _ _) (byk_len _ _) (byk_len _ _) (b4_len _) (o_eSquare (lt256 p1)) (o_eSquare (lt256 p2)) (o_eSquare (lt256 p3)) (p1_Add (nM_lt _ _) (nM_lt _ _)) (p1_Sub (nM_lt _ _) (nM_lt _ _)) (p1_Add (lt256 p1) (lt256 p2)) (o_eSquare (nA_lt _ _)) (p1_Sub (nM_lt _ _) (nA_lt _ _)) (p1_Add (nM_lt _ _) (nM_lt _ _)) (p1_Sub (nA_lt _ _) (nS_lt _ _)) (o_eRatios (nS_lt _ _) (nS_lt _ _) (nS_lt _ _) (nA_lt _ _)))
theorem lay4b {x y z t u v : List Int} (hx : x.length = 32) (hy : y.length = 32) (hz : z.length = 32) (ht : t.length = 32) (hu : u.length = 32) (hv : v.length = 32) :
    layOne (.flat .u8 (x ++ (y ++ (z ++ t)))) 0 (.flat .u8 u) = some (.flat .u8 (u ++ (y ++ (z ++ t)))) ∧ layOne (.flat .u8 (u ++ (y ++ (z ++ t)))) 96 (.flat .u8 v) = some (.flat .u8 (u ++ (y ++ (z ++ v)))) := by
  have l1 : (x ++ (y ++ (z ++ t))).length = 128 := by simp only [List.length_append]; omega
  have l2 : (u ++ (y ++ (z ++ t))).length = 128 := by simp only [List.length_append]; omega
  constructor
  · rw [lay_flat (by omega) (by omega), hu, List.take_zero, List.nil_append, Nat.zero_add, List.drop_left' hx]
  · rw [lay_flat (by omega) (by omega), hv, List.drop_of_length_le (by omega), List.append_nil]
    have h1 : (u ++ (y ++ (z ++ t))).take 96 = u ++ (y ++ z) := by
      rw [show u ++ (y ++ (z ++ t)) = (u ++ (y ++ z)) ++ t by simp only [List.append_assoc]]
      exact List.take_left' (by simp only [List.length_append]; omega)
    rw [h1]
    simp only [List.append_assoc]
set_option maxRecDepth 100000 in
set_option maxHeartbeats 8000000 in
theorem eNeg_gen (x y z t u v : List Int) (lx : x.length = 32) (ly : y.length = 32) (lz : z.length = 32) (lt : t.length = 32) (lu : u.length = 32) (lv : v.length = 32)
    (h0 : PE1.orc 79 [.agg (.flat .u8 (List.replicate 32 0)), .agg (.flat .u8 x)] = some (ret1 (.agg (.flat .u8 u)))) (h1 : PE1.orc 79 [.agg (.flat .u8 (List.replicate 32 0)), .agg (.flat .u8 t)] = some (ret1 (.agg (.flat .u8 v)))) : execF PE1 Tryz.f61 [.agg (.flat .u8 (x ++ (y ++ (z ++ t))))] (ret1 (.agg (.flat .u8 (u ++ (y ++ (z ++ v)))))) := by
  obtain ⟨c0, _, _, c3⟩ := cut4b lx ly lz lt
  obtain ⟨y0, y1⟩ := lay4b lx ly lz lt lu lv
  obtain ⟨P, hP⟩ : ∃ P, P = x ++ (y ++ (z ++ t)) := ⟨_, rfl⟩
  obtain ⟨Q, hQ⟩ : ∃ Q, Q = u ++ (y ++ (z ++ t)) := ⟨_, rfl⟩
  obtain ⟨V, hV⟩ : ∃ V, V = u ++ (y ++ (z ++ v)) := ⟨_, rfl⟩
  have lV : V.length = 128 := by rw [hV, List.length_append, List.length_append, List.length_append]; omega
  have lQ : Q.length = 128 := by rw [hQ, List.length_append, List.length_append, List.length_append]; omega
  rw [← hV] at y1 ⊢
  rw [← hQ] at y0 y1
  rw [← hP] at y0 c0 c3 ⊢
  clear hP hQ hV
  have zV : layOne (.flat .u8 (List.replicate 128 0)) 0 (.flat .u8 V) = some (.flat .u8 V) := lay_all (by rw [List.length_replicate, lV]) (by omega)
  have nV : (Cont.flat .u8 V).len = 128 := lV
  have cV : (Cont.flat .u8 V).cut 0 128 = some (.flat .u8 V) := cut_all lV
  ((conv => whnf); repeat ((first | refine ⟨_, c0, ?_⟩ | refine ⟨_, c3, ?_⟩ | refine ⟨_, y0, ?_⟩ | refine ⟨_, y1, ?_⟩ | refine ⟨_, zV, ?_⟩ | refine ⟨_, cV, ?_⟩ | refine ⟨nV, ?_⟩ | ((with_reducible refine isN_PE1 79 ?_); first | refine ⟨_, h0, ?_⟩ | refine ⟨_, h1, ?_⟩) | refine ⟨_, rfl, ?_⟩ | refine ⟨by decide, ?_⟩ | refine ⟨rfl, ?_⟩ | refine ⟨len_flat (by omega), ?_⟩); conv => whnf))
  rfl
theorem eNeg_call (p : Pn) (hp : p.lt) : CallOk Tryz.prog 61 [Q4 p] (ret1 (Q4 (oppN p))) := by
  have h0 := p1_Sub (show 0 < 2 ^ 256 by decide) (lt256 hp.1)
  have h1 := p1_Sub (show 0 < 2 ^ 256 by decide) (lt256 hp.2.2.2)
  rw [F, by32_z] at h0 h1
  exact execF_ok follows_ok PE1_ok Tryz.func61 (eNeg_gen (by32 p.x) (by32 p.y) (by32 p.z) (by32 p.t) _ _ (byk_len _ _) (byk_len _ _) (byk_len _ _) (byk_len _ _) (byk_len _ _) (byk_len _ _) h0 h1)
set_option maxRecDepth 100000 in
set_option maxHeartbeats 1600000 in
theorem eNeu_call : CallOk Tryz.prog 90 [] (ret1 (Q4 neuN)) := by
  have h0 := o_eAt (show 0 < 2 ^ 256 by decide) (show 1 < 2 ^ 256 by decide)
  rw [show (⟨0, 1, 1, nM 0 1⟩ : Pn) = neuN from Pn.ext rfl rfl rfl (show nM 0 1 = 0 by decide), F, F, by32_z, by_one] at h0
  have lV := b4_len neuN
  rw [Q4] at h0 ⊢
  generalize b4 neuN = V at *
  have zV : layOne (.flat .u8 (List.replicate 128 0)) 0 (.flat .u8 V) = some (.flat .u8 V) := lay_all (by rw [List.length_replicate, lV]) (by omega)
  have nV : (Cont.flat .u8 V).len = 128 := lV
  have cV : (Cont.flat .u8 V).cut 0 128 = some (.flat .u8 V) := cut_all lV
  refine execF_ok follows_ok PE1_ok Tryz.func90 ?_
  ((conv => whnf); repeat ((first | refine ⟨_, zV, ?_⟩ | refine ⟨_, cV, ?_⟩ | refine ⟨nV, ?_⟩ | ((with_reducible refine isN_PE1 80 ?_); refine ⟨_, h0, ?_⟩) | refine ⟨_, rfl, ?_⟩ | refine ⟨rfl, ?_⟩); conv => whnf))
  rfl
end Go.Proofs.YtdeigmjbcbjgeaaGreatDoor
