/-
  Layer 9: the program's ladder.
-/
import Derived.Test.YtkennahakodfnaaFC
namespace Go.Proofs.Ytkennahakodfnaa
open Go.RowKit

def nA (a b : Nat) : Nat := (a + b) % pP
def nS (a b : Nat) : Nat := (a + (pP - b % pP)) % pP
def nM (a b : Nat) : Nat := a * b % pP
theorem nA_lt (a b : Nat) : nA a b < 2 ^ 256 := mod_lt256 (a + b)
theorem nS_lt (a b : Nat) : nS a b < 2 ^ 256 := mod_lt256 (a + (pP - b % pP))
theorem nM_lt (a b : Nat) : nM a b < 2 ^ 256 := mod_lt256 (a * b)
theorem nA_lp (a b : Nat) : nA a b < pP := Nat.mod_lt _ pP_pos
theorem nS_lp (a b : Nat) : nS a b < pP := Nat.mod_lt _ pP_pos
theorem nM_lp (a b : Nat) : nM a b < pP := Nat.mod_lt _ pP_pos
theorem pAdd_row {a b : List Int} (hc : isF a = true ∧ isF b = true) : CallOk Try.prog 72 [.agg (.flat .u8 a), .agg (.flat .u8 b)] (ret1 (F (nA (nb a) (nb b)))) := by
  obtain ⟨h0, h1⟩ := hc
  have e0 := isF_eq h0
  have l0 := nb32_lt h0
  clear h0
  generalize nb a = n0 at *
  subst e0
  have e1 := isF_eq h1
  have l1 := nb32_lt h1
  clear h1
  generalize nb b = n1 at *
  subst e1
  exact pAdd_call n0 n1 l0 l1 
theorem pSub_row {a b : List Int} (hc : isF a = true ∧ isF b = true) : CallOk Try.prog 73 [.agg (.flat .u8 a), .agg (.flat .u8 b)] (ret1 (F (nS (nb a) (nb b)))) := by
  obtain ⟨h0, h1⟩ := hc
  have e0 := isF_eq h0
  have l0 := nb32_lt h0
  clear h0
  generalize nb a = n0 at *
  subst e0
  have e1 := isF_eq h1
  have l1 := nb32_lt h1
  clear h1
  generalize nb b = n1 at *
  subst e1
  exact pSub_call n0 n1 l0 l1 
theorem pMul_row {a b : List Int} (hc : isF a = true ∧ isF b = true) : CallOk Try.prog 54 [.agg (.flat .u8 a), .agg (.flat .u8 b)] (ret1 (F (nM (nb a) (nb b)))) := by
  obtain ⟨h0, h1⟩ := hc
  have e0 := isF_eq h0
  have l0 := nb32_lt h0
  clear h0
  generalize nb a = n0 at *
  subst e0
  have e1 := isF_eq h1
  have l1 := nb32_lt h1
  clear h1
  generalize nb b = n1 at *
  subst e1
  exact pMul_call n0 n1 l0 l1 
theorem pInv_row {a : List Int} (hc : isF a = true) : CallOk Try.prog 55 [.agg (.flat .u8 a)] (ret1 (F (pw (nb a) e3P))) := by
  have h0 := hc
  clear hc
  have e0 := isF_eq h0
  have l0 := nb32_lt h0
  clear h0
  generalize nb a = n0 at *
  subst e0
  exact pInv_call n0 l0 
theorem pReduce_row {a : List Int} (hc : isF a = true) : CallOk Try.prog 24 [.agg (.flat .u8 a)] (ret1 (F ((nb a) % pP))) := by
  have h0 := hc
  clear hc
  have e0 := isF_eq h0
  have l0 := nb32_lt h0
  clear h0
  generalize nb a = n0 at *
  subst e0
  exact pReduce_call n0 l0 
theorem pCanonical_row {a : List Int} (hc : isF a = true) : CallOk Try.prog 25 [.agg (.flat .u8 a)] (ret1 (.v (.bool (decide ((nb a) < pP))))) := by
  have h0 := hc
  clear hc
  have e0 := isF_eq h0
  have l0 := nb32_lt h0
  clear h0
  generalize nb a = n0 at *
  subst e0
  exact pCanonical_call n0 l0 
def orcG0 (f : Nat) (ds : List LV) : Option LRes :=
  match f with
  | 72 => match ds with
    | [.agg (.flat .u8 a), .agg (.flat .u8 b)] => if isF a = true ∧ isF b = true then some (ret1 (F (nA (nb a) (nb b)))) else none
    | _ => none
  | 73 => match ds with
    | [.agg (.flat .u8 a), .agg (.flat .u8 b)] => if isF a = true ∧ isF b = true then some (ret1 (F (nS (nb a) (nb b)))) else none
    | _ => none
  | 54 => match ds with
    | [.agg (.flat .u8 a), .agg (.flat .u8 b)] => if isF a = true ∧ isF b = true then some (ret1 (F (nM (nb a) (nb b)))) else none
    | _ => none
  | 55 => match ds with
    | [.agg (.flat .u8 a)] => if isF a = true then some (ret1 (F (pw (nb a) e3P))) else none
    | _ => none
  | 24 => match ds with
    | [.agg (.flat .u8 a)] => if isF a = true then some (ret1 (F ((nb a) % pP))) else none
    | _ => none
  | 25 => match ds with
    | [.agg (.flat .u8 a)] => if isF a = true then some (ret1 (.v (.bool (decide ((nb a) < pP))))) else none
    | _ => none
  | _ => orcR7 f ds
theorem orcG0_ok : Known Try.prog orcG0 := by
  intro f ds r h
  unfold orcG0 at h
  split at h
  · split at h
    · split at h
      · rename_i hc
        cases h
        exact .inl ⟨⟨_, Try.func72, name_ne _ (by kernel_rfl), rfl⟩, pAdd_row hc⟩
      · cases h
    · cases h
  · split at h
    · split at h
      · rename_i hc
        cases h
        exact .inl ⟨⟨_, Try.func73, name_ne _ (by kernel_rfl), rfl⟩, pSub_row hc⟩
      · cases h
    · cases h
  · split at h
    · split at h
      · rename_i hc
        cases h
        exact .inl ⟨⟨_, Try.func54, name_ne _ (by kernel_rfl), rfl⟩, pMul_row hc⟩
      · cases h
    · cases h
  · split at h
    · split at h
      · rename_i hc
        cases h
        exact .inl ⟨⟨_, Try.func55, name_ne _ (by kernel_rfl), rfl⟩, pInv_row hc⟩
      · cases h
    · cases h
  · split at h
    · split at h
      · rename_i hc
        cases h
        exact .inl ⟨⟨_, Try.func24, name_ne _ (by kernel_rfl), rfl⟩, pReduce_row hc⟩
      · cases h
    · cases h
  · split at h
    · split at h
      · rename_i hc
        cases h
        exact .inl ⟨⟨_, Try.func25, name_ne _ (by kernel_rfl), rfl⟩, pCanonical_row hc⟩
      · cases h
    · cases h
  · exact orcR7_ok f ds r h
def EG0 : Env := ⟨tyL, orcG0, false, noWk, noOrw⟩
theorem EG0_ok : EnvOk Try.prog EG0 := ⟨tyL_ok, orcG0_ok, noOrw_ok⟩
theorem is_EG0 {f : Nat} {ds : List LV} {K : LRes → Prop} (h : ∃ y, EG0.orc f ds = some y ∧ K y) : ∃ y, EG0.orc f ds = some y ∧ K y := h
set_option maxRecDepth 100000 in
theorem o_pAdd {a b : Nat} (ha : a < 2 ^ 256) (hb : b < 2 ^ 256) : EG0.orc 72 [F a, F b] = some (ret1 (F (nA a b))) :=
  (if_pos ⟨isF_by _, isF_by _⟩).trans (by rw [nb_by32 ha, nb_by32 hb])
set_option maxRecDepth 100000 in
theorem o_pSub {a b : Nat} (ha : a < 2 ^ 256) (hb : b < 2 ^ 256) : EG0.orc 73 [F a, F b] = some (ret1 (F (nS a b))) :=
  (if_pos ⟨isF_by _, isF_by _⟩).trans (by rw [nb_by32 ha, nb_by32 hb])
set_option maxRecDepth 100000 in
theorem o_pMul {a b : Nat} (ha : a < 2 ^ 256) (hb : b < 2 ^ 256) : EG0.orc 54 [F a, F b] = some (ret1 (F (nM a b))) :=
  (if_pos ⟨isF_by _, isF_by _⟩).trans (by rw [nb_by32 ha, nb_by32 hb])
set_option maxRecDepth 100000 in
theorem o_pInv {a : Nat} (ha : a < 2 ^ 256) : EG0.orc 55 [F a] = some (ret1 (F (pw a e3P))) :=
  (if_pos (isF_by _)).trans (by rw [nb_by32 ha])
set_option maxRecDepth 100000 in
theorem o_pReduce {a : Nat} (ha : a < 2 ^ 256) : EG0.orc 24 [F a] = some (ret1 (F (a % pP))) :=
  (if_pos (isF_by _)).trans (by rw [nb_by32 ha])
set_option maxRecDepth 100000 in
theorem o_pCanonical {a : Nat} (ha : a < 2 ^ 256) : EG0.orc 25 [F a] = some (ret1 (.v (.bool (decide (a < pP))))) :=
  (if_pos (isF_by _)).trans (by rw [nb_by32 ha])
theorem isN_EG0 (f : Nat) {ds : List LV} {K : LRes → Prop} (h : ∃ y, EG0.orc f ds = some y ∧ K y) : ∃ y, EG0.orc f ds = some y ∧ K y := h
set_option maxRecDepth 100000 in
set_option maxHeartbeats 1600000 in
theorem square_call (a : Nat) (ha : a < 2 ^ 256) : CallOk Try.prog 74 [F a] (ret1 (F (nM a a))) := by
  refine execF_ok follows_ok EG0_ok Try.func74 ?_
  ((conv => whnf); repeat ((first | ((with_reducible refine isN_EG0 54 ?_); refine ⟨_, o_pMul ha ha, ?_⟩) | refine ⟨_, rfl, ?_⟩ | refine ⟨by decide, ?_⟩ | refine ⟨rfl, ?_⟩ | refine ⟨fun _ => ?_, fun h => absurd h (by decide)⟩ | refine ⟨fun h => absurd h (by decide), fun _ => ?_⟩ | refine ⟨inI_of (by omega), ?_⟩ | refine ⟨⟨rfl, inI_of (by omega)⟩, ?_⟩ | refine ⟨⟨rfl, by decide⟩, ?_⟩ | (apply Exists.intro; refine ⟨?_, ?_⟩; ((try simp only); (try simp only [Nat.zero_add]); (try simp only [Nat.mul_one]); (try simp only [Int.toNat_natCast]); exact at_g (by omega))) | (apply Exists.intro; refine ⟨?_, ?_⟩; ((try simp only); (try simp only [Nat.zero_add]); (try simp only [Nat.mul_one]); (try simp only [Int.toNat_natCast]); exact put_flat (by omega))) | refine ⟨_, cut_all (by omega), ?_⟩ | refine ⟨_, lay_all (by omega) (by omega), ?_⟩ | refine ⟨_, lay_all (by (try simp only); (try simp only [List.length_replicate]); (try simp only [List.length_cons]); (try simp only [List.length_nil]); omega) (by omega), ?_⟩ | refine ⟨by omega, ?_⟩ | refine ⟨len_flat (by omega), ?_⟩ | refine ⟨apart_uv _ _ _, ?_⟩ | refine ⟨_, resSlot_own rfl (by omega) (by first | exact .inl rfl | exact .inr ⟨rfl, rfl⟩), ?_⟩ | refine ⟨(by kernel_rfl : regB _ = true), ?_⟩ | refine ⟨⟨rfl, inI_of (by omega), by decide⟩, ?_⟩ | (apply Exists.intro; refine ⟨?_, ?_⟩; ((try simp only); (try simp only [Nat.zero_add]); (try simp only [Nat.mul_one]); (try simp only [Int.toNat_natCast]); exact at_drop_g (by omega))) | (apply Exists.intro; refine ⟨?_, ?_⟩; ((try simp only); (try simp only [Nat.zero_add]); (try simp only [Nat.mul_one]); (try simp only [Int.toNat_natCast]); exact cut_rest (by omega)))); conv => whnf))
  rfl
set_option maxRecDepth 100000 in
theorem factor_call : CallOk Try.prog 75 [] (ret1 (F 121665)) := runF_ok follows_ok EG0_ok Try.func75 (fuel := 200) (by kernel_rfl)
theorem square_row {a : List Int} (hc : isF a = true) : CallOk Try.prog 74 [.agg (.flat .u8 a)] (ret1 (F (nM (nb a) (nb a)))) := by
  have h0 := hc
  clear hc
  have e0 := isF_eq h0
  have l0 := nb32_lt h0
  clear h0
  generalize nb a = n0 at *
  subst e0
  exact square_call n0 l0 
def orcG1 (f : Nat) (ds : List LV) : Option LRes :=
  match f with
  | 74 => match ds with
    | [.agg (.flat .u8 a)] => if isF a = true then some (ret1 (F (nM (nb a) (nb a)))) else none
    | _ => none
  | 75 => match ds with
    | [] => some (ret1 (F 121665))
    | _ => none
  | _ => orcG0 f ds
theorem orcG1_ok : Known Try.prog orcG1 := by
  intro f ds r h
  unfold orcG1 at h
  split at h
  · split at h
    · split at h
      · rename_i hc
        cases h
        exact .inl ⟨⟨_, Try.func74, name_ne _ (by kernel_rfl), rfl⟩, square_row hc⟩
      · cases h
    · cases h
  · split at h
    · cases h
      exact .inl ⟨⟨_, Try.func75, name_ne _ (by kernel_rfl), rfl⟩, factor_call⟩
    · cases h
  · exact orcG0_ok f ds r h
def EG1 : Env := ⟨tyL, orcG1, false, noWk, noOrw⟩
theorem EG1_ok : EnvOk Try.prog EG1 := ⟨tyL_ok, orcG1_ok, noOrw_ok⟩
theorem is_EG1 {f : Nat} {ds : List LV} {K : LRes → Prop} (h : ∃ y, EG1.orc f ds = some y ∧ K y) : ∃ y, EG1.orc f ds = some y ∧ K y := h
set_option maxRecDepth 100000 in
theorem o_square {a : Nat} (ha : a < 2 ^ 256) : EG1.orc 74 [F a] = some (ret1 (F (nM a a))) :=
  (if_pos (isF_by _)).trans (by rw [nb_by32 ha])
theorem o_factor : EG1.orc 75 [] = some (ret1 (F 121665)) := rfl
theorem isN_EG1 (f : Nat) {ds : List LV} {K : LRes → Prop} (h : ∃ y, EG1.orc f ds = some y ∧ K y) : ∃ y, EG1.orc f ds = some y ∧ K y := h
theorem q_Add {a b : Nat} (ha : a < 2 ^ 256) (hb : b < 2 ^ 256) : EG1.orc 72 [F a, F b] = some (ret1 (F (nA a b))) := (show EG1.orc 72 [F a, F b] = EG0.orc 72 [F a, F b] from rfl).trans (o_pAdd ha hb)
theorem q_Sub {a b : Nat} (ha : a < 2 ^ 256) (hb : b < 2 ^ 256) : EG1.orc 73 [F a, F b] = some (ret1 (F (nS a b))) := (show EG1.orc 73 [F a, F b] = EG0.orc 73 [F a, F b] from rfl).trans (o_pSub ha hb)
theorem q_Mul {a b : Nat} (ha : a < 2 ^ 256) (hb : b < 2 ^ 256) : EG1.orc 54 [F a, F b] = some (ret1 (F (nM a b))) := (show EG1.orc 54 [F a, F b] = EG0.orc 54 [F a, F b] from rfl).trans (o_pMul ha hb)
theorem cut_pre {x y : List Int} {n : Nat} (hx : x.length = n) (hy : 0 < y.length) : (Cont.flat .u8 (x ++ y)).cut 0 n = some (.flat .u8 x) := by
  rw [cut_flat (by rw [List.length_append]; omega), List.drop_zero, ← hx, List.take_left']
  rfl
theorem cut_suf {x y : List Int} {o n : Nat} (hx : x.length = o) (hy : y.length = n) (_ : 0 < o) : (Cont.flat .u8 (x ++ y)).cut o n = some (.flat .u8 y) := by
  rw [cut_flat (by rw [List.length_append]; omega), ← hx, List.drop_left', List.take_of_length_le (by omega)]
  rfl
theorem lay_one0 {x : List Int} (hx : x.length = 32) : layOne (.flat .u8 (List.replicate 64 0)) 0 (.flat .u8 x) = some (.flat .u8 (x ++ List.replicate 32 0)) := by
  rw [lay_flat (by rw [hx, List.length_replicate]; decide) (by omega), hx]
  rfl
theorem lay_one1 {x z y : List Int} (hx : x.length = 32) (hz : z.length = 32) (hy : y.length = 32) : layOne (.flat .u8 (x ++ y)) 32 (.flat .u8 z) = some (.flat .u8 (x ++ z)) := by
  rw [lay_flat (by rw [List.length_append, hx, hy, hz]; decide) (by omega), hz, ← hx, List.take_left', List.drop_of_length_le (by rw [List.length_append, hx, hy]; decide), List.append_nil]
  rfl
set_option maxRecDepth 100000 in
set_option maxHeartbeats 8000000 in
theorem step_gen (ax az bx bz u p m t1 da t2 cb aa bb e t3 sx t4 t5 sz dx fa t6 t7 dz : List Int) (l_ax : ax.length = 32) (l_az : az.length = 32) (l_bx : bx.length = 32) (l_bz : bz.length = 32) (_ : u.length = 32) (_ : p.length = 32) (_ : m.length = 32) (_ : t1.length = 32) (_ : da.length = 32) (_ : t2.length = 32) (_ : cb.length = 32) (_ : aa.length = 32) (_ : bb.length = 32) (_ : e.length = 32) (_ : t3.length = 32) (l_sx : sx.length = 32) (_ : t4.length = 32) (_ : t5.length = 32) (l_sz : sz.length = 32) (l_dx : dx.length = 32) (_ : fa.length = 32) (_ : t6.length = 32) (_ : t7.length = 32) (l_dz : dz.length = 32)
    (h0 : EG1.orc 72 [.agg (.flat .u8 ax), .agg (.flat .u8 az)] = some (ret1 (.agg (.flat .u8 p))))
    (h1 : EG1.orc 73 [.agg (.flat .u8 ax), .agg (.flat .u8 az)] = some (ret1 (.agg (.flat .u8 m))))
    (h2 : EG1.orc 73 [.agg (.flat .u8 bx), .agg (.flat .u8 bz)] = some (ret1 (.agg (.flat .u8 t1))))
    (h3 : EG1.orc 54 [.agg (.flat .u8 t1), .agg (.flat .u8 p)] = some (ret1 (.agg (.flat .u8 da))))
    (h4 : EG1.orc 72 [.agg (.flat .u8 bx), .agg (.flat .u8 bz)] = some (ret1 (.agg (.flat .u8 t2))))
    (h5 : EG1.orc 54 [.agg (.flat .u8 t2), .agg (.flat .u8 m)] = some (ret1 (.agg (.flat .u8 cb))))
    (h6 : EG1.orc 74 [.agg (.flat .u8 p)] = some (ret1 (.agg (.flat .u8 aa))))
    (h7 : EG1.orc 74 [.agg (.flat .u8 m)] = some (ret1 (.agg (.flat .u8 bb))))
    (h8 : EG1.orc 73 [.agg (.flat .u8 aa), .agg (.flat .u8 bb)] = some (ret1 (.agg (.flat .u8 e))))
    (h9 : EG1.orc 72 [.agg (.flat .u8 da), .agg (.flat .u8 cb)] = some (ret1 (.agg (.flat .u8 t3))))
    (h10 : EG1.orc 74 [.agg (.flat .u8 t3)] = some (ret1 (.agg (.flat .u8 sx))))
    (h11 : EG1.orc 73 [.agg (.flat .u8 da), .agg (.flat .u8 cb)] = some (ret1 (.agg (.flat .u8 t4))))
    (h12 : EG1.orc 74 [.agg (.flat .u8 t4)] = some (ret1 (.agg (.flat .u8 t5))))
    (h13 : EG1.orc 54 [.agg (.flat .u8 u), .agg (.flat .u8 t5)] = some (ret1 (.agg (.flat .u8 sz))))
    (h14 : EG1.orc 54 [.agg (.flat .u8 aa), .agg (.flat .u8 bb)] = some (ret1 (.agg (.flat .u8 dx))))
    (h15 : EG1.orc 75 [] = some (ret1 (.agg (.flat .u8 fa))))
    (h16 : EG1.orc 54 [.agg (.flat .u8 fa), .agg (.flat .u8 e)] = some (ret1 (.agg (.flat .u8 t6))))
    (h17 : EG1.orc 72 [.agg (.flat .u8 aa), .agg (.flat .u8 t6)] = some (ret1 (.agg (.flat .u8 t7))))
    (h18 : EG1.orc 54 [.agg (.flat .u8 e), .agg (.flat .u8 t7)] = some (ret1 (.agg (.flat .u8 dz))))
    : execF EG1 Try.f56 [.agg (.flat .u8 (ax ++ az)), .agg (.flat .u8 (bx ++ bz)), .agg (.flat .u8 u)] (.many [.val (.agg (.flat .u8 (dx ++ dz))), .val (.agg (.flat .u8 (sx ++ sz)))]) := by
  have ca0 : (Cont.flat .u8 (ax ++ az)).cut 0 32 = some (.flat .u8 ax) := cut_pre l_ax (by omega)
  have ca1 : (Cont.flat .u8 (ax ++ az)).cut 32 32 = some (.flat .u8 az) := cut_suf l_ax l_az (by decide)
  have cb0 : (Cont.flat .u8 (bx ++ bz)).cut 0 32 = some (.flat .u8 bx) := cut_pre l_bx (by omega)
  have cb1 : (Cont.flat .u8 (bx ++ bz)).cut 32 32 = some (.flat .u8 bz) := cut_suf l_bx l_bz (by decide)
  have ys0 : layOne (.flat .u8 (List.replicate 64 0)) 0 (.flat .u8 sx) = some (.flat .u8 (sx ++ List.replicate 32 0)) := lay_one0 l_sx
  have ys1 : layOne (.flat .u8 (sx ++ List.replicate 32 0)) 32 (.flat .u8 sz) = some (.flat .u8 (sx ++ sz)) := lay_one1 l_sx l_sz (List.length_replicate ..)
  have yd0 : layOne (.flat .u8 (List.replicate 64 0)) 0 (.flat .u8 dx) = some (.flat .u8 (dx ++ List.replicate 32 0)) := lay_one0 l_dx
  have yd1 : layOne (.flat .u8 (dx ++ List.replicate 32 0)) 32 (.flat .u8 dz) = some (.flat .u8 (dx ++ dz)) := lay_one1 l_dx l_dz (List.length_replicate ..)
  have ws : (Cont.flat .u8 (sx ++ sz)).cut 0 64 = some (.flat .u8 (sx ++ sz)) := cut_all (by rw [List.length_append, l_sx, l_sz])
  have ns : (Cont.flat .u8 (sx ++ sz)).len = 64 := by rw [Cont.len, List.length_append, l_sx, l_sz]
  have zs : layOne (.flat .u8 (sx ++ sz)) 0 (.flat .u8 (sx ++ sz)) = some (.flat .u8 (sx ++ sz)) := lay_all rfl (by rw [List.length_append, l_sx, l_sz]; decide)
  have wd : (Cont.flat .u8 (dx ++ dz)).cut 0 64 = some (.flat .u8 (dx ++ dz)) := cut_all (by rw [List.length_append, l_dx, l_dz])
  have nd : (Cont.flat .u8 (dx ++ dz)).len = 64 := by rw [Cont.len, List.length_append, l_dx, l_dz]
  have zd : layOne (.flat .u8 (dx ++ dz)) 0 (.flat .u8 (dx ++ dz)) = some (.flat .u8 (dx ++ dz)) := lay_all rfl (by rw [List.length_append, l_dx, l_dz]; decide)
  ((conv => whnf); repeat ((first | refine ⟨_, ca0, ?_⟩ | refine ⟨_, ca1, ?_⟩ | refine ⟨_, cb0, ?_⟩ | refine ⟨_, cb1, ?_⟩ | refine ⟨_, ys0, ?_⟩ | refine ⟨_, ys1, ?_⟩ | refine ⟨_, yd0, ?_⟩ | refine ⟨_, yd1, ?_⟩ | refine ⟨_, ws, ?_⟩ | refine ⟨_, wd, ?_⟩ | refine ⟨_, zs, ?_⟩ | refine ⟨_, zd, ?_⟩ | refine ⟨ns, ?_⟩ | refine ⟨nd, ?_⟩ | ((with_reducible refine isN_EG1 72 ?_); first | refine ⟨_, h0, ?_⟩ | refine ⟨_, h4, ?_⟩ | refine ⟨_, h9, ?_⟩ | refine ⟨_, h17, ?_⟩) | ((with_reducible refine isN_EG1 73 ?_); first | refine ⟨_, h1, ?_⟩ | refine ⟨_, h2, ?_⟩ | refine ⟨_, h8, ?_⟩ | refine ⟨_, h11, ?_⟩) | ((with_reducible refine isN_EG1 54 ?_); first | refine ⟨_, h3, ?_⟩ | refine ⟨_, h5, ?_⟩ | refine ⟨_, h13, ?_⟩ | refine ⟨_, h14, ?_⟩ | refine ⟨_, h16, ?_⟩ | refine ⟨_, h18, ?_⟩) | ((with_reducible refine isN_EG1 74 ?_); first | refine ⟨_, h6, ?_⟩ | refine ⟨_, h7, ?_⟩ | refine ⟨_, h10, ?_⟩ | refine ⟨_, h12, ?_⟩) | ((with_reducible refine isN_EG1 75 ?_); first | refine ⟨_, h15, ?_⟩) | refine ⟨_, rfl, ?_⟩ | refine ⟨by decide, ?_⟩ | refine ⟨rfl, ?_⟩ | refine ⟨fun _ => ?_, fun h => absurd h (by decide)⟩ | refine ⟨fun h => absurd h (by decide), fun _ => ?_⟩ | refine ⟨inI_of (by omega), ?_⟩ | refine ⟨⟨rfl, inI_of (by omega)⟩, ?_⟩ | refine ⟨⟨rfl, by decide⟩, ?_⟩ | (apply Exists.intro; refine ⟨?_, ?_⟩; ((try simp only); (try simp only [Nat.zero_add]); (try simp only [Nat.mul_one]); (try simp only [Int.toNat_natCast]); exact at_g (by omega))) | (apply Exists.intro; refine ⟨?_, ?_⟩; ((try simp only); (try simp only [Nat.zero_add]); (try simp only [Nat.mul_one]); (try simp only [Int.toNat_natCast]); exact put_flat (by omega))) | refine ⟨_, cut_all (by omega), ?_⟩ | refine ⟨_, lay_all (by omega) (by omega), ?_⟩ | refine ⟨_, lay_all (by (try simp only); (try simp only [List.length_replicate]); (try simp only [List.length_cons]); (try simp only [List.length_nil]); omega) (by omega), ?_⟩ | refine ⟨by omega, ?_⟩ | refine ⟨len_flat (by omega), ?_⟩ | refine ⟨apart_uv _ _ _, ?_⟩ | refine ⟨_, resSlot_own rfl (by omega) (by first | exact .inl rfl | exact .inr ⟨rfl, rfl⟩), ?_⟩ | refine ⟨(by kernel_rfl : regB _ = true), ?_⟩ | refine ⟨⟨rfl, inI_of (by omega), by decide⟩, ?_⟩ | (apply Exists.intro; refine ⟨?_, ?_⟩; ((try simp only); (try simp only [Nat.zero_add]); (try simp only [Nat.mul_one]); (try simp only [Int.toNat_natCast]); exact at_drop_g (by omega))) | (apply Exists.intro; refine ⟨?_, ?_⟩; ((try simp only); (try simp only [Nat.zero_add]); (try simp only [Nat.mul_one]); (try simp only [Int.toNat_natCast]); exact cut_rest (by omega)))); conv => whnf))
  rfl
end Go.Proofs.Ytkennahakodfnaa
