import Derived.Test.YtdeigmjbcbjgeaaGreatDoorYcFA
namespace Go.Proofs.YtdeigmjbcbjgeaaGreatDoor
open Go.RowKit
def nA (a b : Nat) : Nat := (a + b) % pP
def nS (a b : Nat) : Nat := (a + (pP - b % pP)) % pP
def nM (a b : Nat) : Nat := a * b % pP
theorem nA_lt (a b : Nat) : nA a b < 2 ^ 256 := mod_lt256 (a + b)
theorem nS_lt (a b : Nat) : nS a b < 2 ^ 256 := mod_lt256 (a + (pP - b % pP))
theorem nM_lt (a b : Nat) : nM a b < 2 ^ 256 := mod_lt256 (a * b)
theorem nA_lp (a b : Nat) : nA a b < pP := Nat.mod_lt _ pP_pos
theorem nS_lp (a b : Nat) : nS a b < pP := Nat.mod_lt _ pP_pos
theorem nM_lp (a b : Nat) : nM a b < pP := Nat.mod_lt _ pP_pos
theorem pAdd_row {a b : List Int} (hc : isF a = true ∧ isF b = true) : CallOk Tryz.prog 77 [.agg (.flat .u8 a), .agg (.flat .u8 b)] (ret1 (F (nA (nb a) (nb b)))) := by
 obtain ⟨h0, h1⟩ := hc
 have e0 := isF_eq h0
 have l0 := nb32_lt h0
 clear h0
 generalize nb a = n0 at *
 subst e0
 have e1 := isF_eq h1
 have l1 := nb32_lt h1
 clear h1
 generalize nb b = n1 at *
 subst e1
 exact pAdd_call n0 n1 l0 l1
theorem pSub_row {a b : List Int} (hc : isF a = true ∧ isF b = true) : CallOk Tryz.prog 79 [.agg (.flat .u8 a), .agg (.flat .u8 b)] (ret1 (F (nS (nb a) (nb b)))) := by
 obtain ⟨h0, h1⟩ := hc
 have e0 := isF_eq h0
 have l0 := nb32_lt h0
 clear h0
 generalize nb a = n0 at *
 subst e0
 have e1 := isF_eq h1
 have l1 := nb32_lt h1
 clear h1
 generalize nb b = n1 at *
 subst e1
 exact pSub_call n0 n1 l0 l1
theorem pMul_row {a b : List Int} (hc : isF a = true ∧ isF b = true) : CallOk Tryz.prog 45 [.agg (.flat .u8 a), .agg (.flat .u8 b)] (ret1 (F (nM (nb a) (nb b)))) := by
 obtain ⟨h0, h1⟩ := hc
 have e0 := isF_eq h0
 have l0 := nb32_lt h0
 clear h0
 generalize nb a = n0 at *
 subst e0
 have e1 := isF_eq h1
 have l1 := nb32_lt h1
 clear h1
 generalize nb b = n1 at *
 subst e1
 exact pMul_call n0 n1 l0 l1
theorem pInv_row {a : List Int} (hc : isF a = true) : CallOk Tryz.prog 46 [.agg (.flat .u8 a)] (ret1 (F (pw (nb a) e3P))) := by
 have h0 := hc
 clear hc
 have e0 := isF_eq h0
 have l0 := nb32_lt h0
 clear h0
 generalize nb a = n0 at *
 subst e0
 exact pInv_call n0 l0
theorem pCanonical_row {a : List Int} (hc : isF a = true) : CallOk Tryz.prog 75 [.agg (.flat .u8 a)] (ret1 (.v (.bool (decide ((nb a) < pP))))) := by
 have h0 := hc
 clear hc
 have e0 := isF_eq h0
 have l0 := nb32_lt h0
 clear h0
 generalize nb a = n0 at *
 subst e0
 exact pCanonical_call n0 l0
def orcG0 (f : Nat) (ds : List LV) : Option LRes :=
 match f with
 | 77 => match ds with
  | [.agg (.flat .u8 a), .agg (.flat .u8 b)] => if isF a = true ∧ isF b = true then some (ret1 (F (nA (nb a) (nb b)))) else none
  | _ => none
 | 79 => match ds with
  | [.agg (.flat .u8 a), .agg (.flat .u8 b)] => if isF a = true ∧ isF b = true then some (ret1 (F (nS (nb a) (nb b)))) else none
  | _ => none
 | 45 => match ds with
  | [.agg (.flat .u8 a), .agg (.flat .u8 b)] => if isF a = true ∧ isF b = true then some (ret1 (F (nM (nb a) (nb b)))) else none
  | _ => none
 | 46 => match ds with
  | [.agg (.flat .u8 a)] => if isF a = true then some (ret1 (F (pw (nb a) e3P))) else none
  | _ => none
 | 75 => match ds with
  | [.agg (.flat .u8 a)] => if isF a = true then some (ret1 (.v (.bool (decide ((nb a) < pP))))) else none
  | _ => none
 | _ => orcR7 f ds
theorem orcG0_ok : Known Tryz.prog orcG0 := by
 intro f ds r h
 unfold orcG0 at h
 split at h
 ·split at h
  ·split at h
   ·rename_i hc
    cases h
    exact .inl ⟨⟨_, Tryz.func77, name_ne _ (by kernel_rfl), rfl⟩, pAdd_row hc⟩
   ·cases h
  ·cases h
 ·split at h
  ·split at h
   ·rename_i hc
    cases h
    exact .inl ⟨⟨_, Tryz.func79, name_ne _ (by kernel_rfl), rfl⟩, pSub_row hc⟩
   ·cases h
  ·cases h
 ·split at h
  ·split at h
   ·rename_i hc
    cases h
    exact .inl ⟨⟨_, Tryz.func45, name_ne _ (by kernel_rfl), rfl⟩, pMul_row hc⟩
   ·cases h
  ·cases h
 ·split at h
  ·split at h
   ·rename_i hc
    cases h
    exact .inl ⟨⟨_, Tryz.func46, name_ne _ (by kernel_rfl), rfl⟩, pInv_row hc⟩
   ·cases h
  ·cases h
 ·split at h
  ·split at h
   ·rename_i hc
    cases h
    exact .inl ⟨⟨_, Tryz.func75, name_ne _ (by kernel_rfl), rfl⟩, pCanonical_row hc⟩
   ·cases h
  ·cases h
 ·exact orcR7_ok f ds r h
def EG0 : Env := ⟨tyL, orcG0, false, noWk, noOrw⟩
theorem EG0_ok : EnvOk Tryz.prog EG0 := ⟨tyL_ok, orcG0_ok, noOrw_ok⟩
set_option maxRecDepth 100000 in
theorem o_pAdd {a b : Nat} (ha : a < 2 ^ 256) (hb : b < 2 ^ 256) : EG0.orc 77 [F a, F b] = some (ret1 (F (nA a b))) :=
 (if_pos ⟨isF_by _, isF_by _⟩).trans (by rw [nb_by32 ha, nb_by32 hb])
set_option maxRecDepth 100000 in
theorem o_pSub {a b : Nat} (ha : a < 2 ^ 256) (hb : b < 2 ^ 256) : EG0.orc 79 [F a, F b] = some (ret1 (F (nS a b))) :=
 (if_pos ⟨isF_by _, isF_by _⟩).trans (by rw [nb_by32 ha, nb_by32 hb])
set_option maxRecDepth 100000 in
theorem o_pMul {a b : Nat} (ha : a < 2 ^ 256) (hb : b < 2 ^ 256) : EG0.orc 45 [F a, F b] = some (ret1 (F (nM a b))) :=
 (if_pos ⟨isF_by _, isF_by _⟩).trans (by rw [nb_by32 ha, nb_by32 hb])
set_option maxRecDepth 100000 in
theorem o_pInv {a : Nat} (ha : a < 2 ^ 256) : EG0.orc 46 [F a] = some (ret1 (F (pw a e3P))) :=
 (if_pos (isF_by _)).trans (by rw [nb_by32 ha])
set_option maxRecDepth 100000 in
theorem o_pCanonical {a : Nat} (ha : a < 2 ^ 256) : EG0.orc 75 [F a] = some (ret1 (.v (.bool (decide (a < pP))))) :=
 (if_pos (isF_by _)).trans (by rw [nb_by32 ha])
theorem isN_EG0 (f : Nat) {ds : List LV} {K : LRes → Prop} (h : ∃ y, EG0.orc f ds = some y ∧ K y) : ∃ y, EG0.orc f ds = some y ∧ K y := h
def orcG1 (f : Nat) (ds : List LV) : Option LRes := orcG0 f ds
theorem orcG1_ok : Known Tryz.prog orcG1 := by
 intro f ds r h
 exact orcG0_ok f ds r h
end Go.Proofs.YtdeigmjbcbjgeaaGreatDoor
namespace Go.Proofs.YtdeigmjbcbjgeaaGreatDoor
open Go.RowKit
@[ext] structure Lad where
 x : Nat
 z : Nat
 v : Nat
 w : Nat
def stp (u : Nat) (s : Lad) : Lad where
 x := nM (nM (nA s.x s.z) (nA s.x s.z)) (nM (nS s.x s.z) (nS s.x s.z))
 z := nM (nS (nM (nA s.x s.z) (nA s.x s.z)) (nM (nS s.x s.z) (nS s.x s.z))) (nA (nM (nA s.x s.z) (nA s.x s.z)) (nM 121665 (nS (nM (nA s.x s.z) (nA s.x s.z)) (nM (nS s.x s.z) (nS s.x s.z)))))
 v := nM (nA (nM (nS s.v s.w) (nA s.x s.z)) (nM (nA s.v s.w) (nS s.x s.z))) (nA (nM (nS s.v s.w) (nA s.x s.z)) (nM (nA s.v s.w) (nS s.x s.z)))
 w := nM u (nM (nS (nM (nS s.v s.w) (nA s.x s.z)) (nM (nA s.v s.w) (nS s.x s.z))) (nS (nM (nS s.v s.w) (nA s.x s.z)) (nM (nA s.v s.w) (nS s.x s.z))))
def swp (s : Lad) : Lad := ⟨s.v, s.w, s.x, s.z⟩
def lad (u n : Nat) : Nat → Lad
 | 0 => ⟨1, 0, u, 1⟩
 | k + 1 => if n.testBit (255 - k) then swp (stp u (swp (lad u n k))) else stp u (lad u n k)
def mlt (u n : Nat) : Nat := nM (lad u n 256).x (pw (lad u n 256).z e3P)
def Lad.lt (s : Lad) : Prop := s.x < pP ∧ s.z < pP ∧ s.v < pP ∧ s.w < pP
theorem lt256 {a : Nat} (h : a < pP) : a < 2 ^ 256 := Nat.lt_trans h pP_lt
def b2 (x z : Nat) : List Int := by32 x ++ by32 z
def orcG2 (f : Nat) (ds : List LV) : Option LRes := orcG1 f ds
theorem orcG2_ok : Known Tryz.prog orcG2 := by
 intro f ds r h
 exact orcG1_ok f ds r h
def EG2 : Env := ⟨tyL, orcG2, false, noWk, noOrw⟩
theorem EG2_ok : EnvOk Tryz.prog EG2 := ⟨tyL_ok, orcG2_ok, noOrw_ok⟩
theorem runs_eq {α : Type} {o : Option α} {K : α → Prop} {p : α} (h : o = some p) (hk : K p) : runs o K := by
 subst h
 exact hk
def okBit : Bool := (List.range 256).all fun n => (List.range 8).all fun s => decide (bits .and .u8 (((n : Nat) : Int).fdiv (2 ^ s)) 1 = if Nat.testBit n s then 1 else 0)
theorem bit_b8 (n s : Nat) (hn : n < 256) (hs : s < 8) : bits .and .u8 (((n : Nat) : Int).fdiv (2 ^ s)) 1 = if Nat.testBit n s then 1 else 0 := by
 have h : okBit = true := by kernel_rfl
 rw [okBit, List.all_eq_true] at h
 have h1 := h n (List.mem_range.2 hn)
 rw [List.all_eq_true] at h1
 exact of_decide_eq_true (h1 s (List.mem_range.2 hs))
theorem bt_bit (n i : Nat) : Nat.testBit (n / 2 ^ (8 * (i / 8)) % 256) (i % 8) = Nat.testBit n i := by
 rw [show (256 : Nat) = 2 ^ 8 from rfl, Nat.testBit_mod_two_pow, Nat.testBit_div_two_pow, decide_eq_true (show i % 8 < 8 by omega), Bool.true_and, show i % 8 + 8 * (i / 8) = i by omega]
theorem bit_k {l : List Int} {n i : Nat} (h : g l (i / 8) = bt n (i / 8)) : bits .and .u8 ((g l (i / 8)).fdiv (2 ^ min ((i : Int).tmod 8).toNat IntKind.u8.bits)) 1 = if Nat.testBit n i then 1 else 0 := by
 have e : min ((i : Int).tmod 8).toNat IntKind.u8.bits = i % 8 := by
  rw [show (8 : Int) = ((8 : Nat) : Int) from rfl, tmod_nat, Int.toNat_natCast]
  exact Nat.min_eq_left (by show i % 8 ≤ 8; omega)
 rw [h, bt, e, bit_b8 _ _ (by omega) (by omega), bt_bit]
theorem bit_ku {l : List Int} {n i : Nat} (h : g l (i / 8) = bt n (i / 8)) : bits .and .u8 ((g l (i / 8)).fdiv (2 ^ min (IntKind.u64.wrap ((i : Int).tmod 8)).toNat IntKind.u8.bits)) 1 = if Nat.testBit n i then 1 else 0 := by
 rw [show IntKind.u64.wrap ((i : Int).tmod 8) = (i : Int).tmod 8 by rw [show (8 : Int) = ((8 : Nat) : Int) from rfl, tmod_nat, wrapN _ (by omega)]]
 exact bit_k h
theorem tdiv8k (i : Nat) (h : i < 1000) : IntKind.i64.wrap ((i : Int).tdiv 8) = ((i / 8 : Nat) : Int) := by
 rw [show (8 : Int) = ((8 : Nat) : Int) from rfl, ← Int.ofNat_tdiv, wrap64 (by omega)]
theorem tmod8_nn (i : Nat) : 0 ≤ (i : Int).tmod 8 := Int.tmod_nonneg _ (by omega)
end Go.Proofs.YtdeigmjbcbjgeaaGreatDoor
namespace Go.Proofs.YtdeigmjbcbjgeaaGreatDoor
open Go.RowKit
def clampN (n : Nat) : Nat := n % 2 ^ 254 / 8 * 8 + 2 ^ 254
theorem clampN_lt (n : Nat) : clampN n < 2 ^ 256 := by unfold clampN; omega
def okClamp : Bool := (List.range 256).all fun n => decide (bits .andNot .u8 (n : Nat) 7 = ((n / 8 * 8 : Nat) : Int)) && decide (bits .or .u8 (bits .andNot .u8 (n : Nat) 128) 64 = ((n % 64 + 64 : Nat) : Int)) && decide (bits .and .u8 (n : Nat) 248 = ((n / 8 * 8 : Nat) : Int)) && decide (bits .or .u8 (bits .and .u8 (n : Nat) 127) 64 = ((n % 64 + 64 : Nat) : Int)) && decide (bits .andNot .u8 (n : Nat) 128 = ((n % 128 : Nat) : Int)) && decide (bits .and .u8 (n : Nat) 127 = ((n % 128 : Nat) : Int))
theorem clamp_bits (n : Nat) (h : n < 256) : bits .andNot .u8 (n : Nat) 7 = ((n / 8 * 8 : Nat) : Int) ∧ bits .or .u8 (bits .andNot .u8 (n : Nat) 128) 64 = ((n % 64 + 64 : Nat) : Int) ∧ bits .and .u8 (n : Nat) 248 = ((n / 8 * 8 : Nat) : Int) ∧ bits .or .u8 (bits .and .u8 (n : Nat) 127) 64 = ((n % 64 + 64 : Nat) : Int) ∧ bits .andNot .u8 (n : Nat) 128 = ((n % 128 : Nat) : Int) ∧ bits .and .u8 (n : Nat) 127 = ((n % 128 : Nat) : Int) := by
 have h1 : okClamp = true := by kernel_rfl
 rw [okClamp, List.all_eq_true] at h1
 have h2 := h1 n (List.mem_range.2 h)
 simp only [Bool.and_eq_true, decide_eq_true_eq] at h2
 obtain ⟨⟨⟨⟨⟨a, b⟩, c⟩, d⟩, e⟩, f⟩ := h2
 exact ⟨a, b, c, d, e, f⟩
theorem bt_clamp (n i : Nat) (h : i < 32) : bt (clampN n) i = if i = 0 then ((n / 2 ^ (8 * 0) % 256 / 8 * 8 : Nat) : Int) else if i = 31 then ((n / 2 ^ (8 * 31) % 256 % 64 + 64 : Nat) : Int) else bt n i := by
 have hi : i = 0 ∨ i = 1 ∨ i = 2 ∨ i = 3 ∨ i = 4 ∨ i = 5 ∨ i = 6 ∨ i = 7 ∨ i = 8 ∨ i = 9 ∨ i = 10 ∨ i = 11 ∨ i = 12 ∨ i = 13 ∨ i = 14 ∨ i = 15 ∨ i = 16 ∨ i = 17 ∨ i = 18 ∨ i = 19 ∨ i = 20 ∨ i = 21 ∨ i = 22 ∨ i = 23 ∨ i = 24 ∨ i = 25 ∨ i = 26 ∨ i = 27 ∨ i = 28 ∨ i = 29 ∨ i = 30 ∨ i = 31 := by omega
 unfold clampN bt
 rcases hi with rfl | rfl | rfl | rfl | rfl | rfl | rfl | rfl | rfl | rfl | rfl | rfl | rfl | rfl | rfl | rfl | rfl | rfl | rfl | rfl | rfl | rfl | rfl | rfl | rfl | rfl | rfl | rfl | rfl | rfl | rfl | rfl
 all_goals (simp only [Nat.reduceMul, Nat.reducePow, Nat.reduceEqDiff, if_true, if_false]; omega)
theorem bt_mask (n i : Nat) (h : i < 32) : bt (n % 2 ^ 255) i = if i = 31 then ((n / 2 ^ (8 * 31) % 256 % 128 : Nat) : Int) else bt n i := by
 have hi : i = 0 ∨ i = 1 ∨ i = 2 ∨ i = 3 ∨ i = 4 ∨ i = 5 ∨ i = 6 ∨ i = 7 ∨ i = 8 ∨ i = 9 ∨ i = 10 ∨ i = 11 ∨ i = 12 ∨ i = 13 ∨ i = 14 ∨ i = 15 ∨ i = 16 ∨ i = 17 ∨ i = 18 ∨ i = 19 ∨ i = 20 ∨ i = 21 ∨ i = 22 ∨ i = 23 ∨ i = 24 ∨ i = 25 ∨ i = 26 ∨ i = 27 ∨ i = 28 ∨ i = 29 ∨ i = 30 ∨ i = 31 := by omega
 unfold bt
 rcases hi with rfl | rfl | rfl | rfl | rfl | rfl | rfl | rfl | rfl | rfl | rfl | rfl | rfl | rfl | rfl | rfl | rfl | rfl | rfl | rfl | rfl | rfl | rfl | rfl | rfl | rfl | rfl | rfl | rfl | rfl | rfl | rfl
 all_goals (simp only [Nat.reduceMul, Nat.reducePow, Nat.reduceEqDiff, if_true, if_false]; omega)
theorem clamp_list (n : Nat) (a b : Int) (ha : a = ((n / 2 ^ (8 * 0) % 256 / 8 * 8 : Nat) : Int)) (hb : b = ((n / 2 ^ (8 * 31) % 256 % 64 + 64 : Nat) : Int)) : ((by32 n).set 0 a).set 31 b = by32 (clampN n) := by
 refine ext_g (by rw [List.length_set, List.length_set, byk_len, byk_len]) fun i hi => ?_
 rw [List.length_set, List.length_set, byk_len] at hi
 rw [g_byk hi, bt_clamp n i hi, g_set (by rw [List.length_set, byk_len]; decide), g_set (by rw [byk_len]; decide), g_byk hi]
 by_cases h31 : i = 31
 ·subst h31
  rw [if_pos rfl, if_neg (by decide), if_pos rfl]
  exact hb
 ·rw [if_neg h31]
  by_cases h0 : i = 0
  ·subst h0
   rw [if_pos rfl, if_pos rfl]
   exact ha
  ·rw [if_neg h0, if_neg h0, if_neg h31]
theorem mask_list (n : Nat) (b : Int) (hb : b = ((n / 2 ^ (8 * 31) % 256 % 128 : Nat) : Int)) : (by32 n).set 31 b = by32 (n % 2 ^ 255) := by
 refine ext_g (by rw [List.length_set, byk_len, byk_len]) fun i hi => ?_
 rw [List.length_set, byk_len] at hi
 rw [g_byk hi, bt_mask n i hi, g_set (by rw [byk_len]; decide), g_byk hi]
 by_cases h31 : i = 31
 ·subst h31
  rw [if_pos rfl, if_pos rfl]
  exact hb
 ·rw [if_neg h31, if_neg h31]
def okOr : Bool := (List.range 128).all fun n => decide (bits .or .u8 (n : Nat) 0 = ((n : Nat) : Int)) && decide (bits .or .u8 (n : Nat) 128 = ((n + 128 : Nat) : Int))
theorem or_bits (n : Nat) (h : n < 128) : bits .or .u8 (n : Nat) 0 = ((n : Nat) : Int) ∧ bits .or .u8 (n : Nat) 128 = ((n + 128 : Nat) : Int) := by
 have h1 : okOr = true := by kernel_rfl
 rw [okOr, List.all_eq_true] at h1
 have h2 := h1 n (List.mem_range.2 h)
 simp only [Bool.and_eq_true, decide_eq_true_eq] at h2
 exact h2
theorem bt_top (n b i : Nat) (h : i < 32) (hn : n < 2 ^ 255) (hb : b ≤ 1) : bt (n + b * 2 ^ 255) i = if i = 31 then ((n / 2 ^ (8 * 31) % 256 + 128 * b : Nat) : Int) else bt n i := by
 have hi : i = 0 ∨ i = 1 ∨ i = 2 ∨ i = 3 ∨ i = 4 ∨ i = 5 ∨ i = 6 ∨ i = 7 ∨ i = 8 ∨ i = 9 ∨ i = 10 ∨ i = 11 ∨ i = 12 ∨ i = 13 ∨ i = 14 ∨ i = 15 ∨ i = 16 ∨ i = 17 ∨ i = 18 ∨ i = 19 ∨ i = 20 ∨ i = 21 ∨ i = 22 ∨ i = 23 ∨ i = 24 ∨ i = 25 ∨ i = 26 ∨ i = 27 ∨ i = 28 ∨ i = 29 ∨ i = 30 ∨ i = 31 := by omega
 have hb : b = 0 ∨ b = 1 := by omega
 unfold bt
 rcases hb with rfl | rfl
 all_goals (rcases hi with rfl | rfl | rfl | rfl | rfl | rfl | rfl | rfl | rfl | rfl | rfl | rfl | rfl | rfl | rfl | rfl | rfl | rfl | rfl | rfl | rfl | rfl | rfl | rfl | rfl | rfl | rfl | rfl | rfl | rfl | rfl | rfl)
 all_goals (simp only [Nat.reduceMul, Nat.reducePow, Nat.reduceEqDiff, if_true, if_false]; omega)
theorem top_list (n b : Nat) (e : Int) (hn : n < 2 ^ 255) (hb : b ≤ 1) (he : e = ((128 * b : Nat) : Int)) : (by32 n).set 31 (bits .or .u8 (bt n 31) e) = by32 (n + b * 2 ^ 255) := by
 refine ext_g (by rw [List.length_set, byk_len, byk_len]) fun i hi => ?_
 rw [List.length_set, byk_len] at hi
 rw [g_byk hi, bt_top n b i hi hn hb, g_set (by rw [byk_len]; decide), g_byk hi]
 by_cases h31 : i = 31
 ·subst h31
  rw [if_pos rfl, if_pos rfl, bt, he]
  have h := or_bits (n / 2 ^ (8 * 31) % 256) (by omega)
  have : b = 0 ∨ b = 1 := by omega
  rcases this with rfl | rfl
  ·exact h.1
  ·exact h.2
 ·rw [if_neg h31, if_neg h31]
set_option maxRecDepth 100000 in
set_option maxHeartbeats 8000000 in
theorem rClamp_exec (n : Nat) (l : List Int) (hl : l = by32 n) : execF EG2 Tryz.f93 [.agg (.flat .u8 l)] (ret1 (F (clampN n))) := by
 have ll : l.length = 32 := by rw [hl, byk_len]
 obtain ⟨x0, hx0⟩ : ∃ x0, x0 = g l 0 := ⟨_, rfl⟩
 have a0 : (Cont.flat .u8 l).at? 0 = some (.v (.int .u8 x0)) := by rw [hx0]; exact at_g (by omega)
 obtain ⟨m1, hm1⟩ : ∃ m1, m1 = l.set 0 (bits .and .u8 x0 248) := ⟨_, rfl⟩
 have p0 : layOne (.flat .u8 l) 0 (.flat .u8 [bits .and .u8 x0 248]) = some (.flat .u8 m1) := by rw [hm1]; exact put_flat (by omega)
 have lm1 : m1.length = 32 := by rw [hm1, List.length_set]; exact ll
 obtain ⟨x1, hx1⟩ : ∃ x1, x1 = g m1 31 := ⟨_, rfl⟩
 have a1 : (Cont.flat .u8 m1).at? 31 = some (.v (.int .u8 x1)) := by rw [hx1]; exact at_g (by omega)
 obtain ⟨m2, hm2⟩ : ∃ m2, m2 = m1.set 31 (bits .or .u8 (bits .and .u8 x1 127) 64) := ⟨_, rfl⟩
 have p1 : layOne (.flat .u8 m1) 31 (.flat .u8 [bits .or .u8 (bits .and .u8 x1 127) 64]) = some (.flat .u8 m2) := by rw [hm2]; exact put_flat (by omega)
 have lm2 : m2.length = 32 := by rw [hm2, List.length_set]; exact lm1
 have nE : (Cont.flat .u8 m2).len = 32 := lm2
 have zE : layOne (.flat .u8 (List.replicate 32 0)) 0 (.flat .u8 m2) = some (.flat .u8 m2) := lay_all (by rw [List.length_replicate, lm2]) (by omega)
 have cE : (Cont.flat .u8 m2).cut 0 32 = some (.flat .u8 m2) := cut_all lm2
 have e : m2 = by32 (clampN n) := by
  have hx1' : x1 = bt n 31 := by rw [hx1, hm1, hl, g_set (by rw [byk_len]; decide), if_neg (by decide), g_byk (by decide)]
  have hx0' : x0 = bt n 0 := by rw [hx0, hl, g_byk (by decide)]
  have c0 := (clamp_bits (n / 2 ^ (8 * 0) % 256) (by omega)).2.2.1
  have c1 := (clamp_bits (n / 2 ^ (8 * 31) % 256) (by omega)).2.2.2.1
  rw [hm2, hm1, hl]
  refine clamp_list n _ _ ?_ ?_
  ·rw [hx0']; exact c0
  ·rw [hx1']; exact c1
 clear hm1 hm2 hx0 hx1 hl
 ((conv => whnf); repeat ((first | refine ⟨_, a0, ?_⟩ | refine ⟨_, a1, ?_⟩ | refine ⟨_, p0, ?_⟩ | refine ⟨_, p1, ?_⟩ | refine ⟨_, cE, ?_⟩ | refine ⟨_, zE, ?_⟩ | refine ⟨nE, ?_⟩ | refine ⟨_, rfl, ?_⟩ | refine ⟨by decide, ?_⟩ | refine ⟨rfl, ?_⟩); conv => whnf))
 rw [e]
 rfl
theorem rClamp_call (a : Nat) (_ : a < 2 ^ 256) : CallOk Tryz.prog 93 [F a] (ret1 (F (clampN a))) := execF_ok follows_ok EG2_ok Tryz.func93 (rClamp_exec a _ rfl)
theorem rClamp_row {a : List Int} (hc : isF a = true) : CallOk Tryz.prog 93 [.agg (.flat .u8 a)] (ret1 (F (clampN (nb a)))) := by
 have h0 := hc
 clear hc
 have e0 := isF_eq h0
 have l0 := nb32_lt h0
 clear h0
 generalize nb a = n0 at *
 subst e0
 exact rClamp_call n0 l0
def orcG3 (f : Nat) (ds : List LV) : Option LRes :=
 match f with
 | 93 => match ds with
  | [.agg (.flat .u8 a)] => if isF a = true then some (ret1 (F (clampN (nb a)))) else none
  | _ => none
 | _ => orcG2 f ds
theorem orcG3_ok : Known Tryz.prog orcG3 := by
 intro f ds r h
 unfold orcG3 at h
 split at h
 ·split at h
  ·split at h
   ·rename_i hc
    cases h
    exact .inl ⟨⟨_, Tryz.func93, name_ne _ (by kernel_rfl), rfl⟩, rClamp_row hc⟩
   ·cases h
  ·cases h
 ·exact orcG2_ok f ds r h
def EG3 : Env := ⟨tyL, orcG3, false, noWk, noOrw⟩
theorem EG3_ok : EnvOk Tryz.prog EG3 := ⟨tyL_ok, orcG3_ok, noOrw_ok⟩
set_option maxRecDepth 100000 in
theorem o_rClamp {a : Nat} (ha : a < 2 ^ 256) : EG3.orc 93 [F a] = some (ret1 (F (clampN a))) :=
 (if_pos (isF_by _)).trans (by rw [nb_by32 ha])
theorem isN_EG3 (f : Nat) {ds : List LV} {K : LRes → Prop} (h : ∃ y, EG3.orc f ds = some y ∧ K y) : ∃ y, EG3.orc f ds = some y ∧ K y := h
end Go.Proofs.YtdeigmjbcbjgeaaGreatDoor
namespace Go.Proofs.YtdeigmjbcbjgeaaGreatDoor
open Go.RowKit
theorem e3_same : e3R = e3P := by kernel_rfl
theorem pw_ltP (x : Nat) : pw x e3R < pP := by
 have : ∀ k, pwk x e3R (k + 1) < pP := fun k => by rw [pwk]; split <;> exact Nat.mod_lt _ pP_pos
 exact this 255
theorem pP_lt2 : pP + pP < 2 ^ 256 := by decide
theorem t_Plus {a b : Nat} (ha : a < pP) (hb : b < pP) : EG3.orc 74 [W a, W b] = some (ret1 (W (nA a b))) := (show EG3.orc 74 [W a, W b] = ER6.orc 74 [W a, W b] from rfl).trans (r_Plus6 (lt256 ha) (lt256 hb) (by have := pP_lt2; omega))
theorem t_Minus {a b : Nat} (ha : a < pP) (hb : b < pP) : EG3.orc 73 [W a, W b] = some (ret1 (W (nS a b))) := (show EG3.orc 73 [W a, W b] = ER6.orc 73 [W a, W b] from rfl).trans ((r_Minus6 (lt256 ha) (lt256 hb) (Nat.le_of_lt hb)).trans (by
 have h := minR_mod a b
 rw [Nat.mod_eq_of_lt ha, Nat.mod_eq_of_lt hb] at h
 rw [h, nS, Nat.mod_eq_of_lt hb]))
theorem t_Times {a b : Nat} (ha : a < pP) (hb : b < pP) : EG3.orc 82 [W a, W b] = some (ret1 (W (nM a b))) := (show EG3.orc 82 [W a, W b] = ER6.orc 82 [W a, W b] from rfl).trans (r_Times6 (lt256 ha) (lt256 hb))
theorem t_Inverse {a : Nat} (ha : a < 2 ^ 256) : EG3.orc 83 [W a] = some (ret1 (W (pw a e3R))) := (show EG3.orc 83 [W a] = ER6.orc 83 [W a] from rfl).trans (o_rInverse ha)
theorem t_Load {a : Nat} (ha : a < 2 ^ 256) : EG3.orc 63 [F a] = some (ret1 (W a)) := (show EG3.orc 63 [F a] = ER6.orc 63 [F a] from rfl).trans (o_load ha)
theorem t_Store {a : Nat} (ha : a < 2 ^ 256) : EG3.orc 35 [W a] = some (ret1 (F a)) := (show EG3.orc 35 [W a] = ER6.orc 35 [W a] from rfl).trans (o_store ha)
end Go.Proofs.YtdeigmjbcbjgeaaGreatDoor
namespace Go.Proofs.YtdeigmjbcbjgeaaGreatDoor
open Go.RowKit
def dN : Nat := 37095705934669439343138083508754565189542113879843219016388785533085940283555
theorem dN_lt : dN < pP := by decide
@[ext] structure Pn where
 x : Nat
 y : Nat
 z : Nat
 t : Nat
def Pn.lt (p : Pn) : Prop := p.x < pP ∧ p.y < pP ∧ p.z < pP ∧ p.t < pP
def w4 (p : Pn) : List Int := wd p.x ++ (wd p.y ++ (wd p.z ++ wd p.t))
theorem w4_len (p : Pn) : (w4 p).length = 16 := rfl
abbrev P4 (p : Pn) : LV := .agg (.flat .u64 (w4 p))
def sumN (d : Nat) (p q : Pn) : Pn where
 x := nM (nS (nM (nA p.y p.x) (nA q.y q.x)) (nM (nS p.y p.x) (nS q.y q.x))) (nS (nA (nM p.z q.z) (nM p.z q.z)) (nM (nM p.t q.t) (nA d d)))
 y := nM (nA (nA (nM p.z q.z) (nM p.z q.z)) (nM (nM p.t q.t) (nA d d))) (nA (nM (nA p.y p.x) (nA q.y q.x)) (nM (nS p.y p.x) (nS q.y q.x)))
 z := nM (nS (nA (nM p.z q.z) (nM p.z q.z)) (nM (nM p.t q.t) (nA d d))) (nA (nA (nM p.z q.z) (nM p.z q.z)) (nM (nM p.t q.t) (nA d d)))
 t := nM (nS (nM (nA p.y p.x) (nA q.y q.x)) (nM (nS p.y p.x) (nS q.y q.x))) (nA (nM (nA p.y p.x) (nA q.y q.x)) (nM (nS p.y p.x) (nS q.y q.x)))
def neuN : Pn := ⟨0, 1, 1, 0⟩
theorem neuN_lt : neuN.lt := by unfold Pn.lt neuN; decide
theorem sumN_lt (d : Nat) (p q : Pn) : (sumN d p q).lt := ⟨nM_lp _ _, nM_lp _ _, nM_lp _ _, nM_lp _ _⟩
def timN (d k : Nat) (p : Pn) : Nat → Pn
 | 0 => neuN
 | j + 1 => if k.testBit (255 - j) then sumN d (sumN d (timN d k p j) (timN d k p j)) p else sumN d (timN d k p j) (timN d k p j)
theorem timN_lt (d k : Nat) (p : Pn) : ∀ j, (timN d k p j).lt
 | 0 => neuN_lt
 | j + 1 => by
  rw [timN]
  split <;> exact sumN_lt _ _ _
def isP (l : List Int) : Bool := isW (l.take 4) && isW ((l.drop 4).take 4) && isW ((l.drop 8).take 4) && isW (l.drop 12)
def pnOf (l : List Int) : Pn := ⟨vl (l.take 4), vl ((l.drop 4).take 4), vl ((l.drop 8).take 4), vl (l.drop 12)⟩
def Pn.ok (p : Pn) : Bool := decide (p.x < pP) && decide (p.y < pP) && decide (p.z < pP) && decide (p.t < pP)
theorem Pn.ok_iff {p : Pn} : p.ok = true ↔ p.lt := by simp [Pn.ok, Pn.lt, and_assoc]
theorem isP_w4 {p : Pn} (h : p.lt) : isP (w4 p) = true ∧ pnOf (w4 p) = p := by
 obtain ⟨h1, h2, h3, h4⟩ := h
 have e1 : (w4 p).take 4 = wd p.x := rfl
 have e2 : ((w4 p).drop 4).take 4 = wd p.y := rfl
 have e3 : ((w4 p).drop 8).take 4 = wd p.z := rfl
 have e4 : (w4 p).drop 12 = wd p.t := rfl
 constructor
 ·unfold isP
  rw [e1, e2, e3, e4, isW_wd (lt256 h1), isW_wd (lt256 h2), isW_wd (lt256 h3), isW_wd (lt256 h4)]
  rfl
 ·unfold pnOf
  rw [e1, e2, e3, e4, wd_vl _ (lt256 h1), wd_vl _ (lt256 h2), wd_vl _ (lt256 h3), wd_vl _ (lt256 h4)]
theorem isP_eq {l : List Int} (h : isP l = true) : l = w4 (pnOf l) := by
 simp only [isP, Bool.and_eq_true] at h
 obtain ⟨⟨⟨h1, h2⟩, h3⟩, h4⟩ := h
 unfold w4 pnOf
 simp only
 rw [← isW_eq h1, ← isW_eq h2, ← isW_eq h3, ← isW_eq h4]
 have e1 : (l.drop 8).take 4 ++ l.drop 12 = l.drop 8 := by
  rw [show l.drop 12 = (l.drop 8).drop 4 by rw [List.drop_drop], List.take_append_drop]
 have e2 : (l.drop 4).take 4 ++ l.drop 8 = l.drop 4 := by
  rw [show l.drop 8 = (l.drop 4).drop 4 by rw [List.drop_drop], List.take_append_drop]
 rw [e1, e2, List.take_append_drop]
set_option maxRecDepth 100000 in
theorem rD_call : CallOk Tryz.prog 44 [] (ret1 (W dN)) := runF_ok follows_ok EG3_ok Tryz.func44 (fuel := 200) (by kernel_rfl)
set_option maxRecDepth 100000 in
theorem rNeu_call : CallOk Tryz.prog 89 [] (ret1 (P4 neuN)) := runF_ok follows_ok EG3_ok Tryz.func89 (fuel := 200) (by kernel_rfl)
theorem len4 {l : List Int} (h : l.length = 4) : ∃ a b c d, l = [a, b, c, d] := by
 match l, h with
 | [a, b, c, d], _ => exact ⟨a, b, c, d, rfl⟩
theorem cut4 {x y z t : List Int} (hx : x.length = 4) (hy : y.length = 4) (hz : z.length = 4) (ht : t.length = 4) :
  (Cont.flat .u64 (x ++ (y ++ (z ++ t)))).cut 0 4 = some (.flat .u64 x) ∧ (Cont.flat .u64 (x ++ (y ++ (z ++ t)))).cut 4 4 = some (.flat .u64 y) ∧ (Cont.flat .u64 (x ++ (y ++ (z ++ t)))).cut 8 4 = some (.flat .u64 z) ∧ (Cont.flat .u64 (x ++ (y ++ (z ++ t)))).cut 12 4 = some (.flat .u64 t) := by
 obtain ⟨_, _, _, _, rfl⟩ := len4 hx
 obtain ⟨_, _, _, _, rfl⟩ := len4 hy
 obtain ⟨_, _, _, _, rfl⟩ := len4 hz
 obtain ⟨_, _, _, _, rfl⟩ := len4 ht
 exact ⟨rfl, rfl, rfl, rfl⟩
theorem build4 {x y z t : List Int} (hx : x.length = 4) (hy : y.length = 4) (hz : z.length = 4) (ht : t.length = 4) : opBuild EG3 65 [0, 1, 2, 3] [.agg (.flat .u64 x), .agg (.flat .u64 y), .agg (.flat .u64 z), .agg (.flat .u64 t)] = some (.agg (.flat .u64 (x ++ (y ++ (z ++ t)))), []) := by
 obtain ⟨_, _, _, _, rfl⟩ := len4 hx
 obtain ⟨_, _, _, _, rfl⟩ := len4 hy
 obtain ⟨_, _, _, _, rfl⟩ := len4 hz
 obtain ⟨_, _, _, _, rfl⟩ := len4 ht
 rfl
set_option maxRecDepth 100000 in
set_option maxHeartbeats 8000000 in
theorem sum_gen (px py pz pt qx qy qz qt d a1 a2 a b1 b2 b c1 c2 c z1 z e f g h rx ry rz rt : List Int) (l_px : px.length = 4) (l_py : py.length = 4) (l_pz : pz.length = 4) (l_pt : pt.length = 4) (l_qx : qx.length = 4) (l_qy : qy.length = 4) (l_qz : qz.length = 4) (l_qt : qt.length = 4) (_ : d.length = 4) (_ : a1.length = 4) (_ : a2.length = 4) (_ : a.length = 4) (_ : b1.length = 4) (_ : b2.length = 4) (_ : b.length = 4) (_ : c1.length = 4) (_ : c2.length = 4) (_ : c.length = 4) (_ : z1.length = 4) (_ : z.length = 4) (_ : e.length = 4) (_ : f.length = 4) (_ : g.length = 4) (_ : h.length = 4) (l_rx : rx.length = 4) (l_ry : ry.length = 4) (l_rz : rz.length = 4) (l_rt : rt.length = 4)
  (h0 : EG3.orc 73 [.agg (.flat .u64 py), .agg (.flat .u64 px)] = some (ret1 (.agg (.flat .u64 a1))))
  (h1 : EG3.orc 73 [.agg (.flat .u64 qy), .agg (.flat .u64 qx)] = some (ret1 (.agg (.flat .u64 a2))))
  (h2 : EG3.orc 82 [.agg (.flat .u64 a1), .agg (.flat .u64 a2)] = some (ret1 (.agg (.flat .u64 a))))
  (h3 : EG3.orc 74 [.agg (.flat .u64 py), .agg (.flat .u64 px)] = some (ret1 (.agg (.flat .u64 b1))))
  (h4 : EG3.orc 74 [.agg (.flat .u64 qy), .agg (.flat .u64 qx)] = some (ret1 (.agg (.flat .u64 b2))))
  (h5 : EG3.orc 82 [.agg (.flat .u64 b1), .agg (.flat .u64 b2)] = some (ret1 (.agg (.flat .u64 b))))
  (h6 : EG3.orc 82 [.agg (.flat .u64 pt), .agg (.flat .u64 qt)] = some (ret1 (.agg (.flat .u64 c1))))
  (h7 : EG3.orc 74 [.agg (.flat .u64 d), .agg (.flat .u64 d)] = some (ret1 (.agg (.flat .u64 c2))))
  (h8 : EG3.orc 82 [.agg (.flat .u64 c1), .agg (.flat .u64 c2)] = some (ret1 (.agg (.flat .u64 c))))
  (h9 : EG3.orc 82 [.agg (.flat .u64 pz), .agg (.flat .u64 qz)] = some (ret1 (.agg (.flat .u64 z1))))
  (h10 : EG3.orc 74 [.agg (.flat .u64 z1), .agg (.flat .u64 z1)] = some (ret1 (.agg (.flat .u64 z))))
  (h11 : EG3.orc 73 [.agg (.flat .u64 b), .agg (.flat .u64 a)] = some (ret1 (.agg (.flat .u64 e))))
  (h12 : EG3.orc 73 [.agg (.flat .u64 z), .agg (.flat .u64 c)] = some (ret1 (.agg (.flat .u64 f))))
  (h13 : EG3.orc 74 [.agg (.flat .u64 z), .agg (.flat .u64 c)] = some (ret1 (.agg (.flat .u64 g))))
  (h14 : EG3.orc 74 [.agg (.flat .u64 b), .agg (.flat .u64 a)] = some (ret1 (.agg (.flat .u64 h))))
  (h15 : EG3.orc 82 [.agg (.flat .u64 e), .agg (.flat .u64 f)] = some (ret1 (.agg (.flat .u64 rx))))
  (h16 : EG3.orc 82 [.agg (.flat .u64 g), .agg (.flat .u64 h)] = some (ret1 (.agg (.flat .u64 ry))))
  (h17 : EG3.orc 82 [.agg (.flat .u64 f), .agg (.flat .u64 g)] = some (ret1 (.agg (.flat .u64 rz))))
  (h18 : EG3.orc 82 [.agg (.flat .u64 e), .agg (.flat .u64 h)] = some (ret1 (.agg (.flat .u64 rt))))
  : execF EG3 Tryz.f43 [.agg (.flat .u64 (px ++ (py ++ (pz ++ pt)))), .agg (.flat .u64 (qx ++ (qy ++ (qz ++ qt)))), .agg (.flat .u64 d)] (ret1 (.agg (.flat .u64 (rx ++ (ry ++ (rz ++ rt)))))) := by
 obtain ⟨p1, p2, p3, p4⟩ := cut4 l_px l_py l_pz l_pt
 obtain ⟨q1, q2, q3, q4⟩ := cut4 l_qx l_qy l_qz l_qt
 have hb := build4 l_rx l_ry l_rz l_rt
 obtain ⟨P, hP⟩ : ∃ P, P = px ++ (py ++ (pz ++ pt)) := ⟨_, rfl⟩
 obtain ⟨Q, hQ⟩ : ∃ Q, Q = qx ++ (qy ++ (qz ++ qt)) := ⟨_, rfl⟩
 obtain ⟨V, hV⟩ : ∃ V, V = rx ++ (ry ++ (rz ++ rt)) := ⟨_, rfl⟩
 have lV : V.length = 16 := by rw [hV]; simp only [List.length_append]; omega
 rw [← hV] at hb ⊢
 rw [← hP] at p1 p2 p3 p4 ⊢
 rw [← hQ] at q1 q2 q3 q4 ⊢
 clear hP hQ hV
 have zV : layOne (.flat .u64 (List.replicate 16 0)) 0 (.flat .u64 V) = some (.flat .u64 V) := lay_all (by rw [List.length_replicate, lV]) (by omega)
 have nV : (Cont.flat .u64 V).len = 16 := lV
 have cV : (Cont.flat .u64 V).cut 0 16 = some (.flat .u64 V) := cut_all lV
 ((conv => whnf); repeat ((first | refine ⟨_, p1, ?_⟩ | refine ⟨_, p2, ?_⟩ | refine ⟨_, p3, ?_⟩ | refine ⟨_, p4, ?_⟩ | refine ⟨_, q1, ?_⟩ | refine ⟨_, q2, ?_⟩ | refine ⟨_, q3, ?_⟩ | refine ⟨_, q4, ?_⟩ | refine ⟨_, zV, ?_⟩ | refine ⟨nV, ?_⟩ | refine ⟨_, cV, ?_⟩ | ((with_reducible refine isN_EG3 73 ?_); first | refine ⟨_, h0, ?_⟩ | refine ⟨_, h1, ?_⟩ | refine ⟨_, h11, ?_⟩ | refine ⟨_, h12, ?_⟩) | ((with_reducible refine isN_EG3 82 ?_); first | refine ⟨_, h2, ?_⟩ | refine ⟨_, h5, ?_⟩ | refine ⟨_, h6, ?_⟩ | refine ⟨_, h8, ?_⟩ | refine ⟨_, h9, ?_⟩ | refine ⟨_, h15, ?_⟩ | refine ⟨_, h16, ?_⟩ | refine ⟨_, h17, ?_⟩ | refine ⟨_, h18, ?_⟩) | ((with_reducible refine isN_EG3 74 ?_); first | refine ⟨_, h3, ?_⟩ | refine ⟨_, h4, ?_⟩ | refine ⟨_, h7, ?_⟩ | refine ⟨_, h10, ?_⟩ | refine ⟨_, h13, ?_⟩ | refine ⟨_, h14, ?_⟩) | refine ⟨_, rfl, ?_⟩ | refine ⟨by decide, ?_⟩ | refine ⟨rfl, ?_⟩ | refine ⟨_, cut_all (by omega), ?_⟩ | refine ⟨_, lay_all (by omega) (by omega), ?_⟩ | refine ⟨_, lay_all (by (try simp only); (try simp only [List.length_replicate]); (try simp only [List.length_cons]); (try simp only [List.length_nil]); omega) (by omega), ?_⟩ | refine ⟨len_flat (by omega), ?_⟩ | refine runs_eq hb ?_); conv => whnf))
 rfl
theorem rSum_call (p q : Pn) (d : Nat) (hp : p.lt) (hq : q.lt) (hd : d < pP) : CallOk Tryz.prog 43 [P4 p, P4 q, W d] (ret1 (P4 (sumN d p q))) :=
 execF_ok follows_ok EG3_ok Tryz.func43 (sum_gen _ _ _ _ _ _ _ _ _ _ _ _ _ _ _ _ _ _ _ _ _ _ _ _ _ _ _ _ rfl rfl rfl rfl rfl rfl rfl rfl rfl rfl rfl rfl rfl rfl rfl rfl rfl rfl rfl rfl rfl rfl rfl rfl rfl rfl rfl rfl (t_Minus hp.2.1 hp.1) (t_Minus hq.2.1 hq.1) (t_Times (nS_lp _ _) (nS_lp _ _)) (t_Plus hp.2.1 hp.1) (t_Plus hq.2.1 hq.1) (t_Times (nA_lp _ _) (nA_lp _ _)) (t_Times hp.2.2.2 hq.2.2.2) (t_Plus hd hd) (t_Times (nM_lp _ _) (nA_lp _ _)) (t_Times hp.2.2.1 hq.2.2.1) (t_Plus (nM_lp _ _) (nM_lp _ _)) (t_Minus (nM_lp _ _) (nM_lp _ _)) (t_Minus (nA_lp _ _) (nM_lp _ _)) (t_Plus (nA_lp _ _) (nM_lp _ _)) (t_Plus (nM_lp _ _) (nM_lp _ _)) (t_Times (nS_lp _ _) (nS_lp _ _)) (t_Times (nA_lp _ _) (nA_lp _ _)) (t_Times (nS_lp _ _) (nA_lp _ _)) (t_Times (nS_lp _ _) (nA_lp _ _)))
theorem rSum_row {a b c : List Int} (hc : (isP a = true ∧ isP b = true ∧ isW c = true) ∧ (pnOf a).ok = true ∧ (pnOf b).ok = true ∧ vl c < pP) : CallOk Tryz.prog 43 [.agg (.flat .u64 a), .agg (.flat .u64 b), .agg (.flat .u64 c)] (ret1 (P4 (sumN (vl c) (pnOf a) (pnOf b)))) := by
 have h := rSum_call (pnOf a) (pnOf b) (vl c) (Pn.ok_iff.1 hc.2.1) (Pn.ok_iff.1 hc.2.2.1) hc.2.2.2
 rwa [P4, P4, ← isP_eq hc.1.1, ← isP_eq hc.1.2.1, W, ← isW_eq hc.1.2.2] at h
def orcE1 (f : Nat) (ds : List LV) : Option LRes :=
 match f with
 | 44 => match ds with
  | [] => some (ret1 (W dN))
  | _ => none
 | 89 => match ds with
  | [] => some (ret1 (P4 neuN))
  | _ => none
 | 43 => match ds with
  | [.agg (.flat .u64 a), .agg (.flat .u64 b), .agg (.flat .u64 c)] => if (isP a = true ∧ isP b = true ∧ isW c = true) ∧ (pnOf a).ok = true ∧ (pnOf b).ok = true ∧ vl c < pP then some (ret1 (P4 (sumN (vl c) (pnOf a) (pnOf b)))) else none
  | _ => none
 | _ => orcG3 f ds
theorem orcE1_ok : Known Tryz.prog orcE1 := by
 intro f ds r h
 unfold orcE1 at h
 split at h
 ·split at h
  ·cases h
   exact .inl ⟨⟨_, Tryz.func44, name_ne _ (by kernel_rfl), rfl⟩, rD_call⟩
  ·cases h
 ·split at h
  ·cases h
   exact .inl ⟨⟨_, Tryz.func89, name_ne _ (by kernel_rfl), rfl⟩, rNeu_call⟩
  ·cases h
 ·split at h
  ·split at h
   ·rename_i hc
    cases h
    exact .inl ⟨⟨_, Tryz.func43, name_ne _ (by kernel_rfl), rfl⟩, rSum_row hc⟩
   ·cases h
  ·cases h
 ·exact orcG3_ok f ds r h
def EE1 : Env := ⟨tyL, orcE1, false, noWk, noOrw⟩
theorem EE1_ok : EnvOk Tryz.prog EE1 := ⟨tyL_ok, orcE1_ok, noOrw_ok⟩
theorem isN_EE1 (f : Nat) {ds : List LV} {K : LRes → Prop} (h : ∃ y, EE1.orc f ds = some y ∧ K y) : ∃ y, EE1.orc f ds = some y ∧ K y := h
theorem e_D : EE1.orc 44 [] = some (ret1 (W dN)) := rfl
theorem e_Neu : EE1.orc 89 [] = some (ret1 (P4 neuN)) := rfl
theorem e_Sum {p q : Pn} {d : Nat} (hp : p.lt) (hq : q.lt) (hd : d < pP) : EE1.orc 43 [P4 p, P4 q, W d] = some (ret1 (P4 (sumN d p q))) :=
 (if_pos ⟨⟨(isP_w4 hp).1, (isP_w4 hq).1, isW_wd (lt256 hd)⟩, by rw [(isP_w4 hp).2]; exact Pn.ok_iff.2 hp, by rw [(isP_w4 hq).2]; exact Pn.ok_iff.2 hq, by rw [wd_vl _ (lt256 hd)]; exact hd⟩).trans (by rw [(isP_w4 hp).2, (isP_w4 hq).2, wd_vl _ (lt256 hd)])
set_option maxRecDepth 100000 in
set_option maxHeartbeats 8000000 in
theorem rTimes10_exec (k : Nat) (l : List Int) (p : Pn) (hl : l = by32 k) (hp : p.lt) : execF EE1 Tryz.f48 [.agg (.flat .u8 l), P4 p] (ret1 (P4 (timN dN k p 256))) := by
 have hlen : l.length = 32 := by rw [hl, byk_len]
 have n0 : (Cont.flat .u8 l).cut 0 32 = some (.flat .u8 l) := cut_all hlen
 ((conv => whnf); repeat ((first | ((with_reducible refine isN_EE1 44 ?_); refine ⟨_, e_D, ?_⟩) | ((with_reducible refine isN_EE1 89 ?_); refine ⟨_, e_Neu, ?_⟩) | refine ⟨_, rfl, ?_⟩ | refine ⟨by decide, ?_⟩); conv => whnf))
 refine .inl ⟨fun m st => ∃ (i : Nat) (O D Q : List Int), m = i ∧ D = wd dN ∧ Q = w4 p ∧ i ≤ 256 ∧ O = w4 (timN dN k p (256 - i)) ∧ st = ⟨[.poison, .poison, .ptr 16 0, .ptr 24 0, .ptr 32 0, .ptr 40 0, .ptr 48 0, iv .i64 ((i : Int) - 1), .poison, .poison, .poison, .poison, .poison, .poison, .poison, .poison, .poison, .poison, .poison, .poison, .poison, .poison, .poison, .poison, .poison, .poison, .poison, .poison, .poison, .poison, .poison, .poison, .poison],
   [(16, ⟨.flat .u8 l, 23, false⟩), (24, ⟨.flat .u64 Q, 65, false⟩), (32, ⟨.flat .u64 (List.replicate 16 0), 65, false⟩), (40, ⟨.flat .u64 D, 54, false⟩), (48, ⟨.flat .u64 O, 65, false⟩)]⟩,
   ⟨[0, 1, 8, 9, 10, 11, 12, 13, 14, 15, 16, 17, 18, 19, 20, 21, 22, 23, 24, 25, 26, 27, 28, 29, 30, 31, 32], [], 256, 256, w4 neuN, wd dN, w4 p, rfl, rfl, rfl, by omega, rfl, by kernel_rfl⟩, ?_⟩
 rintro i _ ⟨_, O, D, Q, rfl, hD, hQ, hi, hO, rfl⟩
 have lO : O.length = 16 := by rw [hO, w4_len]
 have cO : (Cont.flat .u64 O).cut 0 16 = some (.flat .u64 O) := cut_all lO
 cases i with
 | zero =>
  have nO : (Cont.flat .u64 O).len = 16 := lO
  have zO : layOne (.flat .u64 (List.replicate 16 0)) 0 (.flat .u64 O) = some (.flat .u64 O) := lay_all (by rw [List.length_replicate, lO]) (by omega)
  rw [Nat.sub_zero] at hO
  rw [P4, ← hO]
  clear hO
  conv => whnf
  refine ⟨fun h => absurd h (by decide), fun _ => ?_⟩
  ((conv => whnf); repeat ((first | refine ⟨_, cO, ?_⟩ | refine ⟨_, zO, ?_⟩ | refine ⟨nO, ?_⟩ | refine ⟨_, rfl, ?_⟩ | refine ⟨rfl, ?_⟩); conv => whnf))
  rfl
 | succ j =>
  rw [down1]
  have lQ : Q.length = 16 := by rw [hQ, w4_len]
  have lD : D.length = 4 := by rw [hD]; rfl
  have cQ : (Cont.flat .u64 Q).cut 0 16 = some (.flat .u64 Q) := cut_all lQ
  have cD : (Cont.flat .u64 D).cut 0 4 = some (.flat .u64 D) := cut_all lD
  rw [show 256 - (j + 1) = 255 - j by omega] at hO
  have e1 := tdiv8k j (by omega)
  have e2 := down64 j (by omega)
  have eb := bit_ku (l := l) (n := k) (i := j) (by rw [hl, g_byk (by omega)])
  have hs : timN dN k p (256 - j) = if Nat.testBit k j then sumN dN (sumN dN (timN dN k p (255 - j)) (timN dN k p (255 - j))) p else sumN dN (timN dN k p (255 - j)) (timN dN k p (255 - j)) := by
   rw [show 256 - j = 255 - j + 1 by omega, timN, show 255 - (255 - j) = j by omega]
  have h0 : decide ((j : Int) ≥ 0) = true := decide_eq_true (by omega)
  have f1 := e_Sum (timN_lt dN k p (255 - j)) (timN_lt dN k p (255 - j)) dN_lt
  have f2 := e_Sum (sumN_lt dN (timN dN k p (255 - j)) (timN dN k p (255 - j))) hp dN_lt
  obtain ⟨X, hX⟩ : ∃ X, X = w4 (sumN dN (timN dN k p (255 - j)) (timN dN k p (255 - j))) := ⟨_, rfl⟩
  obtain ⟨Y, hY⟩ : ∃ Y, Y = w4 (sumN dN (sumN dN (timN dN k p (255 - j)) (timN dN k p (255 - j))) p) := ⟨_, rfl⟩
  have lX : X.length = 16 := by rw [hX, w4_len]
  have lY : Y.length = 16 := by rw [hY, w4_len]
  rw [P4, P4, W, ← hX, ← hO, ← hD] at f1
  rw [P4, P4, P4, W, ← hY, ← hX, ← hQ, ← hD] at f2
  have cX : (Cont.flat .u64 X).cut 0 16 = some (.flat .u64 X) := cut_all lX
  have nX : (Cont.flat .u64 X).len = 16 := lX
  have nY : (Cont.flat .u64 Y).len = 16 := lY
  have z1 : layOne (.flat .u64 O) 0 (.flat .u64 X) = some (.flat .u64 X) := lay_all (by rw [lO, lX]) (by omega)
  have z2 : layOne (.flat .u64 X) 0 (.flat .u64 Y) = some (.flat .u64 Y) := lay_all (by rw [lX, lY]) (by omega)
  rcases hb : Nat.testBit k j with _ | _
  ·rw [hb] at eb hs
   have q : (bits .and .u8 ((g l (j / 8)).fdiv (2 ^ min (IntKind.u64.wrap ((j : Int).tmod 8)).toNat IntKind.u8.bits)) 1 == 1) = false := by rw [eb]; rfl
   ((conv => whnf); repeat ((first | refine ⟨fun _ => ?_, fun h => absurd ((h0).symm.trans h) (by decide)⟩ | refine ⟨fun h => absurd ((h0).symm.trans h) (by decide), fun _ => ?_⟩ | refine ⟨fun _ => ?_, fun h => absurd ((q).symm.trans h) (by decide)⟩ | refine ⟨fun h => absurd ((q).symm.trans h) (by decide), fun _ => ?_⟩ | refine ⟨u64_nn _, ?_⟩ | refine ⟨_, cO, ?_⟩ | refine ⟨_, cD, ?_⟩ | refine ⟨_, z1, ?_⟩ | refine ⟨nX, ?_⟩ | ((with_reducible refine isN_EE1 43 ?_); first | refine ⟨_, f1, ?_⟩ | refine ⟨_, f2, ?_⟩) | refine ⟨_, rfl, ?_⟩ | refine ⟨by decide, ?_⟩ | refine ⟨rfl, ?_⟩ | refine ⟨inI_of (by omega), ?_⟩ | (apply Exists.intro; refine ⟨?_, ?_⟩; ((try simp only); (try simp only [e1]); (try simp only [Nat.zero_add]); (try simp only [Nat.mul_one]); (try simp only [Int.toNat_natCast]); (try simp only [e1]); (try simp only [Nat.zero_add]); (try simp only [Nat.mul_one]); (try simp only [Int.toNat_natCast]); first | exact at_g (by omega) | exact put_flat (by omega)))); conv => whnf))
   refine ⟨[0, 1, 8, 9, 10, 11, 12, 13, 14, 15, 16, 17, 18, 19, 20, 21, 22, 23, 24, 25, 26, 27, 28, 29, 30, 31, 32], [], j, ?_, j, X, D, Q, rfl, hD, hQ, by omega, ?_, ?_⟩
   ·omega
   ·rw [hs]; exact hX
   ·rw [e2]; kernel_rfl
  ·rw [hb] at eb hs
   have q : (bits .and .u8 ((g l (j / 8)).fdiv (2 ^ min (IntKind.u64.wrap ((j : Int).tmod 8)).toNat IntKind.u8.bits)) 1 == 1) = true := by rw [eb]; rfl
   ((conv => whnf); repeat ((first | refine ⟨fun _ => ?_, fun h => absurd ((h0).symm.trans h) (by decide)⟩ | refine ⟨fun h => absurd ((h0).symm.trans h) (by decide), fun _ => ?_⟩ | refine ⟨fun _ => ?_, fun h => absurd ((q).symm.trans h) (by decide)⟩ | refine ⟨fun h => absurd ((q).symm.trans h) (by decide), fun _ => ?_⟩ | refine ⟨u64_nn _, ?_⟩ | refine ⟨_, cO, ?_⟩ | refine ⟨_, cX, ?_⟩ | refine ⟨_, cQ, ?_⟩ | refine ⟨_, cD, ?_⟩ | refine ⟨_, z1, ?_⟩ | refine ⟨_, z2, ?_⟩ | refine ⟨nX, ?_⟩ | refine ⟨nY, ?_⟩ | ((with_reducible refine isN_EE1 43 ?_); first | refine ⟨_, f1, ?_⟩ | refine ⟨_, f2, ?_⟩) | refine ⟨_, rfl, ?_⟩ | refine ⟨by decide, ?_⟩ | refine ⟨rfl, ?_⟩ | refine ⟨inI_of (by omega), ?_⟩ | (apply Exists.intro; refine ⟨?_, ?_⟩; ((try simp only); (try simp only [e1]); (try simp only [Nat.zero_add]); (try simp only [Nat.mul_one]); (try simp only [Int.toNat_natCast]); (try simp only [e1]); (try simp only [Nat.zero_add]); (try simp only [Nat.mul_one]); (try simp only [Int.toNat_natCast]); first | exact at_g (by omega) | exact put_flat (by omega)))); conv => whnf))
   refine ⟨[0, 1, 8, 9, 10, 11, 12, 13, 14, 15, 16, 17, 18, 19, 20, 21, 22, 23, 24, 25, 26, 27, 28, 29, 30, 31, 32], [], j, ?_, j, Y, D, Q, rfl, hD, hQ, by omega, ?_, ?_⟩
   ·omega
   ·rw [hs]; exact hY
   ·rw [e2]; kernel_rfl
end Go.Proofs.YtdeigmjbcbjgeaaGreatDoor
