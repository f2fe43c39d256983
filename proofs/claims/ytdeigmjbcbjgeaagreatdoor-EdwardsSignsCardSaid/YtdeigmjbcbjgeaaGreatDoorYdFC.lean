/-
  Layer 8: the answer's exported functions.
-/
import Derived.Laws.BitsAllLaws
import Derived.Test.YtdeigmjbcbjgeaaGreatDoorYdFA
import Derived.Test.YtdeigmjbcbjgeaaGreatDoorYdFB
namespace Go.Proofs.YtdeigmjbcbjgeaaGreatDoor
open Go.RowKit

theorem rRoot_row {a : List Int} (hc : isW a = true) : CallOk Tryz.prog 71 [.agg (.flat .u64 a)] (.many [.val (W (rootR (vl a)).1), .val (.v (.bool (rootR (vl a)).2))]) := by
  have h0 := hc
  clear hc
  have e0 := isW_eq h0
  have l0 := vl_lt h0
  clear h0
  generalize vl a = n0 at *
  subst e0
  exact rRoot_call n0 l0 
theorem rInverse_row {a : List Int} (hc : isW a = true) : CallOk Tryz.prog 83 [.agg (.flat .u64 a)] (ret1 (W (pw (vl a) e3R))) := by
  have h0 := hc
  clear hc
  have e0 := isW_eq h0
  have l0 := vl_lt h0
  clear h0
  generalize vl a = n0 at *
  subst e0
  exact rInverse_call n0 l0 
theorem load_row {a : List Int} (hc : isF a = true) : CallOk Tryz.prog 63 [.agg (.flat .u8 a)] (ret1 (W (nb a))) := by
  have h0 := hc
  clear hc
  have e0 := isF_eq h0
  have l0 := nb32_lt h0
  clear h0
  generalize nb a = n0 at *
  subst e0
  exact load_call n0 l0 
theorem store_row {a : List Int} (hc : isW a = true) : CallOk Tryz.prog 35 [.agg (.flat .u64 a)] (ret1 (F (vl a))) := by
  have h0 := hc
  clear hc
  have e0 := isW_eq h0
  have l0 := vl_lt h0
  clear h0
  generalize vl a = n0 at *
  subst e0
  exact store_call n0 l0 
def orcR6 (f : Nat) (ds : List LV) : Option LRes :=
  match f with
  | 71 => match ds with
    | [.agg (.flat .u64 a)] => if isW a = true then some (.many [.val (W (rootR (vl a)).1), .val (.v (.bool (rootR (vl a)).2))]) else none
    | _ => none
  | 83 => match ds with
    | [.agg (.flat .u64 a)] => if isW a = true then some (ret1 (W (pw (vl a) e3R))) else none
    | _ => none
  | 63 => match ds with
    | [.agg (.flat .u8 a)] => if isF a = true then some (ret1 (W (nb a))) else none
    | _ => none
  | 35 => match ds with
    | [.agg (.flat .u64 a)] => if isW a = true then some (ret1 (F (vl a))) else none
    | _ => none
  | _ => orcR5 f ds
theorem orcR6_ok : Known Tryz.prog orcR6 := by
  intro f ds r h
  unfold orcR6 at h
  split at h
  · split at h
    · split at h
      · rename_i hc
        cases h
        exact .inl ⟨⟨_, Tryz.func71, name_ne _ (by kernel_rfl), rfl⟩, rRoot_row hc⟩
      · cases h
    · cases h
  · split at h
    · split at h
      · rename_i hc
        cases h
        exact .inl ⟨⟨_, Tryz.func83, name_ne _ (by kernel_rfl), rfl⟩, rInverse_row hc⟩
      · cases h
    · cases h
  · split at h
    · split at h
      · rename_i hc
        cases h
        exact .inl ⟨⟨_, Tryz.func63, name_ne _ (by kernel_rfl), rfl⟩, load_row hc⟩
      · cases h
    · cases h
  · split at h
    · split at h
      · rename_i hc
        cases h
        exact .inl ⟨⟨_, Tryz.func35, name_ne _ (by kernel_rfl), rfl⟩, store_row hc⟩
      · cases h
    · cases h
  · exact orcR5_ok f ds r h
def ER6 : Env := ⟨tyL, orcR6, false, noWk, noOrw⟩
theorem ER6_ok : EnvOk Tryz.prog ER6 := ⟨tyL_ok, orcR6_ok, noOrw_ok⟩
theorem is_ER6 {f : Nat} {ds : List LV} {K : LRes → Prop} (h : ∃ y, ER6.orc f ds = some y ∧ K y) : ∃ y, ER6.orc f ds = some y ∧ K y := h
theorem o_rRoot {a : Nat} (ha : a < 2 ^ 256) : ER6.orc 71 [W a] = some (.many [.val (W (rootR a).1), .val (.v (.bool (rootR a).2))]) :=
  (if_pos (isW_wd ha)).trans (by rw [wd_vl _ ha])
theorem o_rInverse {a : Nat} (ha : a < 2 ^ 256) : ER6.orc 83 [W a] = some (ret1 (W (pw a e3R))) :=
  (if_pos (isW_wd ha)).trans (by rw [wd_vl _ ha])
set_option maxRecDepth 100000 in
theorem o_load {a : Nat} (ha : a < 2 ^ 256) : ER6.orc 63 [F a] = some (ret1 (W a)) :=
  (if_pos (isF_by _)).trans (by rw [nb_by32 ha])
theorem o_store {a : Nat} (ha : a < 2 ^ 256) : ER6.orc 35 [W a] = some (ret1 (F a)) :=
  (if_pos (isW_wd ha)).trans (by rw [wd_vl _ ha])
theorem r_plus6 {a b : Nat} (ha : a < 2 ^ 256) (hb : b < 2 ^ 256) : ER6.orc 98 [W a, W b] = some (two ((a + b) % 2 ^ 256) ((a + b) / 2 ^ 256)) := (show ER6.orc 98 [W a, W b] = ER5.orc 98 [W a, W b] from rfl).trans (r_plus5 ha hb)
theorem r_minus6 {a b : Nat} (ha : a < 2 ^ 256) (hb : b < 2 ^ 256) : ER6.orc 99 [W a, W b] = some (two ((a + 2 ^ 256 - b) % 2 ^ 256) (lt1 a b)) := (show ER6.orc 99 [W a, W b] = ER5.orc 99 [W a, W b] from rfl).trans (r_minus5 ha hb)
theorem r_product6 {a b : Nat} (ha : a < 2 ^ 256) (hb : b < 2 ^ 256) : ER6.orc 97 [W a, W b] = some (ret1 (W8 (a * b))) := (show ER6.orc 97 [W a, W b] = ER5.orc 97 [W a, W b] from rfl).trans (r_product5 ha hb)
theorem r_Q6 : ER6.orc 64 [] = some (ret1 (W qQ)) := rfl
theorem r_Times6 {a b : Nat} (ha : a < 2 ^ 256) (hb : b < 2 ^ 256) : ER6.orc 82 [W a, W b] = some (ret1 (W (a * b % pP))) := (show ER6.orc 82 [W a, W b] = ER5.orc 82 [W a, W b] from rfl).trans (r_Times5 ha hb)
theorem r_Minus6 {a b : Nat} (ha : a < 2 ^ 256) (hb : b < 2 ^ 256) (x0 : b ≤ pP) : ER6.orc 73 [W a, W b] = some (ret1 (W (minR a b))) := (show ER6.orc 73 [W a, W b] = ER5.orc 73 [W a, W b] from rfl).trans (r_Minus5 ha hb x0)
theorem r_Below6 {a b : Nat} (ha : a < 2 ^ 256) (hb : b < 2 ^ 256) : ER6.orc 62 [W a, W b] = some (ret1 (.v (.bool (decide (a < b))))) := (show ER6.orc 62 [W a, W b] = ER2.orc 62 [W a, W b] from rfl).trans (o_rBelow ha hb)
theorem r_Plus6 {a b : Nat} (ha : a < 2 ^ 256) (hb : b < 2 ^ 256) (x0 : a + b < 2 ^ 256) : ER6.orc 74 [W a, W b] = some (ret1 (W ((a + b) % pP))) := (show ER6.orc 74 [W a, W b] = ER4.orc 74 [W a, W b] from rfl).trans (o_rPlus ha hb x0)
theorem mod_ltP (n : Nat) : n % pP < pP := Nat.mod_lt n pP_pos
theorem minR_mod (a b : Nat) : minR (a % pP) (b % pP) = (a + (pP - b % pP)) % pP := by
  have ha := mod_ltP a
  have hb := mod_ltP b
  rw [← Nat.mod_add_mod a]
  unfold minR
  generalize a % pP = A at *
  generalize b % pP = B at *
  split
  · rw [Nat.mod_eq_of_lt (by omega)]
    omega
  · rw [show A + (pP - B) = (A - B) + pP by omega, Nat.add_mod_right, Nat.mod_eq_of_lt (by omega)]
theorem e_eq : e1R = e1P ∧ e2R = e2P ∧ e3R = e3P := ⟨rfl, rfl, rfl⟩
theorem rootR_eq (x : Nat) : rootR (x % pP) = sqrtP x := by
  obtain ⟨h1, h2, _⟩ := e_eq
  have hc := candR_lt (x % pP)
  unfold sqrtP rootP
  generalize x % pP = y at *
  by_cases h : pw y e1P * pw y e1P % pP = y
  · have e : candR y = pw y e1P := by rw [candR, h1, if_pos h]
    rw [rootR, e, if_pos h, if_pos h]
    simp only [if_true]
    rw [e] at hc
    congr 1
    by_cases h3 : pw y e1P % 2 = 1
    · rw [if_pos h3, if_pos h3, minR, if_pos (by omega), Nat.mod_eq_of_lt hc]
      omega
    · rw [if_neg h3, if_neg h3]
  · have e : candR y = pw y e1P * pw 2 e2P % pP := by rw [candR, h1, h2, if_neg h]
    rw [rootR, e, if_neg h]
    dsimp only
    rw [e] at hc
    generalize pw y e1P * pw 2 e2P % pP = r at *
    by_cases h2 : r * r % pP = y
    · simp only [if_pos h2, decide_eq_true h2, if_true]
      by_cases h3 : r % 2 = 1
      · rw [if_pos h3, if_pos h3, minR, if_pos (by omega), Nat.mod_eq_of_lt hc, Nat.zero_add]
      · rw [if_neg h3, if_neg h3]
    · simp only [if_neg h2, decide_eq_false h2, Bool.false_eq_true, if_false]
theorem bit_b {b : List Int} {n j : Nat} (h : g b (j / 8) = bt n (j / 8)) : IntKind.u64.wrap (bits .and .u8 ((g b (j / 8)).fdiv (2 ^ min (IntKind.u64.wrap ((j : Int).tmod 8)).toNat IntKind.u8.bits)) 1) = (((if Nat.testBit n j then 1 else 0 : Nat)) : Int) := by
  have e : min (IntKind.u64.wrap ((j : Int).tmod 8)).toNat IntKind.u8.bits = j % 8 := by
    rw [show (8 : Int) = ((8 : Nat) : Int) from rfl, tmod_nat, wrapN _ (by omega), Int.toNat_natCast]
    exact Nat.min_eq_left (show j % 8 ≤ 8 by omega)
  have hl := bt_byte n (j / 8)
  rw [e, h, bt, Int.fdiv_eq_ediv_of_nonneg _ (Int.pow_nonneg (by omega)), ← pow_cast, ← Int.natCast_ediv]
  have hd : n / 2 ^ (8 * (j / 8)) % 256 / 2 ^ (j % 8) < 256 := Nat.lt_of_le_of_lt (Nat.div_le_self _ _) (Nat.mod_lt _ (by decide))
  have h1 := u8_and_nat (n / 2 ^ (8 * (j / 8)) % 256 / 2 ^ (j % 8)) 1 hd (by omega)
  rw [show (1 : Int) = ((1 : Nat) : Int) from rfl, h1, Nat.and_one_is_mod, wrapN _ (by omega)]
  congr 1
  have hb : Nat.testBit (n / 2 ^ (8 * (j / 8)) % 256) (j % 8) = Nat.testBit n j := by
    rw [show (256 : Nat) = 2 ^ 8 from rfl, Nat.testBit_mod_two_pow, Nat.testBit_div_two_pow, decide_eq_true (Nat.mod_lt _ (by decide)), Bool.true_and]
    congr 1
    omega
  rw [← hb, Nat.testBit_eq_decide_div_mod_eq]
  have : n / 2 ^ (8 * (j / 8)) % 256 / 2 ^ (j % 8) % 2 = 0 ∨ n / 2 ^ (8 * (j / 8)) % 256 / 2 ^ (j % 8) % 2 = 1 := by omega
  rcases this with h | h <;> rw [h] <;> simp
theorem down8 (j : Nat) (h : j < 10000) : IntKind.i64.wrap ((j : Int) - 1) = (j : Int) - 1 := wrap64 (by omega)
theorem tdiv8' (i : Nat) (h : i < 10000) : IntKind.i64.wrap ((i : Int).tdiv 8) = ((i / 8 : Nat) : Int) := by
  rw [show (8 : Int) = ((8 : Nat) : Int) from rfl, ← Int.ofNat_tdiv, wrap64 (by omega)]
set_option maxRecDepth 100000 in
set_option maxHeartbeats 1600000 in
theorem wide_exec (N : Nat) (c : Option Nat) (b : List Int) (hN : b.length = N) (hb : By b) (hm : N ≤ 1000) : execF ER6 Tryz.f96 [.im 1 N c (.flat .u8 b)] (ret1 (W (nb b % qQ))) := by
  obtain ⟨n, en⟩ : ∃ n, n = nb b := ⟨_, rfl⟩
  have hlt : n < 2 ^ (8 * N) := by rw [en, ← pow256, ← hN]; exact nb_lt hb
  have hg : ∀ k, k < N → g b k = bt n k := fun k hk => by rw [en]; exact nb_bt hb (by omega)
  rw [← en]
  have e0 : IntKind.i64.wrap (IntKind.i64.wrap (8 * (N : Int)) - 1) = ((8 * N : Nat) : Int) - 1 := by rw [wrap64 (x := 8 * (N : Int)) (by omega), wrap64 (by omega)]; omega
  ((conv => whnf); repeat ((first | refine ⟨_, rfl, ?_⟩ | refine ⟨by decide, ?_⟩ | refine ⟨rfl, ?_⟩ | refine ⟨fun _ => ?_, fun h => absurd h (by decide)⟩ | refine ⟨fun h => absurd h (by decide), fun _ => ?_⟩ | refine ⟨inI_of (by omega), ?_⟩ | refine ⟨⟨rfl, inI_of (by omega)⟩, ?_⟩ | refine ⟨⟨rfl, by decide⟩, ?_⟩ | (apply Exists.intro; refine ⟨?_, ?_⟩; ((try simp only); (try simp only [Nat.zero_add]); (try simp only [Nat.mul_one]); (try simp only [Int.toNat_natCast]); first | exact at_g (by omega) | exact put_flat (by omega))) | refine ⟨_, cut_all (by omega), ?_⟩ | refine ⟨_, lay_all (by omega) (by omega), ?_⟩ | refine ⟨_, lay_all (by (try simp only); (try simp only [List.length_replicate]); (try simp only [List.length_cons]); (try simp only [List.length_nil]); omega) (by omega), ?_⟩ | refine ⟨by omega, ?_⟩ | refine ⟨len_flat (by omega), ?_⟩ | refine ⟨apart_uv _ _ _, ?_⟩ | refine ⟨_, resSlot_own rfl (by omega) (by first | exact .inl rfl | exact .inr ⟨rfl, rfl⟩), ?_⟩ | refine ⟨(by kernel_rfl : regB _ = true), ?_⟩ | refine ⟨⟨rfl, inI_of (by omega), by decide⟩, ?_⟩ | (apply Exists.intro; refine ⟨?_, ?_⟩; ((try simp only); (try simp only [Nat.zero_add]); (try simp only [Nat.mul_one]); (try simp only [Int.toNat_natCast]); first | exact at_drop_g (by omega) | exact cut_rest (by omega)))); conv => whnf))
  refine .inl ⟨fun m st => ∃ i : Nat, m = i ∧ i ≤ 8 * N ∧ st = ⟨[.im 1 N c (.flat .u8 b), .poison, .ptr 16 0, .ptr 24 0, iv .i64 ((i : Int) - 1), .poison, .poison, .poison, .poison, .poison, .poison, .poison, .poison, .poison, .poison, .poison, .poison, .poison, .poison, .poison, .poison, .poison, .poison, .poison, .poison, .poison, .poison, .poison, .poison, .poison, .poison, .poison, .poison, .poison, .poison, .poison, .poison, .poison, .poison, .poison, .poison, .poison, .poison, .poison, .poison],
      [(16, ⟨.flat .u64 [0, 0, 0, 0], 54, false⟩), (24, ⟨.flat .u64 (wd (n / 2 ^ i % qQ)), 54, false⟩)]⟩,
      ⟨[1, 5, 6, 7, 8, 9, 10, 11, 12, 13, 14, 15, 16, 17, 18, 19, 20, 21, 22, 23, 24, 25, 26, 27, 28, 29, 30, 31, 32, 33, 34, 35, 36, 37, 38, 39, 40, 41, 42, 43, 44], [], 8 * N, 8 * N, rfl, by omega, by rw [← e0, Nat.div_eq_of_lt hlt, Nat.zero_mod]; kernel_rfl⟩, ?_⟩
  rintro i _ ⟨_, rfl, hi, rfl⟩
  cases i with
  | zero =>
    rw [Nat.pow_zero, Nat.div_one]
    conv => whnf
    refine ⟨fun h => absurd h (by decide), fun _ => ?_⟩
    ((conv => whnf); repeat ((first | refine ⟨_, rfl, ?_⟩ | refine ⟨rfl, ?_⟩); conv => whnf))
    rfl
  | succ j =>
    rw [down1]
    have hq := Nat.mod_lt (n / 2 ^ (j + 1)) qQ_pos
    obtain ⟨o, eo⟩ : ∃ o, o = n / 2 ^ (j + 1) % qQ := ⟨_, rfl⟩
    have hs := rem_step n j
    rw [← eo] at hs hq ⊢
    have hq' : o < 2 ^ 253 := by unfold qQ at hq; omega
    have f1 := r_plus6 (a := o) (b := o) (by omega) (by omega)
    rw [show (o + o) % 2 ^ 256 = 2 * o by omega] at f1
    have e1 := tdiv8' j (by omega)
    have e2 := down8 j (by omega)
    have eb := bit_b (b := b) (n := n) (j := j) (hg _ (by omega))
    have ew := or_bit o (if Nat.testBit n j then 1 else 0) (by omega) (by split <;> omega)
    rw [← eb] at ew
    obtain ⟨y, ey⟩ : ∃ y, y = 2 * o + (if Nat.testBit n j then 1 else 0) := ⟨_, rfl⟩
    have hy : y < 2 ^ 256 := by rw [ey]; split <;> omega
    rw [← ey] at hs ew
    have f2 := r_Below6 hy (show qQ < 2 ^ 256 by unfold qQ; omega)
    have f3 := r_minus6 hy (show qQ < 2 ^ 256 by unfold qQ; omega)
    rw [W, ew] at f2 f3
    have h0 : decide ((j : Int) ≥ 0) = true := decide_eq_true (by omega)
    by_cases h : y < qQ
    · rw [decide_eq_true h] at f2
      rw [wi, if_pos h] at hs
      ((conv => whnf); repeat ((first | refine ⟨fun _ => ?_, fun h => absurd ((h0).symm.trans h) (by decide)⟩ | refine ⟨fun h => absurd ((h0).symm.trans h) (by decide), fun _ => ?_⟩ | refine ⟨u64_nn _, ?_⟩ | ((with_reducible refine is_ER6 ?_); first | refine ⟨_, f1, ?_⟩ | refine ⟨_, f2, ?_⟩ | refine ⟨_, r_Q6, ?_⟩) | refine ⟨_, rfl, ?_⟩ | refine ⟨by decide, ?_⟩ | refine ⟨rfl, ?_⟩ | refine ⟨fun h => absurd h (by decide), fun _ => ?_⟩ | refine ⟨⟨rfl, inI_of (by omega), by decide⟩, ?_⟩ | (apply Exists.intro; refine ⟨?_, ?_⟩; ((try simp only); (try simp only [e1]); (try simp only [Nat.zero_add]); (try simp only [Nat.mul_one]); (try simp only [Int.toNat_natCast]); (try simp only [e1]); (try simp only [Nat.zero_add]); (try simp only [Nat.mul_one]); (try simp only [Int.toNat_natCast]); first | exact at_drop_g (by omega) | exact cut_rest (by omega)))); conv => whnf))
      refine ⟨[1, 5, 6, 7, 8, 9, 10, 11, 12, 13, 14, 15, 16, 17, 18, 19, 20, 21, 22, 23, 24, 25, 26, 27, 28, 29, 30, 31, 32, 33, 34, 35, 36, 37, 38, 39, 40, 41, 42, 43, 44], [], j, ?_, j, rfl, by omega, ?_⟩
      · omega
      · rw [e2, ← hs, ew]; kernel_rfl
    · rw [decide_eq_false h] at f2
      rw [sub_mod256 hy (by omega)] at f3
      rw [wi, if_neg h] at hs
      ((conv => whnf); repeat ((first | refine ⟨fun _ => ?_, fun h => absurd ((h0).symm.trans h) (by decide)⟩ | refine ⟨fun h => absurd ((h0).symm.trans h) (by decide), fun _ => ?_⟩ | refine ⟨u64_nn _, ?_⟩ | ((with_reducible refine is_ER6 ?_); first | refine ⟨_, f1, ?_⟩ | refine ⟨_, f2, ?_⟩ | refine ⟨_, f3, ?_⟩ | refine ⟨_, r_Q6, ?_⟩) | refine ⟨_, rfl, ?_⟩ | refine ⟨by decide, ?_⟩ | refine ⟨rfl, ?_⟩ | refine ⟨⟨rfl, inI_of (by omega), by decide⟩, ?_⟩ | (apply Exists.intro; refine ⟨?_, ?_⟩; ((try simp only); (try simp only [e1]); (try simp only [Nat.zero_add]); (try simp only [Nat.mul_one]); (try simp only [Int.toNat_natCast]); (try simp only [e1]); (try simp only [Nat.zero_add]); (try simp only [Nat.mul_one]); (try simp only [Int.toNat_natCast]); first | exact at_drop_g (by omega) | exact cut_rest (by omega)))); conv => whnf))
      refine ⟨[1, 5, 6, 7, 8, 9, 10, 11, 12, 13, 14, 15, 16, 17, 18, 19, 20, 21, 22, 23, 24, 25, 26, 27, 28, 29, 30, 31, 32, 33, 34, 35, 36, 37, 38, 39, 40, 41, 42, 43, 44], [], j, ?_, j, rfl, by omega, ?_⟩
      · omega
      · rw [e2, ← hs]; kernel_rfl
theorem wide_call {N : Nat} {c : Option Nat} {b : List Int} (hN : b.length = N) (hb : By b) (hm : N ≤ 1000) : CallOk Tryz.prog 96 [.im 1 N c (.flat .u8 b)] (ret1 (W (nb b % qQ))) := execF_ok follows_ok ER6_ok Tryz.func96 (wide_exec N c b hN hb hm)
def orcR7 (f : Nat) (ds : List LV) : Option LRes :=
  match f with
  | 96 => match ds with
    | [.im 1 n _ (.flat .u8 b)] => if b.length = n ∧ byteOk b = true ∧ n ≤ 1000 then some (ret1 (W (nb b % qQ))) else none
    | _ => none
  | _ => orcR6 f ds
theorem orcR7_ok : Known Tryz.prog orcR7 := by
  intro f ds r h
  unfold orcR7 at h
  split at h
  · split at h
    · split at h
      · rename_i hc
        cases h
        exact .inl ⟨⟨_, Tryz.func96, name_ne _ (by kernel_rfl), rfl⟩, wide_call hc.1 (byteAll hc.2.1) hc.2.2⟩
      · cases h
    · cases h
  · exact orcR6_ok f ds r h
def ER7 : Env := ⟨tyL, orcR7, false, noWk, noOrw⟩
theorem ER7_ok : EnvOk Tryz.prog ER7 := ⟨tyL_ok, orcR7_ok, noOrw_ok⟩
theorem is_ER7 {f : Nat} {ds : List LV} {K : LRes → Prop} (h : ∃ y, ER7.orc f ds = some y ∧ K y) : ∃ y, ER7.orc f ds = some y ∧ K y := h
theorem o_wide {N : Nat} {c : Option Nat} {b : List Int} (hN : b.length = N) (hb : By b) (hm : N ≤ 1000) : ER7.orc 96 [.im 1 N c (.flat .u8 b)] = some (ret1 (W (nb b % qQ))) := if_pos ⟨hN, hb.ok, hm⟩
theorem r_load7 {a : Nat} (ha : a < 2 ^ 256) : ER7.orc 63 [F a] = some (ret1 (W a)) := (show ER7.orc 63 [F a] = ER6.orc 63 [F a] from rfl).trans (o_load ha)
theorem r_store7 {a : Nat} (ha : a < 2 ^ 256) : ER7.orc 35 [W a] = some (ret1 (F a)) := (show ER7.orc 35 [W a] = ER6.orc 35 [W a] from rfl).trans (o_store ha)
theorem r_Below7 {a b : Nat} (ha : a < 2 ^ 256) (hb : b < 2 ^ 256) : ER7.orc 62 [W a, W b] = some (ret1 (.v (.bool (decide (a < b))))) := (show ER7.orc 62 [W a, W b] = ER6.orc 62 [W a, W b] from rfl).trans (r_Below6 ha hb)
theorem r_plus7 {a b : Nat} (ha : a < 2 ^ 256) (hb : b < 2 ^ 256) : ER7.orc 98 [W a, W b] = some (two ((a + b) % 2 ^ 256) ((a + b) / 2 ^ 256)) := (show ER7.orc 98 [W a, W b] = ER6.orc 98 [W a, W b] from rfl).trans (r_plus6 ha hb)
theorem r_minus7 {a b : Nat} (ha : a < 2 ^ 256) (hb : b < 2 ^ 256) : ER7.orc 99 [W a, W b] = some (two ((a + 2 ^ 256 - b) % 2 ^ 256) (lt1 a b)) := (show ER7.orc 99 [W a, W b] = ER6.orc 99 [W a, W b] from rfl).trans (r_minus6 ha hb)
theorem r_product7 {a b : Nat} (ha : a < 2 ^ 256) (hb : b < 2 ^ 256) : ER7.orc 97 [W a, W b] = some (ret1 (W8 (a * b))) := (show ER7.orc 97 [W a, W b] = ER6.orc 97 [W a, W b] from rfl).trans (r_product6 ha hb)
theorem r_Q7 : ER7.orc 64 [] = some (ret1 (W qQ)) := rfl
set_option maxRecDepth 100000 in
set_option maxHeartbeats 1600000 in
theorem rWide_exec (N : Nat) (c : Option Nat) (b : List Int) (hN : b.length = N) (hb : By b) : execF ER7 Tryz.f57 [.im 1 N c (.flat .u8 b)] (wideR N b) := by
  unfold wideR
  by_cases h64 : 64 < N
  · have q : decide ((N : Int) > 64) = true := decide_eq_true (by omega)
    rw [if_pos h64, F_zero]
    ((conv => whnf); repeat ((first | refine ⟨fun _ => ?_, fun h => absurd ((q).symm.trans h) (by decide)⟩ | refine ⟨fun h => absurd ((q).symm.trans h) (by decide), fun _ => ?_⟩ | refine ⟨_, rfl, ?_⟩ | refine ⟨by decide, ?_⟩ | refine ⟨rfl, ?_⟩); conv => whnf))
    rfl
  have q : decide ((N : Int) > 64) = false := decide_eq_false (by omega)
  rw [if_neg h64]
  have f := o_wide (c := c) hN hb (by omega)
  have f2 := r_store7 (qmod_lt (nb b))
  ((conv => whnf); repeat ((first | refine ⟨fun _ => ?_, fun h => absurd ((q).symm.trans h) (by decide)⟩ | refine ⟨fun h => absurd ((q).symm.trans h) (by decide), fun _ => ?_⟩ | ((with_reducible refine is_ER7 ?_); first | refine ⟨_, f, ?_⟩ | refine ⟨_, f2, ?_⟩) | refine ⟨_, rfl, ?_⟩ | refine ⟨rfl, ?_⟩); conv => whnf))
  rfl
theorem rWide_call (N : Nat) (c : Option Nat) (b : List Int) (hN : b.length = N) (hb : By b) : CallOk Tryz.prog 57 [.im 1 N c (.flat .u8 b)] (wideR N b) := execF_ok follows_ok ER7_ok Tryz.func57 (rWide_exec N c b hN hb)
theorem byk_succ (n k : Nat) : byk n (k + 1) = byk n k ++ [bt n k] := map_succ _ _
set_option exponentiation.threshold 600 in
set_option maxRecDepth 100000 in
set_option maxHeartbeats 1600000 in
theorem rMulAdd_exec (a b c : Nat) (ha : a < 2 ^ 256) (hb : b < 2 ^ 256) (hc : c < 2 ^ 256) (l : List Int) (hl : l = wd8 (a * b)) (hf : ER7.orc 97 [W a, W b] = some (ret1 (.agg (.flat .u64 l)))) (lc : List Int) (hlc : lc = by32 c) :
    execF ER7 Tryz.f58 [F a, F b, .agg (.flat .u8 lc)] (ret1 (F ((a * b + c) % qQ))) := by
  have hlen : l.length = 8 := by rw [hl]; rfl
  have hclen : lc.length = 32 := by rw [hlc, byk_len]
  have hab := mul_lt512 ha hb
  obtain ⟨n, en⟩ : ∃ n, n = a * b := ⟨_, rfl⟩
  rw [← en] at hl hab ⊢
  ((conv => whnf); repeat ((first | ((with_reducible refine is_ER7 ?_); first | refine ⟨_, r_load7 ha, ?_⟩ | refine ⟨_, r_load7 hb, ?_⟩ | refine ⟨_, hf, ?_⟩) | refine ⟨_, rfl, ?_⟩ | refine ⟨by decide, ?_⟩ | refine ⟨rfl, ?_⟩ | refine ⟨_, lay_all (by (try simp only); (try simp only [List.length_replicate]); (try simp only [List.length_cons]); (try simp only [List.length_nil]); omega) (by omega), ?_⟩ | refine ⟨len_flat (by omega), ?_⟩); conv => whnf))
  refine .inl ⟨fun m st => ∃ (i : Nat) (o : List Int), m = 64 - i ∧ i ≤ 64 ∧ o = byk n i ∧ st = ⟨[.poison, .poison, .poison, .poison, .poison, .ptr 40 0, .ptr 48 0, .ptr 56 0, .sl 1 256 0 i none, .poison, .poison, .poison, .poison, .poison, .poison, .poison, .poison, iv .i64 i, .poison, .poison, .poison, .poison, .poison, .poison, .poison, .poison, .poison, .poison, .poison, .poison, .poison, .poison, .poison, .poison, .poison, .poison, .poison, .poison, .poison, .poison, .poison, .poison, .poison, .poison, .poison, .poison, .poison, .poison, .poison, .poison, .poison, .poison, .poison, .poison],
      [(256, ⟨.flat .u8 o, 5, true⟩), (40, ⟨.flat .u8 lc, 23, false⟩), (48, ⟨.flat .u8 (List.replicate 32 0), 23, false⟩), (56, ⟨.flat .u64 l, 86, false⟩)]⟩,
      ⟨[0, 1, 2, 3, 4, 9, 10, 11, 12, 13, 14, 15, 16, 18, 19, 20, 21, 22, 23, 24, 25, 26, 27, 28, 29, 30, 31, 32, 33, 34, 35, 36, 37, 38, 39, 40, 41, 42, 43, 44, 45, 46, 47, 48, 49, 50, 51, 52, 53], [24, 32, .nil 8 256 1 5 (.flat .u8 [])], 64, 0, [], rfl, by omega, rfl, by kernel_rfl⟩, ?_⟩
  rintro _ _ ⟨i, o, rfl, hi, ho, rfl⟩
  have hol : o.length = i := by rw [ho, byk_len]
  conv => whnf
  refine ⟨fun h => ?_, fun h => ?_⟩
  · have h := of_decide_eq_true h
    have e1 := tdiv8 i (by omega)
    have e2 := up1 i (by omega)
    have e3 : IntKind.u8.wrap ((g l (i / 8)).fdiv (2 ^ min (IntKind.u64.wrap (8 * IntKind.u64.wrap ((i : Int).tmod 8))).toNat IntKind.u64.bits)) = bt n i := by
      rw [hl, g_wd8 _ _ (by omega)]
      exact dg_bt n i _ _ rfl (by rw [sh8, min64 (by omega) _ (.inl rfl)])
    ((conv => whnf); repeat ((first | refine ⟨u64_nn _, ?_⟩ | refine ⟨_, append_grow (cnt := 1) rfl rfl rfl rfl rfl hol rfl (by omega) (by omega), ?_⟩ | refine ⟨by decide, ?_⟩ | refine ⟨inI_of (by omega), ?_⟩ | (apply Exists.intro; refine ⟨?_, ?_⟩; ((try simp only); (try simp only [e1]); (try simp only [Nat.zero_add]); (try simp only [Nat.mul_one]); (try simp only [Int.toNat_natCast]); (try simp only [e1]); (try simp only [Nat.zero_add]); (try simp only [Nat.mul_one]); (try simp only [Int.toNat_natCast]); first | exact at_g (by omega) | exact put_flat (by omega)))); conv => whnf))
    refine ⟨[0, 1, 2, 3, 4, 9, 10, 11, 12, 13, 14, 15, 16, 18, 19, 20, 21, 22, 23, 24, 25, 26, 27, 28, 29, 30, 31, 32, 33, 34, 35, 36, 37, 38, 39, 40, 41, 42, 43, 44, 45, 46, 47, 48, 49, 50, 51, 52, 53], [248, .first 256], 64 - (i + 1), ?_, i + 1, o ++ [bt n i], rfl, by omega, by rw [byk_succ, ho], ?_⟩
    · omega
    · rw [← e2, ← e3]; kernel_rfl
  · have h := of_decide_eq_false h
    have hi' : i = 64 := by omega
    subst hi'
    have hob : By o := by rw [ho]; exact byk_by _ _
    have hcb : By lc := by rw [hlc]; exact byk_by _ _
    have hno : nb o = n := by rw [ho, nb_byk, pow256]; exact Nat.mod_eq_of_lt hab
    have hnc : nb lc = c := by rw [hlc]; exact nb_by32 hc
    have hc1 : (Cont.flat .u8 o).cut 0 (64 * 1) = some (.flat .u8 o) := cut_all (by omega)
    have hc2 : (Cont.flat .u8 lc).cut 0 (32 * 1) = some (.flat .u8 lc) := cut_all (by omega)
    have w1 := o_wide (c := none) hol hob (by omega)
    have w2 := o_wide (c := some 32) hclen hcb (by omega)
    rw [hno] at w1
    rw [hnc] at w2
    have q1 := Nat.mod_lt n qQ_pos
    have q2 := Nat.mod_lt c qQ_pos
    have hwi : wi (n % qQ + c % qQ) qQ = (n + c) % qQ := by rw [wi_mod (by omega), ← Nat.add_mod]
    have f1 := r_plus7 (qmod_lt n) (qmod_lt c)
    have hs : n % qQ + c % qQ < 2 ^ 256 := by unfold qQ at *; omega
    rw [Nat.mod_eq_of_lt hs] at f1
    have f2 := r_Below7 hs (show qQ < 2 ^ 256 by unfold qQ; omega)
    have f3 := r_minus7 hs (show qQ < 2 ^ 256 by unfold qQ; omega)
    have f4 := r_store7 (qmod_lt (n + c))
    rw [← hwi] at f4 ⊢
    generalize n % qQ + c % qQ = s at *
    unfold wi at f4 ⊢
    by_cases h : s < qQ
    · rw [decide_eq_true h] at f2
      rw [if_pos h] at f4 ⊢
      ((conv => whnf); repeat ((first | refine ⟨_, expo_sl rfl hc1, ?_⟩ | refine ⟨_, expo_sl rfl hc2, ?_⟩ | ((with_reducible refine is_ER7 ?_); first | refine ⟨_, w1, ?_⟩ | refine ⟨_, w2, ?_⟩ | refine ⟨_, f1, ?_⟩ | refine ⟨_, f2, ?_⟩ | refine ⟨_, f4, ?_⟩ | refine ⟨_, r_Q7, ?_⟩) | refine ⟨_, rfl, ?_⟩ | refine ⟨by decide, ?_⟩ | refine ⟨rfl, ?_⟩ | refine ⟨fun h => absurd h (by decide), fun _ => ?_⟩); conv => whnf))
      rfl
    · rw [decide_eq_false h] at f2
      rw [sub_mod256 hs (by omega)] at f3
      rw [if_neg h] at f4 ⊢
      ((conv => whnf); repeat ((first | refine ⟨_, expo_sl rfl hc1, ?_⟩ | refine ⟨_, expo_sl rfl hc2, ?_⟩ | ((with_reducible refine is_ER7 ?_); first | refine ⟨_, w1, ?_⟩ | refine ⟨_, w2, ?_⟩ | refine ⟨_, f1, ?_⟩ | refine ⟨_, f2, ?_⟩ | refine ⟨_, f3, ?_⟩ | refine ⟨_, f4, ?_⟩ | refine ⟨_, r_Q7, ?_⟩) | refine ⟨_, rfl, ?_⟩ | refine ⟨by decide, ?_⟩ | refine ⟨rfl, ?_⟩ | refine ⟨fun _ => ?_, fun h => absurd h (by decide)⟩); conv => whnf))
      rfl
theorem rMulAdd_call (a b c : Nat) (ha : a < 2 ^ 256) (hb : b < 2 ^ 256) (hc : c < 2 ^ 256) : CallOk Tryz.prog 58 [F a, F b, F c] (ret1 (F ((a * b + c) % qQ))) :=
  execF_ok follows_ok ER7_ok Tryz.func58 (rMulAdd_exec a b c ha hb hc _ rfl (r_product7 ha hb) _ rfl)
end Go.Proofs.YtdeigmjbcbjgeaaGreatDoor
