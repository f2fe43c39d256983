/-
  Layer 8: the answer's exported functions.
-/
import Derived.Laws.BitsAllLaws
import Derived.Test.YtdeigmjbcbjgeaaGreatDoorQFA
import Derived.Test.YtdeigmjbcbjgeaaGreatDoorQFB
import Derived.Test.YtdeigmjbcbjgeaaGreatDoorQMkP
namespace Go.Proofs.YtdeigmjbcbjgeaaGreatDoor
open Go.RowKit

theorem rRoot_row {a : List Int} (hc : isW a = true) : CallOk Tryz.prog 71 [.agg (.flat .u64 a)] (.many [.val (W (rootR (vl a)).1), .val (.v (.bool (rootR (vl a)).2))]) := by
  have h0 := hc
  clear hc
  have e0 := isW_eq h0
  have l0 := vl_lt h0
  clear h0
  generalize vl a = n0 at *
  subst e0
  exact rRoot_call n0 l0 
theorem rInverse_row {a : List Int} (hc : isW a = true) : CallOk Tryz.prog 83 [.agg (.flat .u64 a)] (ret1 (W (pw (vl a) e3R))) := by
  have h0 := hc
  clear hc
  have e0 := isW_eq h0
  have l0 := vl_lt h0
  clear h0
  generalize vl a = n0 at *
  subst e0
  exact rInverse_call n0 l0 
theorem load_row {a : List Int} (hc : isF a = true) : CallOk Tryz.prog 63 [.agg (.flat .u8 a)] (ret1 (W (nb a))) := by
  have h0 := hc
  clear hc
  have e0 := isF_eq h0
  have l0 := nb32_lt h0
  clear h0
  generalize nb a = n0 at *
  subst e0
  exact load_call n0 l0 
theorem store_row {a : List Int} (hc : isW a = true) : CallOk Tryz.prog 35 [.agg (.flat .u64 a)] (ret1 (F (vl a))) := by
  have h0 := hc
  clear hc
  have e0 := isW_eq h0
  have l0 := vl_lt h0
  clear h0
  generalize vl a = n0 at *
  subst e0
  exact store_call n0 l0 
def orcR6 (f : Nat) (ds : List LV) : Option LRes :=
  match f with
  | 71 => match ds with
    | [.agg (.flat .u64 a)] => if isW a = true then some (.many [.val (W (rootR (vl a)).1), .val (.v (.bool (rootR (vl a)).2))]) else none
    | _ => none
  | 83 => match ds with
    | [.agg (.flat .u64 a)] => if isW a = true then some (ret1 (W (pw (vl a) e3R))) else none
    | _ => none
  | 63 => match ds with
    | [.agg (.flat .u8 a)] => if isF a = true then some (ret1 (W (nb a))) else none
    | _ => none
  | 35 => match ds with
    | [.agg (.flat .u64 a)] => if isW a = true then some (ret1 (F (vl a))) else none
    | _ => none
  | _ => orcR5 f ds
theorem orcR6_ok : Known Tryz.prog orcR6 := by
  intro f ds r h
  unfold orcR6 at h
  split at h
  · split at h
    · split at h
      · rename_i hc
        cases h
        exact .inl ⟨⟨_, Tryz.func71, name_ne _ (by kernel_rfl), rfl⟩, rRoot_row hc⟩
      · cases h
    · cases h
  · split at h
    · split at h
      · rename_i hc
        cases h
        exact .inl ⟨⟨_, Tryz.func83, name_ne _ (by kernel_rfl), rfl⟩, rInverse_row hc⟩
      · cases h
    · cases h
  · split at h
    · split at h
      · rename_i hc
        cases h
        exact .inl ⟨⟨_, Tryz.func63, name_ne _ (by kernel_rfl), rfl⟩, load_row hc⟩
      · cases h
    · cases h
  · split at h
    · split at h
      · rename_i hc
        cases h
        exact .inl ⟨⟨_, Tryz.func35, name_ne _ (by kernel_rfl), rfl⟩, store_row hc⟩
      · cases h
    · cases h
  · exact orcR5_ok f ds r h
def ER6 : Env := ⟨tyL, orcR6, false, noWk, noOrw⟩
theorem ER6_ok : EnvOk Tryz.prog ER6 := ⟨tyL_ok, orcR6_ok, noOrw_ok⟩
theorem is_ER6 {f : Nat} {ds : List LV} {K : LRes → Prop} (h : ∃ y, ER6.orc f ds = some y ∧ K y) : ∃ y, ER6.orc f ds = some y ∧ K y := h
theorem r_plus6 {a b : Nat} (ha : a < 2 ^ 256) (hb : b < 2 ^ 256) : ER6.orc 98 [W a, W b] = some (two ((a + b) % 2 ^ 256) ((a + b) / 2 ^ 256)) := (show ER6.orc 98 [W a, W b] = ER5.orc 98 [W a, W b] from rfl).trans (r_plus5 ha hb)
theorem r_minus6 {a b : Nat} (ha : a < 2 ^ 256) (hb : b < 2 ^ 256) : ER6.orc 99 [W a, W b] = some (two ((a + 2 ^ 256 - b) % 2 ^ 256) (lt1 a b)) := (show ER6.orc 99 [W a, W b] = ER5.orc 99 [W a, W b] from rfl).trans (r_minus5 ha hb)
theorem r_Q6 : ER6.orc 64 [] = some (ret1 (W qQ)) := rfl
theorem r_Below6 {a b : Nat} (ha : a < 2 ^ 256) (hb : b < 2 ^ 256) : ER6.orc 62 [W a, W b] = some (ret1 (.v (.bool (decide (a < b))))) := (show ER6.orc 62 [W a, W b] = ER2.orc 62 [W a, W b] from rfl).trans (o_rBelow ha hb)
theorem e_eq : e1R = e1P ∧ e2R = e2P ∧ e3R = e3P := ⟨rfl, rfl, rfl⟩
theorem rootR_eq (x : Nat) : rootR (x % pP) = sqrtP x := by
  obtain ⟨h1, h2, _⟩ := e_eq
  have hc := candR_lt (x % pP)
  unfold sqrtP rootP
  generalize x % pP = y at *
  by_cases h : pw y e1P * pw y e1P % pP = y
  · have e : candR y = pw y e1P := by rw [candR, h1, if_pos h]
    rw [rootR, e, if_pos h, if_pos h]
    simp only [if_true]
    rw [e] at hc
    congr 1
    by_cases h3 : pw y e1P % 2 = 1
    · rw [if_pos h3, if_pos h3, minR, if_pos (by omega), Nat.mod_eq_of_lt hc]
      omega
    · rw [if_neg h3, if_neg h3]
  · have e : candR y = pw y e1P * pw 2 e2P % pP := by rw [candR, h1, h2, if_neg h]
    rw [rootR, e, if_neg h]
    dsimp only
    rw [e] at hc
    generalize pw y e1P * pw 2 e2P % pP = r at *
    by_cases h2 : r * r % pP = y
    · simp only [if_pos h2, decide_eq_true h2, if_true]
      by_cases h3 : r % 2 = 1
      · rw [if_pos h3, if_pos h3, minR, if_pos (by omega), Nat.mod_eq_of_lt hc, Nat.zero_add]
      · rw [if_neg h3, if_neg h3]
    · simp only [if_neg h2, decide_eq_false h2, Bool.false_eq_true, if_false]
theorem bit_b {b : List Int} {n j : Nat} (h : g b (j / 8) = bt n (j / 8)) : IntKind.u64.wrap (bits .and .u8 ((g b (j / 8)).fdiv (2 ^ min (IntKind.u64.wrap ((j : Int).tmod 8)).toNat IntKind.u8.bits)) 1) = (((if Nat.testBit n j then 1 else 0 : Nat)) : Int) := by
  have e : min (IntKind.u64.wrap ((j : Int).tmod 8)).toNat IntKind.u8.bits = j % 8 := by
    rw [show (8 : Int) = ((8 : Nat) : Int) from rfl, tmod_nat, wrapN _ (by omega), Int.toNat_natCast]
    exact Nat.min_eq_left (show j % 8 ≤ 8 by omega)
  have hl := bt_byte n (j / 8)
  rw [e, h, bt, Int.fdiv_eq_ediv_of_nonneg _ (Int.pow_nonneg (by omega)), ← pow_cast, ← Int.natCast_ediv]
  have hd : n / 2 ^ (8 * (j / 8)) % 256 / 2 ^ (j % 8) < 256 := Nat.lt_of_le_of_lt (Nat.div_le_self _ _) (Nat.mod_lt _ (by decide))
  have h1 := u8_and_nat (n / 2 ^ (8 * (j / 8)) % 256 / 2 ^ (j % 8)) 1 hd (by omega)
  rw [show (1 : Int) = ((1 : Nat) : Int) from rfl, h1, Nat.and_one_is_mod, wrapN _ (by omega)]
  congr 1
  have hb : Nat.testBit (n / 2 ^ (8 * (j / 8)) % 256) (j % 8) = Nat.testBit n j := by
    rw [show (256 : Nat) = 2 ^ 8 from rfl, Nat.testBit_mod_two_pow, Nat.testBit_div_two_pow, decide_eq_true (Nat.mod_lt _ (by decide)), Bool.true_and]
    congr 1
    omega
  rw [← hb, Nat.testBit_eq_decide_div_mod_eq]
  have : n / 2 ^ (8 * (j / 8)) % 256 / 2 ^ (j % 8) % 2 = 0 ∨ n / 2 ^ (8 * (j / 8)) % 256 / 2 ^ (j % 8) % 2 = 1 := by omega
  rcases this with h | h <;> rw [h] <;> simp
theorem down8 (j : Nat) (h : j < 10000) : IntKind.i64.wrap ((j : Int) - 1) = (j : Int) - 1 := wrap64 (by omega)
theorem tdiv8' (i : Nat) (h : i < 10000) : IntKind.i64.wrap ((i : Int).tdiv 8) = ((i / 8 : Nat) : Int) := by
  rw [show (8 : Int) = ((8 : Nat) : Int) from rfl, ← Int.ofNat_tdiv, wrap64 (by omega)]
set_option maxRecDepth 100000 in
set_option maxHeartbeats 1600000 in
theorem wide_exec (N : Nat) (c : Option Nat) (b : List Int) (hN : b.length = N) (hb : By b) (hm : N ≤ 1000) : execF ER6 Tryz.f96 [.im 1 N c (.flat .u8 b)] (ret1 (W (nb b % qQ))) := by
  obtain ⟨n, en⟩ : ∃ n, n = nb b := ⟨_, rfl⟩
  have hlt : n < 2 ^ (8 * N) := by rw [en, ← pow256, ← hN]; exact nb_lt hb
  have hg : ∀ k, k < N → g b k = bt n k := fun k hk => by rw [en]; exact nb_bt hb (by omega)
  rw [← en]
  have e0 : IntKind.i64.wrap (IntKind.i64.wrap (8 * (N : Int)) - 1) = ((8 * N : Nat) : Int) - 1 := by rw [wrap64 (x := 8 * (N : Int)) (by omega), wrap64 (by omega)]; omega
  ((conv => whnf); repeat ((first | refine ⟨_, rfl, ?_⟩ | refine ⟨by decide, ?_⟩ | refine ⟨rfl, ?_⟩ | refine ⟨fun _ => ?_, fun h => absurd h (by decide)⟩ | refine ⟨fun h => absurd h (by decide), fun _ => ?_⟩ | refine ⟨inI_of (by omega), ?_⟩ | refine ⟨⟨rfl, inI_of (by omega)⟩, ?_⟩ | refine ⟨⟨rfl, by decide⟩, ?_⟩ | (apply Exists.intro; refine ⟨?_, ?_⟩; ((try simp only); (try simp only [Nat.zero_add]); (try simp only [Nat.mul_one]); (try simp only [Int.toNat_natCast]); first | exact at_g (by omega) | exact put_flat (by omega))) | refine ⟨_, cut_all (by omega), ?_⟩ | refine ⟨_, lay_all (by omega) (by omega), ?_⟩ | refine ⟨_, lay_all (by (try simp only); (try simp only [List.length_replicate]); (try simp only [List.length_cons]); (try simp only [List.length_nil]); omega) (by omega), ?_⟩ | refine ⟨by omega, ?_⟩ | refine ⟨len_flat (by omega), ?_⟩ | refine ⟨apart_uv _ _ _, ?_⟩ | refine ⟨_, resSlot_own rfl (by omega) (by first | exact .inl rfl | exact .inr ⟨rfl, rfl⟩), ?_⟩ | refine ⟨(by kernel_rfl : regB _ = true), ?_⟩ | refine ⟨⟨rfl, inI_of (by omega), by decide⟩, ?_⟩ | (apply Exists.intro; refine ⟨?_, ?_⟩; ((try simp only); (try simp only [Nat.zero_add]); (try simp only [Nat.mul_one]); (try simp only [Int.toNat_natCast]); first | exact at_drop_g (by omega) | exact cut_rest (by omega)))); conv => whnf))
  refine .inl ⟨fun m st => ∃ i : Nat, m = i ∧ i ≤ 8 * N ∧ st = ⟨[.im 1 N c (.flat .u8 b), .poison, .ptr 16 0, .ptr 24 0, iv .i64 ((i : Int) - 1), .poison, .poison, .poison, .poison, .poison, .poison, .poison, .poison, .poison, .poison, .poison, .poison, .poison, .poison, .poison, .poison, .poison, .poison, .poison, .poison, .poison, .poison, .poison, .poison, .poison, .poison, .poison, .poison, .poison, .poison, .poison, .poison, .poison, .poison, .poison, .poison, .poison, .poison, .poison, .poison],
      [(16, ⟨.flat .u64 [0, 0, 0, 0], 54, false⟩), (24, ⟨.flat .u64 (wd (n / 2 ^ i % qQ)), 54, false⟩)]⟩,
      ⟨[1, 5, 6, 7, 8, 9, 10, 11, 12, 13, 14, 15, 16, 17, 18, 19, 20, 21, 22, 23, 24, 25, 26, 27, 28, 29, 30, 31, 32, 33, 34, 35, 36, 37, 38, 39, 40, 41, 42, 43, 44], [], 8 * N, 8 * N, rfl, by omega, by rw [← e0, Nat.div_eq_of_lt hlt, Nat.zero_mod]; kernel_rfl⟩, ?_⟩
  rintro i _ ⟨_, rfl, hi, rfl⟩
  cases i with
  | zero =>
    rw [Nat.pow_zero, Nat.div_one]
    conv => whnf
    refine ⟨fun h => absurd h (by decide), fun _ => ?_⟩
    ((conv => whnf); repeat ((first | refine ⟨_, rfl, ?_⟩ | refine ⟨by decide, ?_⟩ | refine ⟨rfl, ?_⟩ | refine ⟨fun _ => ?_, fun h => absurd h (by decide)⟩ | refine ⟨fun h => absurd h (by decide), fun _ => ?_⟩ | refine ⟨inI_of (by omega), ?_⟩ | refine ⟨⟨rfl, inI_of (by omega)⟩, ?_⟩ | refine ⟨⟨rfl, by decide⟩, ?_⟩ | (apply Exists.intro; refine ⟨?_, ?_⟩; ((try simp only); (try simp only [Nat.zero_add]); (try simp only [Nat.mul_one]); (try simp only [Int.toNat_natCast]); first | exact at_g (by omega) | exact put_flat (by omega))) | refine ⟨_, cut_all (by omega), ?_⟩ | refine ⟨_, lay_all (by omega) (by omega), ?_⟩ | refine ⟨_, lay_all (by (try simp only); (try simp only [List.length_replicate]); (try simp only [List.length_cons]); (try simp only [List.length_nil]); omega) (by omega), ?_⟩ | refine ⟨by omega, ?_⟩ | refine ⟨len_flat (by omega), ?_⟩ | refine ⟨apart_uv _ _ _, ?_⟩ | refine ⟨_, resSlot_own rfl (by omega) (by first | exact .inl rfl | exact .inr ⟨rfl, rfl⟩), ?_⟩ | refine ⟨(by kernel_rfl : regB _ = true), ?_⟩ | refine ⟨⟨rfl, inI_of (by omega), by decide⟩, ?_⟩ | (apply Exists.intro; refine ⟨?_, ?_⟩; ((try simp only); (try simp only [Nat.zero_add]); (try simp only [Nat.mul_one]); (try simp only [Int.toNat_natCast]); first | exact at_drop_g (by omega) | exact cut_rest (by omega)))); conv => whnf))
    rfl
  | succ j =>
    rw [down1]
    have hq := Nat.mod_lt (n / 2 ^ (j + 1)) qQ_pos
    obtain ⟨o, eo⟩ : ∃ o, o = n / 2 ^ (j + 1) % qQ := ⟨_, rfl⟩
    have hs := rem_step n j
    rw [← eo] at hs hq ⊢
    have hq' : o < 2 ^ 253 := by unfold qQ at hq; omega
    have f1 := r_plus6 (a := o) (b := o) (by omega) (by omega)
    rw [show (o + o) % 2 ^ 256 = 2 * o by omega] at f1
    have e1 := tdiv8' j (by omega)
    have e2 := down8 j (by omega)
    have eb := bit_b (b := b) (n := n) (j := j) (hg _ (by omega))
    have ew := or_bit o (if Nat.testBit n j then 1 else 0) (by omega) (by split <;> omega)
    rw [← eb] at ew
    obtain ⟨y, ey⟩ : ∃ y, y = 2 * o + (if Nat.testBit n j then 1 else 0) := ⟨_, rfl⟩
    have hy : y < 2 ^ 256 := by rw [ey]; split <;> omega
    rw [← ey] at hs ew
    have f2 := r_Below6 hy (show qQ < 2 ^ 256 by unfold qQ; omega)
    have f3 := r_minus6 hy (show qQ < 2 ^ 256 by unfold qQ; omega)
    rw [W, ew] at f2 f3
    have h0 : decide ((j : Int) ≥ 0) = true := decide_eq_true (by omega)
    by_cases h : y < qQ
    · rw [decide_eq_true h] at f2
      rw [wi, if_pos h] at hs
      ((conv => whnf); repeat ((first | refine ⟨fun _ => ?_, fun h => absurd ((h0).symm.trans h) (by decide)⟩ | refine ⟨fun h => absurd ((h0).symm.trans h) (by decide), fun _ => ?_⟩ | refine ⟨u64_nn _, ?_⟩ | ((with_reducible refine is_ER6 ?_); first | refine ⟨_, f1, ?_⟩ | refine ⟨_, f2, ?_⟩ | refine ⟨_, r_Q6, ?_⟩) | refine ⟨_, rfl, ?_⟩ | refine ⟨by decide, ?_⟩ | refine ⟨rfl, ?_⟩ | refine ⟨fun _ => ?_, fun h => absurd h (by decide)⟩ | refine ⟨fun h => absurd h (by decide), fun _ => ?_⟩ | refine ⟨inI_of (by omega), ?_⟩ | refine ⟨⟨rfl, inI_of (by omega)⟩, ?_⟩ | refine ⟨⟨rfl, by decide⟩, ?_⟩ | refine ⟨by (try simp only); (try simp only [e1]); exact inI_of (by omega), ?_⟩ | refine ⟨⟨rfl, by (try simp only); (try simp only [e1]); exact inI_of (by omega)⟩, ?_⟩ | (apply Exists.intro; refine ⟨?_, ?_⟩; ((try simp only); (try simp only [e1]); (try simp only [Nat.zero_add]); (try simp only [Nat.mul_one]); (try simp only [Int.toNat_natCast]); (try simp only [e1]); (try simp only [Nat.zero_add]); (try simp only [Nat.mul_one]); (try simp only [Int.toNat_natCast]); first | exact at_g (by omega) | exact put_flat (by omega))) | refine ⟨_, cut_all (by omega), ?_⟩ | refine ⟨_, lay_all (by omega) (by omega), ?_⟩ | refine ⟨_, lay_all (by (try simp only); (try simp only [List.length_replicate]); (try simp only [List.length_cons]); (try simp only [List.length_nil]); omega) (by omega), ?_⟩ | refine ⟨by omega, ?_⟩ | refine ⟨len_flat (by omega), ?_⟩ | refine ⟨apart_uv _ _ _, ?_⟩ | refine ⟨_, resSlot_own rfl (by omega) (by first | exact .inl rfl | exact .inr ⟨rfl, rfl⟩), ?_⟩ | refine ⟨(by kernel_rfl : regB _ = true), ?_⟩ | refine ⟨⟨rfl, inI_of (by omega), by decide⟩, ?_⟩ | refine ⟨⟨rfl, by (try simp only); (try simp only [e1]); exact inI_of (by omega), by decide⟩, ?_⟩ | (apply Exists.intro; refine ⟨?_, ?_⟩; ((try simp only); (try simp only [e1]); (try simp only [Nat.zero_add]); (try simp only [Nat.mul_one]); (try simp only [Int.toNat_natCast]); (try simp only [e1]); (try simp only [Nat.zero_add]); (try simp only [Nat.mul_one]); (try simp only [Int.toNat_natCast]); first | exact at_drop_g (by omega) | exact cut_rest (by omega)))); conv => whnf))
      refine ⟨[1, 5, 6, 7, 8, 9, 10, 11, 12, 13, 14, 15, 16, 17, 18, 19, 20, 21, 22, 23, 24, 25, 26, 27, 28, 29, 30, 31, 32, 33, 34, 35, 36, 37, 38, 39, 40, 41, 42, 43, 44], [], j, ?_, j, rfl, by omega, ?_⟩
      · omega
      · rw [e2, ← hs, ew]; kernel_rfl
    · rw [decide_eq_false h] at f2
      rw [sub_mod256 hy (by omega)] at f3
      rw [wi, if_neg h] at hs
      ((conv => whnf); repeat ((first | refine ⟨fun _ => ?_, fun h => absurd ((h0).symm.trans h) (by decide)⟩ | refine ⟨fun h => absurd ((h0).symm.trans h) (by decide), fun _ => ?_⟩ | refine ⟨u64_nn _, ?_⟩ | ((with_reducible refine is_ER6 ?_); first | refine ⟨_, f1, ?_⟩ | refine ⟨_, f2, ?_⟩ | refine ⟨_, f3, ?_⟩ | refine ⟨_, r_Q6, ?_⟩) | refine ⟨_, rfl, ?_⟩ | refine ⟨by decide, ?_⟩ | refine ⟨rfl, ?_⟩ | refine ⟨fun _ => ?_, fun h => absurd h (by decide)⟩ | refine ⟨fun h => absurd h (by decide), fun _ => ?_⟩ | refine ⟨inI_of (by omega), ?_⟩ | refine ⟨⟨rfl, inI_of (by omega)⟩, ?_⟩ | refine ⟨⟨rfl, by decide⟩, ?_⟩ | refine ⟨by (try simp only); (try simp only [e1]); exact inI_of (by omega), ?_⟩ | refine ⟨⟨rfl, by (try simp only); (try simp only [e1]); exact inI_of (by omega)⟩, ?_⟩ | (apply Exists.intro; refine ⟨?_, ?_⟩; ((try simp only); (try simp only [e1]); (try simp only [Nat.zero_add]); (try simp only [Nat.mul_one]); (try simp only [Int.toNat_natCast]); (try simp only [e1]); (try simp only [Nat.zero_add]); (try simp only [Nat.mul_one]); (try simp only [Int.toNat_natCast]); first | exact at_g (by omega) | exact put_flat (by omega))) | refine ⟨_, cut_all (by omega), ?_⟩ | refine ⟨_, lay_all (by omega) (by omega), ?_⟩ | refine ⟨_, lay_all (by (try simp only); (try simp only [List.length_replicate]); (try simp only [List.length_cons]); (try simp only [List.length_nil]); omega) (by omega), ?_⟩ | refine ⟨by omega, ?_⟩ | refine ⟨len_flat (by omega), ?_⟩ | refine ⟨apart_uv _ _ _, ?_⟩ | refine ⟨_, resSlot_own rfl (by omega) (by first | exact .inl rfl | exact .inr ⟨rfl, rfl⟩), ?_⟩ | refine ⟨(by kernel_rfl : regB _ = true), ?_⟩ | refine ⟨⟨rfl, inI_of (by omega), by decide⟩, ?_⟩ | refine ⟨⟨rfl, by (try simp only); (try simp only [e1]); exact inI_of (by omega), by decide⟩, ?_⟩ | (apply Exists.intro; refine ⟨?_, ?_⟩; ((try simp only); (try simp only [e1]); (try simp only [Nat.zero_add]); (try simp only [Nat.mul_one]); (try simp only [Int.toNat_natCast]); (try simp only [e1]); (try simp only [Nat.zero_add]); (try simp only [Nat.mul_one]); (try simp only [Int.toNat_natCast]); first | exact at_drop_g (by omega) | exact cut_rest (by omega)))); conv => whnf))
      refine ⟨[1, 5, 6, 7, 8, 9, 10, 11, 12, 13, 14, 15, 16, 17, 18, 19, 20, 21, 22, 23, 24, 25, 26, 27, 28, 29, 30, 31, 32, 33, 34, 35, 36, 37, 38, 39, 40, 41, 42, 43, 44], [], j, ?_, j, rfl, by omega, ?_⟩
      · omega
      · rw [e2, ← hs]; kernel_rfl
theorem wide_call {N : Nat} {c : Option Nat} {b : List Int} (hN : b.length = N) (hb : By b) (hm : N ≤ 1000) : CallOk Tryz.prog 96 [.im 1 N c (.flat .u8 b)] (ret1 (W (nb b % qQ))) := execF_ok follows_ok ER6_ok Tryz.func96 (wide_exec N c b hN hb hm)
def orcR7 (f : Nat) (ds : List LV) : Option LRes :=
  match f with
  | 96 => match ds with
    | [.im 1 n _ (.flat .u8 b)] => if b.length = n ∧ byteOk b = true ∧ n ≤ 1000 then some (ret1 (W (nb b % qQ))) else none
    | _ => none
  | _ => orcR6 f ds
theorem orcR7_ok : Known Tryz.prog orcR7 := by
  intro f ds r h
  unfold orcR7 at h
  split at h
  · split at h
    · split at h
      · rename_i hc
        cases h
        exact .inl ⟨⟨_, Tryz.func96, name_ne _ (by kernel_rfl), rfl⟩, wide_call hc.1 (byteAll hc.2.1) hc.2.2⟩
      · cases h
    · cases h
  · exact orcR6_ok f ds r h
end Go.Proofs.YtdeigmjbcbjgeaaGreatDoor
/-
  Layer 9: the program's ladder.
-/
namespace Go.Proofs.YtdeigmjbcbjgeaaGreatDoor
open Go.RowKit

def nA (a b : Nat) : Nat := (a + b) % pP
def nS (a b : Nat) : Nat := (a + (pP - b % pP)) % pP
def nM (a b : Nat) : Nat := a * b % pP
theorem nA_lt (a b : Nat) : nA a b < 2 ^ 256 := mod_lt256 (a + b)
theorem nS_lt (a b : Nat) : nS a b < 2 ^ 256 := mod_lt256 (a + (pP - b % pP))
theorem nM_lt (a b : Nat) : nM a b < 2 ^ 256 := mod_lt256 (a * b)
theorem nS_lp (a b : Nat) : nS a b < pP := Nat.mod_lt _ pP_pos
theorem nM_lp (a b : Nat) : nM a b < pP := Nat.mod_lt _ pP_pos
theorem pAdd_row {a b : List Int} (hc : isF a = true ∧ isF b = true) : CallOk Tryz.prog 77 [.agg (.flat .u8 a), .agg (.flat .u8 b)] (ret1 (F (nA (nb a) (nb b)))) := by
  obtain ⟨h0, h1⟩ := hc
  have e0 := isF_eq h0
  have l0 := nb32_lt h0
  clear h0
  generalize nb a = n0 at *
  subst e0
  have e1 := isF_eq h1
  have l1 := nb32_lt h1
  clear h1
  generalize nb b = n1 at *
  subst e1
  exact pAdd_call n0 n1 l0 l1 
theorem pSub_row {a b : List Int} (hc : isF a = true ∧ isF b = true) : CallOk Tryz.prog 79 [.agg (.flat .u8 a), .agg (.flat .u8 b)] (ret1 (F (nS (nb a) (nb b)))) := by
  obtain ⟨h0, h1⟩ := hc
  have e0 := isF_eq h0
  have l0 := nb32_lt h0
  clear h0
  generalize nb a = n0 at *
  subst e0
  have e1 := isF_eq h1
  have l1 := nb32_lt h1
  clear h1
  generalize nb b = n1 at *
  subst e1
  exact pSub_call n0 n1 l0 l1 
theorem pMul_row {a b : List Int} (hc : isF a = true ∧ isF b = true) : CallOk Tryz.prog 45 [.agg (.flat .u8 a), .agg (.flat .u8 b)] (ret1 (F (nM (nb a) (nb b)))) := by
  obtain ⟨h0, h1⟩ := hc
  have e0 := isF_eq h0
  have l0 := nb32_lt h0
  clear h0
  generalize nb a = n0 at *
  subst e0
  have e1 := isF_eq h1
  have l1 := nb32_lt h1
  clear h1
  generalize nb b = n1 at *
  subst e1
  exact pMul_call n0 n1 l0 l1 
theorem pInv_row {a : List Int} (hc : isF a = true) : CallOk Tryz.prog 46 [.agg (.flat .u8 a)] (ret1 (F (pw (nb a) e3P))) := by
  have h0 := hc
  clear hc
  have e0 := isF_eq h0
  have l0 := nb32_lt h0
  clear h0
  generalize nb a = n0 at *
  subst e0
  exact pInv_call n0 l0 
theorem pCanonical_row {a : List Int} (hc : isF a = true) : CallOk Tryz.prog 75 [.agg (.flat .u8 a)] (ret1 (.v (.bool (decide ((nb a) < pP))))) := by
  have h0 := hc
  clear hc
  have e0 := isF_eq h0
  have l0 := nb32_lt h0
  clear h0
  generalize nb a = n0 at *
  subst e0
  exact pCanonical_call n0 l0 
def orcG0 (f : Nat) (ds : List LV) : Option LRes :=
  match f with
  | 77 => match ds with
    | [.agg (.flat .u8 a), .agg (.flat .u8 b)] => if isF a = true ∧ isF b = true then some (ret1 (F (nA (nb a) (nb b)))) else none
    | _ => none
  | 79 => match ds with
    | [.agg (.flat .u8 a), .agg (.flat .u8 b)] => if isF a = true ∧ isF b = true then some (ret1 (F (nS (nb a) (nb b)))) else none
    | _ => none
  | 45 => match ds with
    | [.agg (.flat .u8 a), .agg (.flat .u8 b)] => if isF a = true ∧ isF b = true then some (ret1 (F (nM (nb a) (nb b)))) else none
    | _ => none
  | 46 => match ds with
    | [.agg (.flat .u8 a)] => if isF a = true then some (ret1 (F (pw (nb a) e3P))) else none
    | _ => none
  | 75 => match ds with
    | [.agg (.flat .u8 a)] => if isF a = true then some (ret1 (.v (.bool (decide ((nb a) < pP))))) else none
    | _ => none
  | _ => orcR7 f ds
theorem orcG0_ok : Known Tryz.prog orcG0 := by
  intro f ds r h
  unfold orcG0 at h
  split at h
  · split at h
    · split at h
      · rename_i hc
        cases h
        exact .inl ⟨⟨_, Tryz.func77, name_ne _ (by kernel_rfl), rfl⟩, pAdd_row hc⟩
      · cases h
    · cases h
  · split at h
    · split at h
      · rename_i hc
        cases h
        exact .inl ⟨⟨_, Tryz.func79, name_ne _ (by kernel_rfl), rfl⟩, pSub_row hc⟩
      · cases h
    · cases h
  · split at h
    · split at h
      · rename_i hc
        cases h
        exact .inl ⟨⟨_, Tryz.func45, name_ne _ (by kernel_rfl), rfl⟩, pMul_row hc⟩
      · cases h
    · cases h
  · split at h
    · split at h
      · rename_i hc
        cases h
        exact .inl ⟨⟨_, Tryz.func46, name_ne _ (by kernel_rfl), rfl⟩, pInv_row hc⟩
      · cases h
    · cases h
  · split at h
    · split at h
      · rename_i hc
        cases h
        exact .inl ⟨⟨_, Tryz.func75, name_ne _ (by kernel_rfl), rfl⟩, pCanonical_row hc⟩
      · cases h
    · cases h
  · exact orcR7_ok f ds r h
def EG0 : Env := ⟨tyL, orcG0, false, noWk, noOrw⟩
theorem EG0_ok : EnvOk Tryz.prog EG0 := ⟨tyL_ok, orcG0_ok, noOrw_ok⟩
set_option maxRecDepth 100000 in
theorem o_pAdd {a b : Nat} (ha : a < 2 ^ 256) (hb : b < 2 ^ 256) : EG0.orc 77 [F a, F b] = some (ret1 (F (nA a b))) :=
  (if_pos ⟨isF_by _, isF_by _⟩).trans (by rw [nb_by32 ha, nb_by32 hb])
set_option maxRecDepth 100000 in
theorem o_pSub {a b : Nat} (ha : a < 2 ^ 256) (hb : b < 2 ^ 256) : EG0.orc 79 [F a, F b] = some (ret1 (F (nS a b))) :=
  (if_pos ⟨isF_by _, isF_by _⟩).trans (by rw [nb_by32 ha, nb_by32 hb])
set_option maxRecDepth 100000 in
theorem o_pMul {a b : Nat} (ha : a < 2 ^ 256) (hb : b < 2 ^ 256) : EG0.orc 45 [F a, F b] = some (ret1 (F (nM a b))) :=
  (if_pos ⟨isF_by _, isF_by _⟩).trans (by rw [nb_by32 ha, nb_by32 hb])
set_option maxRecDepth 100000 in
theorem o_pInv {a : Nat} (ha : a < 2 ^ 256) : EG0.orc 46 [F a] = some (ret1 (F (pw a e3P))) :=
  (if_pos (isF_by _)).trans (by rw [nb_by32 ha])
set_option maxRecDepth 100000 in
theorem o_pCanonical {a : Nat} (ha : a < 2 ^ 256) : EG0.orc 75 [F a] = some (ret1 (.v (.bool (decide (a < pP))))) :=
  (if_pos (isF_by _)).trans (by rw [nb_by32 ha])
theorem isN_EG0 (f : Nat) {ds : List LV} {K : LRes → Prop} (h : ∃ y, EG0.orc f ds = some y ∧ K y) : ∃ y, EG0.orc f ds = some y ∧ K y := h
end Go.Proofs.YtdeigmjbcbjgeaaGreatDoor
/-
  Layer 9: the ladder.
-/
namespace Go.Proofs.YtdeigmjbcbjgeaaGreatDoor
open Go.RowKit

@[ext] structure Lad where
  x : Nat
  z : Nat
  v : Nat
  w : Nat
def Lad.lt (s : Lad) : Prop := s.x < pP ∧ s.z < pP ∧ s.v < pP ∧ s.w < pP
theorem lt256 {a : Nat} (h : a < pP) : a < 2 ^ 256 := Nat.lt_trans h pP_lt
/-- Two numbers, side by side. -/
def b2 (x z : Nat) : List Int := by32 x ++ by32 z
theorem runs_eq {α : Type} {o : Option α} {K : α → Prop} {p : α} (h : o = some p) (hk : K p) : runs o K := by
  subst h
  exact hk
/-! bits of bytes -/
def okBit : Bool := (List.range 256).all fun n => (List.range 8).all fun s => decide (bits .and .u8 (((n : Nat) : Int).fdiv (2 ^ s)) 1 = if Nat.testBit n s then 1 else 0)
theorem bit_b8 (n s : Nat) (hn : n < 256) (hs : s < 8) : bits .and .u8 (((n : Nat) : Int).fdiv (2 ^ s)) 1 = if Nat.testBit n s then 1 else 0 := by
  have h : okBit = true := by kernel_rfl
  rw [okBit, List.all_eq_true] at h
  have h1 := h n (List.mem_range.2 hn)
  rw [List.all_eq_true] at h1
  exact of_decide_eq_true (h1 s (List.mem_range.2 hs))
theorem bt_bit (n i : Nat) : Nat.testBit (n / 2 ^ (8 * (i / 8)) % 256) (i % 8) = Nat.testBit n i := by
  rw [show (256 : Nat) = 2 ^ 8 from rfl, Nat.testBit_mod_two_pow, Nat.testBit_div_two_pow, decide_eq_true (show i % 8 < 8 by omega), Bool.true_and, show i % 8 + 8 * (i / 8) = i by omega]
theorem bit_k {l : List Int} {n i : Nat} (h : g l (i / 8) = bt n (i / 8)) : bits .and .u8 ((g l (i / 8)).fdiv (2 ^ min ((i : Int).tmod 8).toNat IntKind.u8.bits)) 1 = if Nat.testBit n i then 1 else 0 := by
  have e : min ((i : Int).tmod 8).toNat IntKind.u8.bits = i % 8 := by
    rw [show (8 : Int) = ((8 : Nat) : Int) from rfl, tmod_nat, Int.toNat_natCast]
    exact Nat.min_eq_left (by show i % 8 ≤ 8; omega)
  rw [h, bt, e, bit_b8 _ _ (by omega) (by omega), bt_bit]
theorem tdiv8k (i : Nat) (h : i < 1000) : IntKind.i64.wrap ((i : Int).tdiv 8) = ((i / 8 : Nat) : Int) := by
  rw [show (8 : Int) = ((8 : Nat) : Int) from rfl, ← Int.ofNat_tdiv, wrap64 (by omega)]
theorem tmod8_nn (i : Nat) : 0 ≤ (i : Int).tmod 8 := Int.tmod_nonneg _ (by omega)
end Go.Proofs.YtdeigmjbcbjgeaaGreatDoor
/-
  Layer 9: Clamp, Mult.
-/
namespace Go.Proofs.YtdeigmjbcbjgeaaGreatDoor
open Go.RowKit

/-- A number with the bits 0, 1, 2 and 255 cleared, and bit 254 set. -/
def clampN (n : Nat) : Nat := n % 2 ^ 254 / 8 * 8 + 2 ^ 254
theorem clampN_lt (n : Nat) : clampN n < 2 ^ 256 := by unfold clampN; omega
def okClamp : Bool := (List.range 256).all fun n => decide (bits .andNot .u8 (n : Nat) 7 = ((n / 8 * 8 : Nat) : Int)) && decide (bits .or .u8 (bits .andNot .u8 (n : Nat) 128) 64 = ((n % 64 + 64 : Nat) : Int)) && decide (bits .and .u8 (n : Nat) 248 = ((n / 8 * 8 : Nat) : Int)) && decide (bits .or .u8 (bits .and .u8 (n : Nat) 127) 64 = ((n % 64 + 64 : Nat) : Int)) && decide (bits .andNot .u8 (n : Nat) 128 = ((n % 128 : Nat) : Int)) && decide (bits .and .u8 (n : Nat) 127 = ((n % 128 : Nat) : Int))
theorem clamp_bits (n : Nat) (h : n < 256) : bits .andNot .u8 (n : Nat) 7 = ((n / 8 * 8 : Nat) : Int) ∧ bits .or .u8 (bits .andNot .u8 (n : Nat) 128) 64 = ((n % 64 + 64 : Nat) : Int) ∧ bits .and .u8 (n : Nat) 248 = ((n / 8 * 8 : Nat) : Int) ∧ bits .or .u8 (bits .and .u8 (n : Nat) 127) 64 = ((n % 64 + 64 : Nat) : Int) ∧ bits .andNot .u8 (n : Nat) 128 = ((n % 128 : Nat) : Int) ∧ bits .and .u8 (n : Nat) 127 = ((n % 128 : Nat) : Int) := by
  have h1 : okClamp = true := by kernel_rfl
  rw [okClamp, List.all_eq_true] at h1
  have h2 := h1 n (List.mem_range.2 h)
  simp only [Bool.and_eq_true, decide_eq_true_eq] at h2
  obtain ⟨⟨⟨⟨⟨a, b⟩, c⟩, d⟩, e⟩, f⟩ := h2
  exact ⟨a, b, c, d, e, f⟩
theorem bt_clamp (n i : Nat) (h : i < 32) : bt (clampN n) i = if i = 0 then ((n / 2 ^ (8 * 0) % 256 / 8 * 8 : Nat) : Int) else if i = 31 then ((n / 2 ^ (8 * 31) % 256 % 64 + 64 : Nat) : Int) else bt n i := by
  have hi : i = 0 ∨ i = 1 ∨ i = 2 ∨ i = 3 ∨ i = 4 ∨ i = 5 ∨ i = 6 ∨ i = 7 ∨ i = 8 ∨ i = 9 ∨ i = 10 ∨ i = 11 ∨ i = 12 ∨ i = 13 ∨ i = 14 ∨ i = 15 ∨ i = 16 ∨ i = 17 ∨ i = 18 ∨ i = 19 ∨ i = 20 ∨ i = 21 ∨ i = 22 ∨ i = 23 ∨ i = 24 ∨ i = 25 ∨ i = 26 ∨ i = 27 ∨ i = 28 ∨ i = 29 ∨ i = 30 ∨ i = 31 := by omega
  unfold clampN bt
  rcases hi with rfl | rfl | rfl | rfl | rfl | rfl | rfl | rfl | rfl | rfl | rfl | rfl | rfl | rfl | rfl | rfl | rfl | rfl | rfl | rfl | rfl | rfl | rfl | rfl | rfl | rfl | rfl | rfl | rfl | rfl | rfl | rfl
  all_goals (simp only [Nat.reduceMul, Nat.reducePow, Nat.reduceEqDiff, if_true, if_false]; omega)
theorem bt_mask (n i : Nat) (h : i < 32) : bt (n % 2 ^ 255) i = if i = 31 then ((n / 2 ^ (8 * 31) % 256 % 128 : Nat) : Int) else bt n i := by
  have hi : i = 0 ∨ i = 1 ∨ i = 2 ∨ i = 3 ∨ i = 4 ∨ i = 5 ∨ i = 6 ∨ i = 7 ∨ i = 8 ∨ i = 9 ∨ i = 10 ∨ i = 11 ∨ i = 12 ∨ i = 13 ∨ i = 14 ∨ i = 15 ∨ i = 16 ∨ i = 17 ∨ i = 18 ∨ i = 19 ∨ i = 20 ∨ i = 21 ∨ i = 22 ∨ i = 23 ∨ i = 24 ∨ i = 25 ∨ i = 26 ∨ i = 27 ∨ i = 28 ∨ i = 29 ∨ i = 30 ∨ i = 31 := by omega
  unfold bt
  rcases hi with rfl | rfl | rfl | rfl | rfl | rfl | rfl | rfl | rfl | rfl | rfl | rfl | rfl | rfl | rfl | rfl | rfl | rfl | rfl | rfl | rfl | rfl | rfl | rfl | rfl | rfl | rfl | rfl | rfl | rfl | rfl | rfl
  all_goals (simp only [Nat.reduceMul, Nat.reducePow, Nat.reduceEqDiff, if_true, if_false]; omega)
/-- Byte 0 without three bits, byte 31 without bit 7 and with bit 6. -/
theorem clamp_list (n : Nat) (a b : Int) (ha : a = ((n / 2 ^ (8 * 0) % 256 / 8 * 8 : Nat) : Int)) (hb : b = ((n / 2 ^ (8 * 31) % 256 % 64 + 64 : Nat) : Int)) : ((by32 n).set 0 a).set 31 b = by32 (clampN n) := by
  refine ext_g (by rw [List.length_set, List.length_set, byk_len, byk_len]) fun i hi => ?_
  rw [List.length_set, List.length_set, byk_len] at hi
  rw [g_byk hi, bt_clamp n i hi, g_set (by rw [List.length_set, byk_len]; decide), g_set (by rw [byk_len]; decide), g_byk hi]
  by_cases h31 : i = 31
  · subst h31
    rw [if_pos rfl, if_neg (by decide), if_pos rfl]
    exact hb
  · rw [if_neg h31]
    by_cases h0 : i = 0
    · subst h0
      rw [if_pos rfl, if_pos rfl]
      exact ha
    · rw [if_neg h0, if_neg h0, if_neg h31]
theorem mask_list (n : Nat) (b : Int) (hb : b = ((n / 2 ^ (8 * 31) % 256 % 128 : Nat) : Int)) : (by32 n).set 31 b = by32 (n % 2 ^ 255) := by
  refine ext_g (by rw [List.length_set, byk_len, byk_len]) fun i hi => ?_
  rw [List.length_set, byk_len] at hi
  rw [g_byk hi, bt_mask n i hi, g_set (by rw [byk_len]; decide), g_byk hi]
  by_cases h31 : i = 31
  · subst h31
    rw [if_pos rfl, if_pos rfl]
    exact hb
  · rw [if_neg h31, if_neg h31]
def okOr : Bool := (List.range 128).all fun n => decide (bits .or .u8 (n : Nat) 0 = ((n : Nat) : Int)) && decide (bits .or .u8 (n : Nat) 128 = ((n + 128 : Nat) : Int))
theorem or_bits (n : Nat) (h : n < 128) : bits .or .u8 (n : Nat) 0 = ((n : Nat) : Int) ∧ bits .or .u8 (n : Nat) 128 = ((n + 128 : Nat) : Int) := by
  have h1 : okOr = true := by kernel_rfl
  rw [okOr, List.all_eq_true] at h1
  have h2 := h1 n (List.mem_range.2 h)
  simp only [Bool.and_eq_true, decide_eq_true_eq] at h2
  exact h2
theorem bt_top (n b i : Nat) (h : i < 32) (hn : n < 2 ^ 255) (hb : b ≤ 1) : bt (n + b * 2 ^ 255) i = if i = 31 then ((n / 2 ^ (8 * 31) % 256 + 128 * b : Nat) : Int) else bt n i := by
  have hi : i = 0 ∨ i = 1 ∨ i = 2 ∨ i = 3 ∨ i = 4 ∨ i = 5 ∨ i = 6 ∨ i = 7 ∨ i = 8 ∨ i = 9 ∨ i = 10 ∨ i = 11 ∨ i = 12 ∨ i = 13 ∨ i = 14 ∨ i = 15 ∨ i = 16 ∨ i = 17 ∨ i = 18 ∨ i = 19 ∨ i = 20 ∨ i = 21 ∨ i = 22 ∨ i = 23 ∨ i = 24 ∨ i = 25 ∨ i = 26 ∨ i = 27 ∨ i = 28 ∨ i = 29 ∨ i = 30 ∨ i = 31 := by omega
  have hb : b = 0 ∨ b = 1 := by omega
  unfold bt
  rcases hb with rfl | rfl
  all_goals (rcases hi with rfl | rfl | rfl | rfl | rfl | rfl | rfl | rfl | rfl | rfl | rfl | rfl | rfl | rfl | rfl | rfl | rfl | rfl | rfl | rfl | rfl | rfl | rfl | rfl | rfl | rfl | rfl | rfl | rfl | rfl | rfl | rfl)
  all_goals (simp only [Nat.reduceMul, Nat.reducePow, Nat.reduceEqDiff, if_true, if_false]; omega)
theorem top_list (n b : Nat) (e : Int) (hn : n < 2 ^ 255) (hb : b ≤ 1) (he : e = ((128 * b : Nat) : Int)) : (by32 n).set 31 (bits .or .u8 (bt n 31) e) = by32 (n + b * 2 ^ 255) := by
  refine ext_g (by rw [List.length_set, byk_len, byk_len]) fun i hi => ?_
  rw [List.length_set, byk_len] at hi
  rw [g_byk hi, bt_top n b i hi hn hb, g_set (by rw [byk_len]; decide), g_byk hi]
  by_cases h31 : i = 31
  · subst h31
    rw [if_pos rfl, if_pos rfl, bt, he]
    have h := or_bits (n / 2 ^ (8 * 31) % 256) (by omega)
    have : b = 0 ∨ b = 1 := by omega
    rcases this with rfl | rfl
    · exact h.1
    · exact h.2
  · rw [if_neg h31, if_neg h31]
end Go.Proofs.YtdeigmjbcbjgeaaGreatDoor
/-
  Layer 9: the answer's ladder.
-/
namespace Go.Proofs.YtdeigmjbcbjgeaaGreatDoor
open Go.RowKit

theorem e3_same : e3R = e3P := by kernel_rfl
end Go.Proofs.YtdeigmjbcbjgeaaGreatDoor
/-
  Layer 10: the answer's D, Neutral, Sum, Times.
-/
namespace Go.Proofs.YtdeigmjbcbjgeaaGreatDoor
open Go.RowKit

def dN : Nat := 37095705934669439343138083508754565189542113879843219016388785533085940283555
theorem dN_lt : dN < pP := by decide
@[ext] structure Pn where
  x : Nat
  y : Nat
  z : Nat
  t : Nat
def Pn.lt (p : Pn) : Prop := p.x < pP ∧ p.y < pP ∧ p.z < pP ∧ p.t < pP
def w4 (p : Pn) : List Int := wd p.x ++ (wd p.y ++ (wd p.z ++ wd p.t))
/-- The sum of two points. -/
def sumN (d : Nat) (p q : Pn) : Pn where
  x := nM (nS (nM (nA p.y p.x) (nA q.y q.x)) (nM (nS p.y p.x) (nS q.y q.x))) (nS (nA (nM p.z q.z) (nM p.z q.z)) (nM (nM p.t q.t) (nA d d)))
  y := nM (nA (nA (nM p.z q.z) (nM p.z q.z)) (nM (nM p.t q.t) (nA d d))) (nA (nM (nA p.y p.x) (nA q.y q.x)) (nM (nS p.y p.x) (nS q.y q.x)))
  z := nM (nS (nA (nM p.z q.z) (nM p.z q.z)) (nM (nM p.t q.t) (nA d d))) (nA (nA (nM p.z q.z) (nM p.z q.z)) (nM (nM p.t q.t) (nA d d)))
  t := nM (nS (nM (nA p.y p.x) (nA q.y q.x)) (nM (nS p.y p.x) (nS q.y q.x))) (nA (nM (nA p.y p.x) (nA q.y q.x)) (nM (nS p.y p.x) (nS q.y q.x)))
def neuN : Pn := ⟨0, 1, 1, 0⟩
theorem neuN_lt : neuN.lt := by unfold Pn.lt neuN; decide
/-- The multiple after j bits of k, from bit 255 on. -/
def timN (d k : Nat) (p : Pn) : Nat → Pn
  | 0 => neuN
  | j + 1 => if k.testBit (255 - j) then sumN d (sumN d (timN d k p j) (timN d k p j)) p else sumN d (timN d k p j) (timN d k p j)
def Pn.ok (p : Pn) : Bool := decide (p.x < pP) && decide (p.y < pP) && decide (p.z < pP) && decide (p.t < pP)
theorem Pn.ok_iff {p : Pn} : p.ok = true ↔ p.lt := by simp [Pn.ok, Pn.lt, and_assoc]
end Go.Proofs.YtdeigmjbcbjgeaaGreatDoor
/-
  Layer 10: the answer's Write and Read.
-/
namespace Go.Proofs.YtdeigmjbcbjgeaaGreatDoor
open Go.RowKit

/-- The number that a point is written as. -/
def wrN (p : Pn) : Nat := nM p.y (pw p.z e3R) + nM p.x (pw p.z e3R) % 2 * 2 ^ 255
theorem rootR_lp (x : Nat) : (rootR x).1 < pP := by
  unfold rootR
  split
  · split
    · rename_i h1 h2
      have hc := candR_lt x
      show minR 0 (candR x) < pP
      unfold minR
      split <;> omega
    · exact candR_lt x
  · exact pP_pos
/-- What a number is read as. -/
def rdX (n : Nat) : Nat × Bool := rootR (nM (nS (nM (n % 2 ^ 255) (n % 2 ^ 255)) 1) (pw (nA (nM dN (nM (n % 2 ^ 255) (n % 2 ^ 255))) 1) e3R))
def rdOk (n : Nat) : Bool := decide (n % 2 ^ 255 < pP) && (rdX n).2 && !(decide ((rdX n).1 = 0) && decide (n / 2 ^ 255 = 1))
def rdS (n : Nat) : Nat := if n / 2 ^ 255 = 1 then nS 0 (rdX n).1 else (rdX n).1
def rdP (n : Nat) : Pn := if rdOk n then ⟨rdS n, n % 2 ^ 255, 1, nM (rdS n) (n % 2 ^ 255)⟩ else ⟨0, 0, 0, 0⟩
theorem rdS_lp (n : Nat) : rdS n < pP := by
  unfold rdS
  split
  · exact nS_lp _ _
  · exact rootR_lp _
theorem rdP_lt (n : Nat) : (rdP n).lt := by
  unfold rdP
  split
  · rename_i h
    simp only [rdOk, Bool.and_eq_true, decide_eq_true_eq] at h
    exact ⟨rdS_lp n, h.1.1, by show 1 < pP; decide, nM_lp _ _⟩
  · exact ⟨pP_pos, pP_pos, pP_pos, pP_pos⟩
end Go.Proofs.YtdeigmjbcbjgeaaGreatDoor
/-
  Layer 10: the answer's Opposite, Base, BasePoint, Decodes, Add, Mult, Small.
-/
namespace Go.Proofs.YtdeigmjbcbjgeaaGreatDoor
open Go.RowKit

def baseN : Nat := 46316835694926478169428394003475163141307993866256225615783033603165251855960
/-- The negative of a point. -/
def oppN (p : Pn) : Pn := ⟨nS 0 p.x, p.y, p.z, nS 0 p.t⟩
theorem by32_z : by32 0 = List.replicate 32 0 := by kernel_rfl
end Go.Proofs.YtdeigmjbcbjgeaaGreatDoor
/-
  Layer 9: Public, Shared.
-/
namespace Go.Proofs.YtdeigmjbcbjgeaaGreatDoor
open Go.RowKit

theorem resSlot_all {β β' : Nat → Option Blk} {b e : Nat} {l : List Int} (hb : β b = some ⟨.flat .u8 l, e, false⟩) (hl : l.length = 32) (h7 : b % 8 ≠ 7) : resSlot β β' (.sl 1 b 0 32 (some 32)) = some (.own 1 32 e (.flat .u8 l)) := by
  rw [resSlot_own hb (by omega) (.inr ⟨rfl, by rw [hl]; rfl⟩) h7, List.take_of_length_le (by omega)]
end Go.Proofs.YtdeigmjbcbjgeaaGreatDoor
