/-
  Layer 8: the program's mul, power, remainder.
-/
import Derived.Test.YtdeigmjbcbjgeaaDoorQF1
import Derived.Test.YtdeigmjbcbjgeaaDoorQF5
namespace Go.Proofs.YtdeigmjbcbjgeaaDoor
open Go.RowKit

theorem pP_pos : 0 < pP := by unfold pP; omega
theorem pP_lt : pP < 2 ^ 256 := by unfold pP; omega
theorem qQ_pos : 0 < qQ := by unfold qQ; omega
theorem mod_lt256 (n : Nat) : n % pP < 2 ^ 256 := Nat.lt_trans (Nat.mod_lt n pP_pos) pP_lt
theorem wd8_sums (n : Nat) (h : n < 2 ^ 512) : ((n % 2 ^ 256 : Nat) : Int) = dg n 0 + 18446744073709551616 * dg n 1 + 340282366920938463463374607431768211456 * dg n 2 + 6277101735386680763835789423207666416102355444464034512896 * dg n 3 ∧
    ((n / 2 ^ 256 : Nat) : Int) = dg n 4 + 18446744073709551616 * dg n 5 + 340282366920938463463374607431768211456 * dg n 6 + 6277101735386680763835789423207666416102355444464034512896 * dg n 7 := by
  obtain ⟨a, b, c, d, e1, _, _, _, _, q1⟩ := wd_split (n % 2 ^ 256) (Nat.mod_lt _ (by decide))
  obtain ⟨e, f, g, k, e2, _, _, _, _, q2⟩ := wd_split (n / 2 ^ 256) (by omega)
  have := wd8_two n
  rw [e1, e2] at this
  simp only [wd8, List.cons_append, List.nil_append, List.cons.injEq, and_true] at this
  obtain ⟨g0, g1, g2, g3, g4, g5, g6, g7⟩ := this
  rw [g0, g1, g2, g3, g4, g5, g6, g7]
  exact ⟨q1, q2⟩
set_option exponentiation.threshold 600 in
theorem mul_lt512 {a b : Nat} (ha : a < 2 ^ 256) (hb : b < 2 ^ 256) : a * b < 2 ^ 512 := by
  have h := Nat.mul_lt_mul_of_lt_of_lt ha hb
  omega
theorem U38 : U 38 := ⟨by decide, by decide⟩
theorem red38 (n : Nat) : (n / 2 ^ 256 * 38 + n % 2 ^ 256) % pP = n % pP := by
  have h : n = n / 2 ^ 256 * 38 + n % 2 ^ 256 + pP * (2 * (n / 2 ^ 256)) := by unfold pP; omega
  rw [show n % pP = (n / 2 ^ 256 * 38 + n % 2 ^ 256 + pP * (2 * (n / 2 ^ 256))) % pP by rw [← h], Nat.add_mul_mod_self_left]
/-- Words 0 to 3 of a number, and 38 times words 4 to 7. -/
theorem fold38 {n : Nat} (h : n < 2 ^ 512) {l0 l1 l2 l3 h0 h1 h2 h3 : Int} (u0 : U l0) (u1 : U l1) (u2 : U l2) (u3 : U l3) (q0 : l0 + 18446744073709551616 * h0 = dg n 4 * 38 + dg n 0 + 0)
    (q1 : l1 + 18446744073709551616 * h1 = dg n 5 * 38 + dg n 1 + h0) (q2 : l2 + 18446744073709551616 * h2 = dg n 6 * 38 + dg n 2 + h1) (q3 : l3 + 18446744073709551616 * h3 = dg n 7 * 38 + dg n 3 + h2) :
    wd ((n / 2 ^ 256 * 38 + n % 2 ^ 256) % 2 ^ 256) = [l0, l1, l2, l3] ∧ (((n / 2 ^ 256 * 38 + n % 2 ^ 256) / 2 ^ 256 : Nat) : Int) = h3 := by
  obtain ⟨s0, s1⟩ := wd8_sums n h
  rw [wd_mod]
  refine wd_of u0 u1 u2 u3 ?_
  rw [Int.natCast_add, Int.natCast_mul, s0, s1]
  generalize dg n 0 = a at *; generalize dg n 1 = b at *; generalize dg n 2 = c at *; generalize dg n 3 = d at *
  generalize dg n 4 = e at *; generalize dg n 5 = f at *; generalize dg n 6 = g at *; generalize dg n 7 = k at *
  clear s0 s1
  omega
theorem product_row {a b c : List Int} (hc : isW a = true ∧ isW b = true ∧ isW c = true) : CallOk Tryd.prog 35 [.agg (.flat .u64 a), .agg (.flat .u64 b), .agg (.flat .u64 c)] (ret1 (W8 ((vl a) * (vl b) + (vl c)))) := by
  obtain ⟨h0, h1, h2⟩ := hc
  have e0 := isW_eq h0
  have l0 := vl_lt h0
  clear h0
  generalize vl a = n0 at *
  subst e0
  have e1 := isW_eq h1
  have l1 := vl_lt h1
  clear h1
  generalize vl b = n1 at *
  subst e1
  have e2 := isW_eq h2
  have l2 := vl_lt h2
  clear h2
  generalize vl c = n2 at *
  subst e2
  exact product_call n0 n1 n2 l0 l1 l2 
def orcF6 (f : Nat) (ds : List LV) : Option LRes :=
  match f with
  | 35 => match ds with
    | [.agg (.flat .u64 a), .agg (.flat .u64 b), .agg (.flat .u64 c)] => if isW a = true ∧ isW b = true ∧ isW c = true then some (ret1 (W8 ((vl a) * (vl b) + (vl c)))) else none
    | _ => none
  | 61 => match ds with
    | [.agg (.flat .u64 a), .v (.int .u64 b)] => if isW a = true ∧ U b ∧ (b.toNat) ≤ 40 then some (ret1 (W (((vl a) + 2 ^ 256 * (b.toNat)) % pP))) else none
    | _ => none
  | _ => orcF4 f ds
theorem orcF6_ok : Known Tryd.prog orcF6 := by
  intro f ds r h
  unfold orcF6 at h
  split at h
  · split at h
    · split at h
      · rename_i hc
        cases h
        exact .inl ⟨⟨_, Tryd.func35, name_ne _ (by kernel_rfl), rfl⟩, product_row hc⟩
      · cases h
    · cases h
  · split at h
    · split at h
      · rename_i hc
        cases h
        exact .inl ⟨⟨_, Tryd.func61, name_ne _ (by kernel_rfl), rfl⟩, fold_row hc⟩
      · cases h
    · cases h
  · exact orcF4_ok f ds r h
def EF6 : Env := ⟨tyL, orcF6, false, noWk, noOrw⟩
theorem EF6_ok : EnvOk Tryd.prog EF6 := ⟨tyL_ok, orcF6_ok, noOrw_ok⟩
theorem is_EF6 {f : Nat} {ds : List LV} {K : LRes → Prop} (h : ∃ y, EF6.orc f ds = some y ∧ K y) : ∃ y, EF6.orc f ds = some y ∧ K y := h
theorem o_product {a b c : Nat} (ha : a < 2 ^ 256) (hb : b < 2 ^ 256) (hc : c < 2 ^ 256) : EF6.orc 35 [W a, W b, W c] = some (ret1 (W8 (a * b + c))) :=
  (if_pos ⟨isW_wd ha, isW_wd hb, isW_wd hc⟩).trans (by rw [wd_vl _ ha, wd_vl _ hb, wd_vl _ hc])
theorem o6_fold {a b : Nat} (ha : a < 2 ^ 256) (hb : b < 18446744073709551616) (x0 : b ≤ 40) : EF6.orc 61 [W a, iv .u64 (b : Nat)] = some (ret1 (W ((a + 2 ^ 256 * b) % pP))) :=
  (if_pos ⟨isW_wd ha, ⟨by omega, by omega⟩, by first | exact x0 | (rw [wd_vl _ ha, Int.toNat_natCast]; exact x0) | (rw [wd_vl _ ha]; exact x0) | (rw [Int.toNat_natCast]; exact x0)⟩).trans (by rw [wd_vl _ ha, Int.toNat_natCast])
theorem o6_word {x y a b : Int} (ux : U x) (uy : U y) (ua : U a) (ub : U b) : ∃ l h : Int, EF6.orc 54 [iv .u64 x, iv .u64 y, iv .u64 a, iv .u64 b] = some (.many [.val (iv .u64 l), .val (iv .u64 h)]) ∧ U l ∧ U h ∧ l + 18446744073709551616 * h = x * y + a + b := oWord ux uy ua ub
set_option maxRecDepth 100000 in
set_option maxHeartbeats 1600000 in
theorem mul_call (a b : Nat) (ha : a < 2 ^ 256) (hb : b < 2 ^ 256) : CallOk Tryd.prog 46 [W a, W b] (ret1 (W (a * b % pP))) := by
  have hn := mul_lt512 ha hb
  have f := o_product (c := 0) ha hb (by decide)
  rw [Nat.add_zero, show W 0 = .agg (.flat .u64 [0, 0, 0, 0]) by kernel_rfl] at f
  obtain ⟨n, en⟩ : ∃ n, n = a * b := ⟨_, rfl⟩
  rw [← en] at f hn ⊢
  obtain ⟨l0, h0, g0, u0, v0, q0⟩ := o6_word (dg_U n 4) U38 (dg_U n 0) U_zero
  obtain ⟨l1, h1, g1, u1, v1, q1⟩ := o6_word (dg_U n 5) U38 (dg_U n 1) v0
  obtain ⟨l2, h2, g2, u2, v2, q2⟩ := o6_word (dg_U n 6) U38 (dg_U n 2) v1
  obtain ⟨l3, h3, g3, u3, v3, q3⟩ := o6_word (dg_U n 7) U38 (dg_U n 3) v2
  obtain ⟨e1, e2⟩ := fold38 hn u0 u1 u2 u3 q0 q1 q2 q3
  have er := red38 n
  have hs : n / 2 ^ 256 * 38 + n % 2 ^ 256 < 2 ^ 256 * 40 := by omega
  generalize n / 2 ^ 256 * 38 + n % 2 ^ 256 = s at e1 e2 er hs
  rw [W8, wd8] at f
  generalize dg n 0 = d0 at *; generalize dg n 1 = d1 at *; generalize dg n 2 = d2 at *; generalize dg n 3 = d3 at *
  generalize dg n 4 = d4 at *; generalize dg n 5 = d5 at *; generalize dg n 6 = d6 at *; generalize dg n 7 = d7 at *
  have k := o6_fold (a := s % 2 ^ 256) (b := s / 2 ^ 256) (by omega) (by omega) (by omega)
  rw [W, e1, e2, show s % 2 ^ 256 + 2 ^ 256 * (s / 2 ^ 256) = s by omega, er] at k
  refine execF_ok follows_ok EF6_ok Tryd.func46 ?_
  ((conv => whnf); repeat ((first | refine .inr ⟨5, ?_⟩ | ((with_reducible refine is_EF6 ?_); first | refine ⟨_, f, ?_⟩ | refine ⟨_, g0, ?_⟩ | refine ⟨_, g1, ?_⟩ | refine ⟨_, g2, ?_⟩ | refine ⟨_, g3, ?_⟩ | refine ⟨_, k, ?_⟩) | refine ⟨_, rfl, ?_⟩ | refine ⟨by decide, ?_⟩ | refine ⟨rfl, ?_⟩ | refine ⟨fun _ => ?_, fun h => absurd h (by decide)⟩ | refine ⟨fun h => absurd h (by decide), fun _ => ?_⟩); conv => whnf))
  rfl
/-! bits -/
theorem bit_word (n s : Nat) (hn : n < 18446744073709551616) (hs : s < 64) : bits .and .u64 (((n : Nat) : Int).fdiv (2 ^ min ((s : Nat) : Int).toNat IntKind.u64.bits)) 1 = if Nat.testBit n s then 1 else 0 := by
  have e : min ((s : Nat) : Int).toNat IntKind.u64.bits = s := by rw [Int.toNat_natCast]; exact Nat.min_eq_left (by show s ≤ 64; omega)
  rw [e, Int.fdiv_eq_ediv_of_nonneg _ (Int.pow_nonneg (by omega)), show ((2 : Int) ^ s) = ((2 ^ s : Nat) : Int) by push_cast; rfl, ← Int.natCast_ediv]
  have hd : n / 2 ^ s < 18446744073709551616 := Nat.lt_of_le_of_lt (Nat.div_le_self _ _) hn
  have h := bits_and_u64_nat (n / 2 ^ s) 1 hd (by omega)
  rw [show (1 : Int) = ((1 : Nat) : Int) from rfl, h, Nat.and_one_is_mod, Nat.testBit_eq_decide_div_mod_eq]
  have : n / 2 ^ s % 2 = 0 ∨ n / 2 ^ s % 2 = 1 := by omega
  rcases this with h | h <;> rw [h] <;> simp
theorem dg_bit (e i : Nat) : Nat.testBit (e / 18446744073709551616 ^ (i / 64) % 18446744073709551616) (i % 64) = Nat.testBit e i := by
  rw [show (18446744073709551616 : Nat) = 2 ^ 64 from rfl, ← Nat.pow_mul, Nat.testBit_mod_two_pow, Nat.testBit_div_two_pow, decide_eq_true (Nat.mod_lt _ (by decide)), Bool.true_and]
  congr 1
  omega
/-- Bit i of a number of words. -/
theorem bit_g {l : List Int} {e i : Nat} (h : g l (i / 64) = dg e (i / 64)) : bits .and .u64 ((g l (i / 64)).fdiv (2 ^ min ((i : Int).tmod 64).toNat IntKind.u64.bits)) 1 = if Nat.testBit e i then 1 else 0 := by
  rw [h, dg, show (64 : Int) = ((64 : Nat) : Int) from rfl, tmod_nat, bit_word _ _ (Nat.mod_lt _ (by decide)) (Nat.mod_lt _ (by decide)), dg_bit]
theorem g_wd (e j : Nat) (h : j < 4) : g (wd e) j = dg e j := by
  have : j = 0 ∨ j = 1 ∨ j = 2 ∨ j = 3 := by omega
  rcases this with rfl | rfl | rfl | rfl <;> rfl
theorem g_wd8 (e j : Nat) (h : j < 8) : g (wd8 e) j = dg e j := by
  have : j = 0 ∨ j = 1 ∨ j = 2 ∨ j = 3 ∨ j = 4 ∨ j = 5 ∨ j = 6 ∨ j = 7 := by omega
  rcases this with rfl | rfl | rfl | rfl | rfl | rfl | rfl | rfl <;> rfl
theorem tdiv64 (i : Nat) (h : i < 1000) : IntKind.i64.wrap ((i : Int).tdiv 64) = ((i / 64 : Nat) : Int) := by
  rw [show (64 : Int) = ((64 : Nat) : Int) from rfl, ← Int.ofNat_tdiv, wrap64 (by omega)]
theorem tmod64_nn (i : Nat) : 0 ≤ (i : Int).tmod 64 := Int.tmod_nonneg _ (by omega)
theorem down1 (j : Nat) : ((j + 1 : Nat) : Int) - 1 = (j : Int) := by omega
theorem down64 (j : Nat) (h : j < 1000) : IntKind.i64.wrap ((j : Int) - 1) = (j : Int) - 1 := wrap64 (by omega)
/-! power -/
/-- x to the number that the bits of e from i on make, modulo p. -/
def pwk (x e : Nat) : Nat → Nat
  | 0 => 1
  | k + 1 => if Nat.testBit e (255 - k) then pwk x e k * pwk x e k % pP * x % pP else pwk x e k * pwk x e k % pP
def pw (x e : Nat) : Nat := pwk x e 256
theorem pwk_lt (x e k : Nat) : pwk x e k < 2 ^ 256 := by
  cases k with
  | zero => rw [pwk]; decide
  | succ k => rw [pwk]; split <;> exact mod_lt256 _
theorem pw_lt (x e : Nat) : pw x e < 2 ^ 256 := pwk_lt _ _ _
theorem mul_row {a b : List Int} (hc : isW a = true ∧ isW b = true) : CallOk Tryd.prog 46 [.agg (.flat .u64 a), .agg (.flat .u64 b)] (ret1 (W ((vl a) * (vl b) % pP))) := by
  obtain ⟨h0, h1⟩ := hc
  have e0 := isW_eq h0
  have l0 := vl_lt h0
  clear h0
  generalize vl a = n0 at *
  subst e0
  have e1 := isW_eq h1
  have l1 := vl_lt h1
  clear h1
  generalize vl b = n1 at *
  subst e1
  exact mul_call n0 n1 l0 l1 
def orcF7 (f : Nat) (ds : List LV) : Option LRes :=
  match f with
  | 46 => match ds with
    | [.agg (.flat .u64 a), .agg (.flat .u64 b)] => if isW a = true ∧ isW b = true then some (ret1 (W ((vl a) * (vl b) % pP))) else none
    | _ => none
  | _ => orcF6 f ds
theorem orcF7_ok : Known Tryd.prog orcF7 := by
  intro f ds r h
  unfold orcF7 at h
  split at h
  · split at h
    · split at h
      · rename_i hc
        cases h
        exact .inl ⟨⟨_, Tryd.func46, name_ne _ (by kernel_rfl), rfl⟩, mul_row hc⟩
      · cases h
    · cases h
  · exact orcF6_ok f ds r h
def EF7 : Env := ⟨tyL, orcF7, false, noWk, noOrw⟩
theorem EF7_ok : EnvOk Tryd.prog EF7 := ⟨tyL_ok, orcF7_ok, noOrw_ok⟩
theorem is_EF7 {f : Nat} {ds : List LV} {K : LRes → Prop} (h : ∃ y, EF7.orc f ds = some y ∧ K y) : ∃ y, EF7.orc f ds = some y ∧ K y := h
theorem o_mul {a b : Nat} (ha : a < 2 ^ 256) (hb : b < 2 ^ 256) : EF7.orc 46 [W a, W b] = some (ret1 (W (a * b % pP))) :=
  (if_pos ⟨isW_wd ha, isW_wd hb⟩).trans (by rw [wd_vl _ ha, wd_vl _ hb])
set_option maxRecDepth 100000 in
set_option maxHeartbeats 1600000 in
theorem power_exec (x e : Nat) (l : List Int) (hl : l = wd e) (hx : x < 2 ^ 256) : execF EF7 Tryd.f47 [W x, .agg (.flat .u64 l)] (ret1 (W (pw x e))) := by
  have hlen : l.length = 4 := by rw [hl]; rfl
  ((conv => whnf); repeat ((first | refine ⟨_, rfl, ?_⟩ | refine ⟨by decide, ?_⟩); conv => whnf))
  refine .inl ⟨fun m st => ∃ i : Nat, m = i ∧ i ≤ 256 ∧ st = ⟨[.poison, .poison, .ptr 16 0, .ptr 24 0, .ptr 32 0, .ptr 40 0, iv .i64 ((i : Int) - 1), .poison, .poison, .poison, .poison, .poison, .poison, .poison, .poison, .poison, .poison, .poison, .poison, .poison, .poison, .poison, .poison, .poison, .poison, .poison, .poison, .poison],
      [(16, ⟨.flat .u64 (wd x), 63, false⟩), (24, ⟨.flat .u64 l, 63, false⟩), (32, ⟨.flat .u64 [0, 0, 0, 0], 63, false⟩), (40, ⟨.flat .u64 (wd (pwk x e (256 - i))), 63, false⟩)]⟩,
      ⟨[0, 1, 7, 8, 9, 10, 11, 12, 13, 14, 15, 16, 17, 18, 19, 20, 21, 22, 23, 24, 25, 26, 27], [], 256, 256, rfl, by omega, by kernel_rfl⟩, ?_⟩
  rintro i _ ⟨_, rfl, hi, rfl⟩
  cases i with
  | zero =>
    conv => whnf
    refine ⟨fun h => absurd h (by decide), fun _ => ?_⟩
    ((conv => whnf); repeat ((first | refine ⟨_, rfl, ?_⟩ | refine ⟨rfl, ?_⟩); conv => whnf))
    rfl
  | succ j =>
    rw [down1, show 256 - (j + 1) = 255 - j by omega]
    have f1 := o_mul (pwk_lt x e (255 - j)) (pwk_lt x e (255 - j))
    have f2 := o_mul (mod_lt256 (pwk x e (255 - j) * pwk x e (255 - j))) hx
    have e1 := tdiv64 j (by omega)
    have e2 := down64 j (by omega)
    have eb := bit_g (l := l) (e := e) (i := j) (by rw [hl, g_wd _ _ (by omega)])
    have hs : pwk x e (256 - j) = if Nat.testBit e j then pwk x e (255 - j) * pwk x e (255 - j) % pP * x % pP else pwk x e (255 - j) * pwk x e (255 - j) % pP := by
      rw [show 256 - j = 255 - j + 1 by omega, pwk, show 255 - (255 - j) = j by omega]
    have h0 : decide ((j : Int) ≥ 0) = true := decide_eq_true (by omega)
    rcases hb : Nat.testBit e j with _ | _
    · rw [hb] at eb hs
      have q : (bits .and .u64 ((g l (j / 64)).fdiv (2 ^ min ((j : Int).tmod 64).toNat IntKind.u64.bits)) 1 == 1) = false := by rw [eb]; rfl
      ((conv => whnf); repeat ((first | refine ⟨fun _ => ?_, fun h => absurd ((h0).symm.trans h) (by decide)⟩ | refine ⟨fun h => absurd ((h0).symm.trans h) (by decide), fun _ => ?_⟩ | refine ⟨fun _ => ?_, fun h => absurd ((q).symm.trans h) (by decide)⟩ | refine ⟨fun h => absurd ((q).symm.trans h) (by decide), fun _ => ?_⟩ | refine ⟨tmod64_nn j, ?_⟩ | ((with_reducible refine is_EF7 ?_); first | refine ⟨_, f1, ?_⟩ | refine ⟨_, f2, ?_⟩) | refine ⟨_, rfl, ?_⟩ | refine ⟨by decide, ?_⟩ | refine ⟨rfl, ?_⟩ | refine ⟨inI_of (by omega), ?_⟩ | (apply Exists.intro; refine ⟨?_, ?_⟩; ((try simp only); (try simp only [e1]); (try simp only [Nat.zero_add]); (try simp only [Nat.mul_one]); (try simp only [Int.toNat_natCast]); (try simp only [e1]); (try simp only [Nat.zero_add]); (try simp only [Nat.mul_one]); (try simp only [Int.toNat_natCast]); first | exact at_g (by omega) | exact put_flat (by omega)))); conv => whnf))
      refine ⟨[0, 1, 7, 8, 9, 10, 11, 12, 13, 14, 15, 16, 17, 18, 19, 20, 21, 22, 23, 24, 25, 26, 27], [], j, ?_, j, rfl, by omega, ?_⟩
      · omega
      · rw [hs, e2]; kernel_rfl
    · rw [hb] at eb hs
      have q : (bits .and .u64 ((g l (j / 64)).fdiv (2 ^ min ((j : Int).tmod 64).toNat IntKind.u64.bits)) 1 == 1) = true := by rw [eb]; rfl
      ((conv => whnf); repeat ((first | refine ⟨fun _ => ?_, fun h => absurd ((h0).symm.trans h) (by decide)⟩ | refine ⟨fun h => absurd ((h0).symm.trans h) (by decide), fun _ => ?_⟩ | refine ⟨fun _ => ?_, fun h => absurd ((q).symm.trans h) (by decide)⟩ | refine ⟨fun h => absurd ((q).symm.trans h) (by decide), fun _ => ?_⟩ | refine ⟨tmod64_nn j, ?_⟩ | ((with_reducible refine is_EF7 ?_); first | refine ⟨_, f1, ?_⟩ | refine ⟨_, f2, ?_⟩) | refine ⟨_, rfl, ?_⟩ | refine ⟨by decide, ?_⟩ | refine ⟨rfl, ?_⟩ | refine ⟨inI_of (by omega), ?_⟩ | (apply Exists.intro; refine ⟨?_, ?_⟩; ((try simp only); (try simp only [e1]); (try simp only [Nat.zero_add]); (try simp only [Nat.mul_one]); (try simp only [Int.toNat_natCast]); (try simp only [e1]); (try simp only [Nat.zero_add]); (try simp only [Nat.mul_one]); (try simp only [Int.toNat_natCast]); first | exact at_g (by omega) | exact put_flat (by omega)))); conv => whnf))
      refine ⟨[0, 1, 7, 8, 9, 10, 11, 12, 13, 14, 15, 16, 17, 18, 19, 20, 21, 22, 23, 24, 25, 26, 27], [], j, ?_, j, rfl, by omega, ?_⟩
      · omega
      · rw [hs, e2]; kernel_rfl
theorem power_call (a b : Nat) (ha : a < 2 ^ 256) (_ : b < 2 ^ 256) : CallOk Tryd.prog 47 [W a, W b] (ret1 (W (pw a b))) := execF_ok follows_ok EF7_ok Tryd.func47 (power_exec a b _ rfl ha)
/-! remainder -/
theorem rem_step (n j : Nat) : wi (2 * (n / 2 ^ (j + 1) % qQ) + (if Nat.testBit n j then 1 else 0)) qQ = n / 2 ^ j % qQ := by
  have hq := Nat.mod_lt (n / 2 ^ (j + 1)) qQ_pos
  rw [wi_mod (by split <;> omega)]
  have e : n / 2 ^ j = 2 * (n / 2 ^ (j + 1)) + (if Nat.testBit n j then 1 else 0) := by
    rw [Nat.pow_succ, ← Nat.div_div_eq_div_mul, Nat.testBit_eq_decide_div_mod_eq]
    have : n / 2 ^ j % 2 = 0 ∨ n / 2 ^ j % 2 = 1 := by omega
    rcases this with h | h <;> rw [h] <;> simp <;> omega
  rw [e]
  generalize (if Nat.testBit n j = true then 1 else 0) = b
  rw [Nat.add_mod, Nat.mul_mod, Nat.mod_mod, ← Nat.mul_mod, ← Nat.add_mod]
theorem or_bit (o b : Nat) (_ : o < 2 ^ 255) (hb : b < 2) : wd (2 * o + b) = [bits .or .u64 (dg (2 * o) 0) (b : Int), dg (2 * o) 1, dg (2 * o) 2, dg (2 * o) 3] := by
  obtain ⟨h0, h1, h2, h3⟩ := dg_lit (2 * o)
  obtain ⟨g0, g1, g2, g3⟩ := dg_lit (2 * o + b)
  have e0 : bits .or .u64 (dg (2 * o) 0) (b : Int) = dg (2 * o) 0 + b := or64 _ ((2 * o % 18446744073709551616 / 2 : Nat) : Int) _ 1 (by rw [h0]; omega) (by omega) (by omega) (by omega) (by rw [h0]; omega)
  rw [wd, e0, g0, g1, g2, g3, h0, h1, h2, h3]
  have k0 : (2 * o + b) % 18446744073709551616 = 2 * o % 18446744073709551616 + b := by omega
  have k1 : (2 * o + b) / 18446744073709551616 = 2 * o / 18446744073709551616 := by omega
  have k2 : (2 * o + b) / 340282366920938463463374607431768211456 = 2 * o / 340282366920938463463374607431768211456 := by omega
  have k3 : (2 * o + b) / 6277101735386680763835789423207666416102355444464034512896 = 2 * o / 6277101735386680763835789423207666416102355444464034512896 := by omega
  rw [k0, k1, k2, k3]
  simp
set_option maxRecDepth 100000 in
set_option maxHeartbeats 1600000 in
theorem remainder_exec (n : Nat) (l : List Int) (hl : l = wd8 n) (hn : n < 2 ^ 512) : execF EF3 Tryd.f34 [.agg (.flat .u64 l)] (ret1 (W (n % qQ))) := by
  have hlen : l.length = 8 := by rw [hl]; rfl
  ((conv => whnf); repeat ((first | refine ⟨_, rfl, ?_⟩ | refine ⟨by decide, ?_⟩ | refine ⟨rfl, ?_⟩ | refine ⟨fun _ => ?_, fun h => absurd h (by decide)⟩ | refine ⟨fun h => absurd h (by decide), fun _ => ?_⟩ | refine ⟨inI_of (by omega), ?_⟩ | refine ⟨⟨rfl, inI_of (by omega)⟩, ?_⟩ | refine ⟨⟨rfl, by decide⟩, ?_⟩ | (apply Exists.intro; refine ⟨?_, ?_⟩; ((try simp only); (try simp only [Nat.zero_add]); (try simp only [Nat.mul_one]); (try simp only [Int.toNat_natCast]); first | exact at_g (by omega) | exact put_flat (by omega))) | refine ⟨_, cut_all (by omega), ?_⟩ | refine ⟨_, lay_all (by omega) (by omega), ?_⟩ | refine ⟨_, lay_all (by (try simp only); (try simp only [List.length_replicate]); (try simp only [List.length_cons]); (try simp only [List.length_nil]); omega) (by omega), ?_⟩ | refine ⟨by omega, ?_⟩ | refine ⟨len_flat (by omega), ?_⟩ | refine ⟨apart_uv _ _ _, ?_⟩ | refine ⟨_, resSlot_own rfl (by omega) (by first | exact .inl rfl | exact .inr ⟨rfl, rfl⟩), ?_⟩ | refine ⟨(by kernel_rfl : regB _ = true), ?_⟩ | refine ⟨⟨rfl, inI_of (by omega), by decide⟩, ?_⟩ | (apply Exists.intro; refine ⟨?_, ?_⟩; ((try simp only); (try simp only [Nat.zero_add]); (try simp only [Nat.mul_one]); (try simp only [Int.toNat_natCast]); first | exact at_drop_g (by omega) | exact cut_rest (by omega)))); conv => whnf))
  refine .inl ⟨fun m st => ∃ i : Nat, m = i ∧ i ≤ 512 ∧ st = ⟨[.poison, .ptr 8 0, .ptr 16 0, .ptr 24 0, iv .i64 ((i : Int) - 1), .poison, .poison, .poison, .poison, .poison, .poison, .poison, .poison, .poison, .poison, .poison, .poison, .poison, .poison, .poison, .poison, .poison, .poison, .poison, .poison, .poison, .poison, .poison, .poison, .poison, .poison],
      [(8, ⟨.flat .u64 l, 66, false⟩), (16, ⟨.flat .u64 [0, 0, 0, 0], 63, false⟩), (24, ⟨.flat .u64 (wd (n / 2 ^ i % qQ)), 63, false⟩)]⟩,
      ⟨[0, 5, 6, 7, 8, 9, 10, 11, 12, 13, 14, 15, 16, 17, 18, 19, 20, 21, 22, 23, 24, 25, 26, 27, 28, 29, 30], [], 512, 512, rfl, by omega, by rw [Nat.div_eq_of_lt hn, Nat.zero_mod]; kernel_rfl⟩, ?_⟩
  rintro i _ ⟨_, rfl, hi, rfl⟩
  cases i with
  | zero =>
    rw [Nat.pow_zero, Nat.div_one]
    conv => whnf
    refine ⟨fun h => absurd h (by decide), fun _ => ?_⟩
    ((conv => whnf); repeat ((first | refine ⟨_, rfl, ?_⟩ | refine ⟨rfl, ?_⟩); conv => whnf))
    rfl
  | succ j =>
    rw [down1]
    have hq := Nat.mod_lt (n / 2 ^ (j + 1)) qQ_pos
    obtain ⟨o, eo⟩ : ∃ o, o = n / 2 ^ (j + 1) % qQ := ⟨_, rfl⟩
    have hs := rem_step n j
    rw [← eo] at hs hq ⊢
    have hq' : o < 2 ^ 253 := by unfold qQ at hq; omega
    have f1 := oo_plusN (a := o) (b := o) (by omega) (by omega)
    rw [show (o + o) % 2 ^ 256 = 2 * o by omega] at f1
    have e1 := tdiv64 j (by omega)
    have e2 := down64 j (by omega)
    have eb := bit_g (l := l) (e := n) (i := j) (by rw [hl, g_wd8 _ _ (by omega)])
    have eb' : bits .and .u64 ((g l (j / 64)).fdiv (2 ^ min ((j : Int).tmod 64).toNat IntKind.u64.bits)) 1 = (((if Nat.testBit n j then 1 else 0 : Nat)) : Int) := by rw [eb]; split <;> rfl
    have ew := or_bit o (if Nat.testBit n j then 1 else 0) (by omega) (by split <;> omega)
    rw [← eb'] at ew
    have f2 := o_within (a := 2 * o + (if Nat.testBit n j then 1 else 0)) (b := qQ) (by split <;> omega) (by unfold qQ; omega)
    rw [hs] at f2
    rw [W, ew] at f2
    have h0 : decide ((j : Int) ≥ 0) = true := decide_eq_true (by omega)
    ((conv => whnf); repeat ((first | refine ⟨fun _ => ?_, fun h => absurd ((h0).symm.trans h) (by decide)⟩ | refine ⟨fun h => absurd ((h0).symm.trans h) (by decide), fun _ => ?_⟩ | refine ⟨tmod64_nn j, ?_⟩ | ((with_reducible refine is_EF3 ?_); first | refine ⟨_, f1, ?_⟩ | refine ⟨_, f2, ?_⟩ | refine ⟨_, oo_order, ?_⟩) | refine ⟨_, rfl, ?_⟩ | refine ⟨by decide, ?_⟩ | refine ⟨rfl, ?_⟩ | refine ⟨inI_of (by omega), ?_⟩ | (apply Exists.intro; refine ⟨?_, ?_⟩; ((try simp only); (try simp only [e1]); (try simp only [Nat.zero_add]); (try simp only [Nat.mul_one]); (try simp only [Int.toNat_natCast]); (try simp only [e1]); (try simp only [Nat.zero_add]); (try simp only [Nat.mul_one]); (try simp only [Int.toNat_natCast]); first | exact at_g (by omega) | exact put_flat (by omega)))); conv => whnf))
    refine ⟨[0, 5, 6, 7, 8, 9, 10, 11, 12, 13, 14, 15, 16, 17, 18, 19, 20, 21, 22, 23, 24, 25, 26, 27, 28, 29, 30], [], j, ?_, j, rfl, by omega, ?_⟩
    · omega
    · rw [e2]; kernel_rfl
theorem remainder_call (a : Nat) (ha : a < 2 ^ 512) : CallOk Tryd.prog 34 [W8 a] (ret1 (W (a % qQ))) := execF_ok follows_ok EF3_ok Tryd.func34 (remainder_exec a _ rfl ha)
end Go.Proofs.YtdeigmjbcbjgeaaDoor
