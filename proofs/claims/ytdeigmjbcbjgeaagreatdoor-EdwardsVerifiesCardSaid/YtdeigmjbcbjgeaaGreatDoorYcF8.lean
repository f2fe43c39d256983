import Derived.Test.YtdeigmjbcbjgeaaGreatDoorYcF3
namespace Go.Proofs.YtdeigmjbcbjgeaaGreatDoor
open Go.RowKit
def bt (n i : Nat) : Int := ((n / 2 ^ (8 * i) % 256 : Nat) : Int)
def byk (n k : Nat) : List Int := (List.range k).map (bt n)
abbrev by32 (n : Nat) : List Int := byk n 32
abbrev F (n : Nat) : LV := .agg (.flat .u8 (by32 n))
def nb : List Int → Nat
 | [] => 0
 | x :: l => x.toNat + 256 * nb l
def isF (l : List Int) : Bool := l.length == 32 && byteOk l
theorem byk_len (n k : Nat) : (byk n k).length = k := by simp [byk]
theorem bt_byte (n i : Nat) : 0 ≤ bt n i ∧ bt n i < 256 := by unfold bt; omega
theorem byk_by (n k : Nat) : By (byk n k) := By.map fun i _ => bt_byte n i
theorem g_byk {n k i : Nat} (h : i < k) : g (byk n k) i = bt n i := g_map h
theorem nb_lt : ∀ {l : List Int}, By l → nb l < 256 ^ l.length
 | [], _ => by simp [nb]
 | x :: l, h => by
  have ih := nb_lt (l := l) fun y hy => h y (by simp [hy])
  have := h x (by simp)
  rw [nb, List.length_cons, Nat.pow_succ]
  omega
theorem nb_bt : ∀ {l : List Int} {i : Nat}, By l → i < l.length → g l i = bt (nb l) i
 | [], i, _, h => by simp at h
 | x :: l, 0, h, _ => by
  have := h x (by simp)
  have e : g (x :: l) 0 = x := rfl
  rw [e, bt, nb]
  simp only [Nat.mul_zero, Nat.pow_zero, Nat.div_one]
  omega
 | x :: l, i + 1, h, hi => by
  have ih := nb_bt (l := l) (i := i) (fun y hy => h y (by simp [hy])) (by simpa using hi)
  have hx := h x (by simp)
  have e : g (x :: l) (i + 1) = g l i := by simp [g]
  rw [e, ih, bt, bt, nb, show 8 * (i + 1) = 8 + 8 * i by omega, Nat.pow_add, ← Nat.div_div_eq_div_mul]
  congr 3
  omega
theorem nb_byk (n : Nat) : ∀ k, nb (byk n k) = n % 256 ^ k := by
 intro k
 induction k generalizing n with
 | zero => simp [byk, nb, Nat.mod_one]
 | succ k ih =>
  have e : byk n (k + 1) = bt n 0 :: byk (n / 256) k := by
   rw [byk, byk, List.range_succ_eq_map, List.map_cons, List.map_map]
   congr 1
   apply List.map_congr_left
   intro i _
   simp only [Function.comp, bt]
   rw [show 8 * (i + 1) = 8 + 8 * i by omega, Nat.pow_add, ← Nat.div_div_eq_div_mul]
  rw [e, nb, ih, show 256 ^ (k + 1) = 256 * 256 ^ k from by rw [Nat.pow_succ, Nat.mul_comm], Nat.mod_mul]
  simp only [bt, Nat.mul_zero, Nat.pow_zero, Nat.div_one]
  omega
theorem pow256 (k : Nat) : 256 ^ k = 2 ^ (8 * k) := by rw [show (256 : Nat) = 2 ^ 8 from rfl, ← Nat.pow_mul]
theorem nb_by32 {n : Nat} (h : n < 2 ^ 256) : nb (by32 n) = n := by
 rw [nb_byk, pow256]
 exact Nat.mod_eq_of_lt h
theorem byk_nb {l : List Int} {k : Nat} (h : By l) (hk : l.length = k) : l = byk (nb l) k :=
 ext_g (by rw [byk_len, hk]) fun i hi => by rw [g_byk (by omega)]; exact nb_bt h hi
theorem isF_len {l : List Int} (h : isF l = true) : l.length = 32 := by simp [isF] at h; exact h.1
theorem isF_By {l : List Int} (h : isF l = true) : By l := byteAll (by simp [isF] at h; exact h.2)
theorem isF_eq {l : List Int} (h : isF l = true) : l = by32 (nb l) := byk_nb (isF_By h) (isF_len h)
theorem nb32_lt {l : List Int} (h : isF l = true) : nb l < 2 ^ 256 := by
 have := nb_lt (isF_By h)
 rwa [isF_len h, pow256] at this
theorem isF_of {l : List Int} (h : l.length = 32) (hb : By l) : isF l = true := by simp [isF, h, hb.ok]
theorem isF_by (n : Nat) : isF (by32 n) = true := isF_of (byk_len _ _) (byk_by _ _)
theorem by32_inj {a b : Nat} (ha : a < 2 ^ 256) (hb : b < 2 ^ 256) (h : by32 a = by32 b) : a = b := by rw [← nb_by32 ha, h, nb_by32 hb]
theorem dg_bt (n i : Nat) (j s : Nat) (hj : j = i / 8) (hs : s = 8 * (i % 8)) : IntKind.u8.wrap ((dg n j).fdiv (2 ^ s)) = bt n i := by
 subst hj; subst hs
 have e : (dg n (i / 8)).fdiv (2 ^ (8 * (i % 8))) = ((n / 18446744073709551616 ^ (i / 8) % 18446744073709551616 / 2 ^ (8 * (i % 8)) : Nat) : Int) := by
  rw [dg, Int.fdiv_eq_ediv_of_nonneg _ (Int.pow_nonneg (by omega)), show ((2 : Int) ^ (8 * (i % 8))) = ((2 ^ (8 * (i % 8)) : Nat) : Int) by push_cast; rfl, ← Int.natCast_ediv]
 have w : ∀ m : Nat, IntKind.u8.wrap (m : Int) = ((m % 256 : Nat) : Int) := fun m => by simp [IntKind.wrap, IntKind.signed, IntKind.bits]
 rw [e, w, bt]
 congr 1
 rw [show (256 : Nat) = 2 ^ 8 from rfl]
 apply Nat.eq_of_testBit_eq
 intro t
 rw [show (18446744073709551616 : Nat) = 2 ^ 64 from rfl, ← Nat.pow_mul]
 simp only [Nat.testBit_mod_two_pow, Nat.testBit_div_two_pow]
 by_cases ht : t < 8
 ·rw [decide_eq_true ht, decide_eq_true (show t + 8 * (i % 8) < 64 by omega), Bool.true_and, Bool.true_and, Bool.true_and]
  congr 1
  omega
 ·rw [decide_eq_false ht, Bool.false_and, Bool.false_and]
theorem min64 {s : Nat} (h : s < 64) (k : IntKind) (hk : k = .u64 ∨ k = .i64) : min s k.bits = s := by
 rcases hk with rfl | rfl <;> exact Nat.min_eq_left (show s ≤ 64 by omega)
theorem sh8 (i : Nat) : (IntKind.u64.wrap (8 * IntKind.u64.wrap ((i : Int).tmod 8))).toNat = 8 * (i % 8) := by
 rw [show (8 : Int) = ((8 : Nat) : Int) from rfl, tmod_nat, wrapN _ (by omega), mulN, wrapN _ (by omega)]
 exact Int.toNat_natCast _
theorem tdiv8 (i : Nat) (h : i < 1000) : IntKind.i64.wrap ((i : Int).tdiv 8) = ((i / 8 : Nat) : Int) := by
 rw [show (8 : Int) = ((8 : Nat) : Int) from rfl, ← Int.ofNat_tdiv, wrap64 (by omega)]
theorem up1 (i : Nat) (h : i < 1000) : IntKind.i64.wrap ((i : Int) + 1) = ((i + 1 : Nat) : Int) := by rw [wrap64 (by omega)]; omega
theorem pow_cast (k : Nat) : ((2 ^ k : Nat) : Int) = (2 : Int) ^ k := by push_cast; rfl
theorem or_byte (n i : Nat) : bits .or .u64 (dg (n % 2 ^ (8 * i)) (i / 8)) (IntKind.u64.wrap (bt n i * 2 ^ (8 * (i % 8)))) = dg (n % 2 ^ (8 * (i + 1))) (i / 8) := by
 have e : bt n i * 2 ^ (8 * (i % 8)) = ((n / 2 ^ (8 * i) % 256 * 2 ^ (8 * (i % 8)) : Nat) : Int) := by rw [bt, Int.natCast_mul, pow_cast]
 have hp : 2 ^ (8 * (i % 8)) ≤ 2 ^ 56 := Nat.pow_le_pow_right (by omega) (by omega)
 have hb : n / 2 ^ (8 * i) % 256 * 2 ^ (8 * (i % 8)) < 18446744073709551616 := by
  have : n / 2 ^ (8 * i) % 256 * 2 ^ (8 * (i % 8)) ≤ 255 * 2 ^ 56 := Nat.mul_le_mul (by omega) hp
  omega
 rw [e, wrapN _ hb, dg, dg, bits_or_u64_nat _ _ (Nat.mod_lt _ (by decide)) hb]
 congr 1
 apply Nat.eq_of_testBit_eq
 intro t
 rw [show (18446744073709551616 : Nat) = 2 ^ 64 from rfl, show (256 : Nat) = 2 ^ 8 from rfl, ← Nat.pow_mul]
 simp only [Nat.testBit_or, Nat.testBit_mod_two_pow, Nat.testBit_div_two_pow, Nat.testBit_mul_two_pow]
 by_cases ht : t < 64
 ·by_cases h1 : 8 * (i % 8) ≤ t
  ·have e1 : t - 8 * (i % 8) + 8 * i = t + 64 * (i / 8) := by omega
   rw [e1]
   rw [decide_eq_true ht, decide_eq_true (show t ≥ 8 * (i % 8) from h1), decide_eq_false (show ¬ t + 64 * (i / 8) < 8 * i by omega)]
   simp only [Bool.true_and, Bool.false_and, Bool.false_or]
   congr 1
   exact decide_eq_decide.2 (by omega)
  ·rw [decide_eq_true ht, decide_eq_false (show ¬ t ≥ 8 * (i % 8) by omega), decide_eq_true (show t + 64 * (i / 8) < 8 * i by omega), decide_eq_true (show t + 64 * (i / 8) < 8 * (i + 1) by omega)]
   simp only [Bool.true_and, Bool.false_and, Bool.or_false]
 ·rw [decide_eq_false ht, decide_eq_false (show ¬ t - 8 * (i % 8) < 8 by omega)]
  simp only [Bool.false_and, Bool.and_false, Bool.or_false]
theorem dg_same (n i j : Nat) (h : j ≠ i / 8) : dg (n % 2 ^ (8 * (i + 1))) j = dg (n % 2 ^ (8 * i)) j := by
 rw [dg, dg]
 congr 1
 apply Nat.eq_of_testBit_eq
 intro t
 rw [show (18446744073709551616 : Nat) = 2 ^ 64 from rfl, ← Nat.pow_mul]
 simp only [Nat.testBit_mod_two_pow, Nat.testBit_div_two_pow]
 by_cases ht : t < 64
 ·congr 2
  exact decide_eq_decide.2 (by omega)
 ·rw [decide_eq_false ht]
  rfl
theorem load_step (n i : Nat) (h : i < 32) : (wd (n % 2 ^ (8 * i))).set (i / 8) (bits .or .u64 (g (wd (n % 2 ^ (8 * i))) (i / 8)) (IntKind.u64.wrap (bt n i * 2 ^ (8 * (i % 8))))) = wd (n % 2 ^ (8 * (i + 1))) := by
 rw [g_wd _ _ (by omega), or_byte]
 refine ext_g (by rw [List.length_set]; rfl) fun j hj => ?_
 have hj4 : j < 4 := by rw [List.length_set] at hj; exact hj
 rw [g_set (by show i / 8 < 4; omega)]
 split
 ·rename_i e; rw [e, g_wd _ _ (by omega)]
 ·rename_i e; rw [g_wd _ _ hj4, g_wd _ _ hj4, dg_same _ _ _ e]
theorem load_step8 (n i : Nat) (h : i < 64) : (wd8 (n % 2 ^ (8 * i))).set (i / 8) (bits .or .u64 (g (wd8 (n % 2 ^ (8 * i))) (i / 8)) (IntKind.u64.wrap (bt n i * 2 ^ (8 * (i % 8))))) = wd8 (n % 2 ^ (8 * (i + 1))) := by
 rw [g_wd8 _ _ (by omega), or_byte]
 refine ext_g (by rw [List.length_set]; rfl) fun j hj => ?_
 have hj8 : j < 8 := by rw [List.length_set] at hj; exact hj
 rw [g_set (by show i / 8 < 8; omega)]
 split
 ·rename_i e; rw [e, g_wd8 _ _ (by omega)]
 ·rename_i e; rw [g_wd8 _ _ hj8, g_wd8 _ _ hj8, dg_same _ _ _ e]
set_option maxRecDepth 100000 in
set_option maxHeartbeats 1600000 in
theorem store_exec (n : Nat) (l : List Int) (hl : l = wd n) : execF E0 Tryz.f35 [.agg (.flat .u64 l)] (ret1 (F n)) := by
 have hlen : l.length = 4 := by rw [hl]; rfl
 ((conv => whnf); repeat ((first | refine ⟨_, rfl, ?_⟩ | refine ⟨by decide, ?_⟩ | refine ⟨rfl, ?_⟩ | refine ⟨fun _ => ?_, fun h => absurd h (by decide)⟩ | refine ⟨fun h => absurd h (by decide), fun _ => ?_⟩ | refine ⟨inI_of (by omega), ?_⟩ | refine ⟨⟨rfl, inI_of (by omega)⟩, ?_⟩ | refine ⟨⟨rfl, by decide⟩, ?_⟩ | (apply Exists.intro; refine ⟨?_, ?_⟩; ((try simp only); (try simp only [Nat.zero_add]); (try simp only [Nat.mul_one]); (try simp only [Int.toNat_natCast]); first | exact at_g (by omega) | exact put_flat (by omega))) | refine ⟨_, cut_all (by omega), ?_⟩ | refine ⟨_, lay_all (by omega) (by omega), ?_⟩ | refine ⟨_, lay_all (by (try simp only); (try simp only [List.length_replicate]); (try simp only [List.length_cons]); (try simp only [List.length_nil]); omega) (by omega), ?_⟩ | refine ⟨by omega, ?_⟩ | refine ⟨len_flat (by omega), ?_⟩ | refine ⟨apart_uv _ _ _, ?_⟩ | refine ⟨_, resSlot_own rfl (by omega) (by first | exact .inl rfl | exact .inr ⟨rfl, rfl⟩), ?_⟩ | refine ⟨(by kernel_rfl : regB _ = true), ?_⟩ | refine ⟨⟨rfl, inI_of (by omega), by decide⟩, ?_⟩ | (apply Exists.intro; refine ⟨?_, ?_⟩; ((try simp only); (try simp only [Nat.zero_add]); (try simp only [Nat.mul_one]); (try simp only [Int.toNat_natCast]); first | exact at_drop_g (by omega) | exact cut_rest (by omega)))); conv => whnf))
 refine .inl ⟨fun m st => ∃ (i : Nat) (o : List Int), m = 32 - i ∧ i ≤ 32 ∧ o = upd (bt n) (List.replicate 32 0) i ∧ st = ⟨[.poison, .ptr 8 0, .ptr 16 0, .ptr 24 0, .poison, iv .i64 i, .poison, .poison, .poison, .poison, .poison, .poison, .poison, .poison, .poison, .poison, .poison, .poison, .poison, .poison, .poison, .poison],
   [(8, ⟨.flat .u64 l, 54, false⟩), (16, ⟨.flat .u8 (List.replicate 32 0), 23, false⟩), (24, ⟨.flat .u8 o, 23, false⟩)]⟩,
   ⟨[0, 4, 6, 7, 8, 9, 10, 11, 12, 13, 14, 15, 16, 17, 18, 19, 20, 21], [], 32, 0, List.replicate 32 0, rfl, by omega, (upd_zero _ _).symm, by kernel_rfl⟩, ?_⟩
 rintro _ _ ⟨i, o, rfl, hi, ho, rfl⟩
 have hul : o.length = 32 := by rw [ho, upd_len, List.length_replicate]
 conv => whnf
 refine ⟨fun h => ?_, fun h => ?_⟩
 ·have h := of_decide_eq_true h
  have e1 := tdiv8 i (by omega)
  have e2 := up1 i (by omega)
  have e3 : IntKind.u8.wrap ((g l (i / 8)).fdiv (2 ^ min (IntKind.u64.wrap (8 * IntKind.u64.wrap ((i : Int).tmod 8))).toNat IntKind.u64.bits)) = bt n i := by
   rw [hl, g_wd _ _ (by omega)]
   exact dg_bt n i _ _ rfl (by rw [sh8, min64 (by omega) _ (.inl rfl)])
  ((conv => whnf); repeat ((first | refine ⟨u64_nn _, ?_⟩ | refine ⟨by decide, ?_⟩ | refine ⟨rfl, ?_⟩ | refine ⟨inI_of (by omega), ?_⟩ | (apply Exists.intro; refine ⟨?_, ?_⟩; ((try simp only); (try simp only [e1]); (try simp only [Nat.zero_add]); (try simp only [Nat.mul_one]); (try simp only [Int.toNat_natCast]); (try simp only [e1]); (try simp only [Nat.zero_add]); (try simp only [Nat.mul_one]); (try simp only [Int.toNat_natCast]); first | exact at_g (by omega) | exact put_flat (by omega)))); conv => whnf))
  refine ⟨[0, 4, 6, 7, 8, 9, 10, 11, 12, 13, 14, 15, 16, 17, 18, 19, 20, 21], [], 32 - (i + 1), ?_, i + 1, o.set i (bt n i), rfl, by omega, by rw [ho, upd_set _ _ (by rw [List.length_replicate]; omega)], ?_⟩
  ·omega
  ·rw [← e2, ← e3]; kernel_rfl
 ·have h := of_decide_eq_false h
  have hi' : i = 32 := by omega
  subst hi'
  have e3 : o = by32 n := by rw [ho]; exact upd_all (bt n) (List.replicate 32 0) (n := 32) (by simp)
  ((conv => whnf); repeat ((first | refine ⟨_, rfl, ?_⟩ | refine ⟨rfl, ?_⟩ | refine ⟨_, cut_all (by omega), ?_⟩ | refine ⟨_, lay_all (by (try simp only); (try simp only [List.length_replicate]); (try simp only [List.length_cons]); (try simp only [List.length_nil]); omega) (by omega), ?_⟩ | refine ⟨len_flat (by omega), ?_⟩); conv => whnf))
  rw [e3]; rfl
theorem store_call (a : Nat) (_ : a < 2 ^ 256) : CallOk Tryz.prog 35 [W a] (ret1 (F a)) := execF_ok follows_ok E0_ok Tryz.func35 (store_exec a _ rfl)
set_option maxRecDepth 100000 in
set_option maxHeartbeats 1600000 in
theorem load_exec (n : Nat) (l : List Int) (hl : l = by32 n) (hn : n < 2 ^ 256) : execF E0 Tryz.f63 [.agg (.flat .u8 l)] (ret1 (W n)) := by
 have hlen : l.length = 32 := by rw [hl, byk_len]
 ((conv => whnf); repeat ((first | refine ⟨_, rfl, ?_⟩ | refine ⟨by decide, ?_⟩ | refine ⟨rfl, ?_⟩ | refine ⟨fun _ => ?_, fun h => absurd h (by decide)⟩ | refine ⟨fun h => absurd h (by decide), fun _ => ?_⟩ | refine ⟨inI_of (by omega), ?_⟩ | refine ⟨⟨rfl, inI_of (by omega)⟩, ?_⟩ | refine ⟨⟨rfl, by decide⟩, ?_⟩ | (apply Exists.intro; refine ⟨?_, ?_⟩; ((try simp only); (try simp only [Nat.zero_add]); (try simp only [Nat.mul_one]); (try simp only [Int.toNat_natCast]); first | exact at_g (by omega) | exact put_flat (by omega))) | refine ⟨_, cut_all (by omega), ?_⟩ | refine ⟨_, lay_all (by omega) (by omega), ?_⟩ | refine ⟨_, lay_all (by (try simp only); (try simp only [List.length_replicate]); (try simp only [List.length_cons]); (try simp only [List.length_nil]); omega) (by omega), ?_⟩ | refine ⟨by omega, ?_⟩ | refine ⟨len_flat (by omega), ?_⟩ | refine ⟨apart_uv _ _ _, ?_⟩ | refine ⟨_, resSlot_own rfl (by omega) (by first | exact .inl rfl | exact .inr ⟨rfl, rfl⟩), ?_⟩ | refine ⟨(by kernel_rfl : regB _ = true), ?_⟩ | refine ⟨⟨rfl, inI_of (by omega), by decide⟩, ?_⟩ | (apply Exists.intro; refine ⟨?_, ?_⟩; ((try simp only); (try simp only [Nat.zero_add]); (try simp only [Nat.mul_one]); (try simp only [Int.toNat_natCast]); first | exact at_drop_g (by omega) | exact cut_rest (by omega)))); conv => whnf))
 refine .inl ⟨fun m st => ∃ (i : Nat) (o : List Int), m = 32 - i ∧ i ≤ 32 ∧ o = wd (n % 2 ^ (8 * i)) ∧ st = ⟨[.poison, .ptr 8 0, .ptr 16 0, .ptr 24 0, .poison, iv .i64 i, .poison, .poison, .poison, .poison, .poison, .poison, .poison, .poison, .poison, .poison, .poison, .poison, .poison, .poison, .poison, .poison, .poison, .poison, .poison],
   [(8, ⟨.flat .u8 l, 23, false⟩), (16, ⟨.flat .u64 [0, 0, 0, 0], 54, false⟩), (24, ⟨.flat .u64 o, 54, false⟩)]⟩,
   ⟨[0, 4, 6, 7, 8, 9, 10, 11, 12, 13, 14, 15, 16, 17, 18, 19, 20, 21, 22, 23, 24], [], 32, 0, [0, 0, 0, 0], rfl, by omega, by rw [Nat.mul_zero, Nat.pow_zero, Nat.mod_one]; kernel_rfl, by kernel_rfl⟩, ?_⟩
 rintro _ _ ⟨i, o, rfl, hi, ho, rfl⟩
 have hol : o.length = 4 := by rw [ho]; rfl
 conv => whnf
 refine ⟨fun h => ?_, fun h => ?_⟩
 ·have h := of_decide_eq_true h
  have e1 := tdiv8 i (by omega)
  have e2 := up1 i (by omega)
  have e3 : o.set (i / 8) (bits .or .u64 (g o (i / 8)) (IntKind.u64.wrap (IntKind.u64.wrap (g l i) * 2 ^ min (IntKind.u64.wrap (8 * IntKind.u64.wrap ((i : Int).tmod 8))).toNat IntKind.u64.bits))) = wd (n % 2 ^ (8 * (i + 1))) := by
   have hb : IntKind.u64.wrap (g l i) = bt n i := by
    rw [hl, g_byk (by omega), IntKind.wrap_u64]
    have := bt_byte n i
    omega
   rw [hb, sh8, min64 (by omega) _ (.inl rfl), ho]
   exact load_step n i (by omega)
  ((conv => whnf); repeat ((first | refine ⟨u64_nn _, ?_⟩ | refine ⟨by decide, ?_⟩ | refine ⟨rfl, ?_⟩ | refine ⟨inI_of (by omega), ?_⟩ | (apply Exists.intro; refine ⟨?_, ?_⟩; ((try simp only); (try simp only [e1]); (try simp only [Nat.zero_add]); (try simp only [Nat.mul_one]); (try simp only [Int.toNat_natCast]); (try simp only [e1]); (try simp only [Nat.zero_add]); (try simp only [Nat.mul_one]); (try simp only [Int.toNat_natCast]); first | exact at_g (by omega) | exact put_flat (by omega)))); conv => whnf))
  refine ⟨[0, 4, 6, 7, 8, 9, 10, 11, 12, 13, 14, 15, 16, 17, 18, 19, 20, 21, 22, 23, 24], [], 32 - (i + 1), ?_, i + 1, wd (n % 2 ^ (8 * (i + 1))), rfl, by omega, rfl, ?_⟩
  ·omega
  ·rw [← e2, ← e3]; kernel_rfl
 ·have h := of_decide_eq_false h
  have hi' : i = 32 := by omega
  subst hi'
  have e4 : o = wd n := by rw [ho, Nat.mod_eq_of_lt (by omega)]
  ((conv => whnf); repeat ((first | refine ⟨_, rfl, ?_⟩ | refine ⟨rfl, ?_⟩ | refine ⟨_, cut_all (by omega), ?_⟩ | refine ⟨_, lay_all (by (try simp only); (try simp only [List.length_replicate]); (try simp only [List.length_cons]); (try simp only [List.length_nil]); omega) (by omega), ?_⟩ | refine ⟨len_flat (by omega), ?_⟩); conv => whnf))
  rw [e4]; rfl
theorem load_call (a : Nat) (ha : a < 2 ^ 256) : CallOk Tryz.prog 63 [F a] (ret1 (W a)) := execF_ok follows_ok E0_ok Tryz.func63 (load_exec a _ rfl ha)
theorem eight (i : Nat) (h : i < 100) : IntKind.i64.wrap (8 * (i : Int)) = ((8 * i : Nat) : Int) := by rw [wrap64 (by omega)]; omega
theorem eight8 (i : Nat) (h : i < 100) : IntKind.i64.wrap (((8 * i : Nat) : Int) + 8) = ((8 * i + 8 : Nat) : Int) := by rw [wrap64 (by omega)]; omega
end Go.Proofs.YtdeigmjbcbjgeaaGreatDoor
namespace Go.Proofs.YtdeigmjbcbjgeaaGreatDoor
open Go.RowKit
theorem slice_arr {E : Env} {t e z b off N l m a1 a2 : Nat} {g1 : Bool} {o1 : Option Cont} {x lo hi : LV} (h1 : E.T t = some ⟨.arr N e z, a1, a2, g1, o1⟩) (hx : x = .ptr b off) (hlo : lo = .v (.int .i64 (l : Int))) (hhi : hi = .v (.int .i64 ((l + m : Nat) : Int))) (hn : l + m ≤ N) (hN : N ≤ 1000) :
  opSlice E t true true false x [lo, hi] = some (.sl z b (off + l * z) m (some (N - l)), []) := by
 subst hx hlo hhi
 have hb : bounds [(l : Int), ((l + m : Nat) : Int)] true true false N N = some (l, l + m, N) := by
  unfold bounds
  rw [if_pos (by simp [lowI, highI, restI, maxI]; omega)]
  simp [lowI, highI, restI, maxI]
  omega
 have hp : optMap pickInt [.v (.int .i64 (l : Int)), .v (.int .i64 ((l + m : Nat) : Int))] = some [(l : Int), ((l + m : Nat) : Int)] := rfl
 simp only [opSlice, h1, hp, hb]
 rw [if_pos (by omega)]
 simp
theorem sh8' (j : Nat) (h : j < 8) : (IntKind.i64.wrap (8 * (j : Int))).toNat = 8 * j := by rw [eight j (by omega)]; exact Int.toNat_natCast _
theorem sh8nn (j : Nat) (h : j < 8) : 0 ≤ IntKind.i64.wrap (8 * (j : Int)) := by rw [eight j (by omega)]; omega
theorem upd_more {f : Nat → Int} {z : List Int} {k j : Nat} (h : k + j < z.length) : (upd f z (k + j)).set (k + j) (f (k + j)) = upd f z (k + (j + 1)) := upd_set f z h
set_option maxRecDepth 100000 in
set_option maxHeartbeats 1600000 in
theorem write_exec (n : Nat) (l : List Int) (hl : l = wd n) : execF E0 Tryz.f66 [.agg (.flat .u64 l)] (ret1 (F n)) := by
 have hlen : l.length = 4 := by rw [hl]; rfl
 ((conv => whnf); repeat ((first | refine ⟨_, cut_all (by omega), ?_⟩); conv => whnf))
 refine .inl ⟨fun m st => ∃ (i : Nat) (o : List Int), m = 4 - i ∧ i ≤ 4 ∧ o = upd (bt n) (List.replicate 32 0) (8 * i) ∧ st = ⟨[.poison, .ptr 8 0, .ptr 16 0, .ptr 24 0, .poison, .poison, .poison, .poison, .agg (.flat .u64 l), iv .i64 i, .poison, .poison, .poison, .poison, .poison, .poison, .poison, .poison, .poison, .poison, .poison, .poison, .poison, .poison, .poison, .poison, .poison, .poison, .poison, .poison, .poison, .poison, .poison, .poison, .poison],
   [(8, ⟨.flat .u64 l, 89, false⟩), (16, ⟨.flat .u8 (List.replicate 32 0), 23, false⟩), (24, ⟨.flat .u8 o, 23, false⟩)]⟩,
   ⟨[0, 4, 5, 6, 7, 10, 11, 12, 13, 14, 15, 16, 17, 18, 19, 20, 21, 22, 23, 24, 25, 26, 27, 28, 29, 30, 31, 32, 33, 34], [], 4, 0, List.replicate 32 0, rfl, by omega, (upd_zero _ _).symm, by kernel_rfl⟩, ?_⟩
 rintro _ _ ⟨i, o, rfl, hi, ho, rfl⟩
 have hul : o.length = 32 := by rw [ho, upd_len, List.length_replicate]
 conv => whnf
 refine ⟨fun h => ?_, fun h => ?_⟩
 ·have h := of_decide_eq_true h
  have h4 : i < 4 := by omega
  have e1 := eight i (by omega)
  have e2 := eight8 i (by omega)
  have hlo : LV.v (.int .i64 (IntKind.i64.wrap (8 * (i : Int)))) = .v (.int .i64 ((8 * i : Nat) : Int)) := by rw [e1]
  have hhi : LV.v (.int .i64 (IntKind.i64.wrap (IntKind.i64.wrap (8 * (i : Int)) + 8))) = .v (.int .i64 ((8 * i + 8 : Nat) : Int)) := by rw [e1, e2]
  ((conv => whnf); repeat ((first | refine ⟨_, slice_arr (l := 8 * i) (m := 8) rfl rfl hlo hhi (by omega) (by omega), ?_⟩ | refine ⟨inI_of (by omega), ?_⟩ | (apply Exists.intro; refine ⟨?_, ?_⟩; ((try simp only); (try simp only [Nat.zero_add]); (try simp only [Nat.mul_one]); (try simp only [Int.toNat_natCast]); first | exact at_g (by omega) | exact put_flat (by omega)))); conv => whnf))
  refine .inl ⟨fun m st => ∃ (j : Nat) (p : List Int), m = 8 - j ∧ j ≤ 8 ∧ p = upd (bt n) (List.replicate 32 0) (8 * i + j) ∧ st = ⟨[.poison, .ptr 8 0, .ptr 16 0, .ptr 24 0, iv .i64 i, iv .u64 (g l i), .sl 1 24 (0 + 8 * i * 1) 8 (some (32 - 8 * i)), .poison, .agg (.flat .u64 l), iv .i64 i, .poison, .poison, .poison, .poison, .poison, .poison, .poison, .poison, .poison, .poison, iv .i64 8, iv .i64 j, .poison, .poison, .poison, .poison, .poison, .poison, .poison, .poison, .poison, .poison, .poison, .poison, .poison],
   [(8, ⟨.flat .u64 l, 89, false⟩), (16, ⟨.flat .u8 (List.replicate 32 0), 23, false⟩), (24, ⟨.flat .u8 p, 23, false⟩)]⟩,
   ⟨[0, 7, 10, 11, 12, 13, 14, 15, 16, 17, 18, 19, 22, 23, 24, 25, 26, 27, 28, 29, 30, 31, 32, 33, 34], [], 8, 0, o, rfl, by omega, ho, by kernel_rfl⟩, ?_⟩
  rintro _ _ ⟨j, p, rfl, hj, hp, rfl⟩
  have hpl : p.length = 32 := by rw [hp, upd_len, List.length_replicate]
  conv => whnf
  refine ⟨fun h => ?_, fun h => ?_⟩
  ·have h := of_decide_eq_true h
   have j8 : j < 8 := by omega
   have e3 : IntKind.u8.wrap ((g l i).fdiv (2 ^ min (IntKind.i64.wrap (8 * (j : Int))).toNat IntKind.u64.bits)) = bt n (8 * i + j) := by
    rw [hl, g_wd _ _ h4]
    exact dg_bt n (8 * i + j) _ _ (by omega) (by rw [sh8' j j8, min64 (by omega) _ (.inl rfl)]; omega)
   have e4 := up1 j (by omega)
   ((conv => whnf); repeat ((first | refine ⟨sh8nn j j8, ?_⟩ | refine ⟨rfl, ?_⟩ | refine ⟨⟨rfl, inI_of (by omega)⟩, ?_⟩ | (apply Exists.intro; refine ⟨?_, ?_⟩; ((try simp only); (try simp only [Nat.zero_add]); (try simp only [Nat.mul_one]); (try simp only [Int.toNat_natCast]); first | exact at_g (by omega) | exact put_flat (by omega)))); conv => whnf))
   refine ⟨[0, 7, 10, 11, 12, 13, 14, 15, 16, 17, 18, 19, 22, 23, 24, 25, 26, 27, 28, 29, 30, 31, 32, 33, 34], [], 8 - (j + 1), ?_, j + 1, p.set (8 * i + j) (bt n (8 * i + j)), rfl, by omega, by rw [hp, upd_more (by rw [List.length_replicate]; omega)], ?_⟩
   ·omega
   ·rw [← e4, ← e3]; kernel_rfl
  ·have h := of_decide_eq_false h
   have hj8 : j = 8 := by omega
   subst hj8
   have e4 := up1 i (by omega)
   ((conv => whnf); repeat ((first | refine ⟨_, rfl, ?_⟩ | refine ⟨by decide, ?_⟩ | refine ⟨rfl, ?_⟩ | refine ⟨fun _ => ?_, fun h => absurd h (by decide)⟩ | refine ⟨fun h => absurd h (by decide), fun _ => ?_⟩ | refine ⟨inI_of (by omega), ?_⟩ | refine ⟨⟨rfl, inI_of (by omega)⟩, ?_⟩ | refine ⟨⟨rfl, by decide⟩, ?_⟩ | (apply Exists.intro; refine ⟨?_, ?_⟩; ((try simp only); (try simp only [Nat.zero_add]); (try simp only [Nat.mul_one]); (try simp only [Int.toNat_natCast]); first | exact at_g (by omega) | exact put_flat (by omega))) | refine ⟨_, cut_all (by omega), ?_⟩ | refine ⟨_, lay_all (by omega) (by omega), ?_⟩ | refine ⟨_, lay_all (by (try simp only); (try simp only [List.length_replicate]); (try simp only [List.length_cons]); (try simp only [List.length_nil]); omega) (by omega), ?_⟩ | refine ⟨by omega, ?_⟩ | refine ⟨len_flat (by omega), ?_⟩ | refine ⟨apart_uv _ _ _, ?_⟩ | refine ⟨_, resSlot_own rfl (by omega) (by first | exact .inl rfl | exact .inr ⟨rfl, rfl⟩), ?_⟩ | refine ⟨(by kernel_rfl : regB _ = true), ?_⟩ | refine ⟨⟨rfl, inI_of (by omega), by decide⟩, ?_⟩ | (apply Exists.intro; refine ⟨?_, ?_⟩; ((try simp only); (try simp only [Nat.zero_add]); (try simp only [Nat.mul_one]); (try simp only [Int.toNat_natCast]); first | exact at_drop_g (by omega) | exact cut_rest (by omega)))); conv => whnf))
   refine ⟨[0, 4, 5, 6, 7, 10, 11, 12, 13, 14, 15, 16, 17, 18, 19, 20, 21, 22, 23, 24, 25, 26, 27, 28, 29, 30, 31, 32, 33, 34], [], 4 - (i + 1), ?_, i + 1, p, rfl, by omega, by rw [hp, show 8 * (i + 1) = 8 * i + 8 by omega], ?_⟩
   ·omega
   ·rw [← e4]; kernel_rfl
 ·have h := of_decide_eq_false h
  have hi' : i = 4 := by omega
  subst hi'
  have e3 : o = by32 n := by rw [ho]; exact upd_all (bt n) (List.replicate 32 0) (n := 32) (by simp)
  ((conv => whnf); repeat ((first | refine ⟨_, rfl, ?_⟩ | refine ⟨rfl, ?_⟩ | refine ⟨_, cut_all (by omega), ?_⟩ | refine ⟨_, lay_all (by (try simp only); (try simp only [List.length_replicate]); (try simp only [List.length_cons]); (try simp only [List.length_nil]); omega) (by omega), ?_⟩ | refine ⟨len_flat (by omega), ?_⟩); conv => whnf))
  rw [e3]; rfl
theorem write_call (a : Nat) (_ : a < 2 ^ 256) : CallOk Tryz.prog 66 [W a] (ret1 (F a)) := execF_ok follows_ok E0_ok Tryz.func66 (write_exec a _ rfl)
def eor (b : Nat → Int) : Int :=
 bits .or .u64 (bits .or .u64 (bits .or .u64 (bits .or .u64 (IntKind.u64.wrap (b 0)) (IntKind.u64.wrap (IntKind.u64.wrap (b 1) * 2 ^ min (8 : Int).toNat IntKind.u64.bits))) (IntKind.u64.wrap (IntKind.u64.wrap (b 2) * 2 ^ min (16 : Int).toNat IntKind.u64.bits))) (IntKind.u64.wrap (IntKind.u64.wrap (b 3) * 2 ^ min (24 : Int).toNat IntKind.u64.bits)))
  (IntKind.u64.wrap (bits .or .u64 (bits .or .u64 (bits .or .u64 (IntKind.u64.wrap (b 4)) (IntKind.u64.wrap (IntKind.u64.wrap (b 5) * 2 ^ min (8 : Int).toNat IntKind.u64.bits))) (IntKind.u64.wrap (IntKind.u64.wrap (b 6) * 2 ^ min (16 : Int).toNat IntKind.u64.bits))) (IntKind.u64.wrap (IntKind.u64.wrap (b 7) * 2 ^ min (24 : Int).toNat IntKind.u64.bits)) * 2 ^ min (32 : Int).toNat IntKind.u64.bits))
theorem or64' (y x : Int) (X : Int) (n : Nat) (hX : X = x * 2 ^ n) (hx : 0 ≤ x) (hy : 0 ≤ y) (hn : y < 2 ^ n) (hl : y + X < 18446744073709551616) : bits .or .u64 y X = y + X := by
 have h := or64 X x y n hX hx hy hn (by omega)
 obtain ⟨a, rfl⟩ := Int.eq_ofNat_of_zero_le hy
 have hX0 : 0 ≤ X := by rw [hX]; exact Int.mul_nonneg hx (Int.pow_nonneg (by omega))
 obtain ⟨c, rfl⟩ := Int.eq_ofNat_of_zero_le hX0
 rw [bits_or_u64_nat _ _ (by omega) (by omega)] at h ⊢
 rw [Nat.or_comm, h]
 omega
theorem four_or (b0 b1 b2 b3 : Int) (h0 : 0 ≤ b0 ∧ b0 < 256) (h1 : 0 ≤ b1 ∧ b1 < 256) (h2 : 0 ≤ b2 ∧ b2 < 256) (h3 : 0 ≤ b3 ∧ b3 < 256) :
  bits .or .u64 (bits .or .u64 (bits .or .u64 (IntKind.u64.wrap b0) (IntKind.u64.wrap (IntKind.u64.wrap b1 * 2 ^ min (8 : Int).toNat IntKind.u64.bits))) (IntKind.u64.wrap (IntKind.u64.wrap b2 * 2 ^ min (16 : Int).toNat IntKind.u64.bits))) (IntKind.u64.wrap (IntKind.u64.wrap b3 * 2 ^ min (24 : Int).toNat IntKind.u64.bits)) = b0 + 256 * b1 + 65536 * b2 + 16777216 * b3 := by
 have w : ∀ x : Int, 0 ≤ x ∧ x < 18446744073709551616 → IntKind.u64.wrap x = x := fun x h => by rw [IntKind.wrap_u64]; omega
 rw [show ((2 : Int) ^ min (8 : Int).toNat IntKind.u64.bits) = 256 from rfl, show ((2 : Int) ^ min (16 : Int).toNat IntKind.u64.bits) = 65536 from rfl, show ((2 : Int) ^ min (24 : Int).toNat IntKind.u64.bits) = 16777216 from rfl]
 rw [w b0 (by omega), w b1 (by omega), w b2 (by omega), w b3 (by omega), w (b1 * 256) (by omega), w (b2 * 65536) (by omega), w (b3 * 16777216) (by omega)]
 rw [or64' b0 b1 (b1 * 256) 8 (by omega) (by omega) (by omega) (by omega) (by omega), or64' (b0 + b1 * 256) b2 (b2 * 65536) 16 (by omega) (by omega) (by omega) (by omega) (by omega), or64' (b0 + b1 * 256 + b2 * 65536) b3 (b3 * 16777216) 24 (by omega) (by omega) (by omega) (by omega) (by omega)]
 omega
theorem eor_dg (n i : Nat) : eor (fun j => bt n (8 * i + j)) = dg n i := by
 have hb := fun j => bt_byte n (8 * i + j)
 unfold eor
 rw [four_or _ _ _ _ (hb 0) (hb 1) (hb 2) (hb 3), four_or _ _ _ _ (hb 4) (hb 5) (hb 6) (hb 7)]
 have hq : ∀ j, bt n (8 * i + j) = ((n / 18446744073709551616 ^ i / 2 ^ (8 * j) % 256 : Nat) : Int) := by
  intro j
  rw [bt, Nat.div_div_eq_div_mul, show (18446744073709551616 : Nat) = 2 ^ 64 from rfl, ← Nat.pow_mul, ← Nat.pow_add, show 8 * (8 * i + j) = 64 * i + 8 * j by omega]
 rw [dg]
 simp only [hq]
 generalize n / 18446744073709551616 ^ i = m
 rw [show ((2 : Int) ^ min (32 : Int).toNat IntKind.u64.bits) = 4294967296 from rfl, IntKind.wrap_u64]
 simp only [Nat.mul_zero, Nat.pow_zero, Nat.div_one]
 rw [or64' _ (((m / 2 ^ (8 * 4) % 256 : Nat) : Int) + 256 * ((m / 2 ^ (8 * 5) % 256 : Nat) : Int) + 65536 * ((m / 2 ^ (8 * 6) % 256 : Nat) : Int) + 16777216 * ((m / 2 ^ (8 * 7) % 256 : Nat) : Int)) _ 32 (by omega) (by omega) (by omega) (by omega) (by omega)]
 omega
set_option maxRecDepth 100000 in
set_option maxHeartbeats 3200000 in
theorem read_exec (n : Nat) (l : List Int) (hl : l = by32 n) : execF E0 Tryz.f85 [.agg (.flat .u8 l)] (ret1 (W n)) := by
 have hlen : l.length = 32 := by rw [hl, byk_len]
 ((conv => whnf); repeat ((first | refine ⟨_, rfl, ?_⟩ | refine ⟨by decide, ?_⟩ | refine ⟨rfl, ?_⟩ | refine ⟨fun _ => ?_, fun h => absurd h (by decide)⟩ | refine ⟨fun h => absurd h (by decide), fun _ => ?_⟩ | refine ⟨inI_of (by omega), ?_⟩ | refine ⟨⟨rfl, inI_of (by omega)⟩, ?_⟩ | refine ⟨⟨rfl, by decide⟩, ?_⟩ | (apply Exists.intro; refine ⟨?_, ?_⟩; ((try simp only); (try simp only [Nat.zero_add]); (try simp only [Nat.mul_one]); (try simp only [Int.toNat_natCast]); first | exact at_g (by omega) | exact put_flat (by omega))) | refine ⟨_, cut_all (by omega), ?_⟩ | refine ⟨_, lay_all (by omega) (by omega), ?_⟩ | refine ⟨_, lay_all (by (try simp only); (try simp only [List.length_replicate]); (try simp only [List.length_cons]); (try simp only [List.length_nil]); omega) (by omega), ?_⟩ | refine ⟨by omega, ?_⟩ | refine ⟨len_flat (by omega), ?_⟩ | refine ⟨apart_uv _ _ _, ?_⟩ | refine ⟨_, resSlot_own rfl (by omega) (by first | exact .inl rfl | exact .inr ⟨rfl, rfl⟩), ?_⟩ | refine ⟨(by kernel_rfl : regB _ = true), ?_⟩ | refine ⟨⟨rfl, inI_of (by omega), by decide⟩, ?_⟩ | (apply Exists.intro; refine ⟨?_, ?_⟩; ((try simp only); (try simp only [Nat.zero_add]); (try simp only [Nat.mul_one]); (try simp only [Int.toNat_natCast]); first | exact at_drop_g (by omega) | exact cut_rest (by omega)))); conv => whnf))
 refine .inl ⟨fun m st => ∃ (i : Nat) (o : List Int), m = 4 - i ∧ i ≤ 4 ∧ o = upd (dg n) [0, 0, 0, 0] i ∧ st = ⟨[.poison, .ptr 8 0, .ptr 16 0, .ptr 24 0, .poison, .poison, .poison, .poison, iv .i64 i, .poison, .poison, .poison, .poison, .poison, .poison, .poison, .poison, .poison, .poison, .poison, .poison, .poison, .poison, .poison, .poison, .poison, .poison, .poison, .poison, .poison, .poison, .poison, .poison, .poison, .poison, .poison, .poison, .poison, .poison, .poison, .poison, .poison, .poison, .poison, .poison, .poison, .poison, .poison, .poison, .poison, .poison, .poison, .poison, .poison, .poison, .poison, .poison, .poison, .poison, .poison, .poison, .poison, .poison, .poison, .poison, .poison, .poison, .poison, .poison],
   [(8, ⟨.flat .u8 l, 23, false⟩), (16, ⟨.flat .u64 [0, 0, 0, 0], 89, false⟩), (24, ⟨.flat .u64 o, 89, false⟩)]⟩,
   ⟨[0, 4, 5, 6, 7, 9, 10, 11, 12, 13, 14, 15, 16, 17, 18, 19, 20, 21, 22, 23, 24, 25, 26, 27, 28, 29, 30, 31, 32, 33, 34, 35, 36, 37, 38, 39, 40, 41, 42, 43, 44, 45, 46, 47, 48, 49, 50, 51, 52, 53, 54, 55, 56, 57, 58, 59, 60, 61, 62, 63, 64, 65, 66, 67, 68], [], 4, 0, [0, 0, 0, 0], rfl, by omega, (upd_zero _ _).symm, by kernel_rfl⟩, ?_⟩
 rintro _ _ ⟨i, o, rfl, hi, ho, rfl⟩
 have hol : o.length = 4 := by rw [ho, upd_len]; rfl
 conv => whnf
 refine ⟨fun h => ?_, fun h => ?_⟩
 ·have h := of_decide_eq_true h
  have h4 : i < 4 := by omega
  have e1 := eight i (by omega)
  have e2 := eight8 i (by omega)
  have e5 := up1 i (by omega)
  have hlo : LV.v (.int .i64 (IntKind.i64.wrap (8 * (i : Int)))) = .v (.int .i64 ((8 * i : Nat) : Int)) := by rw [e1]
  have hhi : LV.v (.int .i64 (IntKind.i64.wrap (IntKind.i64.wrap (8 * (i : Int)) + 8))) = .v (.int .i64 ((8 * i + 8 : Nat) : Int)) := by rw [e1, e2]
  have e3 : eor (fun j => g l (8 * i + j)) = dg n i := by
   have hg : ∀ j, j < 8 → g l (8 * i + j) = bt n (8 * i + j) := fun j hj => by rw [hl, g_byk (by omega)]
   rw [← eor_dg]
   unfold eor
   dsimp only
   rw [hg 0 (by omega), hg 1 (by omega), hg 2 (by omega), hg 3 (by omega), hg 4 (by omega), hg 5 (by omega), hg 6 (by omega), hg 7 (by omega)]
  ((conv => whnf); repeat ((first | refine ⟨_, slice_arr (l := 8 * i) (m := 8) rfl rfl hlo hhi (by omega) (by omega), ?_⟩ | refine ⟨by decide, ?_⟩ | refine ⟨rfl, ?_⟩ | refine ⟨inI_of (by omega), ?_⟩ | (apply Exists.intro; refine ⟨?_, ?_⟩; ((try simp only); (try simp only [Nat.zero_add]); (try simp only [Nat.mul_one]); (try simp only [Int.toNat_natCast]); first | exact at_g (by omega) | exact put_flat (by omega)))); conv => whnf))
  refine ⟨[0, 4, 5, 6, 7, 9, 10, 11, 12, 13, 14, 15, 16, 17, 18, 19, 20, 21, 22, 23, 24, 25, 26, 27, 28, 29, 30, 31, 32, 33, 34, 35, 36, 37, 38, 39, 40, 41, 42, 43, 44, 45, 46, 47, 48, 49, 50, 51, 52, 53, 54, 55, 56, 57, 58, 59, 60, 61, 62, 63, 64, 65, 66, 67, 68], [], 4 - (i + 1), ?_, i + 1, o.set i (dg n i), rfl, by omega, by rw [ho, upd_set _ _ h4], ?_⟩
  ·omega
  ·rw [← e5, ← e3]; kernel_rfl
 ·have h := of_decide_eq_false h
  have hi' : i = 4 := by omega
  subst hi'
  have e3 : o = wd n := by rw [ho]; exact upd_all (dg n) [0, 0, 0, 0] (n := 4) rfl
  ((conv => whnf); repeat ((first | refine ⟨_, rfl, ?_⟩ | refine ⟨rfl, ?_⟩ | refine ⟨_, cut_all (by omega), ?_⟩ | refine ⟨_, lay_all (by (try simp only); (try simp only [List.length_replicate]); (try simp only [List.length_cons]); (try simp only [List.length_nil]); omega) (by omega), ?_⟩ | refine ⟨len_flat (by omega), ?_⟩); conv => whnf))
  rw [e3]; rfl
theorem read_call (a : Nat) (_ : a < 2 ^ 256) : CallOk Tryz.prog 85 [F a] (ret1 (W a)) := execF_ok follows_ok E0_ok Tryz.func85 (read_exec a _ rfl)
end Go.Proofs.YtdeigmjbcbjgeaaGreatDoor
