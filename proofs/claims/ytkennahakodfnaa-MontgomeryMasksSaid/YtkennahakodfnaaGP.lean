/-
  Layer 9: the answer's ladder.
-/
import Derived.Test.YtkennahakodfnaaGO
namespace Go.Proofs.Ytkennahakodfnaa
open Go.RowKit

theorem e3_same : e3R = e3P := by kernel_rfl
theorem pw_ltP (x : Nat) : pw x e3R < pP := by
  have : ∀ k, pwk x e3R (k + 1) < pP := fun k => by rw [pwk]; split <;> exact Nat.mod_lt _ pP_pos
  exact this 255
theorem pP_lt2 : pP + pP < 2 ^ 256 := by decide
theorem W_24 : wd 121665 = [121665, 0, 0, 0] := by kernel_rfl

theorem t_Plus {a b : Nat} (ha : a < pP) (hb : b < pP) : EG3.orc 35 [W a, W b] = some (ret1 (W (nA a b))) := (show EG3.orc 35 [W a, W b] = ER6.orc 35 [W a, W b] from rfl).trans (r_Plus6 (lt256 ha) (lt256 hb) (by have := pP_lt2; omega))
theorem t_Minus {a b : Nat} (ha : a < pP) (hb : b < pP) : EG3.orc 36 [W a, W b] = some (ret1 (W (nS a b))) := (show EG3.orc 36 [W a, W b] = ER6.orc 36 [W a, W b] from rfl).trans ((r_Minus6 (lt256 ha) (lt256 hb) (Nat.le_of_lt hb)).trans (by
  have h := minR_mod a b
  rw [Nat.mod_eq_of_lt ha, Nat.mod_eq_of_lt hb] at h
  rw [h, nS, Nat.mod_eq_of_lt hb]))
theorem t_Times {a b : Nat} (ha : a < pP) (hb : b < pP) : EG3.orc 37 [W a, W b] = some (ret1 (W (nM a b))) := (show EG3.orc 37 [W a, W b] = ER6.orc 37 [W a, W b] from rfl).trans (r_Times6 (lt256 ha) (lt256 hb))
theorem t_Inverse {a : Nat} (ha : a < 2 ^ 256) : EG3.orc 38 [W a] = some (ret1 (W (pw a e3R))) := (show EG3.orc 38 [W a] = ER6.orc 38 [W a] from rfl).trans (o_rInverse ha)
theorem t_Load {a : Nat} (ha : a < 2 ^ 256) : EG3.orc 34 [F a] = some (ret1 (W a)) := (show EG3.orc 34 [F a] = ER6.orc 34 [F a] from rfl).trans (o_load ha)
theorem t_Store {a : Nat} (ha : a < 2 ^ 256) : EG3.orc 15 [W a] = some (ret1 (F a)) := (show EG3.orc 15 [W a] = ER6.orc 15 [W a] from rfl).trans (o_store ha)
theorem t_Mod {a : Nat} (ha : a < 2 ^ 256) : EG3.orc 33 [W a] = some (ret1 (W (a % pP))) := (show EG3.orc 33 [W a] = ER6.orc 33 [W a] from rfl).trans (r_Mod6 ha)
set_option maxRecDepth 100000 in
set_option maxHeartbeats 8000000 in
theorem rMult_exec (k u0 u n : Nat) (K l m : List Int) (hk : k < 2 ^ 256) (hu : u = u0 % 2 ^ 255 % pP) (hn : n = clampN k) (hK : K = by32 k) (hl : l = by32 n) (hm : m = by32 u0) : execF EG3 Try.f12 [.agg (.flat .u8 K), .agg (.flat .u8 m)] (ret1 (F (mlt u n))) := by
  have lK : K.length = 32 := by rw [hK, byk_len]
  have ll : l.length = 32 := by rw [hl, byk_len]
  have lm : m.length = 32 := by rw [hm, byk_len]
  obtain ⟨x1, hx1⟩ : ∃ x1, x1 = g m 31 := ⟨_, rfl⟩
  have a1 : (Cont.flat .u8 m).at? 31 = some (.v (.int .u8 x1)) := by rw [hx1]; exact at_g (by omega)
  obtain ⟨m1, hm1⟩ : ∃ m1, m1 = m.set 31 (bits .and .u8 x1 127) := ⟨_, rfl⟩
  have p1 : layOne (.flat .u8 m) 31 (.flat .u8 [bits .and .u8 x1 127]) = some (.flat .u8 m1) := by rw [hm1]; exact put_flat (by omega)
  have lm1 : m1.length = 32 := by rw [hm1, List.length_set]; exact lm
  have e : m1 = by32 (u0 % 2 ^ 255) := by
    have hx1' : x1 = bt u0 31 := by rw [hx1, hm, g_byk (by decide)]
    have c1 := (clamp_bits (u0 / 2 ^ (8 * 31) % 256) (by omega)).2.2.2.2.2
    rw [hm1, hm]
    refine mask_list u0 _ ?_
    rw [hx1']; exact c1
  have hv : u0 % 2 ^ 255 < 2 ^ 256 := by omega
  have hp : u < pP := by rw [hu]; exact Nat.mod_lt _ pP_pos
  have c24 : 121665 < pP := by decide
  have f1 := o_rClamp hk
  have f2 := t_Load hv
  have f3 := t_Mod hv
  rw [← hu] at f3
  obtain ⟨U, hU⟩ : ∃ U, U = wd u := ⟨_, rfl⟩
  have lU : U.length = 4 := by rw [hU]; rfl
  have n0 : (Cont.flat .u8 K).cut 0 32 = some (.flat .u8 K) := cut_all lK
  have n2 : (Cont.flat .u8 m1).cut 0 32 = some (.flat .u8 m1) := cut_all lm1
  rw [F, F, ← hK, ← hn, ← hl] at f1
  rw [F, ← e] at f2
  simp only [W] at f2 f3
  rw [← hU] at f3
  clear hm1 hx1 hK e hm
  ((conv => whnf); repeat ((first | refine ⟨_, a1, ?_⟩ | refine ⟨_, p1, ?_⟩ | refine ⟨_, n0, ?_⟩ | refine ⟨_, n2, ?_⟩ | ((with_reducible refine isN_EG3 10 ?_); refine ⟨_, f1, ?_⟩) | ((with_reducible refine isN_EG3 34 ?_); refine ⟨_, f2, ?_⟩) | ((with_reducible refine isN_EG3 33 ?_); refine ⟨_, f3, ?_⟩) | refine ⟨_, rfl, ?_⟩ | refine ⟨by decide, ?_⟩ | refine ⟨rfl, ?_⟩ | refine ⟨fun _ => ?_, fun h => absurd h (by decide)⟩ | refine ⟨fun h => absurd h (by decide), fun _ => ?_⟩ | refine ⟨inI_of (by omega), ?_⟩ | refine ⟨⟨rfl, inI_of (by omega)⟩, ?_⟩ | refine ⟨⟨rfl, by decide⟩, ?_⟩ | (apply Exists.intro; refine ⟨?_, ?_⟩; ((try simp only); (try simp only [Nat.zero_add]); (try simp only [Nat.mul_one]); (try simp only [Int.toNat_natCast]); exact at_g (by omega))) | (apply Exists.intro; refine ⟨?_, ?_⟩; ((try simp only); (try simp only [Nat.zero_add]); (try simp only [Nat.mul_one]); (try simp only [Int.toNat_natCast]); exact put_flat (by omega))) | refine ⟨_, cut_all (by omega), ?_⟩ | refine ⟨_, lay_all (by omega) (by omega), ?_⟩ | refine ⟨_, lay_all (by (try simp only); (try simp only [List.length_replicate]); (try simp only [List.length_cons]); (try simp only [List.length_nil]); omega) (by omega), ?_⟩ | refine ⟨by omega, ?_⟩ | refine ⟨len_flat (by omega), ?_⟩ | refine ⟨apart_uv _ _ _, ?_⟩ | refine ⟨_, resSlot_own rfl (by omega) (by first | exact .inl rfl | exact .inr ⟨rfl, rfl⟩), ?_⟩ | refine ⟨(by kernel_rfl : regB _ = true), ?_⟩ | refine ⟨⟨rfl, inI_of (by omega), by decide⟩, ?_⟩ | (apply Exists.intro; refine ⟨?_, ?_⟩; ((try simp only); (try simp only [Nat.zero_add]); (try simp only [Nat.mul_one]); (try simp only [Int.toNat_natCast]); exact at_drop_g (by omega))) | (apply Exists.intro; refine ⟨?_, ?_⟩; ((try simp only); (try simp only [Nat.zero_add]); (try simp only [Nat.mul_one]); (try simp only [Int.toNat_natCast]); exact cut_rest (by omega)))); conv => whnf))
  refine .inl ⟨fun m st => ∃ (i : Nat) (A B C D U : List Int), m = i ∧ U = wd u ∧ i ≤ 256 ∧ A = wd (lad u n (256 - i)).x ∧ B = wd (lad u n (256 - i)).z ∧ C = wd (lad u n (256 - i)).v ∧ D = wd (lad u n (256 - i)).w ∧ st = ⟨[.poison, .poison, .ptr 16 0, .ptr 24 0, .ptr 32 0, .ptr 40 0, .ptr 48 0, .ptr 56 0, .ptr 64 0, .ptr 72 0, iv .i64 ((i : Int) - 1), .poison, .poison, .poison, .poison, .poison, .poison, .poison, .poison, .poison, .poison, .poison, .poison, .poison, .poison, .poison, .poison, .poison, .poison, .poison, .poison, .poison, .poison, .poison, .poison, .poison, .poison, .poison, .poison, .poison, .poison, .poison, .poison, .poison, .poison, .poison, .poison, .poison, .poison, .poison, .poison, .poison, .poison, .poison, .poison, .poison, .poison, .poison, .poison, .poison, .poison, .poison, .poison, .poison, .poison, .poison, .poison, .poison, .poison, .poison, .poison, .poison, .poison, .poison, .poison, .poison, .poison, .poison, .poison, .poison, .poison, .poison, .poison, .poison, .poison, .poison, .poison, .poison, .poison, .poison, .poison, .poison, .poison, .poison, .poison, .poison, .poison, .poison, .poison, .poison, .poison, .poison, .poison, .poison, .poison, .poison, .poison, .poison, .poison, .poison, .poison, .poison],
      [(16, ⟨.flat .u8 l, 23, false⟩), (24, ⟨.flat .u8 m1, 23, false⟩), (32, ⟨.flat .u8 (by32 0), 23, false⟩), (40, ⟨.flat .u64 U, 33, false⟩), (48, ⟨.flat .u64 A, 33, false⟩), (56, ⟨.flat .u64 B, 33, false⟩), (64, ⟨.flat .u64 C, 33, false⟩), (72, ⟨.flat .u64 D, 33, false⟩)]⟩,
      ⟨[0, 1, 11, 12, 13, 14, 15, 16, 17, 18, 19, 20, 21, 22, 23, 24, 25, 26, 27, 28, 29, 30, 31, 32, 33, 34, 35, 36, 37, 38, 39, 40, 41, 42, 43, 44, 45, 46, 47, 48, 49, 50, 51, 52, 53, 54, 55, 56, 57, 58, 59, 60, 61, 62, 63, 64, 65, 66, 67, 68, 69, 70, 71, 72, 73, 74, 75, 76, 77, 78, 79, 80, 81, 82, 83, 84, 85, 86, 87, 88, 89, 90, 91, 92, 93, 94, 95, 96, 97, 98, 99, 100, 101, 102, 103, 104, 105, 106, 107, 108, 109, 110, 111], [], 256, 256, wd 1, wd 0, U, wd 1, U, rfl, hU, by omega, rfl, rfl, hU, rfl, by kernel_rfl⟩, ?_⟩
  clear f1 f2 f3 hU lU U
  rintro i _ ⟨_, A, B, C, D, U, rfl, hU, hi, hA, hB, hC, hD, rfl⟩
  cases i with
  | zero =>
    have lt := lad_lt n hp 256
    have f1 := t_Inverse (lt256 lt.2.1)
    have f2 := t_Times lt.1 (pw_ltP (lad u n 256).z)
    have f3 := t_Store (lt256 (nM_lp (lad u n 256).x (pw (lad u n 256).z e3R)))
    simp only [W] at f1 f2 f3
    rw [← hB] at f1
    rw [← hA] at f2
    have lA : A.length = 4 := by rw [hA]; rfl
    have lB : B.length = 4 := by rw [hB]; rfl
    clear hA hB hC hD
    conv => whnf
    refine ⟨fun h => absurd h (by decide), fun _ => ?_⟩
    ((conv => whnf); repeat ((first | ((with_reducible refine isN_EG3 38 ?_); refine ⟨_, f1, ?_⟩) | ((with_reducible refine isN_EG3 37 ?_); refine ⟨_, f2, ?_⟩) | ((with_reducible refine isN_EG3 15 ?_); refine ⟨_, f3, ?_⟩) | refine ⟨_, rfl, ?_⟩ | refine ⟨by decide, ?_⟩ | refine ⟨rfl, ?_⟩ | refine ⟨fun _ => ?_, fun h => absurd h (by decide)⟩ | refine ⟨fun h => absurd h (by decide), fun _ => ?_⟩ | refine ⟨inI_of (by omega), ?_⟩ | refine ⟨⟨rfl, inI_of (by omega)⟩, ?_⟩ | refine ⟨⟨rfl, by decide⟩, ?_⟩ | (apply Exists.intro; refine ⟨?_, ?_⟩; ((try simp only); (try simp only [Nat.zero_add]); (try simp only [Nat.mul_one]); (try simp only [Int.toNat_natCast]); exact at_g (by omega))) | (apply Exists.intro; refine ⟨?_, ?_⟩; ((try simp only); (try simp only [Nat.zero_add]); (try simp only [Nat.mul_one]); (try simp only [Int.toNat_natCast]); exact put_flat (by omega))) | refine ⟨_, cut_all (by omega), ?_⟩ | refine ⟨_, lay_all (by omega) (by omega), ?_⟩ | refine ⟨_, lay_all (by (try simp only); (try simp only [List.length_replicate]); (try simp only [List.length_cons]); (try simp only [List.length_nil]); omega) (by omega), ?_⟩ | refine ⟨by omega, ?_⟩ | refine ⟨len_flat (by omega), ?_⟩ | refine ⟨apart_uv _ _ _, ?_⟩ | refine ⟨_, resSlot_own rfl (by omega) (by first | exact .inl rfl | exact .inr ⟨rfl, rfl⟩), ?_⟩ | refine ⟨(by kernel_rfl : regB _ = true), ?_⟩ | refine ⟨⟨rfl, inI_of (by omega), by decide⟩, ?_⟩ | (apply Exists.intro; refine ⟨?_, ?_⟩; ((try simp only); (try simp only [Nat.zero_add]); (try simp only [Nat.mul_one]); (try simp only [Int.toNat_natCast]); exact at_drop_g (by omega))) | (apply Exists.intro; refine ⟨?_, ?_⟩; ((try simp only); (try simp only [Nat.zero_add]); (try simp only [Nat.mul_one]); (try simp only [Int.toNat_natCast]); exact cut_rest (by omega)))); conv => whnf))
    rfl
  | succ j =>
    rw [down1]
    have lU : U.length = 4 := by rw [hU]; rfl
    have lA : A.length = 4 := by rw [hA]; rfl
    have lB : B.length = 4 := by rw [hB]; rfl
    have lC : C.length = 4 := by rw [hC]; rfl
    have lD : D.length = 4 := by rw [hD]; rfl
    rw [show 256 - (j + 1) = 255 - j by omega] at hA hB hC hD
    have e1 := tdiv8k j (by omega)
    have e2 := down64 j (by omega)
    have eb := bit_ku (l := l) (n := n) (i := j) (by rw [hl, g_byk (by omega)])
    have hs : lad u n (256 - j) = if Nat.testBit n j then swp (stp u (swp (lad u n (255 - j)))) else stp u (lad u n (255 - j)) := by
      rw [show 256 - j = 255 - j + 1 by omega, lad, show 255 - (255 - j) = j by omega]
    have h0 : decide ((j : Int) ≥ 0) = true := decide_eq_true (by omega)
    rcases hb : Nat.testBit n j with _ | _
    · rw [hb] at eb hs
      have q : (bits .and .u8 ((g l (j / 8)).fdiv (2 ^ min (IntKind.u64.wrap ((j : Int).tmod 8)).toNat IntKind.u8.bits)) 1 == 1) = false := by rw [eb]; rfl
      have lt : Lad.lt (lad u n (255 - j)) := lad_lt n hp _
      obtain ⟨n_p, k_p⟩ : ∃ x, x = nA ((lad u n (255 - j)).x) ((lad u n (255 - j)).z) := ⟨_, rfl⟩
      have g_p : n_p < pP := (by rw [k_p]; exact nA_lp _ _)
      obtain ⟨n_m, k_m⟩ : ∃ x, x = nS ((lad u n (255 - j)).x) ((lad u n (255 - j)).z) := ⟨_, rfl⟩
      have g_m : n_m < pP := (by rw [k_m]; exact nS_lp _ _)
      obtain ⟨n_aa, k_aa⟩ : ∃ x, x = nM n_p n_p := ⟨_, rfl⟩
      have g_aa : n_aa < pP := (by rw [k_aa]; exact nM_lp _ _)
      obtain ⟨n_bb, k_bb⟩ : ∃ x, x = nM n_m n_m := ⟨_, rfl⟩
      have g_bb : n_bb < pP := (by rw [k_bb]; exact nM_lp _ _)
      obtain ⟨n_e, k_e⟩ : ∃ x, x = nS n_aa n_bb := ⟨_, rfl⟩
      have g_e : n_e < pP := (by rw [k_e]; exact nS_lp _ _)
      obtain ⟨n_t1, k_t1⟩ : ∃ x, x = nS ((lad u n (255 - j)).v) ((lad u n (255 - j)).w) := ⟨_, rfl⟩
      have g_t1 : n_t1 < pP := (by rw [k_t1]; exact nS_lp _ _)
      obtain ⟨n_da, k_da⟩ : ∃ x, x = nM n_t1 n_p := ⟨_, rfl⟩
      have g_da : n_da < pP := (by rw [k_da]; exact nM_lp _ _)
      obtain ⟨n_t2, k_t2⟩ : ∃ x, x = nA ((lad u n (255 - j)).v) ((lad u n (255 - j)).w) := ⟨_, rfl⟩
      have g_t2 : n_t2 < pP := (by rw [k_t2]; exact nA_lp _ _)
      obtain ⟨n_cb, k_cb⟩ : ∃ x, x = nM n_t2 n_m := ⟨_, rfl⟩
      have g_cb : n_cb < pP := (by rw [k_cb]; exact nM_lp _ _)
      obtain ⟨n_t3, k_t3⟩ : ∃ x, x = nA n_da n_cb := ⟨_, rfl⟩
      have g_t3 : n_t3 < pP := (by rw [k_t3]; exact nA_lp _ _)
      obtain ⟨n_t4, k_t4⟩ : ∃ x, x = nS n_da n_cb := ⟨_, rfl⟩
      have g_t4 : n_t4 < pP := (by rw [k_t4]; exact nS_lp _ _)
      obtain ⟨n_sx, k_sx⟩ : ∃ x, x = nM n_t3 n_t3 := ⟨_, rfl⟩
      have g_sx : n_sx < pP := (by rw [k_sx]; exact nM_lp _ _)
      obtain ⟨n_t5, k_t5⟩ : ∃ x, x = nM n_t4 n_t4 := ⟨_, rfl⟩
      have g_t5 : n_t5 < pP := (by rw [k_t5]; exact nM_lp _ _)
      obtain ⟨n_sz, k_sz⟩ : ∃ x, x = nM (u) n_t5 := ⟨_, rfl⟩
      have g_sz : n_sz < pP := (by rw [k_sz]; exact nM_lp _ _)
      obtain ⟨n_dx, k_dx⟩ : ∃ x, x = nM n_aa n_bb := ⟨_, rfl⟩
      have g_dx : n_dx < pP := (by rw [k_dx]; exact nM_lp _ _)
      obtain ⟨n_t6, k_t6⟩ : ∃ x, x = nM (121665) n_e := ⟨_, rfl⟩
      have g_t6 : n_t6 < pP := (by rw [k_t6]; exact nM_lp _ _)
      obtain ⟨n_t7, k_t7⟩ : ∃ x, x = nA n_aa n_t6 := ⟨_, rfl⟩
      have g_t7 : n_t7 < pP := (by rw [k_t7]; exact nA_lp _ _)
      obtain ⟨n_dz, k_dz⟩ : ∃ x, x = nM n_e n_t7 := ⟨_, rfl⟩
      have g_dz : n_dz < pP := (by rw [k_dz]; exact nM_lp _ _)
      have f0 := t_Plus lt.1 lt.2.1
      rw [← k_p] at f0
      have f1 := t_Minus lt.1 lt.2.1
      rw [← k_m] at f1
      have f2 := t_Times g_p g_p
      rw [← k_aa] at f2
      have f3 := t_Times g_m g_m
      rw [← k_bb] at f3
      have f4 := t_Minus g_aa g_bb
      rw [← k_e] at f4
      have f5 := t_Minus lt.2.2.1 lt.2.2.2
      rw [← k_t1] at f5
      have f6 := t_Times g_t1 g_p
      rw [← k_da] at f6
      have f7 := t_Plus lt.2.2.1 lt.2.2.2
      rw [← k_t2] at f7
      have f8 := t_Times g_t2 g_m
      rw [← k_cb] at f8
      have f9 := t_Plus g_da g_cb
      rw [← k_t3] at f9
      have f10 := t_Minus g_da g_cb
      rw [← k_t4] at f10
      have f11 := t_Times g_t3 g_t3
      rw [← k_sx] at f11
      have f12 := t_Times g_t4 g_t4
      rw [← k_t5] at f12
      have f13 := t_Times hp g_t5
      rw [← k_sz] at f13
      have f14 := t_Times g_aa g_bb
      rw [← k_dx] at f14
      have f15 := t_Times c24 g_e
      rw [← k_t6] at f15
      have f16 := t_Plus g_aa g_t6
      rw [← k_t7] at f16
      have f17 := t_Times g_e g_t7
      rw [← k_dz] at f17
      obtain ⟨l_p, e_p⟩ : ∃ x, x = wd n_p := ⟨_, rfl⟩
      have s_p : l_p.length = 4 := by rw [e_p]; rfl
      obtain ⟨l_m, e_m⟩ : ∃ x, x = wd n_m := ⟨_, rfl⟩
      have s_m : l_m.length = 4 := by rw [e_m]; rfl
      obtain ⟨l_aa, e_aa⟩ : ∃ x, x = wd n_aa := ⟨_, rfl⟩
      have s_aa : l_aa.length = 4 := by rw [e_aa]; rfl
      obtain ⟨l_bb, e_bb⟩ : ∃ x, x = wd n_bb := ⟨_, rfl⟩
      have s_bb : l_bb.length = 4 := by rw [e_bb]; rfl
      obtain ⟨l_e, e_e⟩ : ∃ x, x = wd n_e := ⟨_, rfl⟩
      have s_e : l_e.length = 4 := by rw [e_e]; rfl
      obtain ⟨l_t1, e_t1⟩ : ∃ x, x = wd n_t1 := ⟨_, rfl⟩
      have s_t1 : l_t1.length = 4 := by rw [e_t1]; rfl
      obtain ⟨l_da, e_da⟩ : ∃ x, x = wd n_da := ⟨_, rfl⟩
      have s_da : l_da.length = 4 := by rw [e_da]; rfl
      obtain ⟨l_t2, e_t2⟩ : ∃ x, x = wd n_t2 := ⟨_, rfl⟩
      have s_t2 : l_t2.length = 4 := by rw [e_t2]; rfl
      obtain ⟨l_cb, e_cb⟩ : ∃ x, x = wd n_cb := ⟨_, rfl⟩
      have s_cb : l_cb.length = 4 := by rw [e_cb]; rfl
      obtain ⟨l_t3, e_t3⟩ : ∃ x, x = wd n_t3 := ⟨_, rfl⟩
      have s_t3 : l_t3.length = 4 := by rw [e_t3]; rfl
      obtain ⟨l_t4, e_t4⟩ : ∃ x, x = wd n_t4 := ⟨_, rfl⟩
      have s_t4 : l_t4.length = 4 := by rw [e_t4]; rfl
      obtain ⟨l_sx, e_sx⟩ : ∃ x, x = wd n_sx := ⟨_, rfl⟩
      have s_sx : l_sx.length = 4 := by rw [e_sx]; rfl
      obtain ⟨l_t5, e_t5⟩ : ∃ x, x = wd n_t5 := ⟨_, rfl⟩
      have s_t5 : l_t5.length = 4 := by rw [e_t5]; rfl
      obtain ⟨l_sz, e_sz⟩ : ∃ x, x = wd n_sz := ⟨_, rfl⟩
      have s_sz : l_sz.length = 4 := by rw [e_sz]; rfl
      obtain ⟨l_dx, e_dx⟩ : ∃ x, x = wd n_dx := ⟨_, rfl⟩
      have s_dx : l_dx.length = 4 := by rw [e_dx]; rfl
      obtain ⟨l_t6, e_t6⟩ : ∃ x, x = wd n_t6 := ⟨_, rfl⟩
      have s_t6 : l_t6.length = 4 := by rw [e_t6]; rfl
      obtain ⟨l_t7, e_t7⟩ : ∃ x, x = wd n_t7 := ⟨_, rfl⟩
      have s_t7 : l_t7.length = 4 := by rw [e_t7]; rfl
      obtain ⟨l_dz, e_dz⟩ : ∃ x, x = wd n_dz := ⟨_, rfl⟩
      have s_dz : l_dz.length = 4 := by rw [e_dz]; rfl
      have b_x2 : wd (lad u n (255 - j)).x = A := hA.symm
      have b_z2 : wd (lad u n (255 - j)).z = B := hB.symm
      have b_x3 : wd (lad u n (255 - j)).v = C := hC.symm
      have b_z3 : wd (lad u n (255 - j)).w = D := hD.symm
      simp only [W] at f0
      rw [b_x2, b_z2, ← e_p] at f0
      simp only [W] at f1
      rw [b_x2, b_z2, ← e_m] at f1
      simp only [W] at f2
      rw [← e_p, ← e_aa] at f2
      simp only [W] at f3
      rw [← e_m, ← e_bb] at f3
      simp only [W] at f4
      rw [← e_aa, ← e_bb, ← e_e] at f4
      simp only [W] at f5
      rw [b_x3, b_z3, ← e_t1] at f5
      simp only [W] at f6
      rw [← e_t1, ← e_p, ← e_da] at f6
      simp only [W] at f7
      rw [b_x3, b_z3, ← e_t2] at f7
      simp only [W] at f8
      rw [← e_t2, ← e_m, ← e_cb] at f8
      simp only [W] at f9
      rw [← e_da, ← e_cb, ← e_t3] at f9
      simp only [W] at f10
      rw [← e_da, ← e_cb, ← e_t4] at f10
      simp only [W] at f11
      rw [← e_t3, ← e_sx] at f11
      simp only [W] at f12
      rw [← e_t4, ← e_t5] at f12
      simp only [W] at f13
      rw [← hU, ← e_t5, ← e_sz] at f13
      simp only [W] at f14
      rw [← e_aa, ← e_bb, ← e_dx] at f14
      simp only [W] at f15
      rw [W_24, ← e_e, ← e_t6] at f15
      simp only [W] at f16
      rw [← e_aa, ← e_t6, ← e_t7] at f16
      simp only [W] at f17
      rw [← e_e, ← e_t7, ← e_dz] at f17
      have E : ⟨n_dx, n_dz, n_sx, n_sz⟩ = stp u (lad u n (255 - j)) := by
        subst k_dz k_t7 k_t6 k_dx k_sz k_t5 k_sx k_t4 k_t3 k_cb k_t2 k_da k_t1 k_e k_bb k_aa k_m k_p
        rfl
      clear k_p k_m k_aa k_bb k_e k_t1 k_da k_t2 k_cb k_t3 k_t4 k_sx k_t5 k_sz k_dx k_t6 k_t7 k_dz
      ((conv => whnf); repeat ((first | refine ⟨fun _ => ?_, fun h => absurd ((h0).symm.trans h) (by decide)⟩ | refine ⟨fun h => absurd ((h0).symm.trans h) (by decide), fun _ => ?_⟩ | refine ⟨fun _ => ?_, fun h => absurd ((q).symm.trans h) (by decide)⟩ | refine ⟨fun h => absurd ((q).symm.trans h) (by decide), fun _ => ?_⟩ | refine ⟨u64_nn _, ?_⟩ | ((with_reducible refine isN_EG3 35 ?_); first | refine ⟨_, f0, ?_⟩ | refine ⟨_, f7, ?_⟩ | refine ⟨_, f9, ?_⟩ | refine ⟨_, f16, ?_⟩) | ((with_reducible refine isN_EG3 36 ?_); first | refine ⟨_, f1, ?_⟩ | refine ⟨_, f4, ?_⟩ | refine ⟨_, f5, ?_⟩ | refine ⟨_, f10, ?_⟩) | ((with_reducible refine isN_EG3 37 ?_); first | refine ⟨_, f2, ?_⟩ | refine ⟨_, f3, ?_⟩ | refine ⟨_, f6, ?_⟩ | refine ⟨_, f8, ?_⟩ | refine ⟨_, f11, ?_⟩ | refine ⟨_, f12, ?_⟩ | refine ⟨_, f13, ?_⟩ | refine ⟨_, f14, ?_⟩ | refine ⟨_, f15, ?_⟩ | refine ⟨_, f17, ?_⟩) | refine ⟨_, rfl, ?_⟩ | refine ⟨by decide, ?_⟩ | refine ⟨rfl, ?_⟩ | refine ⟨fun _ => ?_, fun h => absurd h (by decide)⟩ | refine ⟨fun h => absurd h (by decide), fun _ => ?_⟩ | refine ⟨inI_of (by omega), ?_⟩ | refine ⟨⟨rfl, inI_of (by omega)⟩, ?_⟩ | refine ⟨⟨rfl, by decide⟩, ?_⟩ | refine ⟨by (try simp only); (try simp only [e1]); exact inI_of (by omega), ?_⟩ | refine ⟨⟨rfl, by (try simp only); (try simp only [e1]); exact inI_of (by omega)⟩, ?_⟩ | (apply Exists.intro; refine ⟨?_, ?_⟩; ((try simp only); (try simp only [e1]); (try simp only [Nat.zero_add]); (try simp only [Nat.mul_one]); (try simp only [Int.toNat_natCast]); (try simp only [e1]); (try simp only [Nat.zero_add]); (try simp only [Nat.mul_one]); (try simp only [Int.toNat_natCast]); exact at_g (by omega))) | (apply Exists.intro; refine ⟨?_, ?_⟩; ((try simp only); (try simp only [e1]); (try simp only [Nat.zero_add]); (try simp only [Nat.mul_one]); (try simp only [Int.toNat_natCast]); (try simp only [e1]); (try simp only [Nat.zero_add]); (try simp only [Nat.mul_one]); (try simp only [Int.toNat_natCast]); exact put_flat (by omega))) | refine ⟨_, cut_all (by omega), ?_⟩ | refine ⟨_, lay_all (by omega) (by omega), ?_⟩ | refine ⟨_, lay_all (by (try simp only); (try simp only [List.length_replicate]); (try simp only [List.length_cons]); (try simp only [List.length_nil]); omega) (by omega), ?_⟩ | refine ⟨by omega, ?_⟩ | refine ⟨len_flat (by omega), ?_⟩ | refine ⟨apart_uv _ _ _, ?_⟩ | refine ⟨_, resSlot_own rfl (by omega) (by first | exact .inl rfl | exact .inr ⟨rfl, rfl⟩), ?_⟩ | refine ⟨(by kernel_rfl : regB _ = true), ?_⟩ | refine ⟨⟨rfl, inI_of (by omega), by decide⟩, ?_⟩ | refine ⟨⟨rfl, by (try simp only); (try simp only [e1]); exact inI_of (by omega), by decide⟩, ?_⟩ | (apply Exists.intro; refine ⟨?_, ?_⟩; ((try simp only); (try simp only [e1]); (try simp only [Nat.zero_add]); (try simp only [Nat.mul_one]); (try simp only [Int.toNat_natCast]); (try simp only [e1]); (try simp only [Nat.zero_add]); (try simp only [Nat.mul_one]); (try simp only [Int.toNat_natCast]); exact at_drop_g (by omega))) | (apply Exists.intro; refine ⟨?_, ?_⟩; ((try simp only); (try simp only [e1]); (try simp only [Nat.zero_add]); (try simp only [Nat.mul_one]); (try simp only [Int.toNat_natCast]); (try simp only [e1]); (try simp only [Nat.zero_add]); (try simp only [Nat.mul_one]); (try simp only [Int.toNat_natCast]); exact cut_rest (by omega)))); conv => whnf))
      refine ⟨[0, 1, 11, 12, 13, 14, 15, 16, 17, 18, 19, 20, 21, 22, 23, 24, 25, 26, 27, 28, 29, 30, 31, 32, 33, 34, 35, 36, 37, 38, 39, 40, 41, 42, 43, 44, 45, 46, 47, 48, 49, 50, 51, 52, 53, 54, 55, 56, 57, 58, 59, 60, 61, 62, 63, 64, 65, 66, 67, 68, 69, 70, 71, 72, 73, 74, 75, 76, 77, 78, 79, 80, 81, 82, 83, 84, 85, 86, 87, 88, 89, 90, 91, 92, 93, 94, 95, 96, 97, 98, 99, 100, 101, 102, 103, 104, 105, 106, 107, 108, 109, 110, 111], [96, 104, 112, 120, 128, 136, 144, 152, 160], j, ?_, j, l_dx, l_dz, l_sx, l_sz, U, rfl, hU, by omega, ?_, ?_, ?_, ?_, ?_⟩
      · omega
      · rw [hs, e_dx]; exact congrArg (fun s : Lad => wd s.x) E
      · rw [hs, e_dz]; exact congrArg (fun s : Lad => wd s.z) E
      · rw [hs, e_sx]; exact congrArg (fun s : Lad => wd s.v) E
      · rw [hs, e_sz]; exact congrArg (fun s : Lad => wd s.w) E
      · rw [e2]; kernel_rfl
    · rw [hb] at eb hs
      have q : (bits .and .u8 ((g l (j / 8)).fdiv (2 ^ min (IntKind.u64.wrap ((j : Int).tmod 8)).toNat IntKind.u8.bits)) 1 == 1) = true := by rw [eb]; rfl
      have lt : Lad.lt (swp (lad u n (255 - j))) := swp_lt (lad_lt n hp _)
      obtain ⟨n_p, k_p⟩ : ∃ x, x = nA ((swp (lad u n (255 - j))).x) ((swp (lad u n (255 - j))).z) := ⟨_, rfl⟩
      have g_p : n_p < pP := (by rw [k_p]; exact nA_lp _ _)
      obtain ⟨n_m, k_m⟩ : ∃ x, x = nS ((swp (lad u n (255 - j))).x) ((swp (lad u n (255 - j))).z) := ⟨_, rfl⟩
      have g_m : n_m < pP := (by rw [k_m]; exact nS_lp _ _)
      obtain ⟨n_aa, k_aa⟩ : ∃ x, x = nM n_p n_p := ⟨_, rfl⟩
      have g_aa : n_aa < pP := (by rw [k_aa]; exact nM_lp _ _)
      obtain ⟨n_bb, k_bb⟩ : ∃ x, x = nM n_m n_m := ⟨_, rfl⟩
      have g_bb : n_bb < pP := (by rw [k_bb]; exact nM_lp _ _)
      obtain ⟨n_e, k_e⟩ : ∃ x, x = nS n_aa n_bb := ⟨_, rfl⟩
      have g_e : n_e < pP := (by rw [k_e]; exact nS_lp _ _)
      obtain ⟨n_t1, k_t1⟩ : ∃ x, x = nS ((swp (lad u n (255 - j))).v) ((swp (lad u n (255 - j))).w) := ⟨_, rfl⟩
      have g_t1 : n_t1 < pP := (by rw [k_t1]; exact nS_lp _ _)
      obtain ⟨n_da, k_da⟩ : ∃ x, x = nM n_t1 n_p := ⟨_, rfl⟩
      have g_da : n_da < pP := (by rw [k_da]; exact nM_lp _ _)
      obtain ⟨n_t2, k_t2⟩ : ∃ x, x = nA ((swp (lad u n (255 - j))).v) ((swp (lad u n (255 - j))).w) := ⟨_, rfl⟩
      have g_t2 : n_t2 < pP := (by rw [k_t2]; exact nA_lp _ _)
      obtain ⟨n_cb, k_cb⟩ : ∃ x, x = nM n_t2 n_m := ⟨_, rfl⟩
      have g_cb : n_cb < pP := (by rw [k_cb]; exact nM_lp _ _)
      obtain ⟨n_t3, k_t3⟩ : ∃ x, x = nA n_da n_cb := ⟨_, rfl⟩
      have g_t3 : n_t3 < pP := (by rw [k_t3]; exact nA_lp _ _)
      obtain ⟨n_t4, k_t4⟩ : ∃ x, x = nS n_da n_cb := ⟨_, rfl⟩
      have g_t4 : n_t4 < pP := (by rw [k_t4]; exact nS_lp _ _)
      obtain ⟨n_sx, k_sx⟩ : ∃ x, x = nM n_t3 n_t3 := ⟨_, rfl⟩
      have g_sx : n_sx < pP := (by rw [k_sx]; exact nM_lp _ _)
      obtain ⟨n_t5, k_t5⟩ : ∃ x, x = nM n_t4 n_t4 := ⟨_, rfl⟩
      have g_t5 : n_t5 < pP := (by rw [k_t5]; exact nM_lp _ _)
      obtain ⟨n_sz, k_sz⟩ : ∃ x, x = nM (u) n_t5 := ⟨_, rfl⟩
      have g_sz : n_sz < pP := (by rw [k_sz]; exact nM_lp _ _)
      obtain ⟨n_dx, k_dx⟩ : ∃ x, x = nM n_aa n_bb := ⟨_, rfl⟩
      have g_dx : n_dx < pP := (by rw [k_dx]; exact nM_lp _ _)
      obtain ⟨n_t6, k_t6⟩ : ∃ x, x = nM (121665) n_e := ⟨_, rfl⟩
      have g_t6 : n_t6 < pP := (by rw [k_t6]; exact nM_lp _ _)
      obtain ⟨n_t7, k_t7⟩ : ∃ x, x = nA n_aa n_t6 := ⟨_, rfl⟩
      have g_t7 : n_t7 < pP := (by rw [k_t7]; exact nA_lp _ _)
      obtain ⟨n_dz, k_dz⟩ : ∃ x, x = nM n_e n_t7 := ⟨_, rfl⟩
      have g_dz : n_dz < pP := (by rw [k_dz]; exact nM_lp _ _)
      have f0 := t_Plus lt.1 lt.2.1
      rw [← k_p] at f0
      have f1 := t_Minus lt.1 lt.2.1
      rw [← k_m] at f1
      have f2 := t_Times g_p g_p
      rw [← k_aa] at f2
      have f3 := t_Times g_m g_m
      rw [← k_bb] at f3
      have f4 := t_Minus g_aa g_bb
      rw [← k_e] at f4
      have f5 := t_Minus lt.2.2.1 lt.2.2.2
      rw [← k_t1] at f5
      have f6 := t_Times g_t1 g_p
      rw [← k_da] at f6
      have f7 := t_Plus lt.2.2.1 lt.2.2.2
      rw [← k_t2] at f7
      have f8 := t_Times g_t2 g_m
      rw [← k_cb] at f8
      have f9 := t_Plus g_da g_cb
      rw [← k_t3] at f9
      have f10 := t_Minus g_da g_cb
      rw [← k_t4] at f10
      have f11 := t_Times g_t3 g_t3
      rw [← k_sx] at f11
      have f12 := t_Times g_t4 g_t4
      rw [← k_t5] at f12
      have f13 := t_Times hp g_t5
      rw [← k_sz] at f13
      have f14 := t_Times g_aa g_bb
      rw [← k_dx] at f14
      have f15 := t_Times c24 g_e
      rw [← k_t6] at f15
      have f16 := t_Plus g_aa g_t6
      rw [← k_t7] at f16
      have f17 := t_Times g_e g_t7
      rw [← k_dz] at f17
      obtain ⟨l_p, e_p⟩ : ∃ x, x = wd n_p := ⟨_, rfl⟩
      have s_p : l_p.length = 4 := by rw [e_p]; rfl
      obtain ⟨l_m, e_m⟩ : ∃ x, x = wd n_m := ⟨_, rfl⟩
      have s_m : l_m.length = 4 := by rw [e_m]; rfl
      obtain ⟨l_aa, e_aa⟩ : ∃ x, x = wd n_aa := ⟨_, rfl⟩
      have s_aa : l_aa.length = 4 := by rw [e_aa]; rfl
      obtain ⟨l_bb, e_bb⟩ : ∃ x, x = wd n_bb := ⟨_, rfl⟩
      have s_bb : l_bb.length = 4 := by rw [e_bb]; rfl
      obtain ⟨l_e, e_e⟩ : ∃ x, x = wd n_e := ⟨_, rfl⟩
      have s_e : l_e.length = 4 := by rw [e_e]; rfl
      obtain ⟨l_t1, e_t1⟩ : ∃ x, x = wd n_t1 := ⟨_, rfl⟩
      have s_t1 : l_t1.length = 4 := by rw [e_t1]; rfl
      obtain ⟨l_da, e_da⟩ : ∃ x, x = wd n_da := ⟨_, rfl⟩
      have s_da : l_da.length = 4 := by rw [e_da]; rfl
      obtain ⟨l_t2, e_t2⟩ : ∃ x, x = wd n_t2 := ⟨_, rfl⟩
      have s_t2 : l_t2.length = 4 := by rw [e_t2]; rfl
      obtain ⟨l_cb, e_cb⟩ : ∃ x, x = wd n_cb := ⟨_, rfl⟩
      have s_cb : l_cb.length = 4 := by rw [e_cb]; rfl
      obtain ⟨l_t3, e_t3⟩ : ∃ x, x = wd n_t3 := ⟨_, rfl⟩
      have s_t3 : l_t3.length = 4 := by rw [e_t3]; rfl
      obtain ⟨l_t4, e_t4⟩ : ∃ x, x = wd n_t4 := ⟨_, rfl⟩
      have s_t4 : l_t4.length = 4 := by rw [e_t4]; rfl
      obtain ⟨l_sx, e_sx⟩ : ∃ x, x = wd n_sx := ⟨_, rfl⟩
      have s_sx : l_sx.length = 4 := by rw [e_sx]; rfl
      obtain ⟨l_t5, e_t5⟩ : ∃ x, x = wd n_t5 := ⟨_, rfl⟩
      have s_t5 : l_t5.length = 4 := by rw [e_t5]; rfl
      obtain ⟨l_sz, e_sz⟩ : ∃ x, x = wd n_sz := ⟨_, rfl⟩
      have s_sz : l_sz.length = 4 := by rw [e_sz]; rfl
      obtain ⟨l_dx, e_dx⟩ : ∃ x, x = wd n_dx := ⟨_, rfl⟩
      have s_dx : l_dx.length = 4 := by rw [e_dx]; rfl
      obtain ⟨l_t6, e_t6⟩ : ∃ x, x = wd n_t6 := ⟨_, rfl⟩
      have s_t6 : l_t6.length = 4 := by rw [e_t6]; rfl
      obtain ⟨l_t7, e_t7⟩ : ∃ x, x = wd n_t7 := ⟨_, rfl⟩
      have s_t7 : l_t7.length = 4 := by rw [e_t7]; rfl
      obtain ⟨l_dz, e_dz⟩ : ∃ x, x = wd n_dz := ⟨_, rfl⟩
      have s_dz : l_dz.length = 4 := by rw [e_dz]; rfl
      have b_x2 : wd (swp (lad u n (255 - j))).x = C := hC.symm
      have b_z2 : wd (swp (lad u n (255 - j))).z = D := hD.symm
      have b_x3 : wd (swp (lad u n (255 - j))).v = A := hA.symm
      have b_z3 : wd (swp (lad u n (255 - j))).w = B := hB.symm
      simp only [W] at f0
      rw [b_x2, b_z2, ← e_p] at f0
      simp only [W] at f1
      rw [b_x2, b_z2, ← e_m] at f1
      simp only [W] at f2
      rw [← e_p, ← e_aa] at f2
      simp only [W] at f3
      rw [← e_m, ← e_bb] at f3
      simp only [W] at f4
      rw [← e_aa, ← e_bb, ← e_e] at f4
      simp only [W] at f5
      rw [b_x3, b_z3, ← e_t1] at f5
      simp only [W] at f6
      rw [← e_t1, ← e_p, ← e_da] at f6
      simp only [W] at f7
      rw [b_x3, b_z3, ← e_t2] at f7
      simp only [W] at f8
      rw [← e_t2, ← e_m, ← e_cb] at f8
      simp only [W] at f9
      rw [← e_da, ← e_cb, ← e_t3] at f9
      simp only [W] at f10
      rw [← e_da, ← e_cb, ← e_t4] at f10
      simp only [W] at f11
      rw [← e_t3, ← e_sx] at f11
      simp only [W] at f12
      rw [← e_t4, ← e_t5] at f12
      simp only [W] at f13
      rw [← hU, ← e_t5, ← e_sz] at f13
      simp only [W] at f14
      rw [← e_aa, ← e_bb, ← e_dx] at f14
      simp only [W] at f15
      rw [W_24, ← e_e, ← e_t6] at f15
      simp only [W] at f16
      rw [← e_aa, ← e_t6, ← e_t7] at f16
      simp only [W] at f17
      rw [← e_e, ← e_t7, ← e_dz] at f17
      have E : ⟨n_dx, n_dz, n_sx, n_sz⟩ = stp u (swp (lad u n (255 - j))) := by
        subst k_dz k_t7 k_t6 k_dx k_sz k_t5 k_sx k_t4 k_t3 k_cb k_t2 k_da k_t1 k_e k_bb k_aa k_m k_p
        rfl
      clear k_p k_m k_aa k_bb k_e k_t1 k_da k_t2 k_cb k_t3 k_t4 k_sx k_t5 k_sz k_dx k_t6 k_t7 k_dz
      ((conv => whnf); repeat ((first | refine ⟨fun _ => ?_, fun h => absurd ((h0).symm.trans h) (by decide)⟩ | refine ⟨fun h => absurd ((h0).symm.trans h) (by decide), fun _ => ?_⟩ | refine ⟨fun _ => ?_, fun h => absurd ((q).symm.trans h) (by decide)⟩ | refine ⟨fun h => absurd ((q).symm.trans h) (by decide), fun _ => ?_⟩ | refine ⟨u64_nn _, ?_⟩ | ((with_reducible refine isN_EG3 35 ?_); first | refine ⟨_, f0, ?_⟩ | refine ⟨_, f7, ?_⟩ | refine ⟨_, f9, ?_⟩ | refine ⟨_, f16, ?_⟩) | ((with_reducible refine isN_EG3 36 ?_); first | refine ⟨_, f1, ?_⟩ | refine ⟨_, f4, ?_⟩ | refine ⟨_, f5, ?_⟩ | refine ⟨_, f10, ?_⟩) | ((with_reducible refine isN_EG3 37 ?_); first | refine ⟨_, f2, ?_⟩ | refine ⟨_, f3, ?_⟩ | refine ⟨_, f6, ?_⟩ | refine ⟨_, f8, ?_⟩ | refine ⟨_, f11, ?_⟩ | refine ⟨_, f12, ?_⟩ | refine ⟨_, f13, ?_⟩ | refine ⟨_, f14, ?_⟩ | refine ⟨_, f15, ?_⟩ | refine ⟨_, f17, ?_⟩) | refine ⟨_, rfl, ?_⟩ | refine ⟨by decide, ?_⟩ | refine ⟨rfl, ?_⟩ | refine ⟨fun _ => ?_, fun h => absurd h (by decide)⟩ | refine ⟨fun h => absurd h (by decide), fun _ => ?_⟩ | refine ⟨inI_of (by omega), ?_⟩ | refine ⟨⟨rfl, inI_of (by omega)⟩, ?_⟩ | refine ⟨⟨rfl, by decide⟩, ?_⟩ | refine ⟨by (try simp only); (try simp only [e1]); exact inI_of (by omega), ?_⟩ | refine ⟨⟨rfl, by (try simp only); (try simp only [e1]); exact inI_of (by omega)⟩, ?_⟩ | (apply Exists.intro; refine ⟨?_, ?_⟩; ((try simp only); (try simp only [e1]); (try simp only [Nat.zero_add]); (try simp only [Nat.mul_one]); (try simp only [Int.toNat_natCast]); (try simp only [e1]); (try simp only [Nat.zero_add]); (try simp only [Nat.mul_one]); (try simp only [Int.toNat_natCast]); exact at_g (by omega))) | (apply Exists.intro; refine ⟨?_, ?_⟩; ((try simp only); (try simp only [e1]); (try simp only [Nat.zero_add]); (try simp only [Nat.mul_one]); (try simp only [Int.toNat_natCast]); (try simp only [e1]); (try simp only [Nat.zero_add]); (try simp only [Nat.mul_one]); (try simp only [Int.toNat_natCast]); exact put_flat (by omega))) | refine ⟨_, cut_all (by omega), ?_⟩ | refine ⟨_, lay_all (by omega) (by omega), ?_⟩ | refine ⟨_, lay_all (by (try simp only); (try simp only [List.length_replicate]); (try simp only [List.length_cons]); (try simp only [List.length_nil]); omega) (by omega), ?_⟩ | refine ⟨by omega, ?_⟩ | refine ⟨len_flat (by omega), ?_⟩ | refine ⟨apart_uv _ _ _, ?_⟩ | refine ⟨_, resSlot_own rfl (by omega) (by first | exact .inl rfl | exact .inr ⟨rfl, rfl⟩), ?_⟩ | refine ⟨(by kernel_rfl : regB _ = true), ?_⟩ | refine ⟨⟨rfl, inI_of (by omega), by decide⟩, ?_⟩ | refine ⟨⟨rfl, by (try simp only); (try simp only [e1]); exact inI_of (by omega), by decide⟩, ?_⟩ | (apply Exists.intro; refine ⟨?_, ?_⟩; ((try simp only); (try simp only [e1]); (try simp only [Nat.zero_add]); (try simp only [Nat.mul_one]); (try simp only [Int.toNat_natCast]); (try simp only [e1]); (try simp only [Nat.zero_add]); (try simp only [Nat.mul_one]); (try simp only [Int.toNat_natCast]); exact at_drop_g (by omega))) | (apply Exists.intro; refine ⟨?_, ?_⟩; ((try simp only); (try simp only [e1]); (try simp only [Nat.zero_add]); (try simp only [Nat.mul_one]); (try simp only [Int.toNat_natCast]); (try simp only [e1]); (try simp only [Nat.zero_add]); (try simp only [Nat.mul_one]); (try simp only [Int.toNat_natCast]); exact cut_rest (by omega)))); conv => whnf))
      refine ⟨[0, 1, 11, 12, 13, 14, 15, 16, 17, 18, 19, 20, 21, 22, 23, 24, 25, 26, 27, 28, 29, 30, 31, 32, 33, 34, 35, 36, 37, 38, 39, 40, 41, 42, 43, 44, 45, 46, 47, 48, 49, 50, 51, 52, 53, 54, 55, 56, 57, 58, 59, 60, 61, 62, 63, 64, 65, 66, 67, 68, 69, 70, 71, 72, 73, 74, 75, 76, 77, 78, 79, 80, 81, 82, 83, 84, 85, 86, 87, 88, 89, 90, 91, 92, 93, 94, 95, 96, 97, 98, 99, 100, 101, 102, 103, 104, 105, 106, 107, 108, 109, 110, 111], [96, 104, 112, 120, 128, 136, 144, 152, 160], j, ?_, j, l_sx, l_sz, l_dx, l_dz, U, rfl, hU, by omega, ?_, ?_, ?_, ?_, ?_⟩
      · omega
      · rw [hs, e_sx]; exact congrArg (fun s : Lad => wd (swp s).x) E
      · rw [hs, e_sz]; exact congrArg (fun s : Lad => wd (swp s).z) E
      · rw [hs, e_dx]; exact congrArg (fun s : Lad => wd (swp s).v) E
      · rw [hs, e_dz]; exact congrArg (fun s : Lad => wd (swp s).w) E
      · rw [e2]; kernel_rfl
end Go.Proofs.Ytkennahakodfnaa
