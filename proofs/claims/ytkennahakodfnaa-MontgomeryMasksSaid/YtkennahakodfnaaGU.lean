/-
  Layer 9: MontgomeryMasks.
-/
import Derived.Test.YtkennahakodfnaaGS
namespace Go.Proofs.Ytkennahakodfnaa
open Go.RowKit

theorem clampN_idem (n : Nat) : clampN (clampN n) = clampN n := by unfold clampN; omega
theorem x25_mask (k u b : Nat) (_ : b ≤ 1) : x25 (clampN k) (u % 2 ^ 255 % pP + b * 2 ^ 255) = x25 k u := by
  have h : (u % 2 ^ 255 % pP + b * 2 ^ 255) % 2 ^ 255 % pP = u % 2 ^ 255 % pP := by
    have h1 : u % 2 ^ 255 % pP < pP := Nat.mod_lt _ pP_pos
    have h2 : pP < 2 ^ 255 := by decide
    have h3 : (u % 2 ^ 255 % pP + b * 2 ^ 255) % 2 ^ 255 = u % 2 ^ 255 % pP := by
      rw [Nat.mul_comm, Nat.add_mul_mod_self_left, Nat.mod_eq_of_lt (by omega)]
    rw [h3, Nat.mod_eq_of_lt h1]
  rw [x25, x25, h, clampN_idem]
def okOr : Bool := (List.range 128).all fun n => decide (bits .or .u8 (n : Nat) 0 = ((n : Nat) : Int)) && decide (bits .or .u8 (n : Nat) 128 = ((n + 128 : Nat) : Int))
theorem or_bits (n : Nat) (h : n < 128) : bits .or .u8 (n : Nat) 0 = ((n : Nat) : Int) ∧ bits .or .u8 (n : Nat) 128 = ((n + 128 : Nat) : Int) := by
  have h1 : okOr = true := by kernel_rfl
  rw [okOr, List.all_eq_true] at h1
  have h2 := h1 n (List.mem_range.2 h)
  simp only [Bool.and_eq_true, decide_eq_true_eq] at h2
  exact h2
theorem bt_top (n b i : Nat) (h : i < 32) (hn : n < 2 ^ 255) (hb : b ≤ 1) : bt (n + b * 2 ^ 255) i = if i = 31 then ((n / 2 ^ (8 * 31) % 256 + 128 * b : Nat) : Int) else bt n i := by
  have hi : i = 0 ∨ i = 1 ∨ i = 2 ∨ i = 3 ∨ i = 4 ∨ i = 5 ∨ i = 6 ∨ i = 7 ∨ i = 8 ∨ i = 9 ∨ i = 10 ∨ i = 11 ∨ i = 12 ∨ i = 13 ∨ i = 14 ∨ i = 15 ∨ i = 16 ∨ i = 17 ∨ i = 18 ∨ i = 19 ∨ i = 20 ∨ i = 21 ∨ i = 22 ∨ i = 23 ∨ i = 24 ∨ i = 25 ∨ i = 26 ∨ i = 27 ∨ i = 28 ∨ i = 29 ∨ i = 30 ∨ i = 31 := by omega
  have hb : b = 0 ∨ b = 1 := by omega
  unfold bt
  rcases hb with rfl | rfl
  all_goals (rcases hi with rfl | rfl | rfl | rfl | rfl | rfl | rfl | rfl | rfl | rfl | rfl | rfl | rfl | rfl | rfl | rfl | rfl | rfl | rfl | rfl | rfl | rfl | rfl | rfl | rfl | rfl | rfl | rfl | rfl | rfl | rfl | rfl)
  all_goals (simp only [Nat.reduceMul, Nat.reducePow, Nat.reduceEqDiff, if_true, if_false]; omega)
theorem top_list (n b : Nat) (e : Int) (hn : n < 2 ^ 255) (hb : b ≤ 1) (he : e = ((128 * b : Nat) : Int)) : (by32 n).set 31 (bits .or .u8 (bt n 31) e) = by32 (n + b * 2 ^ 255) := by
  refine ext_g (by rw [List.length_set, byk_len, byk_len]) fun i hi => ?_
  rw [List.length_set, byk_len] at hi
  rw [g_byk hi, bt_top n b i hi hn hb, g_set (by rw [byk_len]; decide), g_byk hi]
  by_cases h31 : i = 31
  · subst h31
    rw [if_pos rfl, if_pos rfl, bt, he]
    have h := or_bits (n / 2 ^ (8 * 31) % 256) (by omega)
    have : b = 0 ∨ b = 1 := by omega
    rcases this with rfl | rfl
    · exact h.1
    · exact h.2
  · rw [if_neg h31, if_neg h31]
set_option maxRecDepth 100000 in
set_option maxHeartbeats 8000000 in
theorem masks_exec (k u : Nat) (n : Int) (hk : k < 2 ^ 256) (hu : u < 2 ^ 256) : execF EG6 Try.f7 [F k, F u, iv .i64 n] (ret1 (.v (.bool true))) := by
  have hd : n % 2 = 0 ∨ n % 2 = 1 := by omega
  have gm := l9_Mod n 2 (by decide)
  obtain ⟨K, hK⟩ : ∃ K, K = by32 k := ⟨_, rfl⟩
  obtain ⟨U, hU⟩ : ∃ U, U = by32 u := ⟨_, rfl⟩
  obtain ⟨r, hr⟩ : ∃ r, r = by32 (x25 k u) := ⟨_, rfl⟩
  obtain ⟨c, hc⟩ : ∃ c, c = by32 (clampN k) := ⟨_, rfl⟩
  have lK : K.length = 32 := by rw [hK, byk_len]
  have lU : U.length = 32 := by rw [hU, byk_len]
  have lr : r.length = 32 := by rw [hr, byk_len]
  have lc : c.length = 32 := by rw [hc, byk_len]
  obtain ⟨x1, hx1⟩ : ∃ x1, x1 = g U 31 := ⟨_, rfl⟩
  have a1 : (Cont.flat .u8 U).at? 31 = some (.v (.int .u8 x1)) := by rw [hx1]; exact at_g (by omega)
  obtain ⟨V, hV⟩ : ∃ V, V = U.set 31 (bits .and .u8 x1 127) := ⟨_, rfl⟩
  have p1 : layOne (.flat .u8 U) 31 (.flat .u8 [bits .and .u8 x1 127]) = some (.flat .u8 V) := by rw [hV]; exact put_flat (by omega)
  have lV : V.length = 32 := by rw [hV, List.length_set]; exact lU
  have eV : V = by32 (u % 2 ^ 255) := by
    have hx1' : x1 = bt u 31 := by rw [hx1, hU, g_byk (by decide)]
    have c1 := (clamp_bits (u / 2 ^ (8 * 31) % 256) (by omega)).2.2.2.2.2
    rw [hV, hU]
    refine mask_list u _ ?_
    rw [hx1']; exact c1
  have hv : u % 2 ^ 255 < 2 ^ 256 := by omega
  have hw : u % 2 ^ 255 % pP < pP := Nat.mod_lt _ pP_pos
  have hpp : pP < 2 ^ 255 := by decide
  obtain ⟨W, hW⟩ : ∃ W, W = by32 (u % 2 ^ 255 % pP) := ⟨_, rfl⟩
  have lW : W.length = 32 := by rw [hW, byk_len]
  obtain ⟨y1, hy1⟩ : ∃ y1, y1 = g W 31 := ⟨_, rfl⟩
  have a2 : (Cont.flat .u8 W).at? 31 = some (.v (.int .u8 y1)) := by rw [hy1]; exact at_g (by omega)
  have f1 := l9_pMult hk hu
  have f2 := l9_pClamp hk
  have f3 := l9_pReduce hv
  have f4 := l9_pClamp (clampN_lt k)
  have f5 := l9_pCanonical (x25_lt k u)
  have hx : x25 k u < pP := nM_lp _ _
  rw [decide_eq_true hx, F, ← hr] at f5
  rw [clampN_idem, F, ← hc] at f4
  rw [F, F, ← hK, ← hc] at f2
  rw [F, F, F, ← hK, ← hU, ← hr] at f1
  rw [F, F, ← eV, ← hW] at f3
  rw [F, F, ← hK, ← hU]
  have nK : (Cont.flat .u8 K).cut 0 32 = some (.flat .u8 K) := cut_all lK
  have nU : (Cont.flat .u8 U).cut 0 32 = some (.flat .u8 U) := cut_all lU
  have nr : (Cont.flat .u8 r).cut 0 32 = some (.flat .u8 r) := cut_all lr
  have nc : (Cont.flat .u8 c).cut 0 32 = some (.flat .u8 c) := cut_all lc
  have nV : (Cont.flat .u8 V).cut 0 32 = some (.flat .u8 V) := cut_all lV
  have nW : (Cont.flat .u8 W).cut 0 32 = some (.flat .u8 W) := cut_all lW
  rcases hd with h | h
  · rw [h] at gm
    obtain ⟨Z, hZ⟩ : ∃ Z, Z = W.set 31 (bits .or .u8 y1 0) := ⟨_, rfl⟩
    have p2 : layOne (.flat .u8 W) 31 (.flat .u8 [bits .or .u8 y1 0]) = some (.flat .u8 Z) := by rw [hZ]; exact put_flat (by omega)
    have lZ : Z.length = 32 := by rw [hZ, List.length_set]; exact lW
    have eZ : Z = by32 (u % 2 ^ 255 % pP + 0 * 2 ^ 255) := by
      have hy1' : y1 = bt (u % 2 ^ 255 % pP) 31 := by rw [hy1, hW, g_byk (by decide)]
      rw [hZ, hW, hy1']
      exact top_list _ 0 _ (by omega) (by decide) rfl
    have f6 := l9_pMult (clampN_lt k) (show u % 2 ^ 255 % pP + 0 * 2 ^ 255 < 2 ^ 256 by omega)
    rw [x25_mask k u 0 (by decide), F, F, F, ← hc, ← hr, ← eZ] at f6
    have nZ : (Cont.flat .u8 Z).cut 0 32 = some (.flat .u8 Z) := cut_all lZ
    clear eZ hZ hy1 hW eV hV hx1 hc hr hU hK
    ((conv => whnf); repeat ((first | refine ⟨_, a1, ?_⟩ | refine ⟨_, a2, ?_⟩ | refine ⟨_, p1, ?_⟩ | refine ⟨_, p2, ?_⟩ | refine ⟨_, nK, ?_⟩ | refine ⟨_, nU, ?_⟩ | refine ⟨_, nr, ?_⟩ | refine ⟨_, nc, ?_⟩ | refine ⟨_, nV, ?_⟩ | refine ⟨_, nW, ?_⟩ | refine ⟨_, nZ, ?_⟩ | ((with_reducible refine isN_EG6 18 ?_); first | refine ⟨_, gm, ?_⟩) | ((with_reducible refine isN_EG6 11 ?_); first | refine ⟨_, f1, ?_⟩ | refine ⟨_, f6, ?_⟩) | ((with_reducible refine isN_EG6 9 ?_); first | refine ⟨_, f2, ?_⟩ | refine ⟨_, f4, ?_⟩) | ((with_reducible refine isN_EG6 24 ?_); first | refine ⟨_, f3, ?_⟩) | ((with_reducible refine isN_EG6 25 ?_); first | refine ⟨_, f5, ?_⟩) | ((with_reducible refine isN_EG6 13 ?_); first | refine ⟨_, l9_awake, ?_⟩) | refine ⟨_, rfl, ?_⟩ | refine ⟨by decide, ?_⟩ | refine ⟨rfl, ?_⟩ | refine ⟨fun _ => ?_, fun h => absurd h (by decide)⟩ | refine ⟨fun h => absurd h (by decide), fun _ => ?_⟩ | refine ⟨inI_of (by omega), ?_⟩ | refine ⟨⟨rfl, inI_of (by omega)⟩, ?_⟩ | refine ⟨⟨rfl, by decide⟩, ?_⟩ | (apply Exists.intro; refine ⟨?_, ?_⟩; ((try simp only); (try simp only [Nat.zero_add]); (try simp only [Nat.mul_one]); (try simp only [Int.toNat_natCast]); exact at_g (by omega))) | (apply Exists.intro; refine ⟨?_, ?_⟩; ((try simp only); (try simp only [Nat.zero_add]); (try simp only [Nat.mul_one]); (try simp only [Int.toNat_natCast]); exact put_flat (by omega))) | refine ⟨_, cut_all (by omega), ?_⟩ | refine ⟨_, lay_all (by omega) (by omega), ?_⟩ | refine ⟨_, lay_all (by (try simp only); (try simp only [List.length_replicate]); (try simp only [List.length_cons]); (try simp only [List.length_nil]); omega) (by omega), ?_⟩ | refine ⟨by omega, ?_⟩ | refine ⟨len_flat (by omega), ?_⟩ | refine ⟨apart_uv _ _ _, ?_⟩ | refine ⟨_, resSlot_own rfl (by omega) (by first | exact .inl rfl | exact .inr ⟨rfl, rfl⟩), ?_⟩ | refine ⟨(by kernel_rfl : regB _ = true), ?_⟩ | refine ⟨⟨rfl, inI_of (by omega), by decide⟩, ?_⟩ | (apply Exists.intro; refine ⟨?_, ?_⟩; ((try simp only); (try simp only [Nat.zero_add]); (try simp only [Nat.mul_one]); (try simp only [Int.toNat_natCast]); exact at_drop_g (by omega))) | (apply Exists.intro; refine ⟨?_, ?_⟩; ((try simp only); (try simp only [Nat.zero_add]); (try simp only [Nat.mul_one]); (try simp only [Int.toNat_natCast]); exact cut_rest (by omega)))); conv => whnf))
    refine eql_go6 lr lr (leq_self _) ?_
    ((conv => whnf); repeat ((first | refine ⟨_, a1, ?_⟩ | refine ⟨_, a2, ?_⟩ | refine ⟨_, p1, ?_⟩ | refine ⟨_, p2, ?_⟩ | refine ⟨_, nK, ?_⟩ | refine ⟨_, nU, ?_⟩ | refine ⟨_, nr, ?_⟩ | refine ⟨_, nc, ?_⟩ | refine ⟨_, nV, ?_⟩ | refine ⟨_, nW, ?_⟩ | refine ⟨_, nZ, ?_⟩ | ((with_reducible refine isN_EG6 18 ?_); first | refine ⟨_, gm, ?_⟩) | ((with_reducible refine isN_EG6 11 ?_); first | refine ⟨_, f1, ?_⟩ | refine ⟨_, f6, ?_⟩) | ((with_reducible refine isN_EG6 9 ?_); first | refine ⟨_, f2, ?_⟩ | refine ⟨_, f4, ?_⟩) | ((with_reducible refine isN_EG6 24 ?_); first | refine ⟨_, f3, ?_⟩) | ((with_reducible refine isN_EG6 25 ?_); first | refine ⟨_, f5, ?_⟩) | ((with_reducible refine isN_EG6 13 ?_); first | refine ⟨_, l9_awake, ?_⟩) | refine ⟨_, rfl, ?_⟩ | refine ⟨by decide, ?_⟩ | refine ⟨rfl, ?_⟩ | refine ⟨fun _ => ?_, fun h => absurd h (by decide)⟩ | refine ⟨fun h => absurd h (by decide), fun _ => ?_⟩ | refine ⟨inI_of (by omega), ?_⟩ | refine ⟨⟨rfl, inI_of (by omega)⟩, ?_⟩ | refine ⟨⟨rfl, by decide⟩, ?_⟩ | (apply Exists.intro; refine ⟨?_, ?_⟩; ((try simp only); (try simp only [Nat.zero_add]); (try simp only [Nat.mul_one]); (try simp only [Int.toNat_natCast]); exact at_g (by omega))) | (apply Exists.intro; refine ⟨?_, ?_⟩; ((try simp only); (try simp only [Nat.zero_add]); (try simp only [Nat.mul_one]); (try simp only [Int.toNat_natCast]); exact put_flat (by omega))) | refine ⟨_, cut_all (by omega), ?_⟩ | refine ⟨_, lay_all (by omega) (by omega), ?_⟩ | refine ⟨_, lay_all (by (try simp only); (try simp only [List.length_replicate]); (try simp only [List.length_cons]); (try simp only [List.length_nil]); omega) (by omega), ?_⟩ | refine ⟨by omega, ?_⟩ | refine ⟨len_flat (by omega), ?_⟩ | refine ⟨apart_uv _ _ _, ?_⟩ | refine ⟨_, resSlot_own rfl (by omega) (by first | exact .inl rfl | exact .inr ⟨rfl, rfl⟩), ?_⟩ | refine ⟨(by kernel_rfl : regB _ = true), ?_⟩ | refine ⟨⟨rfl, inI_of (by omega), by decide⟩, ?_⟩ | (apply Exists.intro; refine ⟨?_, ?_⟩; ((try simp only); (try simp only [Nat.zero_add]); (try simp only [Nat.mul_one]); (try simp only [Int.toNat_natCast]); exact at_drop_g (by omega))) | (apply Exists.intro; refine ⟨?_, ?_⟩; ((try simp only); (try simp only [Nat.zero_add]); (try simp only [Nat.mul_one]); (try simp only [Int.toNat_natCast]); exact cut_rest (by omega)))); conv => whnf))
    refine eql_go6 lc lc (leq_self _) ?_
    ((conv => whnf); repeat ((first | refine ⟨_, a1, ?_⟩ | refine ⟨_, a2, ?_⟩ | refine ⟨_, p1, ?_⟩ | refine ⟨_, p2, ?_⟩ | refine ⟨_, nK, ?_⟩ | refine ⟨_, nU, ?_⟩ | refine ⟨_, nr, ?_⟩ | refine ⟨_, nc, ?_⟩ | refine ⟨_, nV, ?_⟩ | refine ⟨_, nW, ?_⟩ | refine ⟨_, nZ, ?_⟩ | ((with_reducible refine isN_EG6 18 ?_); first | refine ⟨_, gm, ?_⟩) | ((with_reducible refine isN_EG6 11 ?_); first | refine ⟨_, f1, ?_⟩ | refine ⟨_, f6, ?_⟩) | ((with_reducible refine isN_EG6 9 ?_); first | refine ⟨_, f2, ?_⟩ | refine ⟨_, f4, ?_⟩) | ((with_reducible refine isN_EG6 24 ?_); first | refine ⟨_, f3, ?_⟩) | ((with_reducible refine isN_EG6 25 ?_); first | refine ⟨_, f5, ?_⟩) | ((with_reducible refine isN_EG6 13 ?_); first | refine ⟨_, l9_awake, ?_⟩) | refine ⟨_, rfl, ?_⟩ | refine ⟨by decide, ?_⟩ | refine ⟨rfl, ?_⟩ | refine ⟨fun _ => ?_, fun h => absurd h (by decide)⟩ | refine ⟨fun h => absurd h (by decide), fun _ => ?_⟩ | refine ⟨inI_of (by omega), ?_⟩ | refine ⟨⟨rfl, inI_of (by omega)⟩, ?_⟩ | refine ⟨⟨rfl, by decide⟩, ?_⟩ | (apply Exists.intro; refine ⟨?_, ?_⟩; ((try simp only); (try simp only [Nat.zero_add]); (try simp only [Nat.mul_one]); (try simp only [Int.toNat_natCast]); exact at_g (by omega))) | (apply Exists.intro; refine ⟨?_, ?_⟩; ((try simp only); (try simp only [Nat.zero_add]); (try simp only [Nat.mul_one]); (try simp only [Int.toNat_natCast]); exact put_flat (by omega))) | refine ⟨_, cut_all (by omega), ?_⟩ | refine ⟨_, lay_all (by omega) (by omega), ?_⟩ | refine ⟨_, lay_all (by (try simp only); (try simp only [List.length_replicate]); (try simp only [List.length_cons]); (try simp only [List.length_nil]); omega) (by omega), ?_⟩ | refine ⟨by omega, ?_⟩ | refine ⟨len_flat (by omega), ?_⟩ | refine ⟨apart_uv _ _ _, ?_⟩ | refine ⟨_, resSlot_own rfl (by omega) (by first | exact .inl rfl | exact .inr ⟨rfl, rfl⟩), ?_⟩ | refine ⟨(by kernel_rfl : regB _ = true), ?_⟩ | refine ⟨⟨rfl, inI_of (by omega), by decide⟩, ?_⟩ | (apply Exists.intro; refine ⟨?_, ?_⟩; ((try simp only); (try simp only [Nat.zero_add]); (try simp only [Nat.mul_one]); (try simp only [Int.toNat_natCast]); exact at_drop_g (by omega))) | (apply Exists.intro; refine ⟨?_, ?_⟩; ((try simp only); (try simp only [Nat.zero_add]); (try simp only [Nat.mul_one]); (try simp only [Int.toNat_natCast]); exact cut_rest (by omega)))); conv => whnf))
    rfl
  · rw [h] at gm
    obtain ⟨Z, hZ⟩ : ∃ Z, Z = W.set 31 (bits .or .u8 y1 128) := ⟨_, rfl⟩
    have p2 : layOne (.flat .u8 W) 31 (.flat .u8 [bits .or .u8 y1 128]) = some (.flat .u8 Z) := by rw [hZ]; exact put_flat (by omega)
    have lZ : Z.length = 32 := by rw [hZ, List.length_set]; exact lW
    have eZ : Z = by32 (u % 2 ^ 255 % pP + 1 * 2 ^ 255) := by
      have hy1' : y1 = bt (u % 2 ^ 255 % pP) 31 := by rw [hy1, hW, g_byk (by decide)]
      rw [hZ, hW, hy1']
      exact top_list _ 1 _ (by omega) (by decide) rfl
    have f6 := l9_pMult (clampN_lt k) (show u % 2 ^ 255 % pP + 1 * 2 ^ 255 < 2 ^ 256 by omega)
    rw [x25_mask k u 1 (by decide), F, F, F, ← hc, ← hr, ← eZ] at f6
    have nZ : (Cont.flat .u8 Z).cut 0 32 = some (.flat .u8 Z) := cut_all lZ
    clear eZ hZ hy1 hW eV hV hx1 hc hr hU hK
    ((conv => whnf); repeat ((first | refine ⟨_, a1, ?_⟩ | refine ⟨_, a2, ?_⟩ | refine ⟨_, p1, ?_⟩ | refine ⟨_, p2, ?_⟩ | refine ⟨_, nK, ?_⟩ | refine ⟨_, nU, ?_⟩ | refine ⟨_, nr, ?_⟩ | refine ⟨_, nc, ?_⟩ | refine ⟨_, nV, ?_⟩ | refine ⟨_, nW, ?_⟩ | refine ⟨_, nZ, ?_⟩ | ((with_reducible refine isN_EG6 18 ?_); first | refine ⟨_, gm, ?_⟩) | ((with_reducible refine isN_EG6 11 ?_); first | refine ⟨_, f1, ?_⟩ | refine ⟨_, f6, ?_⟩) | ((with_reducible refine isN_EG6 9 ?_); first | refine ⟨_, f2, ?_⟩ | refine ⟨_, f4, ?_⟩) | ((with_reducible refine isN_EG6 24 ?_); first | refine ⟨_, f3, ?_⟩) | ((with_reducible refine isN_EG6 25 ?_); first | refine ⟨_, f5, ?_⟩) | ((with_reducible refine isN_EG6 13 ?_); first | refine ⟨_, l9_awake, ?_⟩) | refine ⟨_, rfl, ?_⟩ | refine ⟨by decide, ?_⟩ | refine ⟨rfl, ?_⟩ | refine ⟨fun _ => ?_, fun h => absurd h (by decide)⟩ | refine ⟨fun h => absurd h (by decide), fun _ => ?_⟩ | refine ⟨inI_of (by omega), ?_⟩ | refine ⟨⟨rfl, inI_of (by omega)⟩, ?_⟩ | refine ⟨⟨rfl, by decide⟩, ?_⟩ | (apply Exists.intro; refine ⟨?_, ?_⟩; ((try simp only); (try simp only [Nat.zero_add]); (try simp only [Nat.mul_one]); (try simp only [Int.toNat_natCast]); exact at_g (by omega))) | (apply Exists.intro; refine ⟨?_, ?_⟩; ((try simp only); (try simp only [Nat.zero_add]); (try simp only [Nat.mul_one]); (try simp only [Int.toNat_natCast]); exact put_flat (by omega))) | refine ⟨_, cut_all (by omega), ?_⟩ | refine ⟨_, lay_all (by omega) (by omega), ?_⟩ | refine ⟨_, lay_all (by (try simp only); (try simp only [List.length_replicate]); (try simp only [List.length_cons]); (try simp only [List.length_nil]); omega) (by omega), ?_⟩ | refine ⟨by omega, ?_⟩ | refine ⟨len_flat (by omega), ?_⟩ | refine ⟨apart_uv _ _ _, ?_⟩ | refine ⟨_, resSlot_own rfl (by omega) (by first | exact .inl rfl | exact .inr ⟨rfl, rfl⟩), ?_⟩ | refine ⟨(by kernel_rfl : regB _ = true), ?_⟩ | refine ⟨⟨rfl, inI_of (by omega), by decide⟩, ?_⟩ | (apply Exists.intro; refine ⟨?_, ?_⟩; ((try simp only); (try simp only [Nat.zero_add]); (try simp only [Nat.mul_one]); (try simp only [Int.toNat_natCast]); exact at_drop_g (by omega))) | (apply Exists.intro; refine ⟨?_, ?_⟩; ((try simp only); (try simp only [Nat.zero_add]); (try simp only [Nat.mul_one]); (try simp only [Int.toNat_natCast]); exact cut_rest (by omega)))); conv => whnf))
    refine eql_go6 lr lr (leq_self _) ?_
    ((conv => whnf); repeat ((first | refine ⟨_, a1, ?_⟩ | refine ⟨_, a2, ?_⟩ | refine ⟨_, p1, ?_⟩ | refine ⟨_, p2, ?_⟩ | refine ⟨_, nK, ?_⟩ | refine ⟨_, nU, ?_⟩ | refine ⟨_, nr, ?_⟩ | refine ⟨_, nc, ?_⟩ | refine ⟨_, nV, ?_⟩ | refine ⟨_, nW, ?_⟩ | refine ⟨_, nZ, ?_⟩ | ((with_reducible refine isN_EG6 18 ?_); first | refine ⟨_, gm, ?_⟩) | ((with_reducible refine isN_EG6 11 ?_); first | refine ⟨_, f1, ?_⟩ | refine ⟨_, f6, ?_⟩) | ((with_reducible refine isN_EG6 9 ?_); first | refine ⟨_, f2, ?_⟩ | refine ⟨_, f4, ?_⟩) | ((with_reducible refine isN_EG6 24 ?_); first | refine ⟨_, f3, ?_⟩) | ((with_reducible refine isN_EG6 25 ?_); first | refine ⟨_, f5, ?_⟩) | ((with_reducible refine isN_EG6 13 ?_); first | refine ⟨_, l9_awake, ?_⟩) | refine ⟨_, rfl, ?_⟩ | refine ⟨by decide, ?_⟩ | refine ⟨rfl, ?_⟩ | refine ⟨fun _ => ?_, fun h => absurd h (by decide)⟩ | refine ⟨fun h => absurd h (by decide), fun _ => ?_⟩ | refine ⟨inI_of (by omega), ?_⟩ | refine ⟨⟨rfl, inI_of (by omega)⟩, ?_⟩ | refine ⟨⟨rfl, by decide⟩, ?_⟩ | (apply Exists.intro; refine ⟨?_, ?_⟩; ((try simp only); (try simp only [Nat.zero_add]); (try simp only [Nat.mul_one]); (try simp only [Int.toNat_natCast]); exact at_g (by omega))) | (apply Exists.intro; refine ⟨?_, ?_⟩; ((try simp only); (try simp only [Nat.zero_add]); (try simp only [Nat.mul_one]); (try simp only [Int.toNat_natCast]); exact put_flat (by omega))) | refine ⟨_, cut_all (by omega), ?_⟩ | refine ⟨_, lay_all (by omega) (by omega), ?_⟩ | refine ⟨_, lay_all (by (try simp only); (try simp only [List.length_replicate]); (try simp only [List.length_cons]); (try simp only [List.length_nil]); omega) (by omega), ?_⟩ | refine ⟨by omega, ?_⟩ | refine ⟨len_flat (by omega), ?_⟩ | refine ⟨apart_uv _ _ _, ?_⟩ | refine ⟨_, resSlot_own rfl (by omega) (by first | exact .inl rfl | exact .inr ⟨rfl, rfl⟩), ?_⟩ | refine ⟨(by kernel_rfl : regB _ = true), ?_⟩ | refine ⟨⟨rfl, inI_of (by omega), by decide⟩, ?_⟩ | (apply Exists.intro; refine ⟨?_, ?_⟩; ((try simp only); (try simp only [Nat.zero_add]); (try simp only [Nat.mul_one]); (try simp only [Int.toNat_natCast]); exact at_drop_g (by omega))) | (apply Exists.intro; refine ⟨?_, ?_⟩; ((try simp only); (try simp only [Nat.zero_add]); (try simp only [Nat.mul_one]); (try simp only [Int.toNat_natCast]); exact cut_rest (by omega)))); conv => whnf))
    refine eql_go6 lc lc (leq_self _) ?_
    ((conv => whnf); repeat ((first | refine ⟨_, a1, ?_⟩ | refine ⟨_, a2, ?_⟩ | refine ⟨_, p1, ?_⟩ | refine ⟨_, p2, ?_⟩ | refine ⟨_, nK, ?_⟩ | refine ⟨_, nU, ?_⟩ | refine ⟨_, nr, ?_⟩ | refine ⟨_, nc, ?_⟩ | refine ⟨_, nV, ?_⟩ | refine ⟨_, nW, ?_⟩ | refine ⟨_, nZ, ?_⟩ | ((with_reducible refine isN_EG6 18 ?_); first | refine ⟨_, gm, ?_⟩) | ((with_reducible refine isN_EG6 11 ?_); first | refine ⟨_, f1, ?_⟩ | refine ⟨_, f6, ?_⟩) | ((with_reducible refine isN_EG6 9 ?_); first | refine ⟨_, f2, ?_⟩ | refine ⟨_, f4, ?_⟩) | ((with_reducible refine isN_EG6 24 ?_); first | refine ⟨_, f3, ?_⟩) | ((with_reducible refine isN_EG6 25 ?_); first | refine ⟨_, f5, ?_⟩) | ((with_reducible refine isN_EG6 13 ?_); first | refine ⟨_, l9_awake, ?_⟩) | refine ⟨_, rfl, ?_⟩ | refine ⟨by decide, ?_⟩ | refine ⟨rfl, ?_⟩ | refine ⟨fun _ => ?_, fun h => absurd h (by decide)⟩ | refine ⟨fun h => absurd h (by decide), fun _ => ?_⟩ | refine ⟨inI_of (by omega), ?_⟩ | refine ⟨⟨rfl, inI_of (by omega)⟩, ?_⟩ | refine ⟨⟨rfl, by decide⟩, ?_⟩ | (apply Exists.intro; refine ⟨?_, ?_⟩; ((try simp only); (try simp only [Nat.zero_add]); (try simp only [Nat.mul_one]); (try simp only [Int.toNat_natCast]); exact at_g (by omega))) | (apply Exists.intro; refine ⟨?_, ?_⟩; ((try simp only); (try simp only [Nat.zero_add]); (try simp only [Nat.mul_one]); (try simp only [Int.toNat_natCast]); exact put_flat (by omega))) | refine ⟨_, cut_all (by omega), ?_⟩ | refine ⟨_, lay_all (by omega) (by omega), ?_⟩ | refine ⟨_, lay_all (by (try simp only); (try simp only [List.length_replicate]); (try simp only [List.length_cons]); (try simp only [List.length_nil]); omega) (by omega), ?_⟩ | refine ⟨by omega, ?_⟩ | refine ⟨len_flat (by omega), ?_⟩ | refine ⟨apart_uv _ _ _, ?_⟩ | refine ⟨_, resSlot_own rfl (by omega) (by first | exact .inl rfl | exact .inr ⟨rfl, rfl⟩), ?_⟩ | refine ⟨(by kernel_rfl : regB _ = true), ?_⟩ | refine ⟨⟨rfl, inI_of (by omega), by decide⟩, ?_⟩ | (apply Exists.intro; refine ⟨?_, ?_⟩; ((try simp only); (try simp only [Nat.zero_add]); (try simp only [Nat.mul_one]); (try simp only [Int.toNat_natCast]); exact at_drop_g (by omega))) | (apply Exists.intro; refine ⟨?_, ?_⟩; ((try simp only); (try simp only [Nat.zero_add]); (try simp only [Nat.mul_one]); (try simp only [Int.toNat_natCast]); exact cut_rest (by omega)))); conv => whnf))
    rfl
end Go.Proofs.Ytkennahakodfnaa
