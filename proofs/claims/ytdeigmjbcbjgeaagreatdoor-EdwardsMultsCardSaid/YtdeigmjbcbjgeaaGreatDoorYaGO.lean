/-
  Layer 9: Clamp, Mult.
-/
import Derived.Test.YtdeigmjbcbjgeaaGreatDoorYaGM
namespace Go.Proofs.YtdeigmjbcbjgeaaGreatDoor
open Go.RowKit

/-- A number with the bits 0, 1, 2 and 255 cleared, and bit 254 set. -/
def clampN (n : Nat) : Nat := n % 2 ^ 254 / 8 * 8 + 2 ^ 254
def okClamp : Bool := (List.range 256).all fun n => decide (bits .andNot .u8 (n : Nat) 7 = ((n / 8 * 8 : Nat) : Int)) && decide (bits .or .u8 (bits .andNot .u8 (n : Nat) 128) 64 = ((n % 64 + 64 : Nat) : Int)) && decide (bits .and .u8 (n : Nat) 248 = ((n / 8 * 8 : Nat) : Int)) && decide (bits .or .u8 (bits .and .u8 (n : Nat) 127) 64 = ((n % 64 + 64 : Nat) : Int)) && decide (bits .andNot .u8 (n : Nat) 128 = ((n % 128 : Nat) : Int)) && decide (bits .and .u8 (n : Nat) 127 = ((n % 128 : Nat) : Int))
theorem clamp_bits (n : Nat) (h : n < 256) : bits .andNot .u8 (n : Nat) 7 = ((n / 8 * 8 : Nat) : Int) ∧ bits .or .u8 (bits .andNot .u8 (n : Nat) 128) 64 = ((n % 64 + 64 : Nat) : Int) ∧ bits .and .u8 (n : Nat) 248 = ((n / 8 * 8 : Nat) : Int) ∧ bits .or .u8 (bits .and .u8 (n : Nat) 127) 64 = ((n % 64 + 64 : Nat) : Int) ∧ bits .andNot .u8 (n : Nat) 128 = ((n % 128 : Nat) : Int) ∧ bits .and .u8 (n : Nat) 127 = ((n % 128 : Nat) : Int) := by
  have h1 : okClamp = true := by kernel_rfl
  rw [okClamp, List.all_eq_true] at h1
  have h2 := h1 n (List.mem_range.2 h)
  simp only [Bool.and_eq_true, decide_eq_true_eq] at h2
  obtain ⟨⟨⟨⟨⟨a, b⟩, c⟩, d⟩, e⟩, f⟩ := h2
  exact ⟨a, b, c, d, e, f⟩
theorem bt_clamp (n i : Nat) (h : i < 32) : bt (clampN n) i = if i = 0 then ((n / 2 ^ (8 * 0) % 256 / 8 * 8 : Nat) : Int) else if i = 31 then ((n / 2 ^ (8 * 31) % 256 % 64 + 64 : Nat) : Int) else bt n i := by
  have hi : i = 0 ∨ i = 1 ∨ i = 2 ∨ i = 3 ∨ i = 4 ∨ i = 5 ∨ i = 6 ∨ i = 7 ∨ i = 8 ∨ i = 9 ∨ i = 10 ∨ i = 11 ∨ i = 12 ∨ i = 13 ∨ i = 14 ∨ i = 15 ∨ i = 16 ∨ i = 17 ∨ i = 18 ∨ i = 19 ∨ i = 20 ∨ i = 21 ∨ i = 22 ∨ i = 23 ∨ i = 24 ∨ i = 25 ∨ i = 26 ∨ i = 27 ∨ i = 28 ∨ i = 29 ∨ i = 30 ∨ i = 31 := by omega
  unfold clampN bt
  rcases hi with rfl | rfl | rfl | rfl | rfl | rfl | rfl | rfl | rfl | rfl | rfl | rfl | rfl | rfl | rfl | rfl | rfl | rfl | rfl | rfl | rfl | rfl | rfl | rfl | rfl | rfl | rfl | rfl | rfl | rfl | rfl | rfl
  all_goals (simp only [Nat.reduceMul, Nat.reducePow, Nat.reduceEqDiff, if_true, if_false]; omega)
theorem bt_mask (n i : Nat) (h : i < 32) : bt (n % 2 ^ 255) i = if i = 31 then ((n / 2 ^ (8 * 31) % 256 % 128 : Nat) : Int) else bt n i := by
  have hi : i = 0 ∨ i = 1 ∨ i = 2 ∨ i = 3 ∨ i = 4 ∨ i = 5 ∨ i = 6 ∨ i = 7 ∨ i = 8 ∨ i = 9 ∨ i = 10 ∨ i = 11 ∨ i = 12 ∨ i = 13 ∨ i = 14 ∨ i = 15 ∨ i = 16 ∨ i = 17 ∨ i = 18 ∨ i = 19 ∨ i = 20 ∨ i = 21 ∨ i = 22 ∨ i = 23 ∨ i = 24 ∨ i = 25 ∨ i = 26 ∨ i = 27 ∨ i = 28 ∨ i = 29 ∨ i = 30 ∨ i = 31 := by omega
  unfold bt
  rcases hi with rfl | rfl | rfl | rfl | rfl | rfl | rfl | rfl | rfl | rfl | rfl | rfl | rfl | rfl | rfl | rfl | rfl | rfl | rfl | rfl | rfl | rfl | rfl | rfl | rfl | rfl | rfl | rfl | rfl | rfl | rfl | rfl
  all_goals (simp only [Nat.reduceMul, Nat.reducePow, Nat.reduceEqDiff, if_true, if_false]; omega)
/-- Byte 0 without three bits, byte 31 without bit 7 and with bit 6. -/
theorem clamp_list (n : Nat) (a b : Int) (ha : a = ((n / 2 ^ (8 * 0) % 256 / 8 * 8 : Nat) : Int)) (hb : b = ((n / 2 ^ (8 * 31) % 256 % 64 + 64 : Nat) : Int)) : ((by32 n).set 0 a).set 31 b = by32 (clampN n) := by
  refine ext_g (by rw [List.length_set, List.length_set, byk_len, byk_len]) fun i hi => ?_
  rw [List.length_set, List.length_set, byk_len] at hi
  rw [g_byk hi, bt_clamp n i hi, g_set (by rw [List.length_set, byk_len]; decide), g_set (by rw [byk_len]; decide), g_byk hi]
  by_cases h31 : i = 31
  · subst h31
    rw [if_pos rfl, if_neg (by decide), if_pos rfl]
    exact hb
  · rw [if_neg h31]
    by_cases h0 : i = 0
    · subst h0
      rw [if_pos rfl, if_pos rfl]
      exact ha
    · rw [if_neg h0, if_neg h0, if_neg h31]
theorem mask_list (n : Nat) (b : Int) (hb : b = ((n / 2 ^ (8 * 31) % 256 % 128 : Nat) : Int)) : (by32 n).set 31 b = by32 (n % 2 ^ 255) := by
  refine ext_g (by rw [List.length_set, byk_len, byk_len]) fun i hi => ?_
  rw [List.length_set, byk_len] at hi
  rw [g_byk hi, bt_mask n i hi, g_set (by rw [byk_len]; decide), g_byk hi]
  by_cases h31 : i = 31
  · subst h31
    rw [if_pos rfl, if_pos rfl]
    exact hb
  · rw [if_neg h31, if_neg h31]
def okOr : Bool := (List.range 128).all fun n => decide (bits .or .u8 (n : Nat) 0 = ((n : Nat) : Int)) && decide (bits .or .u8 (n : Nat) 128 = ((n + 128 : Nat) : Int))
theorem or_bits (n : Nat) (h : n < 128) : bits .or .u8 (n : Nat) 0 = ((n : Nat) : Int) ∧ bits .or .u8 (n : Nat) 128 = ((n + 128 : Nat) : Int) := by
  have h1 : okOr = true := by kernel_rfl
  rw [okOr, List.all_eq_true] at h1
  have h2 := h1 n (List.mem_range.2 h)
  simp only [Bool.and_eq_true, decide_eq_true_eq] at h2
  exact h2
theorem bt_top (n b i : Nat) (h : i < 32) (hn : n < 2 ^ 255) (hb : b ≤ 1) : bt (n + b * 2 ^ 255) i = if i = 31 then ((n / 2 ^ (8 * 31) % 256 + 128 * b : Nat) : Int) else bt n i := by
  have hi : i = 0 ∨ i = 1 ∨ i = 2 ∨ i = 3 ∨ i = 4 ∨ i = 5 ∨ i = 6 ∨ i = 7 ∨ i = 8 ∨ i = 9 ∨ i = 10 ∨ i = 11 ∨ i = 12 ∨ i = 13 ∨ i = 14 ∨ i = 15 ∨ i = 16 ∨ i = 17 ∨ i = 18 ∨ i = 19 ∨ i = 20 ∨ i = 21 ∨ i = 22 ∨ i = 23 ∨ i = 24 ∨ i = 25 ∨ i = 26 ∨ i = 27 ∨ i = 28 ∨ i = 29 ∨ i = 30 ∨ i = 31 := by omega
  have hb : b = 0 ∨ b = 1 := by omega
  unfold bt
  rcases hb with rfl | rfl
  all_goals (rcases hi with rfl | rfl | rfl | rfl | rfl | rfl | rfl | rfl | rfl | rfl | rfl | rfl | rfl | rfl | rfl | rfl | rfl | rfl | rfl | rfl | rfl | rfl | rfl | rfl | rfl | rfl | rfl | rfl | rfl | rfl | rfl | rfl)
  all_goals (simp only [Nat.reduceMul, Nat.reducePow, Nat.reduceEqDiff, if_true, if_false]; omega)
theorem top_list (n b : Nat) (e : Int) (hn : n < 2 ^ 255) (hb : b ≤ 1) (he : e = ((128 * b : Nat) : Int)) : (by32 n).set 31 (bits .or .u8 (bt n 31) e) = by32 (n + b * 2 ^ 255) := by
  refine ext_g (by rw [List.length_set, byk_len, byk_len]) fun i hi => ?_
  rw [List.length_set, byk_len] at hi
  rw [g_byk hi, bt_top n b i hi hn hb, g_set (by rw [byk_len]; decide), g_byk hi]
  by_cases h31 : i = 31
  · subst h31
    rw [if_pos rfl, if_pos rfl, bt, he]
    have h := or_bits (n / 2 ^ (8 * 31) % 256) (by omega)
    have : b = 0 ∨ b = 1 := by omega
    rcases this with rfl | rfl
    · exact h.1
    · exact h.2
  · rw [if_neg h31, if_neg h31]
set_option maxRecDepth 100000 in
set_option maxHeartbeats 8000000 in
theorem rClamp_exec (n : Nat) (l : List Int) (hl : l = by32 n) : execF EG2 Tryz.f93 [.agg (.flat .u8 l)] (ret1 (F (clampN n))) := by
  have ll : l.length = 32 := by rw [hl, byk_len]
  obtain ⟨x0, hx0⟩ : ∃ x0, x0 = g l 0 := ⟨_, rfl⟩
  have a0 : (Cont.flat .u8 l).at? 0 = some (.v (.int .u8 x0)) := by rw [hx0]; exact at_g (by omega)
  obtain ⟨m1, hm1⟩ : ∃ m1, m1 = l.set 0 (bits .and .u8 x0 248) := ⟨_, rfl⟩
  have p0 : layOne (.flat .u8 l) 0 (.flat .u8 [bits .and .u8 x0 248]) = some (.flat .u8 m1) := by rw [hm1]; exact put_flat (by omega)
  have lm1 : m1.length = 32 := by rw [hm1, List.length_set]; exact ll
  obtain ⟨x1, hx1⟩ : ∃ x1, x1 = g m1 31 := ⟨_, rfl⟩
  have a1 : (Cont.flat .u8 m1).at? 31 = some (.v (.int .u8 x1)) := by rw [hx1]; exact at_g (by omega)
  obtain ⟨m2, hm2⟩ : ∃ m2, m2 = m1.set 31 (bits .or .u8 (bits .and .u8 x1 127) 64) := ⟨_, rfl⟩
  have p1 : layOne (.flat .u8 m1) 31 (.flat .u8 [bits .or .u8 (bits .and .u8 x1 127) 64]) = some (.flat .u8 m2) := by rw [hm2]; exact put_flat (by omega)
  have lm2 : m2.length = 32 := by rw [hm2, List.length_set]; exact lm1
  have nE : (Cont.flat .u8 m2).len = 32 := lm2
  have zE : layOne (.flat .u8 (List.replicate 32 0)) 0 (.flat .u8 m2) = some (.flat .u8 m2) := lay_all (by rw [List.length_replicate, lm2]) (by omega)
  have cE : (Cont.flat .u8 m2).cut 0 32 = some (.flat .u8 m2) := cut_all lm2
  have e : m2 = by32 (clampN n) := by
    have hx1' : x1 = bt n 31 := by rw [hx1, hm1, hl, g_set (by rw [byk_len]; decide), if_neg (by decide), g_byk (by decide)]
    have hx0' : x0 = bt n 0 := by rw [hx0, hl, g_byk (by decide)]
    have c0 := (clamp_bits (n / 2 ^ (8 * 0) % 256) (by omega)).2.2.1
    have c1 := (clamp_bits (n / 2 ^ (8 * 31) % 256) (by omega)).2.2.2.1
    rw [hm2, hm1, hl]
    refine clamp_list n _ _ ?_ ?_
    · rw [hx0']; exact c0
    · rw [hx1']; exact c1
  clear hm1 hm2 hx0 hx1 hl
  ((conv => whnf); repeat ((first | refine ⟨_, a0, ?_⟩ | refine ⟨_, a1, ?_⟩ | refine ⟨_, p0, ?_⟩ | refine ⟨_, p1, ?_⟩ | refine ⟨_, cE, ?_⟩ | refine ⟨_, zE, ?_⟩ | refine ⟨nE, ?_⟩ | refine ⟨_, rfl, ?_⟩ | refine ⟨by decide, ?_⟩ | refine ⟨rfl, ?_⟩ | refine ⟨fun _ => ?_, fun h => absurd h (by decide)⟩ | refine ⟨fun h => absurd h (by decide), fun _ => ?_⟩ | refine ⟨inI_of (by omega), ?_⟩ | refine ⟨⟨rfl, inI_of (by omega)⟩, ?_⟩ | refine ⟨⟨rfl, by decide⟩, ?_⟩ | (apply Exists.intro; refine ⟨?_, ?_⟩; ((try simp only); (try simp only [Nat.zero_add]); (try simp only [Nat.mul_one]); (try simp only [Int.toNat_natCast]); first | exact at_g (by omega) | exact put_flat (by omega))) | refine ⟨_, cut_all (by omega), ?_⟩ | refine ⟨_, lay_all (by omega) (by omega), ?_⟩ | refine ⟨_, lay_all (by (try simp only); (try simp only [List.length_replicate]); (try simp only [List.length_cons]); (try simp only [List.length_nil]); omega) (by omega), ?_⟩ | refine ⟨by omega, ?_⟩ | refine ⟨len_flat (by omega), ?_⟩ | refine ⟨apart_uv _ _ _, ?_⟩ | refine ⟨_, resSlot_own rfl (by omega) (by first | exact .inl rfl | exact .inr ⟨rfl, rfl⟩), ?_⟩ | refine ⟨(by kernel_rfl : regB _ = true), ?_⟩ | refine ⟨⟨rfl, inI_of (by omega), by decide⟩, ?_⟩ | (apply Exists.intro; refine ⟨?_, ?_⟩; ((try simp only); (try simp only [Nat.zero_add]); (try simp only [Nat.mul_one]); (try simp only [Int.toNat_natCast]); first | exact at_drop_g (by omega) | exact cut_rest (by omega)))); conv => whnf))
  rw [e]
  rfl
theorem rClamp_call (a : Nat) (_ : a < 2 ^ 256) : CallOk Tryz.prog 93 [F a] (ret1 (F (clampN a))) := execF_ok follows_ok EG2_ok Tryz.func93 (rClamp_exec a _ rfl)
theorem rClamp_row {a : List Int} (hc : isF a = true) : CallOk Tryz.prog 93 [.agg (.flat .u8 a)] (ret1 (F (clampN (nb a)))) := by
  have h0 := hc
  clear hc
  have e0 := isF_eq h0
  have l0 := nb32_lt h0
  clear h0
  generalize nb a = n0 at *
  subst e0
  exact rClamp_call n0 l0 
def orcG3 (f : Nat) (ds : List LV) : Option LRes :=
  match f with
  | 93 => match ds with
    | [.agg (.flat .u8 a)] => if isF a = true then some (ret1 (F (clampN (nb a)))) else none
    | _ => none
  | _ => orcG2 f ds
theorem orcG3_ok : Known Tryz.prog orcG3 := by
  intro f ds r h
  unfold orcG3 at h
  split at h
  · split at h
    · split at h
      · rename_i hc
        cases h
        exact .inl ⟨⟨_, Tryz.func93, name_ne _ (by kernel_rfl), rfl⟩, rClamp_row hc⟩
      · cases h
    · cases h
  · exact orcG2_ok f ds r h
def EG3 : Env := ⟨tyL, orcG3, false, noWk, noOrw⟩
theorem EG3_ok : EnvOk Tryz.prog EG3 := ⟨tyL_ok, orcG3_ok, noOrw_ok⟩
theorem isN_EG3 (f : Nat) {ds : List LV} {K : LRes → Prop} (h : ∃ y, EG3.orc f ds = some y ∧ K y) : ∃ y, EG3.orc f ds = some y ∧ K y := h
end Go.Proofs.YtdeigmjbcbjgeaaGreatDoor
/-
  Layer 9: the answer's ladder.
-/
namespace Go.Proofs.YtdeigmjbcbjgeaaGreatDoor
open Go.RowKit

theorem e3_same : e3R = e3P := by kernel_rfl
theorem pw_ltP (x : Nat) : pw x e3R < pP := by
  have : ∀ k, pwk x e3R (k + 1) < pP := fun k => by rw [pwk]; split <;> exact Nat.mod_lt _ pP_pos
  exact this 255
theorem pP_lt2 : pP + pP < 2 ^ 256 := by decide
theorem t_Plus {a b : Nat} (ha : a < pP) (hb : b < pP) : EG3.orc 74 [W a, W b] = some (ret1 (W (nA a b))) := (show EG3.orc 74 [W a, W b] = ER6.orc 74 [W a, W b] from rfl).trans (r_Plus6 (lt256 ha) (lt256 hb) (by have := pP_lt2; omega))
theorem t_Minus {a b : Nat} (ha : a < pP) (hb : b < pP) : EG3.orc 73 [W a, W b] = some (ret1 (W (nS a b))) := (show EG3.orc 73 [W a, W b] = ER6.orc 73 [W a, W b] from rfl).trans ((r_Minus6 (lt256 ha) (lt256 hb) (Nat.le_of_lt hb)).trans (by
  have h := minR_mod a b
  rw [Nat.mod_eq_of_lt ha, Nat.mod_eq_of_lt hb] at h
  rw [h, nS, Nat.mod_eq_of_lt hb]))
theorem t_Times {a b : Nat} (ha : a < pP) (hb : b < pP) : EG3.orc 82 [W a, W b] = some (ret1 (W (nM a b))) := (show EG3.orc 82 [W a, W b] = ER6.orc 82 [W a, W b] from rfl).trans (r_Times6 (lt256 ha) (lt256 hb))
theorem t_Inverse {a : Nat} (ha : a < 2 ^ 256) : EG3.orc 83 [W a] = some (ret1 (W (pw a e3R))) := (show EG3.orc 83 [W a] = ER6.orc 83 [W a] from rfl).trans (o_rInverse ha)
theorem t_Load {a : Nat} (ha : a < 2 ^ 256) : EG3.orc 63 [F a] = some (ret1 (W a)) := (show EG3.orc 63 [F a] = ER6.orc 63 [F a] from rfl).trans (o_load ha)
theorem t_Store {a : Nat} (ha : a < 2 ^ 256) : EG3.orc 35 [W a] = some (ret1 (F a)) := (show EG3.orc 35 [W a] = ER6.orc 35 [W a] from rfl).trans (o_store ha)
end Go.Proofs.YtdeigmjbcbjgeaaGreatDoor
