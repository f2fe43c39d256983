/-
  Layer 9: Clamp, Mult.
-/
import Derived.Test.YtkennahakodfnaaGN
namespace Go.Proofs.Ytkennahakodfnaa
open Go.RowKit

/-- A number with the bits 0, 1, 2 and 255 cleared, and bit 254 set. -/
def clampN (n : Nat) : Nat := n % 2 ^ 254 / 8 * 8 + 2 ^ 254
theorem clampN_lt (n : Nat) : clampN n < 2 ^ 256 := by unfold clampN; omega
def okClamp : Bool := (List.range 256).all fun n => decide (bits .andNot .u8 (n : Nat) 7 = ((n / 8 * 8 : Nat) : Int)) && decide (bits .or .u8 (bits .andNot .u8 (n : Nat) 128) 64 = ((n % 64 + 64 : Nat) : Int)) && decide (bits .and .u8 (n : Nat) 248 = ((n / 8 * 8 : Nat) : Int)) && decide (bits .or .u8 (bits .and .u8 (n : Nat) 127) 64 = ((n % 64 + 64 : Nat) : Int)) && decide (bits .andNot .u8 (n : Nat) 128 = ((n % 128 : Nat) : Int)) && decide (bits .and .u8 (n : Nat) 127 = ((n % 128 : Nat) : Int))
theorem clamp_bits (n : Nat) (h : n < 256) : bits .andNot .u8 (n : Nat) 7 = ((n / 8 * 8 : Nat) : Int) ∧ bits .or .u8 (bits .andNot .u8 (n : Nat) 128) 64 = ((n % 64 + 64 : Nat) : Int) ∧ bits .and .u8 (n : Nat) 248 = ((n / 8 * 8 : Nat) : Int) ∧ bits .or .u8 (bits .and .u8 (n : Nat) 127) 64 = ((n % 64 + 64 : Nat) : Int) ∧ bits .andNot .u8 (n : Nat) 128 = ((n % 128 : Nat) : Int) ∧ bits .and .u8 (n : Nat) 127 = ((n % 128 : Nat) : Int) := by
  have h1 : okClamp = true := by kernel_rfl
  rw [okClamp, List.all_eq_true] at h1
  have h2 := h1 n (List.mem_range.2 h)
  simp only [Bool.and_eq_true, decide_eq_true_eq] at h2
  obtain ⟨⟨⟨⟨⟨a, b⟩, c⟩, d⟩, e⟩, f⟩ := h2
  exact ⟨a, b, c, d, e, f⟩
theorem bt_clamp (n i : Nat) (h : i < 32) : bt (clampN n) i = if i = 0 then ((n / 2 ^ (8 * 0) % 256 / 8 * 8 : Nat) : Int) else if i = 31 then ((n / 2 ^ (8 * 31) % 256 % 64 + 64 : Nat) : Int) else bt n i := by
  have hi : i = 0 ∨ i = 1 ∨ i = 2 ∨ i = 3 ∨ i = 4 ∨ i = 5 ∨ i = 6 ∨ i = 7 ∨ i = 8 ∨ i = 9 ∨ i = 10 ∨ i = 11 ∨ i = 12 ∨ i = 13 ∨ i = 14 ∨ i = 15 ∨ i = 16 ∨ i = 17 ∨ i = 18 ∨ i = 19 ∨ i = 20 ∨ i = 21 ∨ i = 22 ∨ i = 23 ∨ i = 24 ∨ i = 25 ∨ i = 26 ∨ i = 27 ∨ i = 28 ∨ i = 29 ∨ i = 30 ∨ i = 31 := by omega
  unfold clampN bt
  rcases hi with rfl | rfl | rfl | rfl | rfl | rfl | rfl | rfl | rfl | rfl | rfl | rfl | rfl | rfl | rfl | rfl | rfl | rfl | rfl | rfl | rfl | rfl | rfl | rfl | rfl | rfl | rfl | rfl | rfl | rfl | rfl | rfl
  all_goals (simp only [Nat.reduceMul, Nat.reducePow, Nat.reduceEqDiff, if_true, if_false]; omega)
theorem bt_mask (n i : Nat) (h : i < 32) : bt (n % 2 ^ 255) i = if i = 31 then ((n / 2 ^ (8 * 31) % 256 % 128 : Nat) : Int) else bt n i := by
  have hi : i = 0 ∨ i = 1 ∨ i = 2 ∨ i = 3 ∨ i = 4 ∨ i = 5 ∨ i = 6 ∨ i = 7 ∨ i = 8 ∨ i = 9 ∨ i = 10 ∨ i = 11 ∨ i = 12 ∨ i = 13 ∨ i = 14 ∨ i = 15 ∨ i = 16 ∨ i = 17 ∨ i = 18 ∨ i = 19 ∨ i = 20 ∨ i = 21 ∨ i = 22 ∨ i = 23 ∨ i = 24 ∨ i = 25 ∨ i = 26 ∨ i = 27 ∨ i = 28 ∨ i = 29 ∨ i = 30 ∨ i = 31 := by omega
  unfold bt
  rcases hi with rfl | rfl | rfl | rfl | rfl | rfl | rfl | rfl | rfl | rfl | rfl | rfl | rfl | rfl | rfl | rfl | rfl | rfl | rfl | rfl | rfl | rfl | rfl | rfl | rfl | rfl | rfl | rfl | rfl | rfl | rfl | rfl
  all_goals (simp only [Nat.reduceMul, Nat.reducePow, Nat.reduceEqDiff, if_true, if_false]; omega)
/-- Byte 0 without three bits, byte 31 without bit 7 and with bit 6. -/
theorem clamp_list (n : Nat) (a b : Int) (ha : a = ((n / 2 ^ (8 * 0) % 256 / 8 * 8 : Nat) : Int)) (hb : b = ((n / 2 ^ (8 * 31) % 256 % 64 + 64 : Nat) : Int)) : ((by32 n).set 0 a).set 31 b = by32 (clampN n) := by
  refine ext_g (by rw [List.length_set, List.length_set, byk_len, byk_len]) fun i hi => ?_
  rw [List.length_set, List.length_set, byk_len] at hi
  rw [g_byk hi, bt_clamp n i hi, g_set (by rw [List.length_set, byk_len]; decide), g_set (by rw [byk_len]; decide), g_byk hi]
  by_cases h31 : i = 31
  · subst h31
    rw [if_pos rfl, if_neg (by decide), if_pos rfl]
    exact hb
  · rw [if_neg h31]
    by_cases h0 : i = 0
    · subst h0
      rw [if_pos rfl, if_pos rfl]
      exact ha
    · rw [if_neg h0, if_neg h0, if_neg h31]
theorem mask_list (n : Nat) (b : Int) (hb : b = ((n / 2 ^ (8 * 31) % 256 % 128 : Nat) : Int)) : (by32 n).set 31 b = by32 (n % 2 ^ 255) := by
  refine ext_g (by rw [List.length_set, byk_len, byk_len]) fun i hi => ?_
  rw [List.length_set, byk_len] at hi
  rw [g_byk hi, bt_mask n i hi, g_set (by rw [byk_len]; decide), g_byk hi]
  by_cases h31 : i = 31
  · subst h31
    rw [if_pos rfl, if_pos rfl]
    exact hb
  · rw [if_neg h31, if_neg h31]
set_option maxRecDepth 100000 in
set_option maxHeartbeats 8000000 in
theorem pClamp_exec (n : Nat) (l : List Int) (hl : l = by32 n) : execF EG2 Try.f9 [.agg (.flat .u8 l)] (ret1 (F (clampN n))) := by
  have ll : l.length = 32 := by rw [hl, byk_len]
  obtain ⟨x0, hx0⟩ : ∃ x0, x0 = g l 0 := ⟨_, rfl⟩
  have a0 : (Cont.flat .u8 l).at? 0 = some (.v (.int .u8 x0)) := by rw [hx0]; exact at_g (by omega)
  obtain ⟨m1, hm1⟩ : ∃ m1, m1 = l.set 0 (bits .andNot .u8 x0 7) := ⟨_, rfl⟩
  have p0 : layOne (.flat .u8 l) 0 (.flat .u8 [bits .andNot .u8 x0 7]) = some (.flat .u8 m1) := by rw [hm1]; exact put_flat (by omega)
  have lm1 : m1.length = 32 := by rw [hm1, List.length_set]; exact ll
  obtain ⟨x1, hx1⟩ : ∃ x1, x1 = g m1 31 := ⟨_, rfl⟩
  have a1 : (Cont.flat .u8 m1).at? 31 = some (.v (.int .u8 x1)) := by rw [hx1]; exact at_g (by omega)
  obtain ⟨m2, hm2⟩ : ∃ m2, m2 = m1.set 31 (bits .andNot .u8 x1 128) := ⟨_, rfl⟩
  have p1 : layOne (.flat .u8 m1) 31 (.flat .u8 [bits .andNot .u8 x1 128]) = some (.flat .u8 m2) := by rw [hm2]; exact put_flat (by omega)
  have lm2 : m2.length = 32 := by rw [hm2, List.length_set]; exact lm1
  obtain ⟨x2, hx2⟩ : ∃ x2, x2 = g m2 31 := ⟨_, rfl⟩
  have a2 : (Cont.flat .u8 m2).at? 31 = some (.v (.int .u8 x2)) := by rw [hx2]; exact at_g (by omega)
  obtain ⟨m3, hm3⟩ : ∃ m3, m3 = m2.set 31 (bits .or .u8 x2 64) := ⟨_, rfl⟩
  have p2 : layOne (.flat .u8 m2) 31 (.flat .u8 [bits .or .u8 x2 64]) = some (.flat .u8 m3) := by rw [hm3]; exact put_flat (by omega)
  have lm3 : m3.length = 32 := by rw [hm3, List.length_set]; exact lm2
  have nE : (Cont.flat .u8 m3).len = 32 := lm3
  have zE : layOne (.flat .u8 (List.replicate 32 0)) 0 (.flat .u8 m3) = some (.flat .u8 m3) := lay_all (by rw [List.length_replicate, lm3]) (by omega)
  have cE : (Cont.flat .u8 m3).cut 0 32 = some (.flat .u8 m3) := cut_all lm3
  have e : m3 = by32 (clampN n) := by
    have hx1' : x1 = bt n 31 := by rw [hx1, hm1, hl, g_set (by rw [byk_len]; decide), if_neg (by decide), g_byk (by decide)]
    have hx2' : x2 = bits .andNot .u8 (bt n 31) 128 := by rw [hx2, hm2, g_set (by omega), if_pos rfl, hx1']
    have hx0' : x0 = bt n 0 := by rw [hx0, hl, g_byk (by decide)]
    have c0 := (clamp_bits (n / 2 ^ (8 * 0) % 256) (by omega)).1
    have c1 := (clamp_bits (n / 2 ^ (8 * 31) % 256) (by omega)).2.1
    rw [hm3, hm2, List.set_set, hm1, hl]
    refine clamp_list n _ _ ?_ ?_
    · rw [hx0']; exact c0
    · rw [hx2']; exact c1
  clear hm1 hm2 hm3 hx0 hx1 hx2 hl
  ((conv => whnf); repeat ((first | refine ⟨_, a0, ?_⟩ | refine ⟨_, a1, ?_⟩ | refine ⟨_, a2, ?_⟩ | refine ⟨_, p0, ?_⟩ | refine ⟨_, p1, ?_⟩ | refine ⟨_, p2, ?_⟩ | refine ⟨_, cE, ?_⟩ | refine ⟨_, zE, ?_⟩ | refine ⟨nE, ?_⟩ | refine ⟨_, rfl, ?_⟩ | refine ⟨by decide, ?_⟩ | refine ⟨rfl, ?_⟩ | refine ⟨fun _ => ?_, fun h => absurd h (by decide)⟩ | refine ⟨fun h => absurd h (by decide), fun _ => ?_⟩ | refine ⟨inI_of (by omega), ?_⟩ | refine ⟨⟨rfl, inI_of (by omega)⟩, ?_⟩ | refine ⟨⟨rfl, by decide⟩, ?_⟩ | (apply Exists.intro; refine ⟨?_, ?_⟩; ((try simp only); (try simp only [Nat.zero_add]); (try simp only [Nat.mul_one]); (try simp only [Int.toNat_natCast]); exact at_g (by omega))) | (apply Exists.intro; refine ⟨?_, ?_⟩; ((try simp only); (try simp only [Nat.zero_add]); (try simp only [Nat.mul_one]); (try simp only [Int.toNat_natCast]); exact put_flat (by omega))) | refine ⟨_, cut_all (by omega), ?_⟩ | refine ⟨_, lay_all (by omega) (by omega), ?_⟩ | refine ⟨_, lay_all (by (try simp only); (try simp only [List.length_replicate]); (try simp only [List.length_cons]); (try simp only [List.length_nil]); omega) (by omega), ?_⟩ | refine ⟨by omega, ?_⟩ | refine ⟨len_flat (by omega), ?_⟩ | refine ⟨apart_uv _ _ _, ?_⟩ | refine ⟨_, resSlot_own rfl (by omega) (by first | exact .inl rfl | exact .inr ⟨rfl, rfl⟩), ?_⟩ | refine ⟨(by kernel_rfl : regB _ = true), ?_⟩ | refine ⟨⟨rfl, inI_of (by omega), by decide⟩, ?_⟩ | (apply Exists.intro; refine ⟨?_, ?_⟩; ((try simp only); (try simp only [Nat.zero_add]); (try simp only [Nat.mul_one]); (try simp only [Int.toNat_natCast]); exact at_drop_g (by omega))) | (apply Exists.intro; refine ⟨?_, ?_⟩; ((try simp only); (try simp only [Nat.zero_add]); (try simp only [Nat.mul_one]); (try simp only [Int.toNat_natCast]); exact cut_rest (by omega)))); conv => whnf))
  rw [e]
  rfl
set_option maxRecDepth 100000 in
set_option maxHeartbeats 8000000 in
theorem rClamp_exec (n : Nat) (l : List Int) (hl : l = by32 n) : execF EG2 Try.f10 [.agg (.flat .u8 l)] (ret1 (F (clampN n))) := by
  have ll : l.length = 32 := by rw [hl, byk_len]
  obtain ⟨x0, hx0⟩ : ∃ x0, x0 = g l 0 := ⟨_, rfl⟩
  have a0 : (Cont.flat .u8 l).at? 0 = some (.v (.int .u8 x0)) := by rw [hx0]; exact at_g (by omega)
  obtain ⟨m1, hm1⟩ : ∃ m1, m1 = l.set 0 (bits .and .u8 x0 248) := ⟨_, rfl⟩
  have p0 : layOne (.flat .u8 l) 0 (.flat .u8 [bits .and .u8 x0 248]) = some (.flat .u8 m1) := by rw [hm1]; exact put_flat (by omega)
  have lm1 : m1.length = 32 := by rw [hm1, List.length_set]; exact ll
  obtain ⟨x1, hx1⟩ : ∃ x1, x1 = g m1 31 := ⟨_, rfl⟩
  have a1 : (Cont.flat .u8 m1).at? 31 = some (.v (.int .u8 x1)) := by rw [hx1]; exact at_g (by omega)
  obtain ⟨m2, hm2⟩ : ∃ m2, m2 = m1.set 31 (bits .or .u8 (bits .and .u8 x1 127) 64) := ⟨_, rfl⟩
  have p1 : layOne (.flat .u8 m1) 31 (.flat .u8 [bits .or .u8 (bits .and .u8 x1 127) 64]) = some (.flat .u8 m2) := by rw [hm2]; exact put_flat (by omega)
  have lm2 : m2.length = 32 := by rw [hm2, List.length_set]; exact lm1
  have nE : (Cont.flat .u8 m2).len = 32 := lm2
  have zE : layOne (.flat .u8 (List.replicate 32 0)) 0 (.flat .u8 m2) = some (.flat .u8 m2) := lay_all (by rw [List.length_replicate, lm2]) (by omega)
  have cE : (Cont.flat .u8 m2).cut 0 32 = some (.flat .u8 m2) := cut_all lm2
  have e : m2 = by32 (clampN n) := by
    have hx1' : x1 = bt n 31 := by rw [hx1, hm1, hl, g_set (by rw [byk_len]; decide), if_neg (by decide), g_byk (by decide)]
    have hx0' : x0 = bt n 0 := by rw [hx0, hl, g_byk (by decide)]
    have c0 := (clamp_bits (n / 2 ^ (8 * 0) % 256) (by omega)).2.2.1
    have c1 := (clamp_bits (n / 2 ^ (8 * 31) % 256) (by omega)).2.2.2.1
    rw [hm2, hm1, hl]
    refine clamp_list n _ _ ?_ ?_
    · rw [hx0']; exact c0
    · rw [hx1']; exact c1
  clear hm1 hm2 hx0 hx1 hl
  ((conv => whnf); repeat ((first | refine ⟨_, a0, ?_⟩ | refine ⟨_, a1, ?_⟩ | refine ⟨_, p0, ?_⟩ | refine ⟨_, p1, ?_⟩ | refine ⟨_, cE, ?_⟩ | refine ⟨_, zE, ?_⟩ | refine ⟨nE, ?_⟩ | refine ⟨_, rfl, ?_⟩ | refine ⟨by decide, ?_⟩ | refine ⟨rfl, ?_⟩ | refine ⟨fun _ => ?_, fun h => absurd h (by decide)⟩ | refine ⟨fun h => absurd h (by decide), fun _ => ?_⟩ | refine ⟨inI_of (by omega), ?_⟩ | refine ⟨⟨rfl, inI_of (by omega)⟩, ?_⟩ | refine ⟨⟨rfl, by decide⟩, ?_⟩ | (apply Exists.intro; refine ⟨?_, ?_⟩; ((try simp only); (try simp only [Nat.zero_add]); (try simp only [Nat.mul_one]); (try simp only [Int.toNat_natCast]); exact at_g (by omega))) | (apply Exists.intro; refine ⟨?_, ?_⟩; ((try simp only); (try simp only [Nat.zero_add]); (try simp only [Nat.mul_one]); (try simp only [Int.toNat_natCast]); exact put_flat (by omega))) | refine ⟨_, cut_all (by omega), ?_⟩ | refine ⟨_, lay_all (by omega) (by omega), ?_⟩ | refine ⟨_, lay_all (by (try simp only); (try simp only [List.length_replicate]); (try simp only [List.length_cons]); (try simp only [List.length_nil]); omega) (by omega), ?_⟩ | refine ⟨by omega, ?_⟩ | refine ⟨len_flat (by omega), ?_⟩ | refine ⟨apart_uv _ _ _, ?_⟩ | refine ⟨_, resSlot_own rfl (by omega) (by first | exact .inl rfl | exact .inr ⟨rfl, rfl⟩), ?_⟩ | refine ⟨(by kernel_rfl : regB _ = true), ?_⟩ | refine ⟨⟨rfl, inI_of (by omega), by decide⟩, ?_⟩ | (apply Exists.intro; refine ⟨?_, ?_⟩; ((try simp only); (try simp only [Nat.zero_add]); (try simp only [Nat.mul_one]); (try simp only [Int.toNat_natCast]); exact at_drop_g (by omega))) | (apply Exists.intro; refine ⟨?_, ?_⟩; ((try simp only); (try simp only [Nat.zero_add]); (try simp only [Nat.mul_one]); (try simp only [Int.toNat_natCast]); exact cut_rest (by omega)))); conv => whnf))
  rw [e]
  rfl
theorem pClamp_call (a : Nat) (_ : a < 2 ^ 256) : CallOk Try.prog 9 [F a] (ret1 (F (clampN a))) := execF_ok follows_ok EG2_ok Try.func9 (pClamp_exec a _ rfl)
theorem rClamp_call (a : Nat) (_ : a < 2 ^ 256) : CallOk Try.prog 10 [F a] (ret1 (F (clampN a))) := execF_ok follows_ok EG2_ok Try.func10 (rClamp_exec a _ rfl)
theorem multiple_call (a b : Nat) (_ : a < 2 ^ 256) (_ : b < 2 ^ 256) (hb : b < pP) : CallOk Try.prog 32 [F a, F b] (ret1 (F (mlt b a))) := execF_ok follows_ok EG2_ok Try.func32 (multiple_exec a b _ rfl hb)
theorem pClamp_row {a : List Int} (hc : isF a = true) : CallOk Try.prog 9 [.agg (.flat .u8 a)] (ret1 (F (clampN (nb a)))) := by
  have h0 := hc
  clear hc
  have e0 := isF_eq h0
  have l0 := nb32_lt h0
  clear h0
  generalize nb a = n0 at *
  subst e0
  exact pClamp_call n0 l0 
theorem rClamp_row {a : List Int} (hc : isF a = true) : CallOk Try.prog 10 [.agg (.flat .u8 a)] (ret1 (F (clampN (nb a)))) := by
  have h0 := hc
  clear hc
  have e0 := isF_eq h0
  have l0 := nb32_lt h0
  clear h0
  generalize nb a = n0 at *
  subst e0
  exact rClamp_call n0 l0 
theorem multiple_row {a b : List Int} (hc : isF a = true ∧ isF b = true ∧ (nb b) < pP) : CallOk Try.prog 32 [.agg (.flat .u8 a), .agg (.flat .u8 b)] (ret1 (F (mlt (nb b) (nb a)))) := by
  obtain ⟨h0, h1, h2⟩ := hc
  have e0 := isF_eq h0
  have l0 := nb32_lt h0
  clear h0
  generalize nb a = n0 at *
  subst e0
  have e1 := isF_eq h1
  have l1 := nb32_lt h1
  clear h1
  generalize nb b = n1 at *
  subst e1
  exact multiple_call n0 n1 l0 l1 h2
def orcG3 (f : Nat) (ds : List LV) : Option LRes :=
  match f with
  | 9 => match ds with
    | [.agg (.flat .u8 a)] => if isF a = true then some (ret1 (F (clampN (nb a)))) else none
    | _ => none
  | 10 => match ds with
    | [.agg (.flat .u8 a)] => if isF a = true then some (ret1 (F (clampN (nb a)))) else none
    | _ => none
  | 32 => match ds with
    | [.agg (.flat .u8 a), .agg (.flat .u8 b)] => if isF a = true ∧ isF b = true ∧ (nb b) < pP then some (ret1 (F (mlt (nb b) (nb a)))) else none
    | _ => none
  | _ => orcG2 f ds
theorem orcG3_ok : Known Try.prog orcG3 := by
  intro f ds r h
  unfold orcG3 at h
  split at h
  · split at h
    · split at h
      · rename_i hc
        cases h
        exact .inl ⟨⟨_, Try.func9, name_ne _ (by kernel_rfl), rfl⟩, pClamp_row hc⟩
      · cases h
    · cases h
  · split at h
    · split at h
      · rename_i hc
        cases h
        exact .inl ⟨⟨_, Try.func10, name_ne _ (by kernel_rfl), rfl⟩, rClamp_row hc⟩
      · cases h
    · cases h
  · split at h
    · split at h
      · rename_i hc
        cases h
        exact .inl ⟨⟨_, Try.func32, name_ne _ (by kernel_rfl), rfl⟩, multiple_row hc⟩
      · cases h
    · cases h
  · exact orcG2_ok f ds r h
def EG3 : Env := ⟨tyL, orcG3, false, noWk, noOrw⟩
theorem EG3_ok : EnvOk Try.prog EG3 := ⟨tyL_ok, orcG3_ok, noOrw_ok⟩
theorem is_EG3 {f : Nat} {ds : List LV} {K : LRes → Prop} (h : ∃ y, EG3.orc f ds = some y ∧ K y) : ∃ y, EG3.orc f ds = some y ∧ K y := h
set_option maxRecDepth 100000 in
theorem o_pClamp {a : Nat} (ha : a < 2 ^ 256) : EG3.orc 9 [F a] = some (ret1 (F (clampN a))) :=
  (if_pos (isF_by _)).trans (by rw [nb_by32 ha])
set_option maxRecDepth 100000 in
theorem o_rClamp {a : Nat} (ha : a < 2 ^ 256) : EG3.orc 10 [F a] = some (ret1 (F (clampN a))) :=
  (if_pos (isF_by _)).trans (by rw [nb_by32 ha])
set_option maxRecDepth 100000 in
theorem o_multiple {a b : Nat} (ha : a < 2 ^ 256) (hb : b < 2 ^ 256) (x0 : b < pP) : EG3.orc 32 [F a, F b] = some (ret1 (F (mlt b a))) :=
  (if_pos ⟨isF_by _, isF_by _, by rw [nb_by32 hb]; exact x0⟩).trans (by rw [nb_by32 ha, nb_by32 hb])
theorem isN_EG3 (f : Nat) {ds : List LV} {K : LRes → Prop} (h : ∃ y, EG3.orc f ds = some y ∧ K y) : ∃ y, EG3.orc f ds = some y ∧ K y := h
theorem q3_Reduce {a : Nat} (ha : a < 2 ^ 256) : EG3.orc 24 [F a] = some (ret1 (F (a % pP))) := (show EG3.orc 24 [F a] = EG0.orc 24 [F a] from rfl).trans (o_pReduce ha)
/-- X25519. -/
def x25 (k u : Nat) : Nat := mlt (u % 2 ^ 255 % pP) (clampN k)
set_option maxRecDepth 100000 in
set_option maxHeartbeats 8000000 in
theorem pMult_exec (k u : Nat) (l m : List Int) (hk : k < 2 ^ 256) (hl : l = by32 k) (hm : m = by32 u) : execF EG3 Try.f11 [.agg (.flat .u8 l), .agg (.flat .u8 m)] (ret1 (F (x25 k u))) := by
  have ll : l.length = 32 := by rw [hl, byk_len]
  have lm : m.length = 32 := by rw [hm, byk_len]
  obtain ⟨x1, hx1⟩ : ∃ x1, x1 = g m 31 := ⟨_, rfl⟩
  have a1 : (Cont.flat .u8 m).at? 31 = some (.v (.int .u8 x1)) := by rw [hx1]; exact at_g (by omega)
  obtain ⟨m1, hm1⟩ : ∃ m1, m1 = m.set 31 (bits .andNot .u8 x1 128) := ⟨_, rfl⟩
  have p1 : layOne (.flat .u8 m) 31 (.flat .u8 [bits .andNot .u8 x1 128]) = some (.flat .u8 m1) := by rw [hm1]; exact put_flat (by omega)
  have lm1 : m1.length = 32 := by rw [hm1, List.length_set]; exact lm
  have e : m1 = by32 (u % 2 ^ 255) := by
    have hx1' : x1 = bt u 31 := by rw [hx1, hm, g_byk (by decide)]
    have c1 := (clamp_bits (u / 2 ^ (8 * 31) % 256) (by omega)).2.2.2.2.1
    rw [hm1, hm]
    refine mask_list u _ ?_
    rw [hx1']; exact c1
  have hv : u % 2 ^ 255 < 2 ^ 256 := by omega
  have hw : u % 2 ^ 255 % pP < pP := Nat.mod_lt _ pP_pos
  have f1 := o_pClamp hk
  have f2 := q3_Reduce hv
  have f3 := o_multiple (clampN_lt k) (lt256 hw) hw
  have n1 : (Cont.flat .u8 l).cut 0 32 = some (.flat .u8 l) := cut_all ll
  have n2 : (Cont.flat .u8 m1).cut 0 32 = some (.flat .u8 m1) := cut_all lm1
  rw [F, ← hl] at f1
  rw [F, ← e] at f2
  clear hm1 hx1 hl e hm
  ((conv => whnf); repeat ((first | refine ⟨_, a1, ?_⟩ | refine ⟨_, p1, ?_⟩ | refine ⟨_, n1, ?_⟩ | refine ⟨_, n2, ?_⟩ | ((with_reducible refine isN_EG3 9 ?_); refine ⟨_, f1, ?_⟩) | ((with_reducible refine isN_EG3 24 ?_); refine ⟨_, f2, ?_⟩) | ((with_reducible refine isN_EG3 32 ?_); refine ⟨_, f3, ?_⟩) | refine ⟨_, rfl, ?_⟩ | refine ⟨by decide, ?_⟩ | refine ⟨rfl, ?_⟩ | refine ⟨fun _ => ?_, fun h => absurd h (by decide)⟩ | refine ⟨fun h => absurd h (by decide), fun _ => ?_⟩ | refine ⟨inI_of (by omega), ?_⟩ | refine ⟨⟨rfl, inI_of (by omega)⟩, ?_⟩ | refine ⟨⟨rfl, by decide⟩, ?_⟩ | (apply Exists.intro; refine ⟨?_, ?_⟩; ((try simp only); (try simp only [Nat.zero_add]); (try simp only [Nat.mul_one]); (try simp only [Int.toNat_natCast]); exact at_g (by omega))) | (apply Exists.intro; refine ⟨?_, ?_⟩; ((try simp only); (try simp only [Nat.zero_add]); (try simp only [Nat.mul_one]); (try simp only [Int.toNat_natCast]); exact put_flat (by omega))) | refine ⟨_, cut_all (by omega), ?_⟩ | refine ⟨_, lay_all (by omega) (by omega), ?_⟩ | refine ⟨_, lay_all (by (try simp only); (try simp only [List.length_replicate]); (try simp only [List.length_cons]); (try simp only [List.length_nil]); omega) (by omega), ?_⟩ | refine ⟨by omega, ?_⟩ | refine ⟨len_flat (by omega), ?_⟩ | refine ⟨apart_uv _ _ _, ?_⟩ | refine ⟨_, resSlot_own rfl (by omega) (by first | exact .inl rfl | exact .inr ⟨rfl, rfl⟩), ?_⟩ | refine ⟨(by kernel_rfl : regB _ = true), ?_⟩ | refine ⟨⟨rfl, inI_of (by omega), by decide⟩, ?_⟩ | (apply Exists.intro; refine ⟨?_, ?_⟩; ((try simp only); (try simp only [Nat.zero_add]); (try simp only [Nat.mul_one]); (try simp only [Int.toNat_natCast]); exact at_drop_g (by omega))) | (apply Exists.intro; refine ⟨?_, ?_⟩; ((try simp only); (try simp only [Nat.zero_add]); (try simp only [Nat.mul_one]); (try simp only [Int.toNat_natCast]); exact cut_rest (by omega)))); conv => whnf))
  rfl
end Go.Proofs.Ytkennahakodfnaa
