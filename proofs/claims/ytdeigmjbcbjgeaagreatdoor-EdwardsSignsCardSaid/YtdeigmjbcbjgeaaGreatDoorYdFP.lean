/-
  Layer 8: roots and inverses modulo the prime.
-/
import Derived.Test.YtdeigmjbcbjgeaaGreatDoorYdFA
import Derived.Test.YtdeigmjbcbjgeaaGreatDoorYdFN
import Derived.Test.YtdeigmjbcbjgeaaGreatDoorYdGM
import Derived.Test.YtdeigmjbcbjgeaaGreatDoorYdEB
namespace Go.Proofs.YtdeigmjbcbjgeaaGreatDoor
open Go.RowKit

theorem prP : Pr pP := pr_57896044618658097711785492504343953926634992332820282019728792003956564819949
theorem pP_two : 2 ≤ pP := prP.1
theorem pwk_pmk (x e : Nat) : ∀ k, pwk x e k = pmk x e pP k
  | 0 => rfl
  | k + 1 => by rw [pwk, pmk, pwk_pmk x e k]
theorem pw_val (x e : Nat) (he : e < 2 ^ 256) : pw x e = x ^ e % pP := by
  rw [pw, pwk_pmk]
  exact pm_eq x e pP pP_two he
def eH : Nat := 28948022309329048855892746252171976963317496166410141009864396001978282409974
theorem e_H : pP - 1 = 2 * eH ∧ eH = 2 * e2P ∧ 2 * e1P = e2P + 1 ∧ e3P + 1 = pP - 1 := by
  unfold pP eH e1P e2P e3P
  omega
theorem eH_lt : eH < 2 ^ 256 := by unfold eH; omega
/-- 2 is no square. -/
theorem two_H : 2 ^ eH % pP = pP - 1 := by
  rw [← pm_eq 2 eH pP pP_two eH_lt]
  kernel_rfl
theorem mod_ne {a : Nat} (h : a % pP ≠ 0) : ¬ pP ∣ a := fun hd => h (Nat.mod_eq_zero_of_dvd hd)
/-! inverses -/
theorem inv_one (a : Nat) (h : a % pP ≠ 0) : a * pw a e3P % pP = 1 := by
  rw [pw_val a e3P e3P_lt, Nat.mul_mod_mod, ← Nat.pow_succ']
  show a ^ (e3P + 1) % pP = 1
  rw [e_H.2.2.2]
  exact fermat1 prP (mod_ne h)
theorem inv_zero (a : Nat) (h : a % pP = 0) : a * pw a e3P % pP = 0 := by
  rw [Nat.mul_mod, h, Nat.zero_mul, Nat.zero_mod]
/-! squares -/
theorem sq_one {t : Nat} (h : t * t % pP = 1) : t % pP = 1 ∨ t % pP = pP - 1 := by
  have h2 := pP_two
  have ht : t ≠ 0 := fun e => by rw [e] at h; simp at h
  have h1 : t * t % pP = 1 % pP := by rw [h, Nat.mod_eq_of_lt (by omega)]
  have hd := dvd_of_mod_eq h1 (Nat.mul_pos (Nat.pos_of_ne_zero ht) (Nat.pos_of_ne_zero ht))
  have e : t * t - 1 = (t - 1) * (t + 1) := by
    obtain ⟨k, rfl⟩ : ∃ k, t = k + 1 := ⟨t - 1, by omega⟩
    have h1 : (k + 1) * (k + 1) = k * (k + 1) + (k + 1) := Nat.succ_mul _ _
    have h2 : k * (k + 1 + 1) = k * (k + 1) + k := Nat.mul_succ _ _
    rw [Nat.add_sub_cancel]
    omega
  rw [e] at hd
  rcases prP.euclid hd with h | h
  · left
    rw [mod_of_dvd h (by omega)]
    exact Nat.mod_eq_of_lt (by omega)
  · right
    obtain ⟨c, hc⟩ := h
    have hc0 : c ≠ 0 := fun e => by rw [e] at hc; omega
    obtain ⟨d, rfl⟩ : ∃ d, c = d + 1 := ⟨c - 1, by omega⟩
    rw [show t = (pP - 1) + pP * d by rw [Nat.mul_add] at hc; omega, Nat.add_mul_mod_self_left]
    exact Nat.mod_eq_of_lt (by omega)
theorem neg_neg (x : Nat) : x * (pP - 1) * (pP - 1) % pP = x % pP := by
  have h2 := pP_two
  have e : (pP - 1) * (pP - 1) % pP = 1 % pP := by
    have : (pP - 1) * (pP - 1) = 1 + pP * (pP - 2) := by
      obtain ⟨k, hk⟩ : ∃ k, pP = k + 2 := ⟨pP - 2, by omega⟩
      have h1 : (k + 1) * (k + 1) = k * (k + 1) + (k + 1) := Nat.succ_mul _ _
      have h3 : k * (k + 1) = k * k + k := Nat.mul_succ _ _
      have h4 : (k + 2) * k = k * k + 2 * k := Nat.add_mul _ _ _
      rw [hk, show k + 2 - 1 = k + 1 by omega, show k + 2 - 2 = k by omega]
      omega
    rw [this, Nat.add_mul_mod_self_left]
  rw [Nat.mul_assoc, Nat.mul_mod, e, ← Nat.mul_mod, Nat.mul_one]
/-- The square of the first candidate. -/
theorem cand_sq (y : Nat) : pw y e1P * pw y e1P % pP = y * (y ^ e2P % pP) % pP := by
  rw [pw_val y e1P e1P_lt, ← Nat.mul_mod, ← Nat.pow_add, show e1P + e1P = e2P + 1 by have := e_H.2.2.1; omega, Nat.pow_succ', Nat.mul_mod_mod]
theorem two_sq : pw 2 e2P * pw 2 e2P % pP = pP - 1 := by
  rw [pw_val 2 e2P e2P_lt, ← Nat.mul_mod, ← Nat.pow_add, show e2P + e2P = eH by have := e_H.2.1; omega, two_H]
theorem half_sq (y : Nat) : y ^ e2P % pP * (y ^ e2P % pP) % pP = y ^ eH % pP := by
  rw [← Nat.mul_mod, ← Nat.pow_add, show e2P + e2P = eH by have := e_H.2.1; omega]
/-- Where there is a root. -/
theorem root_ok {y : Nat} (hy : y < pP) (h : y = 0 ∨ y ^ eH % pP = 1) : (rootP y).2 = true ∧ (rootP y).1 * (rootP y).1 % pP = y ∧ (rootP y).1 < pP := by
  have h2 := pP_two
  have hlt : pw y e1P < pP := by rw [pw_val y e1P e1P_lt]; exact Nat.mod_lt _ prP.pos
  by_cases hc : pw y e1P * pw y e1P % pP = y
  · rw [rootP, if_pos hc]
    exact ⟨rfl, hc, hlt⟩
  · rw [rootP, if_neg hc]
    have hr : pw y e1P * pw 2 e2P % pP * (pw y e1P * pw 2 e2P % pP) % pP = y := by
      rcases h with h | h
      · exfalso
        apply hc
        rw [cand_sq, h, Nat.zero_mul, Nat.zero_mod]
      · have ht := half_sq y
        rw [h] at ht
        rcases sq_one ht with ht | ht
        · exfalso
          apply hc
          rw [cand_sq, ← Nat.mod_mod (y ^ e2P), ht, Nat.mul_one, Nat.mod_eq_of_lt hy]
        · rw [Nat.mod_mod] at ht
          have e1 := cand_sq y
          rw [ht] at e1
          rw [← Nat.mul_mod, Nat.mul_mul_mul_comm, Nat.mul_mod, e1, two_sq, Nat.mod_mul_mod, neg_neg, Nat.mod_eq_of_lt hy]
    have hl := Nat.mod_lt (pw y e1P * pw 2 e2P) prP.pos
    generalize pw y e1P * pw 2 e2P % pP = r at *
    refine ⟨?_, hr, hl⟩
    show decide (r * r % pP = y) = true
    exact decide_eq_true hr
theorem neg_sq {r : Nat} (h : r < pP) : (pP - r) * (pP - r) % pP = r * r % pP := by
  obtain ⟨s, hs⟩ : ∃ s, pP = r + s := ⟨pP - r, by omega⟩
  rw [show pP - r = s by omega]
  have e : s * s + pP * r = r * r + pP * s := by
    rw [hs, Nat.add_mul, Nat.add_mul, Nat.mul_comm s r]
    omega
  rw [← Nat.add_mul_mod_self_left (s * s) pP r, e, Nat.add_mul_mod_self_left]
end Go.Proofs.YtdeigmjbcbjgeaaGreatDoor
/-
  Layer 9: numbers as elements of the field; two parties agree.
-/
namespace Go.Proofs.YtdeigmjbcbjgeaaGreatDoor
open Go.RowKit

def tF (n : Nat) : FF := ⟨n % pP, Nat.mod_lt _ pP_pos⟩
theorem tF_mod (n : Nat) : tF (n % pP) = tF n := Fin.ext (Nat.mod_mod _ _)
theorem tF_add (a b : Nat) : tF (a + b) = tF a + tF b := Fin.ext (by
  rw [Fin.val_add]
  exact Nat.add_mod a b pP)
theorem tF_mul (a b : Nat) : tF (a * b) = tF a * tF b := Fin.ext (by
  rw [Fin.val_mul]
  exact Nat.mul_mod a b pP)
theorem tF_pP : tF pP = 0 := Fin.ext (Nat.mod_self _)
theorem tF_sub {a : Nat} (h : a ≤ pP) : tF (pP - a) = - tF a := by
  have h1 : tF (pP - a) + tF a = 0 := by rw [← tF_add, Nat.sub_add_cancel h, tF_pP]
  generalize tF (pP - a) = x at *
  generalize tF a = y at *
  grind -lia -linarith (splits := 0)
theorem tF_nA (a b : Nat) : tF (nA a b) = tF a + tF b := by rw [nA, tF_mod, tF_add]
theorem tF_nM (a b : Nat) : tF (nM a b) = tF a * tF b := by rw [nM, tF_mod, tF_mul]
theorem tF_nS (a b : Nat) : tF (nS a b) = tF a - tF b := by
  rw [nS, tF_mod, tF_add, tF_sub (Nat.le_of_lt (Nat.mod_lt _ pP_pos)), tF_mod]
  generalize tF a = x
  generalize tF b = y
  grind -lia -linarith (splits := 0)
theorem tF_inj {a b : Nat} (ha : a < pP) (hb : b < pP) (h : tF a = tF b) : a = b := by
  have := congrArg Fin.val h
  have e : a % pP = b % pP := this
  rwa [Nat.mod_eq_of_lt ha, Nat.mod_eq_of_lt hb] at e
theorem tF_inv (a : Nat) : tF (pw a e3P) = ffi (tF a) ∨ tF a = 0 := by
  by_cases h : a % pP = 0
  · exact .inr (Fin.ext h)
  · refine .inl (ffi_uniq ?_).symm
    rw [← tF_mul]
    refine Fin.ext ?_
    show a * pw a e3P % pP = 1
    exact inv_one a h
theorem tF_div (x a : Nat) : tF (nM x (pw a e3P)) = tF x * ffi (tF a) := by
  rw [tF_nM]
  rcases tF_inv a with h | h
  · rw [h]
  · rw [h, ffi_zero]
    have ha : a % pP = 0 := congrArg Fin.val h
    have h0 : pw a e3P % pP = 0 := by
      have h1 := inv_zero a ha
      rw [pw_val a e3P e3P_lt, Nat.mod_mod, Nat.pow_mod, ha]
      have : 0 < e3P := by unfold e3P; omega
      rw [Nat.zero_pow this, Nat.zero_mod]
    rw [show tF (pw a e3P) = 0 from Fin.ext h0]
/-! the ladder -/
end Go.Proofs.YtdeigmjbcbjgeaaGreatDoor
/-
  Layer 10: numbers as points; encodings.
-/
namespace Go.Proofs.YtdeigmjbcbjgeaaGreatDoor
open Go.RowKit
set_option maxRecDepth 100000

def toE (p : Pn) : Exq := ⟨tF p.x, tF p.y, tF p.z, tF p.t⟩
def kD : FF := tF dN + tF dN
theorem kD_c : kD * cE = 2 := by unfold kD cE; decide
theorem dN_c : tF dN * cE = 1 := by unfold cE; decide
theorem toE_sum (p q : Pn) : toE (sumN dN p q) = Exq.add kD (toE p) (toE q) := by
  simp only [toE, sumN, Exq.add, tF_nM, tF_nA, tF_nS, kD]
theorem toE_neu : toE neuN = Exq.zero := by
  show Exq.mk (tF 0) (tF 1) (tF 1) (tF 0) = Exq.mk 0 1 1 0
  rw [show tF 0 = 0 by decide, show tF 1 = 1 by decide]
theorem toE_tim (k : Nat) (p : Pn) : ∀ j, toE (timN dN k p j) = Exq.mulk kD k (toE p) j
  | 0 => toE_neu
  | j + 1 => by
    rw [timN, Exq.mulk]
    split
    · rw [toE_sum, toE_sum, toE_tim k p j]
    · rw [toE_sum, toE_tim k p j]
theorem For_tim {k : Nat} {p : Pn} {P : Pt} (hk : k < 2 ^ 256) (hp : (toE p).For P) : (toE (timN dN k p 256)).For (Pt.mul k P) := by
  rw [toE_tim]
  exact Exq.mulk_all kD_c hk hp
/-- The encoding of a point. -/
def encP (P : Pt) : Nat := P.y.val + P.x.val % 2 * 2 ^ 255
theorem val_lt (x : FF) : x.val < pP := x.isLt
theorem tF_val (x : FF) : tF x.val = x := Fin.ext (Nat.mod_eq_of_lt x.isLt)
theorem of_tF {a : Nat} {x : FF} (ha : a < pP) (h : tF a = x) : a = x.val := tF_inj ha (val_lt x) (by rw [tF_val]; exact h)
theorem wr_enc {p : Pn} {P : Pt} (h : (toE p).For P) : wrN p = encP P := by
  obtain ⟨h1, h2, h3, _⟩ := h
  have h1 : tF p.z ≠ 0 := h1
  have h2 : tF p.x = P.x * tF p.z := h2
  have h3 : tF p.y = P.y * tF p.z := h3
  have hi := ffi_mul h1
  have ex : nM p.x (pw p.z e3R) = P.x.val := of_tF (nM_lp _ _) (by
    rw [e3_same, tF_div, h2]
    generalize ffi (tF p.z) = z at *
    generalize tF p.z = w at *
    clear h1 h2 h3
    grind -lia -linarith (splits := 0))
  have ey : nM p.y (pw p.z e3R) = P.y.val := of_tF (nM_lp _ _) (by
    rw [e3_same, tF_div, h3]
    generalize ffi (tF p.z) = z at *
    generalize tF p.z = w at *
    clear h1 h2 h3
    grind -lia -linarith (splits := 0))
  unfold wrN encP
  rw [ex, ey]
theorem yc_ne (y : FF) : y * y + cE ≠ 0 := by
  intro h
  refine cE_nsq (iE * y) ?_
  have hi := iE_sq
  generalize iE = i at *
  generalize cE = c at *
  grind -lia -linarith (splits := 0)
theorem pP_odd : pP % 2 = 1 := by decide
theorem neg_val (x : FF) (h : x ≠ 0) : (-x).val = pP - x.val := by
  have hx : x.val ≠ 0 := fun e => h (Fin.ext e)
  have hlt := val_lt x
  refine (of_tF (a := pP - x.val) (x := -x) (by omega) ?_).symm
  rw [tF_sub (Nat.le_of_lt hlt), tF_val]
theorem encP_inj {P Q : Pt} (h : encP P = encP Q) : P = Q := by
  have h2 : pP < 2 ^ 255 := by decide
  have y1 := val_lt P.y
  have y2 := val_lt Q.y
  unfold encP at h
  have hy : P.y.val = Q.y.val := by omega
  have hx : P.x.val % 2 = Q.x.val % 2 := by omega
  have ey : P.y = Q.y := Fin.ext hy
  have o1 := P.on
  have o2 := Q.on
  unfold On at o1 o2
  rw [ey] at o1
  have hs : (P.x - Q.x) * (P.x + Q.x) = 0 := by
    refine ff_cancel (yc_ne Q.y) ?_
    clear h hx hy y1 y2 h2 ey
    generalize cE = c at *
    grind -lia -linarith (splits := 0)
  rcases ff_zero hs with e | e
  · exact Pt.ext (by clear o1 o2 hs hx h; grind -lia -linarith (splits := 0)) ey
  · have e1 : P.x = -Q.x := by clear o1 o2 hs hx h; grind -lia -linarith (splits := 0)
    by_cases hq : Q.x = 0
    · refine Pt.ext ?_ ey
      rw [e1, hq]
      decide
    · exfalso
      have hl := val_lt Q.x
      have hq0 : Q.x.val ≠ 0 := fun e => hq (Fin.ext e)
      rw [e1, neg_val _ hq] at hx
      have := pP_odd
      omega
/-! roots -/
theorem e1_same : e1R = e1P := by kernel_rfl
theorem e2_same : e2R = e2P := by kernel_rfl
theorem rootR_two (v : Nat) : (rootR v).2 = (rootP v).2 := by
  unfold rootR rootP candR
  rw [e1_same, e2_same]
  by_cases h : pw v e1P * pw v e1P % pP = v
  · rw [if_pos h, if_pos h, if_pos h]
  · rw [if_neg h, if_neg h]
    by_cases h2 : pw v e1P * pw 2 e2P % pP * (pw v e1P * pw 2 e2P % pP) % pP = v
    · rw [if_pos h2, decide_eq_true h2]
    · rw [if_neg h2, decide_eq_false h2]
theorem rootR_sq {v : Nat} (_ : v < pP) (h : (rootR v).2 = true) : (rootR v).1 * (rootR v).1 % pP = v ∧ (rootR v).1 % 2 = 0 := by
  unfold rootR at h ⊢
  split at h
  · rename_i hs
    rw [if_pos hs]
    have hc := candR_lt v
    have hp := pP_odd
    simp only
    split
    · rename_i ho
      have hm : minR 0 (candR v) = pP - candR v := by unfold minR; rw [if_pos (by omega)]; omega
      rw [hm, neg_sq hc]
      exact ⟨hs, by omega⟩
    · exact ⟨hs, by omega⟩
  · cases h
theorem rootR_of {v : Nat} (hv : v < pP) {x : FF} (hx : x * x = tF v) : (rootR v).2 = true := by
  rw [rootR_two]
  refine (root_ok hv ?_).1
  by_cases h0 : x = 0
  · left
    have : tF v = tF 0 := by rw [← hx, h0]; decide
    exact tF_inj hv pP_pos this
  · right
    have h1 := congrArg Fin.val hx
    rw [Fin.val_mul] at h1
    have e : x.val * x.val % pP = v := by
      have : (tF v).val = v := Nat.mod_eq_of_lt hv
      rw [this] at h1
      exact h1
    rw [← e, ← Nat.pow_mod, ← Nat.pow_two, ← Nat.pow_mul, ← e_H.1]
    exact fermat1 prP (ff_dvd h0)
/-! what is read -/
theorem rd_v (n : Nat) : tF (nM (nS (nM (n % 2 ^ 255) (n % 2 ^ 255)) 1) (pw (nA (nM dN (nM (n % 2 ^ 255) (n % 2 ^ 255))) 1) e3R)) = (tF (n % 2 ^ 255) * tF (n % 2 ^ 255) - 1) * ffi (tF dN * (tF (n % 2 ^ 255) * tF (n % 2 ^ 255)) + 1) := by
  rw [e3_same, tF_div, tF_nS, tF_nA, tF_nM, tF_nM, tF_nM, show tF 1 = 1 by decide]
theorem dy_ne (y : FF) : tF dN * (y * y) + 1 ≠ 0 := by
  intro h
  refine yc_ne y ?_
  have hc := dN_c
  generalize tF dN = d at *
  generalize cE = c at *
  grind -lia -linarith (splits := 0)
theorem on_iff (x y : FF) : On x y ↔ x * x = (y * y - 1) * ffi (tF dN * (y * y) + 1) := by
  rw [ffi_div (dy_ne y)]
  have hc := dN_c
  unfold On
  generalize tF dN = d at *
  constructor
  · intro h
    refine ff_cancel cE_ne ?_
    generalize cE = c at *
    grind -lia -linarith (splits := 0)
  · intro h
    refine ff_cancel (k := d) (fun e => ?_) ?_
    · rw [e] at hc
      have : (1 : FF) = 0 := by clear h; grind -lia -linarith (splits := 0)
      exact absurd this (by decide)
    · generalize cE = c at *
      grind -lia -linarith (splits := 0)
theorem rd_enc {n : Nat} (hn : n < 2 ^ 256) (h : rdOk n = true) : ∃ P, (toE (rdP n)).For P ∧ encP P = n := by
  have h' := h
  simp only [rdOk, Bool.and_eq_true, decide_eq_true_eq, Bool.not_eq_true'] at h
  obtain ⟨⟨hy, hr⟩, hz⟩ := h
  have hvl : nM (nS (nM (n % 2 ^ 255) (n % 2 ^ 255)) 1) (pw (nA (nM dN (nM (n % 2 ^ 255) (n % 2 ^ 255))) 1) e3R) < pP := nM_lp _ _
  obtain ⟨hsq, hev⟩ := rootR_sq hvl hr
  have hx0 : (rdX n).1 < pP := rootR_lp _
  have hsq' : tF (rdX n).1 * tF (rdX n).1 = (tF (n % 2 ^ 255) * tF (n % 2 ^ 255) - 1) * ffi (tF dN * (tF (n % 2 ^ 255) * tF (n % 2 ^ 255)) + 1) := by
    rw [← rd_v, ← tF_mul, ← tF_mod ((rdX n).1 * (rdX n).1)]
    exact congrArg tF hsq
  have hS : rdS n = if n / 2 ^ 255 = 1 then nS 0 (rdX n).1 else (rdX n).1 := rfl
  have hev : (rdX n).1 % 2 = 0 := hev
  generalize (rdX n).1 = x0 at *
  have hxS : tF (rdS n) * tF (rdS n) = tF x0 * tF x0 := by
    rw [hS]
    split
    · rw [tF_nS, show tF 0 = 0 by decide]
      generalize tF x0 = x
      grind -lia -linarith (splits := 0)
    · rfl
  have hon : On (tF (rdS n)) (tF (n % 2 ^ 255)) := by rw [on_iff, hxS]; exact hsq'
  refine ⟨⟨tF (rdS n), tF (n % 2 ^ 255), hon⟩, ?_, ?_⟩
  · rw [rdP, if_pos h']
    refine ⟨?_, ?_, ?_, ?_⟩
    · show tF 1 ≠ 0
      decide
    · show tF (rdS n) = tF (rdS n) * tF 1
      rw [show tF 1 = 1 by decide]
      generalize tF (rdS n) = x
      grind -lia -linarith (splits := 0)
    · show tF (n % 2 ^ 255) = tF (n % 2 ^ 255) * tF 1
      rw [show tF 1 = 1 by decide]
      generalize tF (n % 2 ^ 255) = x
      grind -lia -linarith (splits := 0)
    · show tF (nM (rdS n) (n % 2 ^ 255)) * tF 1 = tF (rdS n) * tF (n % 2 ^ 255)
      rw [show tF 1 = 1 by decide, tF_nM]
      generalize tF (rdS n) = x
      generalize tF (n % 2 ^ 255) = y
      grind -lia -linarith (splits := 0)
  · show (n % 2 ^ 255 % pP) + (rdS n % pP) % 2 * 2 ^ 255 = n
    rw [Nat.mod_eq_of_lt hy, Nat.mod_eq_of_lt (rdS_lp n)]
    have hp := pP_odd
    have hs2 : n / 2 ^ 255 = 0 ∨ n / 2 ^ 255 = 1 := by omega
    rcases hs2 with hs | hs
    · rw [hS, if_neg (by omega), hev]
      omega
    · rw [hs] at hz
      have hx : x0 ≠ 0 := by simpa using hz
      rw [hS, if_pos hs]
      have : nS 0 x0 = pP - x0 := by
        unfold nS
        rw [Nat.mod_eq_of_lt hx0, Nat.zero_add, Nat.mod_eq_of_lt (by omega)]
      rw [this, show (pP - x0) % 2 = 1 by omega]
      omega
theorem rd_of (P : Pt) : rdOk (encP P) = true := by
  have h2 : pP < 2 ^ 255 := by decide
  have y1 := val_lt P.y
  have em : encP P % 2 ^ 255 = P.y.val := by unfold encP; omega
  have ed : encP P / 2 ^ 255 = P.x.val % 2 := by unfold encP; omega
  have ho := (on_iff P.x P.y).1 P.on
  have hy : tF (encP P % 2 ^ 255) = P.y := by rw [em, tF_val]
  have hvl : nM (nS (nM (encP P % 2 ^ 255) (encP P % 2 ^ 255)) 1) (pw (nA (nM dN (nM (encP P % 2 ^ 255) (encP P % 2 ^ 255))) 1) e3R) < pP := nM_lp _ _
  have hv := rd_v (encP P)
  rw [hy, ← ho] at hv
  have hr : (rdX (encP P)).2 = true := rootR_of hvl hv.symm
  have hsq := (rootR_sq hvl hr).1
  have hsq' : tF (rdX (encP P)).1 * tF (rdX (encP P)).1 = P.x * P.x := by
    rw [← hv, ← tF_mul, ← tF_mod ((rdX (encP P)).1 * (rdX (encP P)).1)]
    exact congrArg tF hsq
  unfold rdOk
  rw [em, decide_eq_true y1, hr, ed]
  simp only [Bool.and_self, Bool.true_and, Bool.not_eq_true', Bool.and_eq_false_iff, decide_eq_false_iff_not]
  by_cases hx : P.x = 0
  · right
    rw [hx]
    decide
  · left
    intro e
    rw [e] at hsq'
    have : P.x * P.x = 0 := by rw [← hsq']; decide
    exact ff_mul_ne hx hx this
/-- What is read is the point of which it is the encoding. -/
theorem rd_For (P : Pt) : (toE (rdP (encP P))).For P := by
  have hlt : encP P < 2 ^ 256 := by
    have h2 : pP < 2 ^ 255 := by decide
    have y1 := val_lt P.y
    unfold encP
    omega
  obtain ⟨Q, h1, h2⟩ := rd_enc hlt (rd_of P)
  rw [encP_inj h2] at h1
  exact h1
end Go.Proofs.YtdeigmjbcbjgeaaGreatDoor
/-
  Layer 10: the program's sums, doubles and multiples, as points.
-/
namespace Go.Proofs.YtdeigmjbcbjgeaaGreatDoor
open Go.RowKit
set_option maxRecDepth 100000

/-- (e / f, h / g). -/
def ratN (e f g h : Nat) : Pn := ⟨nM e g, nM h f, nM f g, nM e h⟩
theorem ratN_lt (e f g h : Nat) : (ratN e f g h).lt := ⟨nM_lp _ _, nM_lp _ _, nM_lp _ _, nM_lp _ _⟩
def paddN (p q : Pn) : Pn := ratN (nS (nS (nM (nA p.x p.y) (nA q.x q.y)) (nM p.x q.x)) (nM p.y q.y)) (nA (nM p.z q.z) (nM dN (nM p.t q.t))) (nS (nM p.z q.z) (nM dN (nM p.t q.t))) (nA (nM p.y q.y) (nM p.x q.x))
def pdblN (p : Pn) : Pn := ratN (nS (nM (nA p.x p.y) (nA p.x p.y)) (nA (nM p.x p.x) (nM p.y p.y))) (nS (nM p.y p.y) (nM p.x p.x)) (nS (nA (nM p.z p.z) (nM p.z p.z)) (nS (nM p.y p.y) (nM p.x p.x))) (nA (nM p.x p.x) (nM p.y p.y))
def pmulN (k : Nat) (p : Pn) : Nat → Pn
  | 0 => neuN
  | j + 1 => if k.testBit (255 - j) then paddN (pdblN (pmulN k p j)) p else pdblN (pmulN k p j)
theorem paddN_lt (p q : Pn) : (paddN p q).lt := ratN_lt _ _ _ _
theorem pdblN_lt (p : Pn) : (pdblN p).lt := ratN_lt _ _ _ _
theorem pmulN_lt (k : Nat) (p : Pn) : ∀ j, (pmulN k p j).lt
  | 0 => neuN_lt
  | j + 1 => by
    rw [pmulN]
    split
    · exact paddN_lt _ _
    · exact pdblN_lt _
/-- Whether 8 times the point is neutral. -/
def psmN (p : Pn) : Bool := decide ((pdblN (pdblN (pdblN p))).x = 0) && decide ((pdblN (pdblN (pdblN p))).y = (pdblN (pdblN (pdblN p))).z)
theorem For_rat {e f g h : Nat} {R : Pt} (hf : tF f ≠ 0) (hg : tF g ≠ 0) (he : tF e = R.x * tF f) (hh : tF h = R.y * tF g) : (toE (ratN e f g h)).For R := by
  refine ⟨?_, ?_, ?_, ?_⟩
  · show tF (nM f g) ≠ 0
    rw [tF_nM]
    exact ff_mul_ne hf hg
  · show tF (nM e g) = R.x * tF (nM f g)
    rw [tF_nM, tF_nM, he]
    clear hf hg he hh
    grind -lia -linarith (splits := 0)
  · show tF (nM h f) = R.y * tF (nM f g)
    rw [tF_nM, tF_nM, hh]
    clear hf hg he hh
    grind -lia -linarith (splits := 0)
  · show tF (nM e h) * tF (nM f g) = tF (nM e g) * tF (nM h f)
    rw [tF_nM, tF_nM, tF_nM, tF_nM]
    clear hf hg he hh
    grind -lia -linarith (splits := 0)
theorem padd_gen {c d z w X Y X' Y' a b : FF} (hd : d * c = 1) (hc : c ≠ 0) (hz : z ≠ 0) (hw : w ≠ 0) (k1 : c + X * X' * Y * Y' ≠ 0) (k2 : c - X * X' * Y * Y' ≠ 0) (ha : a * (c + X * X' * Y * Y') = c * (X * Y' + X' * Y)) (hb : b * (c - X * X' * Y * Y') = c * (Y * Y' + X * X')) :
    z * w + d * (X * Y * z * (X' * Y' * w)) ≠ 0 ∧ z * w - d * (X * Y * z * (X' * Y' * w)) ≠ 0 ∧ (X * z + Y * z) * (X' * w + Y' * w) - X * z * (X' * w) - Y * z * (Y' * w) = a * (z * w + d * (X * Y * z * (X' * Y' * w))) ∧ Y * z * (Y' * w) + X * z * (X' * w) = b * (z * w - d * (X * Y * z * (X' * Y' * w))) := by
  have e1 : c * (z * w + d * (X * Y * z * (X' * Y' * w))) = z * w * (c + X * X' * Y * Y') := by
    clear ha hb k1 k2 hz hw hc
    grind -lia -linarith (splits := 0)
  have e2 : c * (z * w - d * (X * Y * z * (X' * Y' * w))) = z * w * (c - X * X' * Y * Y') := by
    clear ha hb k1 k2 hz hw hc
    grind -lia -linarith (splits := 0)
  have zw := ff_mul_ne hz hw
  generalize z * w + d * (X * Y * z * (X' * Y' * w)) = f at *
  generalize z * w - d * (X * Y * z * (X' * Y' * w)) = g at *
  have zero : c * (0 : FF) = 0 := by clear ha hb e1 e2; grind -lia -linarith (splits := 0)
  refine ⟨fun h => ?_, fun h => ?_, ff_cancel hc ?_, ff_cancel hc ?_⟩
  · rw [h, zero] at e1
    exact ff_mul_ne zw k1 e1.symm
  · rw [h, zero] at e2
    exact ff_mul_ne zw k2 e2.symm
  · have e3 : c * (a * f) = z * w * (a * (c + X * X' * Y * Y')) := by
      clear ha hb e2
      grind -lia -linarith (splits := 0)
    rw [e3, ha]
    clear ha hb e1 e2 e3
    grind -lia -linarith (splits := 0)
  · have e3 : c * (b * g) = z * w * (b * (c - X * X' * Y * Y')) := by
      clear ha hb e1
      grind -lia -linarith (splits := 0)
    rw [e3, hb]
    clear ha hb e1 e2 e3
    grind -lia -linarith (splits := 0)
theorem t_of {z x y t X Y : FF} (hz : z ≠ 0) (hx : x = X * z) (hy : y = Y * z) (ht : t * z = x * y) : t = X * Y * z := by
  refine ff_cancel hz ?_
  subst hx hy
  grind -lia -linarith (splits := 0)
theorem For_padd {p q : Pn} {P Q : Pt} (hp : (toE p).For P) (hq : (toE q).For Q) : (toE (paddN p q)).For (P.add Q) := by
  obtain ⟨z1, x1, y1, t1⟩ := hp
  obtain ⟨z2, x2, y2, t2⟩ := hq
  have u1 := t_of z1 x1 y1 t1
  have u2 := t_of z2 x2 y2 t2
  have z1 : tF p.z ≠ 0 := z1
  have z2 : tF q.z ≠ 0 := z2
  have x1 : tF p.x = P.x * tF p.z := x1
  have x2 : tF q.x = Q.x * tF q.z := x2
  have y1 : tF p.y = P.y * tF p.z := y1
  have y2 : tF q.y = Q.y * tF q.z := y2
  have u1 : tF p.t = P.x * P.y * tF p.z := u1
  have u2 : tF q.t = Q.x * Q.y * tF q.z := u2
  obtain ⟨h1, h2, h3, h4⟩ := padd_gen dN_c cE_ne z1 z2 (den_ne P.on Q.on).1 (den_ne P.on Q.on).2 (add_x P Q) (add_y P Q)
  have ef : tF (nA (nM p.z q.z) (nM dN (nM p.t q.t))) = tF p.z * tF q.z + tF dN * (P.x * P.y * tF p.z * (Q.x * Q.y * tF q.z)) := by rw [tF_nA, tF_nM, tF_nM, tF_nM, u1, u2]
  have eg : tF (nS (nM p.z q.z) (nM dN (nM p.t q.t))) = tF p.z * tF q.z - tF dN * (P.x * P.y * tF p.z * (Q.x * Q.y * tF q.z)) := by rw [tF_nS, tF_nM, tF_nM, tF_nM, u1, u2]
  rw [← ef] at h1 h3
  rw [← eg] at h2 h4
  refine For_rat h1 h2 ?_ ?_
  · rw [← h3, tF_nS, tF_nS, tF_nM, tF_nM, tF_nM, tF_nA, tF_nA, x1, x2, y1, y2]
  · rw [← h4, tF_nA, tF_nM, tF_nM, x1, x2, y1, y2]
theorem pdbl_gen {c z X Y a b : FF} (hc : c ≠ 0) (hz : z ≠ 0) (on : X * X * Y * Y = c * (Y * Y - X * X - 1)) (k1 : c + X * X * Y * Y ≠ 0) (k2 : c - X * X * Y * Y ≠ 0) (ha : a * (c + X * X * Y * Y) = c * (X * Y + X * Y)) (hb : b * (c - X * X * Y * Y) = c * (Y * Y + X * X)) :
    Y * z * (Y * z) - X * z * (X * z) ≠ 0 ∧ z * z + z * z - (Y * z * (Y * z) - X * z * (X * z)) ≠ 0 ∧ (X * z + Y * z) * (X * z + Y * z) - (X * z * (X * z) + Y * z * (Y * z)) = a * (Y * z * (Y * z) - X * z * (X * z)) ∧ X * z * (X * z) + Y * z * (Y * z) = b * (z * z + z * z - (Y * z * (Y * z) - X * z * (X * z))) := by
  have e1 : c * (Y * z * (Y * z) - X * z * (X * z)) = z * z * (c + X * X * Y * Y) := by
    clear ha hb k1 k2 hz hc
    grind -lia -linarith (splits := 0)
  have e2 : c * (z * z + z * z - (Y * z * (Y * z) - X * z * (X * z))) = z * z * (c - X * X * Y * Y) := by
    clear ha hb k1 k2 hz hc e1
    grind -lia -linarith (splits := 0)
  have zz := ff_mul_ne hz hz
  generalize z * z + z * z - (Y * z * (Y * z) - X * z * (X * z)) = g at *
  generalize Y * z * (Y * z) - X * z * (X * z) = f at *
  have zero : c * (0 : FF) = 0 := by clear ha hb e1 e2 on; grind -lia -linarith (splits := 0)
  refine ⟨fun h => ?_, fun h => ?_, ff_cancel hc ?_, ff_cancel hc ?_⟩
  · rw [h, zero] at e1
    exact ff_mul_ne zz k1 e1.symm
  · rw [h, zero] at e2
    exact ff_mul_ne zz k2 e2.symm
  · have e3 : c * (a * f) = z * z * (a * (c + X * X * Y * Y)) := by
      clear ha hb e2 on
      grind -lia -linarith (splits := 0)
    rw [e3, ha]
    clear ha hb e1 e2 e3 on
    grind -lia -linarith (splits := 0)
  · have e3 : c * (b * g) = z * z * (b * (c - X * X * Y * Y)) := by
      clear ha hb e1 on
      grind -lia -linarith (splits := 0)
    rw [e3, hb]
    clear ha hb e1 e2 e3 on
    grind -lia -linarith (splits := 0)
theorem For_pdbl {p : Pn} {P : Pt} (hp : (toE p).For P) : (toE (pdblN p)).For (P.add P) := by
  obtain ⟨z1, x1, y1, _⟩ := hp
  have z1 : tF p.z ≠ 0 := z1
  have x1 : tF p.x = P.x * tF p.z := x1
  have y1 : tF p.y = P.y * tF p.z := y1
  obtain ⟨h1, h2, h3, h4⟩ := pdbl_gen cE_ne z1 P.on (den_ne P.on P.on).1 (den_ne P.on P.on).2 (add_x P P) (add_y P P)
  have ef : tF (nS (nM p.y p.y) (nM p.x p.x)) = P.y * tF p.z * (P.y * tF p.z) - P.x * tF p.z * (P.x * tF p.z) := by rw [tF_nS, tF_nM, tF_nM, x1, y1]
  have eg : tF (nS (nA (nM p.z p.z) (nM p.z p.z)) (nS (nM p.y p.y) (nM p.x p.x))) = tF p.z * tF p.z + tF p.z * tF p.z - (P.y * tF p.z * (P.y * tF p.z) - P.x * tF p.z * (P.x * tF p.z)) := by rw [tF_nS, ef, tF_nA, tF_nM]
  rw [← eg] at h2 h4
  rw [← ef] at h1 h3
  refine For_rat h1 h2 ?_ ?_
  · rw [← h3, tF_nS, tF_nA, tF_nM, tF_nM, tF_nM, tF_nA, x1, y1]
  · rw [← h4, tF_nA, tF_nM, tF_nM, x1, y1]
theorem For_pmul_at {k : Nat} {p : Pn} {P : Pt} (hk : k < 2 ^ 256) (hp : (toE p).For P) : ∀ j, j ≤ 256 → (toE (pmulN k p j)).For (Pt.mul (k / 2 ^ (256 - j)) P) := by
  intro j
  induction j with
  | zero =>
    intro _
    rw [Nat.sub_zero, Nat.div_eq_of_lt hk, pmulN, toE_neu]
    exact Exq.zero_for
  | succ j ih =>
    intro hj
    have hd := For_pdbl (ih (by omega))
    rw [← two_mul] at hd
    rw [show 256 - (j + 1) = 255 - j by omega, bit_step k j (by omega), pmulN]
    split
    · exact For_padd hd hp
    · exact hd
theorem For_pmul {k : Nat} {p : Pn} {P : Pt} (hk : k < 2 ^ 256) (hp : (toE p).For P) : (toE (pmulN k p 256)).For (Pt.mul k P) := by
  have := For_pmul_at hk hp 256 (Nat.le_refl _)
  rwa [Nat.sub_self, Nat.pow_zero, Nat.div_one] at this
end Go.Proofs.YtdeigmjbcbjgeaaGreatDoor
