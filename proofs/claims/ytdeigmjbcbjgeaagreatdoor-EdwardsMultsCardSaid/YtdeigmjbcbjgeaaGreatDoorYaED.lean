/-
  Layer 10: numbers as points; encodings.
-/
import Derived.Test.YtdeigmjbcbjgeaaGreatDoorYaEC
import Derived.Test.YtdeigmjbcbjgeaaGreatDoorYaFP
namespace Go.Proofs.YtdeigmjbcbjgeaaGreatDoor
open Go.RowKit
set_option maxRecDepth 100000

def toE (p : Pn) : Exq := ⟨tF p.x, tF p.y, tF p.z, tF p.t⟩
def kD : FF := tF dN + tF dN
theorem kD_c : kD * cE = 2 := by unfold kD cE; decide
theorem dN_c : tF dN * cE = 1 := by unfold cE; decide
theorem toE_sum (p q : Pn) : toE (sumN dN p q) = Exq.add kD (toE p) (toE q) := by
  simp only [toE, sumN, Exq.add, tF_nM, tF_nA, tF_nS, kD]
theorem For_sum {p q : Pn} {P Q : Pt} (hp : (toE p).For P) (hq : (toE q).For Q) : (toE (sumN dN p q)).For (P.add Q) := by
  rw [toE_sum]
  exact Exq.add_for kD_c hp hq
theorem toE_neu : toE neuN = Exq.zero := by
  show Exq.mk (tF 0) (tF 1) (tF 1) (tF 0) = Exq.mk 0 1 1 0
  rw [show tF 0 = 0 by decide, show tF 1 = 1 by decide]
theorem toE_tim (k : Nat) (p : Pn) : ∀ j, toE (timN dN k p j) = Exq.mulk kD k (toE p) j
  | 0 => toE_neu
  | j + 1 => by
    rw [timN, Exq.mulk]
    split
    · rw [toE_sum, toE_sum, toE_tim k p j]
    · rw [toE_sum, toE_tim k p j]
theorem For_tim {k : Nat} {p : Pn} {P : Pt} (hk : k < 2 ^ 256) (hp : (toE p).For P) : (toE (timN dN k p 256)).For (Pt.mul k P) := by
  rw [toE_tim]
  exact Exq.mulk_all kD_c hk hp
/-- The encoding of a point. -/
def encP (P : Pt) : Nat := P.y.val + P.x.val % 2 * 2 ^ 255
theorem val_lt (x : FF) : x.val < pP := x.isLt
theorem tF_val (x : FF) : tF x.val = x := Fin.ext (Nat.mod_eq_of_lt x.isLt)
theorem of_tF {a : Nat} {x : FF} (ha : a < pP) (h : tF a = x) : a = x.val := tF_inj ha (val_lt x) (by rw [tF_val]; exact h)
theorem wr_enc {p : Pn} {P : Pt} (h : (toE p).For P) : wrN p = encP P := by
  obtain ⟨h1, h2, h3, _⟩ := h
  have h1 : tF p.z ≠ 0 := h1
  have h2 : tF p.x = P.x * tF p.z := h2
  have h3 : tF p.y = P.y * tF p.z := h3
  have hi := ffi_mul h1
  have ex : nM p.x (pw p.z e3R) = P.x.val := of_tF (nM_lp _ _) (by
    rw [e3_same, tF_div, h2]
    generalize ffi (tF p.z) = z at *
    generalize tF p.z = w at *
    clear h1 h2 h3
    grind -lia -linarith (splits := 0))
  have ey : nM p.y (pw p.z e3R) = P.y.val := of_tF (nM_lp _ _) (by
    rw [e3_same, tF_div, h3]
    generalize ffi (tF p.z) = z at *
    generalize tF p.z = w at *
    clear h1 h2 h3
    grind -lia -linarith (splits := 0))
  unfold wrN encP
  rw [ex, ey]
theorem yc_ne (y : FF) : y * y + cE ≠ 0 := by
  intro h
  refine cE_nsq (iE * y) ?_
  have hi := iE_sq
  generalize iE = i at *
  generalize cE = c at *
  grind -lia -linarith (splits := 0)
theorem pP_odd : pP % 2 = 1 := by decide
theorem neg_val (x : FF) (h : x ≠ 0) : (-x).val = pP - x.val := by
  have hx : x.val ≠ 0 := fun e => h (Fin.ext e)
  have hlt := val_lt x
  refine (of_tF (a := pP - x.val) (x := -x) (by omega) ?_).symm
  rw [tF_sub (Nat.le_of_lt hlt), tF_val]
theorem encP_inj {P Q : Pt} (h : encP P = encP Q) : P = Q := by
  have h2 : pP < 2 ^ 255 := by decide
  have y1 := val_lt P.y
  have y2 := val_lt Q.y
  unfold encP at h
  have hy : P.y.val = Q.y.val := by omega
  have hx : P.x.val % 2 = Q.x.val % 2 := by omega
  have ey : P.y = Q.y := Fin.ext hy
  have o1 := P.on
  have o2 := Q.on
  unfold On at o1 o2
  rw [ey] at o1
  have hs : (P.x - Q.x) * (P.x + Q.x) = 0 := by
    refine ff_cancel (yc_ne Q.y) ?_
    clear h hx hy y1 y2 h2 ey
    generalize cE = c at *
    grind -lia -linarith (splits := 0)
  rcases ff_zero hs with e | e
  · exact Pt.ext (by clear o1 o2 hs hx h; grind -lia -linarith (splits := 0)) ey
  · have e1 : P.x = -Q.x := by clear o1 o2 hs hx h; grind -lia -linarith (splits := 0)
    by_cases hq : Q.x = 0
    · refine Pt.ext ?_ ey
      rw [e1, hq]
      decide
    · exfalso
      have hl := val_lt Q.x
      have hq0 : Q.x.val ≠ 0 := fun e => hq (Fin.ext e)
      rw [e1, neg_val _ hq] at hx
      have := pP_odd
      omega
/-! roots -/
theorem e1_same : e1R = e1P := by kernel_rfl
theorem e2_same : e2R = e2P := by kernel_rfl
theorem rootR_two (v : Nat) : (rootR v).2 = (rootP v).2 := by
  unfold rootR rootP candR
  rw [e1_same, e2_same]
  by_cases h : pw v e1P * pw v e1P % pP = v
  · rw [if_pos h, if_pos h, if_pos h]
  · rw [if_neg h, if_neg h]
    by_cases h2 : pw v e1P * pw 2 e2P % pP * (pw v e1P * pw 2 e2P % pP) % pP = v
    · rw [if_pos h2, decide_eq_true h2]
    · rw [if_neg h2, decide_eq_false h2]
theorem rootR_sq {v : Nat} (_ : v < pP) (h : (rootR v).2 = true) : (rootR v).1 * (rootR v).1 % pP = v ∧ (rootR v).1 % 2 = 0 := by
  unfold rootR at h ⊢
  split at h
  · rename_i hs
    rw [if_pos hs]
    have hc := candR_lt v
    have hp := pP_odd
    simp only
    split
    · rename_i ho
      have hm : minR 0 (candR v) = pP - candR v := by unfold minR; rw [if_pos (by omega)]; omega
      rw [hm, neg_sq hc]
      exact ⟨hs, by omega⟩
    · exact ⟨hs, by omega⟩
  · cases h
theorem rootR_of {v : Nat} (hv : v < pP) {x : FF} (hx : x * x = tF v) : (rootR v).2 = true := by
  rw [rootR_two]
  refine (root_ok hv ?_).1
  by_cases h0 : x = 0
  · left
    have : tF v = tF 0 := by rw [← hx, h0]; decide
    exact tF_inj hv pP_pos this
  · right
    have h1 := congrArg Fin.val hx
    rw [Fin.val_mul] at h1
    have e : x.val * x.val % pP = v := by
      have : (tF v).val = v := Nat.mod_eq_of_lt hv
      rw [this] at h1
      exact h1
    rw [← e, ← Nat.pow_mod, ← Nat.pow_two, ← Nat.pow_mul, ← e_H.1]
    exact fermat1 prP (ff_dvd h0)
/-! what is read -/
theorem rd_v (n : Nat) : tF (nM (nS (nM (n % 2 ^ 255) (n % 2 ^ 255)) 1) (pw (nA (nM dN (nM (n % 2 ^ 255) (n % 2 ^ 255))) 1) e3R)) = (tF (n % 2 ^ 255) * tF (n % 2 ^ 255) - 1) * ffi (tF dN * (tF (n % 2 ^ 255) * tF (n % 2 ^ 255)) + 1) := by
  rw [e3_same, tF_div, tF_nS, tF_nA, tF_nM, tF_nM, tF_nM, show tF 1 = 1 by decide]
theorem dy_ne (y : FF) : tF dN * (y * y) + 1 ≠ 0 := by
  intro h
  refine yc_ne y ?_
  have hc := dN_c
  generalize tF dN = d at *
  generalize cE = c at *
  grind -lia -linarith (splits := 0)
theorem on_iff (x y : FF) : On x y ↔ x * x = (y * y - 1) * ffi (tF dN * (y * y) + 1) := by
  rw [ffi_div (dy_ne y)]
  have hc := dN_c
  unfold On
  generalize tF dN = d at *
  constructor
  · intro h
    refine ff_cancel cE_ne ?_
    generalize cE = c at *
    grind -lia -linarith (splits := 0)
  · intro h
    refine ff_cancel (k := d) (fun e => ?_) ?_
    · rw [e] at hc
      have : (1 : FF) = 0 := by clear h; grind -lia -linarith (splits := 0)
      exact absurd this (by decide)
    · generalize cE = c at *
      grind -lia -linarith (splits := 0)
theorem rd_enc {n : Nat} (hn : n < 2 ^ 256) (h : rdOk n = true) : ∃ P, (toE (rdP n)).For P ∧ encP P = n := by
  have h' := h
  simp only [rdOk, Bool.and_eq_true, decide_eq_true_eq, Bool.not_eq_true'] at h
  obtain ⟨⟨hy, hr⟩, hz⟩ := h
  have hvl : nM (nS (nM (n % 2 ^ 255) (n % 2 ^ 255)) 1) (pw (nA (nM dN (nM (n % 2 ^ 255) (n % 2 ^ 255))) 1) e3R) < pP := nM_lp _ _
  obtain ⟨hsq, hev⟩ := rootR_sq hvl hr
  have hx0 : (rdX n).1 < pP := rootR_lp _
  have hsq' : tF (rdX n).1 * tF (rdX n).1 = (tF (n % 2 ^ 255) * tF (n % 2 ^ 255) - 1) * ffi (tF dN * (tF (n % 2 ^ 255) * tF (n % 2 ^ 255)) + 1) := by
    rw [← rd_v, ← tF_mul, ← tF_mod ((rdX n).1 * (rdX n).1)]
    exact congrArg tF hsq
  have hS : rdS n = if n / 2 ^ 255 = 1 then nS 0 (rdX n).1 else (rdX n).1 := rfl
  have hev : (rdX n).1 % 2 = 0 := hev
  generalize (rdX n).1 = x0 at *
  have hxS : tF (rdS n) * tF (rdS n) = tF x0 * tF x0 := by
    rw [hS]
    split
    · rw [tF_nS, show tF 0 = 0 by decide]
      generalize tF x0 = x
      grind -lia -linarith (splits := 0)
    · rfl
  have hon : On (tF (rdS n)) (tF (n % 2 ^ 255)) := by rw [on_iff, hxS]; exact hsq'
  refine ⟨⟨tF (rdS n), tF (n % 2 ^ 255), hon⟩, ?_, ?_⟩
  · rw [rdP, if_pos h']
    refine ⟨?_, ?_, ?_, ?_⟩
    · show tF 1 ≠ 0
      decide
    · show tF (rdS n) = tF (rdS n) * tF 1
      rw [show tF 1 = 1 by decide]
      generalize tF (rdS n) = x
      grind -lia -linarith (splits := 0)
    · show tF (n % 2 ^ 255) = tF (n % 2 ^ 255) * tF 1
      rw [show tF 1 = 1 by decide]
      generalize tF (n % 2 ^ 255) = x
      grind -lia -linarith (splits := 0)
    · show tF (nM (rdS n) (n % 2 ^ 255)) * tF 1 = tF (rdS n) * tF (n % 2 ^ 255)
      rw [show tF 1 = 1 by decide, tF_nM]
      generalize tF (rdS n) = x
      generalize tF (n % 2 ^ 255) = y
      grind -lia -linarith (splits := 0)
  · show (n % 2 ^ 255 % pP) + (rdS n % pP) % 2 * 2 ^ 255 = n
    rw [Nat.mod_eq_of_lt hy, Nat.mod_eq_of_lt (rdS_lp n)]
    have hp := pP_odd
    have hs2 : n / 2 ^ 255 = 0 ∨ n / 2 ^ 255 = 1 := by omega
    rcases hs2 with hs | hs
    · rw [hS, if_neg (by omega), hev]
      omega
    · rw [hs] at hz
      have hx : x0 ≠ 0 := by simpa using hz
      rw [hS, if_pos hs]
      have : nS 0 x0 = pP - x0 := by
        unfold nS
        rw [Nat.mod_eq_of_lt hx0, Nat.zero_add, Nat.mod_eq_of_lt (by omega)]
      rw [this, show (pP - x0) % 2 = 1 by omega]
      omega
theorem rd_of (P : Pt) : rdOk (encP P) = true := by
  have h2 : pP < 2 ^ 255 := by decide
  have y1 := val_lt P.y
  have em : encP P % 2 ^ 255 = P.y.val := by unfold encP; omega
  have ed : encP P / 2 ^ 255 = P.x.val % 2 := by unfold encP; omega
  have ho := (on_iff P.x P.y).1 P.on
  have hy : tF (encP P % 2 ^ 255) = P.y := by rw [em, tF_val]
  have hvl : nM (nS (nM (encP P % 2 ^ 255) (encP P % 2 ^ 255)) 1) (pw (nA (nM dN (nM (encP P % 2 ^ 255) (encP P % 2 ^ 255))) 1) e3R) < pP := nM_lp _ _
  have hv := rd_v (encP P)
  rw [hy, ← ho] at hv
  have hr : (rdX (encP P)).2 = true := rootR_of hvl hv.symm
  have hsq := (rootR_sq hvl hr).1
  have hsq' : tF (rdX (encP P)).1 * tF (rdX (encP P)).1 = P.x * P.x := by
    rw [← hv, ← tF_mul, ← tF_mod ((rdX (encP P)).1 * (rdX (encP P)).1)]
    exact congrArg tF hsq
  unfold rdOk
  rw [em, decide_eq_true y1, hr, ed]
  simp only [Bool.and_self, Bool.true_and, Bool.not_eq_true', Bool.and_eq_false_iff, decide_eq_false_iff_not]
  by_cases hx : P.x = 0
  · right
    rw [hx]
    decide
  · left
    intro e
    rw [e] at hsq'
    have : P.x * P.x = 0 := by rw [← hsq']; decide
    exact ff_mul_ne hx hx this
/-- What is read is the point of which it is the encoding. -/
theorem rd_For (P : Pt) : (toE (rdP (encP P))).For P := by
  have hlt : encP P < 2 ^ 256 := by
    have h2 : pP < 2 ^ 255 := by decide
    have y1 := val_lt P.y
    unfold encP
    omega
  obtain ⟨Q, h1, h2⟩ := rd_enc hlt (rd_of P)
  rw [encP_inj h2] at h1
  exact h1
end Go.Proofs.YtdeigmjbcbjgeaaGreatDoor
