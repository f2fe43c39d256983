import Derived.Test.YtdeigmjbcbjgeaaGreatDoorYcFA
import Derived.Test.YtdeigmjbcbjgeaaGreatDoorYcFN
import Derived.Test.YtdeigmjbcbjgeaaGreatDoorYcGM
import Derived.Test.YtdeigmjbcbjgeaaGreatDoorYcEB
namespace Go.Proofs.YtdeigmjbcbjgeaaGreatDoor
open Go.RowKit
theorem prP : Pr pP := pr_57896044618658097711785492504343953926634992332820282019728792003956564819949
theorem pP_two : 2 ≤ pP := prP.1
theorem pwk_pmk (x e : Nat) : ∀ k, pwk x e k = pmk x e pP k
 | 0 => rfl
 | k + 1 => by rw [pwk, pmk, pwk_pmk x e k]
theorem pw_val (x e : Nat) (he : e < 2 ^ 256) : pw x e = x ^ e % pP := by
 rw [pw, pwk_pmk]
 exact pm_eq x e pP pP_two he
def eH : Nat := 28948022309329048855892746252171976963317496166410141009864396001978282409974
theorem e_H : pP - 1 = 2 * eH ∧ eH = 2 * e2P ∧ 2 * e1P = e2P + 1 ∧ e3P + 1 = pP - 1 := by
 unfold pP eH e1P e2P e3P
 omega
theorem eH_lt : eH < 2 ^ 256 := by unfold eH; omega
theorem two_H : 2 ^ eH % pP = pP - 1 := by
 rw [← pm_eq 2 eH pP pP_two eH_lt]
 kernel_rfl
theorem mod_ne {a : Nat} (h : a % pP ≠ 0) : ¬ pP ∣ a := fun hd => h (Nat.mod_eq_zero_of_dvd hd)
theorem inv_one (a : Nat) (h : a % pP ≠ 0) : a * pw a e3P % pP = 1 := by
 rw [pw_val a e3P e3P_lt, Nat.mul_mod_mod, ← Nat.pow_succ']
 show a ^ (e3P + 1) % pP = 1
 rw [e_H.2.2.2]
 exact fermat1 prP (mod_ne h)
theorem inv_zero (a : Nat) (h : a % pP = 0) : a * pw a e3P % pP = 0 := by
 rw [Nat.mul_mod, h, Nat.zero_mul, Nat.zero_mod]
theorem sq_one {t : Nat} (h : t * t % pP = 1) : t % pP = 1 ∨ t % pP = pP - 1 := by
 have h2 := pP_two
 have ht : t ≠ 0 := fun e => by rw [e] at h; simp at h
 have h1 : t * t % pP = 1 % pP := by rw [h, Nat.mod_eq_of_lt (by omega)]
 have hd := dvd_of_mod_eq h1 (Nat.mul_pos (Nat.pos_of_ne_zero ht) (Nat.pos_of_ne_zero ht))
 have e : t * t - 1 = (t - 1) * (t + 1) := by
  obtain ⟨k, rfl⟩ : ∃ k, t = k + 1 := ⟨t - 1, by omega⟩
  have h1 : (k + 1) * (k + 1) = k * (k + 1) + (k + 1) := Nat.succ_mul _ _
  have h2 : k * (k + 1 + 1) = k * (k + 1) + k := Nat.mul_succ _ _
  rw [Nat.add_sub_cancel]
  omega
 rw [e] at hd
 rcases prP.euclid hd with h | h
 ·left
  rw [mod_of_dvd h (by omega)]
  exact Nat.mod_eq_of_lt (by omega)
 ·right
  obtain ⟨c, hc⟩ := h
  have hc0 : c ≠ 0 := fun e => by rw [e] at hc; omega
  obtain ⟨d, rfl⟩ : ∃ d, c = d + 1 := ⟨c - 1, by omega⟩
  rw [show t = (pP - 1) + pP * d by rw [Nat.mul_add] at hc; omega, Nat.add_mul_mod_self_left]
  exact Nat.mod_eq_of_lt (by omega)
theorem neg_neg (x : Nat) : x * (pP - 1) * (pP - 1) % pP = x % pP := by
 have h2 := pP_two
 have e : (pP - 1) * (pP - 1) % pP = 1 % pP := by
  have : (pP - 1) * (pP - 1) = 1 + pP * (pP - 2) := by
   obtain ⟨k, hk⟩ : ∃ k, pP = k + 2 := ⟨pP - 2, by omega⟩
   have h1 : (k + 1) * (k + 1) = k * (k + 1) + (k + 1) := Nat.succ_mul _ _
   have h3 : k * (k + 1) = k * k + k := Nat.mul_succ _ _
   have h4 : (k + 2) * k = k * k + 2 * k := Nat.add_mul _ _ _
   rw [hk, show k + 2 - 1 = k + 1 by omega, show k + 2 - 2 = k by omega]
   omega
  rw [this, Nat.add_mul_mod_self_left]
 rw [Nat.mul_assoc, Nat.mul_mod, e, ← Nat.mul_mod, Nat.mul_one]
theorem cand_sq (y : Nat) : pw y e1P * pw y e1P % pP = y * (y ^ e2P % pP) % pP := by
 rw [pw_val y e1P e1P_lt, ← Nat.mul_mod, ← Nat.pow_add, show e1P + e1P = e2P + 1 by have := e_H.2.2.1; omega, Nat.pow_succ', Nat.mul_mod_mod]
theorem two_sq : pw 2 e2P * pw 2 e2P % pP = pP - 1 := by
 rw [pw_val 2 e2P e2P_lt, ← Nat.mul_mod, ← Nat.pow_add, show e2P + e2P = eH by have := e_H.2.1; omega, two_H]
theorem half_sq (y : Nat) : y ^ e2P % pP * (y ^ e2P % pP) % pP = y ^ eH % pP := by
 rw [← Nat.mul_mod, ← Nat.pow_add, show e2P + e2P = eH by have := e_H.2.1; omega]
theorem root_ok {y : Nat} (hy : y < pP) (h : y = 0 ∨ y ^ eH % pP = 1) : (rootP y).2 = true ∧ (rootP y).1 * (rootP y).1 % pP = y ∧ (rootP y).1 < pP := by
 have h2 := pP_two
 have hlt : pw y e1P < pP := by rw [pw_val y e1P e1P_lt]; exact Nat.mod_lt _ prP.pos
 by_cases hc : pw y e1P * pw y e1P % pP = y
 ·rw [rootP, if_pos hc]
  exact ⟨rfl, hc, hlt⟩
 ·rw [rootP, if_neg hc]
  have hr : pw y e1P * pw 2 e2P % pP * (pw y e1P * pw 2 e2P % pP) % pP = y := by
   rcases h with h | h
   ·exfalso
    apply hc
    rw [cand_sq, h, Nat.zero_mul, Nat.zero_mod]
   ·have ht := half_sq y
    rw [h] at ht
    rcases sq_one ht with ht | ht
    ·exfalso
     apply hc
     rw [cand_sq, ← Nat.mod_mod (y ^ e2P), ht, Nat.mul_one, Nat.mod_eq_of_lt hy]
    ·rw [Nat.mod_mod] at ht
     have e1 := cand_sq y
     rw [ht] at e1
     rw [← Nat.mul_mod, Nat.mul_mul_mul_comm, Nat.mul_mod, e1, two_sq, Nat.mod_mul_mod, neg_neg, Nat.mod_eq_of_lt hy]
  have hl := Nat.mod_lt (pw y e1P * pw 2 e2P) prP.pos
  generalize pw y e1P * pw 2 e2P % pP = r at *
  refine ⟨?_, hr, hl⟩
  show decide (r * r % pP = y) = true
  exact decide_eq_true hr
theorem neg_sq {r : Nat} (h : r < pP) : (pP - r) * (pP - r) % pP = r * r % pP := by
 obtain ⟨s, hs⟩ : ∃ s, pP = r + s := ⟨pP - r, by omega⟩
 rw [show pP - r = s by omega]
 have e : s * s + pP * r = r * r + pP * s := by
  rw [hs, Nat.add_mul, Nat.add_mul, Nat.mul_comm s r]
  omega
 rw [← Nat.add_mul_mod_self_left (s * s) pP r, e, Nat.add_mul_mod_self_left]
end Go.Proofs.YtdeigmjbcbjgeaaGreatDoor
namespace Go.Proofs.YtdeigmjbcbjgeaaGreatDoor
open Go.RowKit
def tF (n : Nat) : FF := ⟨n % pP, Nat.mod_lt _ pP_pos⟩
theorem tF_mod (n : Nat) : tF (n % pP) = tF n := Fin.ext (Nat.mod_mod _ _)
theorem tF_add (a b : Nat) : tF (a + b) = tF a + tF b := Fin.ext (by
 rw [Fin.val_add]
 exact Nat.add_mod a b pP)
theorem tF_mul (a b : Nat) : tF (a * b) = tF a * tF b := Fin.ext (by
 rw [Fin.val_mul]
 exact Nat.mul_mod a b pP)
theorem tF_pP : tF pP = 0 := Fin.ext (Nat.mod_self _)
theorem tF_sub {a : Nat} (h : a ≤ pP) : tF (pP - a) = - tF a := by
 have h1 : tF (pP - a) + tF a = 0 := by rw [← tF_add, Nat.sub_add_cancel h, tF_pP]
 generalize tF (pP - a) = x at *
 generalize tF a = y at *
 grind -lia -linarith (splits := 0)
theorem tF_nA (a b : Nat) : tF (nA a b) = tF a + tF b := by rw [nA, tF_mod, tF_add]
theorem tF_nM (a b : Nat) : tF (nM a b) = tF a * tF b := by rw [nM, tF_mod, tF_mul]
theorem tF_nS (a b : Nat) : tF (nS a b) = tF a - tF b := by
 rw [nS, tF_mod, tF_add, tF_sub (Nat.le_of_lt (Nat.mod_lt _ pP_pos)), tF_mod]
 generalize tF a = x
 generalize tF b = y
 grind -lia -linarith (splits := 0)
theorem tF_inj {a b : Nat} (ha : a < pP) (hb : b < pP) (h : tF a = tF b) : a = b := by
 have := congrArg Fin.val h
 have e : a % pP = b % pP := this
 rwa [Nat.mod_eq_of_lt ha, Nat.mod_eq_of_lt hb] at e
theorem tF_inv (a : Nat) : tF (pw a e3P) = ffi (tF a) ∨ tF a = 0 := by
 by_cases h : a % pP = 0
 ·exact .inr (Fin.ext h)
 ·refine .inl (ffi_uniq ?_).symm
  rw [← tF_mul]
  refine Fin.ext ?_
  show a * pw a e3P % pP = 1
  exact inv_one a h
theorem tF_div (x a : Nat) : tF (nM x (pw a e3P)) = tF x * ffi (tF a) := by
 rw [tF_nM]
 rcases tF_inv a with h | h
 ·rw [h]
 ·rw [h, ffi_zero]
  have ha : a % pP = 0 := congrArg Fin.val h
  have h0 : pw a e3P % pP = 0 := by
   have h1 := inv_zero a ha
   rw [pw_val a e3P e3P_lt, Nat.mod_mod, Nat.pow_mod, ha]
   have : 0 < e3P := by unfold e3P; omega
   rw [Nat.zero_pow this, Nat.zero_mod]
  rw [show tF (pw a e3P) = 0 from Fin.ext h0]
end Go.Proofs.YtdeigmjbcbjgeaaGreatDoor
namespace Go.Proofs.YtdeigmjbcbjgeaaGreatDoor
open Go.RowKit
set_option maxRecDepth 100000
def toE (p : Pn) : Exq := ⟨tF p.x, tF p.y, tF p.z, tF p.t⟩
def kD : FF := tF dN + tF dN
theorem kD_c : kD * cE = 2 := by unfold kD cE; decide
theorem dN_c : tF dN * cE = 1 := by unfold cE; decide
theorem toE_sum (p q : Pn) : toE (sumN dN p q) = Exq.add kD (toE p) (toE q) := by
 simp only [toE, sumN, Exq.add, tF_nM, tF_nA, tF_nS, kD]
theorem For_sum {p q : Pn} {P Q : Pt} (hp : (toE p).For P) (hq : (toE q).For Q) : (toE (sumN dN p q)).For (P.add Q) := by
 rw [toE_sum]
 exact Exq.add_for kD_c hp hq
theorem toE_neu : toE neuN = Exq.zero := by
 show Exq.mk (tF 0) (tF 1) (tF 1) (tF 0) = Exq.mk 0 1 1 0
 rw [show tF 0 = 0 by decide, show tF 1 = 1 by decide]
theorem toE_tim (k : Nat) (p : Pn) : ∀ j, toE (timN dN k p j) = Exq.mulk kD k (toE p) j
 | 0 => toE_neu
 | j + 1 => by
  rw [timN, Exq.mulk]
  split
  ·rw [toE_sum, toE_sum, toE_tim k p j]
  ·rw [toE_sum, toE_tim k p j]
theorem For_tim {k : Nat} {p : Pn} {P : Pt} (hk : k < 2 ^ 256) (hp : (toE p).For P) : (toE (timN dN k p 256)).For (Pt.mul k P) := by
 rw [toE_tim]
 exact Exq.mulk_all kD_c hk hp
theorem For_opp {p : Pn} {P : Pt} (hp : (toE p).For P) : (toE (oppN p)).For P.neg := by
 obtain ⟨h1, h2, h3, h4⟩ := hp
 have e0 : tF 0 = 0 := by decide
 refine ⟨h1, ?_, h3, ?_⟩
 ·show tF (nS 0 p.x) = -P.x * tF p.z
  have h2 : tF p.x = P.x * tF p.z := h2
  rw [tF_nS, e0, h2]
  clear h1 h3 h4 h2
  grind -lia -linarith (splits := 0)
 ·show tF (nS 0 p.t) * tF p.z = tF (nS 0 p.x) * tF p.y
  have h4 : tF p.t * tF p.z = tF p.x * tF p.y := h4
  rw [tF_nS, tF_nS, e0]
  clear h1 h2 h3
  grind -lia -linarith (splits := 0)
def encP (P : Pt) : Nat := P.y.val + P.x.val % 2 * 2 ^ 255
theorem val_lt (x : FF) : x.val < pP := x.isLt
theorem tF_val (x : FF) : tF x.val = x := Fin.ext (Nat.mod_eq_of_lt x.isLt)
theorem of_tF {a : Nat} {x : FF} (ha : a < pP) (h : tF a = x) : a = x.val := tF_inj ha (val_lt x) (by rw [tF_val]; exact h)
theorem wr_enc {p : Pn} {P : Pt} (h : (toE p).For P) : wrN p = encP P := by
 obtain ⟨h1, h2, h3, _⟩ := h
 have h1 : tF p.z ≠ 0 := h1
 have h2 : tF p.x = P.x * tF p.z := h2
 have h3 : tF p.y = P.y * tF p.z := h3
 have hi := ffi_mul h1
 have ex : nM p.x (pw p.z e3R) = P.x.val := of_tF (nM_lp _ _) (by
  rw [e3_same, tF_div, h2]
  generalize ffi (tF p.z) = z at *
  generalize tF p.z = w at *
  clear h1 h2 h3
  grind -lia -linarith (splits := 0))
 have ey : nM p.y (pw p.z e3R) = P.y.val := of_tF (nM_lp _ _) (by
  rw [e3_same, tF_div, h3]
  generalize ffi (tF p.z) = z at *
  generalize tF p.z = w at *
  clear h1 h2 h3
  grind -lia -linarith (splits := 0))
 unfold wrN encP
 rw [ex, ey]
theorem yc_ne (y : FF) : y * y + cE ≠ 0 := by
 intro h
 refine cE_nsq (iE * y) ?_
 have hi := iE_sq
 generalize iE = i at *
 generalize cE = c at *
 grind -lia -linarith (splits := 0)
theorem pP_odd : pP % 2 = 1 := by decide
theorem neg_val (x : FF) (h : x ≠ 0) : (-x).val = pP - x.val := by
 have hx : x.val ≠ 0 := fun e => h (Fin.ext e)
 have hlt := val_lt x
 refine (of_tF (a := pP - x.val) (x := -x) (by omega) ?_).symm
 rw [tF_sub (Nat.le_of_lt hlt), tF_val]
theorem encP_inj {P Q : Pt} (h : encP P = encP Q) : P = Q := by
 have h2 : pP < 2 ^ 255 := by decide
 have y1 := val_lt P.y
 have y2 := val_lt Q.y
 unfold encP at h
 have hy : P.y.val = Q.y.val := by omega
 have hx : P.x.val % 2 = Q.x.val % 2 := by omega
 have ey : P.y = Q.y := Fin.ext hy
 have o1 := P.on
 have o2 := Q.on
 unfold On at o1 o2
 rw [ey] at o1
 have hs : (P.x - Q.x) * (P.x + Q.x) = 0 := by
  refine ff_cancel (yc_ne Q.y) ?_
  clear h hx hy y1 y2 h2 ey
  generalize cE = c at *
  grind -lia -linarith (splits := 0)
 rcases ff_zero hs with e | e
 ·exact Pt.ext (by clear o1 o2 hs hx h; grind -lia -linarith (splits := 0)) ey
 ·have e1 : P.x = -Q.x := by clear o1 o2 hs hx h; grind -lia -linarith (splits := 0)
  by_cases hq : Q.x = 0
  ·refine Pt.ext ?_ ey
   rw [e1, hq]
   decide
  ·exfalso
   have hl := val_lt Q.x
   have hq0 : Q.x.val ≠ 0 := fun e => hq (Fin.ext e)
   rw [e1, neg_val _ hq] at hx
   have := pP_odd
   omega
theorem e1_same : e1R = e1P := by kernel_rfl
theorem e2_same : e2R = e2P := by kernel_rfl
theorem rootR_two (v : Nat) : (rootR v).2 = (rootP v).2 := by
 unfold rootR rootP candR
 rw [e1_same, e2_same]
 by_cases h : pw v e1P * pw v e1P % pP = v
 ·rw [if_pos h, if_pos h, if_pos h]
 ·rw [if_neg h, if_neg h]
  by_cases h2 : pw v e1P * pw 2 e2P % pP * (pw v e1P * pw 2 e2P % pP) % pP = v
  ·rw [if_pos h2, decide_eq_true h2]
  ·rw [if_neg h2, decide_eq_false h2]
theorem rootR_sq {v : Nat} (_ : v < pP) (h : (rootR v).2 = true) : (rootR v).1 * (rootR v).1 % pP = v ∧ (rootR v).1 % 2 = 0 := by
 unfold rootR at h ⊢
 split at h
 ·rename_i hs
  rw [if_pos hs]
  have hc := candR_lt v
  have hp := pP_odd
  simp only
  split
  ·rename_i ho
   have hm : minR 0 (candR v) = pP - candR v := by unfold minR; rw [if_pos (by omega)]; omega
   rw [hm, neg_sq hc]
   exact ⟨hs, by omega⟩
  ·exact ⟨hs, by omega⟩
 ·cases h
theorem rootR_of {v : Nat} (hv : v < pP) {x : FF} (hx : x * x = tF v) : (rootR v).2 = true := by
 rw [rootR_two]
 refine (root_ok hv ?_).1
 by_cases h0 : x = 0
 ·left
  have : tF v = tF 0 := by rw [← hx, h0]; decide
  exact tF_inj hv pP_pos this
 ·right
  have h1 := congrArg Fin.val hx
  rw [Fin.val_mul] at h1
  have e : x.val * x.val % pP = v := by
   have : (tF v).val = v := Nat.mod_eq_of_lt hv
   rw [this] at h1
   exact h1
  rw [← e, ← Nat.pow_mod, ← Nat.pow_two, ← Nat.pow_mul, ← e_H.1]
  exact fermat1 prP (ff_dvd h0)
theorem rd_v (n : Nat) : tF (nM (nS (nM (n % 2 ^ 255) (n % 2 ^ 255)) 1) (pw (nA (nM dN (nM (n % 2 ^ 255) (n % 2 ^ 255))) 1) e3R)) = (tF (n % 2 ^ 255) * tF (n % 2 ^ 255) - 1) * ffi (tF dN * (tF (n % 2 ^ 255) * tF (n % 2 ^ 255)) + 1) := by
 rw [e3_same, tF_div, tF_nS, tF_nA, tF_nM, tF_nM, tF_nM, show tF 1 = 1 by decide]
theorem dy_ne (y : FF) : tF dN * (y * y) + 1 ≠ 0 := by
 intro h
 refine yc_ne y ?_
 have hc := dN_c
 generalize tF dN = d at *
 generalize cE = c at *
 grind -lia -linarith (splits := 0)
theorem on_iff (x y : FF) : On x y ↔ x * x = (y * y - 1) * ffi (tF dN * (y * y) + 1) := by
 rw [ffi_div (dy_ne y)]
 have hc := dN_c
 unfold On
 generalize tF dN = d at *
 constructor
 ·intro h
  refine ff_cancel cE_ne ?_
  generalize cE = c at *
  grind -lia -linarith (splits := 0)
 ·intro h
  refine ff_cancel (k := d) (fun e => ?_) ?_
  ·rw [e] at hc
   have : (1 : FF) = 0 := by clear h; grind -lia -linarith (splits := 0)
   exact absurd this (by decide)
  ·generalize cE = c at *
   grind -lia -linarith (splits := 0)
theorem rd_enc {n : Nat} (hn : n < 2 ^ 256) (h : rdOk n = true) : ∃ P, (toE (rdP n)).For P ∧ encP P = n := by
 have h' := h
 simp only [rdOk, Bool.and_eq_true, decide_eq_true_eq, Bool.not_eq_true'] at h
 obtain ⟨⟨hy, hr⟩, hz⟩ := h
 have hvl : nM (nS (nM (n % 2 ^ 255) (n % 2 ^ 255)) 1) (pw (nA (nM dN (nM (n % 2 ^ 255) (n % 2 ^ 255))) 1) e3R) < pP := nM_lp _ _
 obtain ⟨hsq, hev⟩ := rootR_sq hvl hr
 have hx0 : (rdX n).1 < pP := rootR_lp _
 have hsq' : tF (rdX n).1 * tF (rdX n).1 = (tF (n % 2 ^ 255) * tF (n % 2 ^ 255) - 1) * ffi (tF dN * (tF (n % 2 ^ 255) * tF (n % 2 ^ 255)) + 1) := by
  rw [← rd_v, ← tF_mul, ← tF_mod ((rdX n).1 * (rdX n).1)]
  exact congrArg tF hsq
 have hS : rdS n = if n / 2 ^ 255 = 1 then nS 0 (rdX n).1 else (rdX n).1 := rfl
 have hev : (rdX n).1 % 2 = 0 := hev
 generalize (rdX n).1 = x0 at *
 have hxS : tF (rdS n) * tF (rdS n) = tF x0 * tF x0 := by
  rw [hS]
  split
  ·rw [tF_nS, show tF 0 = 0 by decide]
   generalize tF x0 = x
   grind -lia -linarith (splits := 0)
  ·rfl
 have hon : On (tF (rdS n)) (tF (n % 2 ^ 255)) := by rw [on_iff, hxS]; exact hsq'
 refine ⟨⟨tF (rdS n), tF (n % 2 ^ 255), hon⟩, ?_, ?_⟩
 ·rw [rdP, if_pos h']
  refine ⟨?_, ?_, ?_, ?_⟩
  ·show tF 1 ≠ 0
   decide
  ·show tF (rdS n) = tF (rdS n) * tF 1
   rw [show tF 1 = 1 by decide]
   generalize tF (rdS n) = x
   grind -lia -linarith (splits := 0)
  ·show tF (n % 2 ^ 255) = tF (n % 2 ^ 255) * tF 1
   rw [show tF 1 = 1 by decide]
   generalize tF (n % 2 ^ 255) = x
   grind -lia -linarith (splits := 0)
  ·show tF (nM (rdS n) (n % 2 ^ 255)) * tF 1 = tF (rdS n) * tF (n % 2 ^ 255)
   rw [show tF 1 = 1 by decide, tF_nM]
   generalize tF (rdS n) = x
   generalize tF (n % 2 ^ 255) = y
   grind -lia -linarith (splits := 0)
 ·show (n % 2 ^ 255 % pP) + (rdS n % pP) % 2 * 2 ^ 255 = n
  rw [Nat.mod_eq_of_lt hy, Nat.mod_eq_of_lt (rdS_lp n)]
  have hp := pP_odd
  have hs2 : n / 2 ^ 255 = 0 ∨ n / 2 ^ 255 = 1 := by omega
  rcases hs2 with hs | hs
  ·rw [hS, if_neg (by omega), hev]
   omega
  ·rw [hs] at hz
   have hx : x0 ≠ 0 := by simpa using hz
   rw [hS, if_pos hs]
   have : nS 0 x0 = pP - x0 := by
    unfold nS
    rw [Nat.mod_eq_of_lt hx0, Nat.zero_add, Nat.mod_eq_of_lt (by omega)]
   rw [this, show (pP - x0) % 2 = 1 by omega]
   omega
theorem rd_of (P : Pt) : rdOk (encP P) = true := by
 have h2 : pP < 2 ^ 255 := by decide
 have y1 := val_lt P.y
 have em : encP P % 2 ^ 255 = P.y.val := by unfold encP; omega
 have ed : encP P / 2 ^ 255 = P.x.val % 2 := by unfold encP; omega
 have ho := (on_iff P.x P.y).1 P.on
 have hy : tF (encP P % 2 ^ 255) = P.y := by rw [em, tF_val]
 have hvl : nM (nS (nM (encP P % 2 ^ 255) (encP P % 2 ^ 255)) 1) (pw (nA (nM dN (nM (encP P % 2 ^ 255) (encP P % 2 ^ 255))) 1) e3R) < pP := nM_lp _ _
 have hv := rd_v (encP P)
 rw [hy, ← ho] at hv
 have hr : (rdX (encP P)).2 = true := rootR_of hvl hv.symm
 have hsq := (rootR_sq hvl hr).1
 have hsq' : tF (rdX (encP P)).1 * tF (rdX (encP P)).1 = P.x * P.x := by
  rw [← hv, ← tF_mul, ← tF_mod ((rdX (encP P)).1 * (rdX (encP P)).1)]
  exact congrArg tF hsq
 unfold rdOk
 rw [em, decide_eq_true y1, hr, ed]
 simp only [Bool.and_self, Bool.true_and, Bool.not_eq_true', Bool.and_eq_false_iff, decide_eq_false_iff_not]
 by_cases hx : P.x = 0
 ·right
  rw [hx]
  decide
 ·left
  intro e
  rw [e] at hsq'
  have : P.x * P.x = 0 := by rw [← hsq']; decide
  exact ff_mul_ne hx hx this
theorem rd_For (P : Pt) : (toE (rdP (encP P))).For P := by
 have hlt : encP P < 2 ^ 256 := by
  have h2 : pP < 2 ^ 255 := by decide
  have y1 := val_lt P.y
  unfold encP
  omega
 obtain ⟨Q, h1, h2⟩ := rd_enc hlt (rd_of P)
 rw [encP_inj h2] at h1
 exact h1
end Go.Proofs.YtdeigmjbcbjgeaaGreatDoor
namespace Go.Proofs.YtdeigmjbcbjgeaaGreatDoor
open Go.RowKit
set_option maxRecDepth 100000
def ratN (e f g h : Nat) : Pn := ⟨nM e g, nM h f, nM f g, nM e h⟩
theorem ratN_lt (e f g h : Nat) : (ratN e f g h).lt := ⟨nM_lp _ _, nM_lp _ _, nM_lp _ _, nM_lp _ _⟩
def paddN (p q : Pn) : Pn := ratN (nS (nS (nM (nA p.x p.y) (nA q.x q.y)) (nM p.x q.x)) (nM p.y q.y)) (nA (nM p.z q.z) (nM dN (nM p.t q.t))) (nS (nM p.z q.z) (nM dN (nM p.t q.t))) (nA (nM p.y q.y) (nM p.x q.x))
def pdblN (p : Pn) : Pn := ratN (nS (nM (nA p.x p.y) (nA p.x p.y)) (nA (nM p.x p.x) (nM p.y p.y))) (nS (nM p.y p.y) (nM p.x p.x)) (nS (nA (nM p.z p.z) (nM p.z p.z)) (nS (nM p.y p.y) (nM p.x p.x))) (nA (nM p.x p.x) (nM p.y p.y))
def pmulN (k : Nat) (p : Pn) : Nat → Pn
 | 0 => neuN
 | j + 1 => if k.testBit (255 - j) then paddN (pdblN (pmulN k p j)) p else pdblN (pmulN k p j)
theorem paddN_lt (p q : Pn) : (paddN p q).lt := ratN_lt _ _ _ _
theorem pdblN_lt (p : Pn) : (pdblN p).lt := ratN_lt _ _ _ _
theorem pmulN_lt (k : Nat) (p : Pn) : ∀ j, (pmulN k p j).lt
 | 0 => neuN_lt
 | j + 1 => by
  rw [pmulN]
  split
  ·exact paddN_lt _ _
  ·exact pdblN_lt _
def psmN (p : Pn) : Bool := decide ((pdblN (pdblN (pdblN p))).x = 0) && decide ((pdblN (pdblN (pdblN p))).y = (pdblN (pdblN (pdblN p))).z)
theorem For_rat {e f g h : Nat} {R : Pt} (hf : tF f ≠ 0) (hg : tF g ≠ 0) (he : tF e = R.x * tF f) (hh : tF h = R.y * tF g) : (toE (ratN e f g h)).For R := by
 refine ⟨?_, ?_, ?_, ?_⟩
 ·show tF (nM f g) ≠ 0
  rw [tF_nM]
  exact ff_mul_ne hf hg
 ·show tF (nM e g) = R.x * tF (nM f g)
  rw [tF_nM, tF_nM, he]
  clear hf hg he hh
  grind -lia -linarith (splits := 0)
 ·show tF (nM h f) = R.y * tF (nM f g)
  rw [tF_nM, tF_nM, hh]
  clear hf hg he hh
  grind -lia -linarith (splits := 0)
 ·show tF (nM e h) * tF (nM f g) = tF (nM e g) * tF (nM h f)
  rw [tF_nM, tF_nM, tF_nM, tF_nM]
  clear hf hg he hh
  grind -lia -linarith (splits := 0)
theorem padd_gen {c d z w X Y X' Y' a b : FF} (hd : d * c = 1) (hc : c ≠ 0) (hz : z ≠ 0) (hw : w ≠ 0) (k1 : c + X * X' * Y * Y' ≠ 0) (k2 : c - X * X' * Y * Y' ≠ 0) (ha : a * (c + X * X' * Y * Y') = c * (X * Y' + X' * Y)) (hb : b * (c - X * X' * Y * Y') = c * (Y * Y' + X * X')) :
  z * w + d * (X * Y * z * (X' * Y' * w)) ≠ 0 ∧ z * w - d * (X * Y * z * (X' * Y' * w)) ≠ 0 ∧ (X * z + Y * z) * (X' * w + Y' * w) - X * z * (X' * w) - Y * z * (Y' * w) = a * (z * w + d * (X * Y * z * (X' * Y' * w))) ∧ Y * z * (Y' * w) + X * z * (X' * w) = b * (z * w - d * (X * Y * z * (X' * Y' * w))) := by
 have e1 : c * (z * w + d * (X * Y * z * (X' * Y' * w))) = z * w * (c + X * X' * Y * Y') := by
  clear ha hb k1 k2 hz hw hc
  grind -lia -linarith (splits := 0)
 have e2 : c * (z * w - d * (X * Y * z * (X' * Y' * w))) = z * w * (c - X * X' * Y * Y') := by
  clear ha hb k1 k2 hz hw hc
  grind -lia -linarith (splits := 0)
 have zw := ff_mul_ne hz hw
 generalize z * w + d * (X * Y * z * (X' * Y' * w)) = f at *
 generalize z * w - d * (X * Y * z * (X' * Y' * w)) = g at *
 have zero : c * (0 : FF) = 0 := by clear ha hb e1 e2; grind -lia -linarith (splits := 0)
 refine ⟨fun h => ?_, fun h => ?_, ff_cancel hc ?_, ff_cancel hc ?_⟩
 ·rw [h, zero] at e1
  exact ff_mul_ne zw k1 e1.symm
 ·rw [h, zero] at e2
  exact ff_mul_ne zw k2 e2.symm
 ·have e3 : c * (a * f) = z * w * (a * (c + X * X' * Y * Y')) := by
   clear ha hb e2
   grind -lia -linarith (splits := 0)
  rw [e3, ha]
  clear ha hb e1 e2 e3
  grind -lia -linarith (splits := 0)
 ·have e3 : c * (b * g) = z * w * (b * (c - X * X' * Y * Y')) := by
   clear ha hb e1
   grind -lia -linarith (splits := 0)
  rw [e3, hb]
  clear ha hb e1 e2 e3
  grind -lia -linarith (splits := 0)
theorem t_of {z x y t X Y : FF} (hz : z ≠ 0) (hx : x = X * z) (hy : y = Y * z) (ht : t * z = x * y) : t = X * Y * z := by
 refine ff_cancel hz ?_
 subst hx hy
 grind -lia -linarith (splits := 0)
theorem For_padd {p q : Pn} {P Q : Pt} (hp : (toE p).For P) (hq : (toE q).For Q) : (toE (paddN p q)).For (P.add Q) := by
 obtain ⟨z1, x1, y1, t1⟩ := hp
 obtain ⟨z2, x2, y2, t2⟩ := hq
 have u1 := t_of z1 x1 y1 t1
 have u2 := t_of z2 x2 y2 t2
 have z1 : tF p.z ≠ 0 := z1
 have z2 : tF q.z ≠ 0 := z2
 have x1 : tF p.x = P.x * tF p.z := x1
 have x2 : tF q.x = Q.x * tF q.z := x2
 have y1 : tF p.y = P.y * tF p.z := y1
 have y2 : tF q.y = Q.y * tF q.z := y2
 have u1 : tF p.t = P.x * P.y * tF p.z := u1
 have u2 : tF q.t = Q.x * Q.y * tF q.z := u2
 obtain ⟨h1, h2, h3, h4⟩ := padd_gen dN_c cE_ne z1 z2 (den_ne P.on Q.on).1 (den_ne P.on Q.on).2 (add_x P Q) (add_y P Q)
 have ef : tF (nA (nM p.z q.z) (nM dN (nM p.t q.t))) = tF p.z * tF q.z + tF dN * (P.x * P.y * tF p.z * (Q.x * Q.y * tF q.z)) := by rw [tF_nA, tF_nM, tF_nM, tF_nM, u1, u2]
 have eg : tF (nS (nM p.z q.z) (nM dN (nM p.t q.t))) = tF p.z * tF q.z - tF dN * (P.x * P.y * tF p.z * (Q.x * Q.y * tF q.z)) := by rw [tF_nS, tF_nM, tF_nM, tF_nM, u1, u2]
 rw [← ef] at h1 h3
 rw [← eg] at h2 h4
 refine For_rat h1 h2 ?_ ?_
 ·rw [← h3, tF_nS, tF_nS, tF_nM, tF_nM, tF_nM, tF_nA, tF_nA, x1, x2, y1, y2]
 ·rw [← h4, tF_nA, tF_nM, tF_nM, x1, x2, y1, y2]
theorem pdbl_gen {c z X Y a b : FF} (hc : c ≠ 0) (hz : z ≠ 0) (on : X * X * Y * Y = c * (Y * Y - X * X - 1)) (k1 : c + X * X * Y * Y ≠ 0) (k2 : c - X * X * Y * Y ≠ 0) (ha : a * (c + X * X * Y * Y) = c * (X * Y + X * Y)) (hb : b * (c - X * X * Y * Y) = c * (Y * Y + X * X)) :
  Y * z * (Y * z) - X * z * (X * z) ≠ 0 ∧ z * z + z * z - (Y * z * (Y * z) - X * z * (X * z)) ≠ 0 ∧ (X * z + Y * z) * (X * z + Y * z) - (X * z * (X * z) + Y * z * (Y * z)) = a * (Y * z * (Y * z) - X * z * (X * z)) ∧ X * z * (X * z) + Y * z * (Y * z) = b * (z * z + z * z - (Y * z * (Y * z) - X * z * (X * z))) := by
 have e1 : c * (Y * z * (Y * z) - X * z * (X * z)) = z * z * (c + X * X * Y * Y) := by
  clear ha hb k1 k2 hz hc
  grind -lia -linarith (splits := 0)
 have e2 : c * (z * z + z * z - (Y * z * (Y * z) - X * z * (X * z))) = z * z * (c - X * X * Y * Y) := by
  clear ha hb k1 k2 hz hc e1
  grind -lia -linarith (splits := 0)
 have zz := ff_mul_ne hz hz
 generalize z * z + z * z - (Y * z * (Y * z) - X * z * (X * z)) = g at *
 generalize Y * z * (Y * z) - X * z * (X * z) = f at *
 have zero : c * (0 : FF) = 0 := by clear ha hb e1 e2 on; grind -lia -linarith (splits := 0)
 refine ⟨fun h => ?_, fun h => ?_, ff_cancel hc ?_, ff_cancel hc ?_⟩
 ·rw [h, zero] at e1
  exact ff_mul_ne zz k1 e1.symm
 ·rw [h, zero] at e2
  exact ff_mul_ne zz k2 e2.symm
 ·have e3 : c * (a * f) = z * z * (a * (c + X * X * Y * Y)) := by
   clear ha hb e2 on
   grind -lia -linarith (splits := 0)
  rw [e3, ha]
  clear ha hb e1 e2 e3 on
  grind -lia -linarith (splits := 0)
 ·have e3 : c * (b * g) = z * z * (b * (c - X * X * Y * Y)) := by
   clear ha hb e1 on
   grind -lia -linarith (splits := 0)
  rw [e3, hb]
  clear ha hb e1 e2 e3 on
  grind -lia -linarith (splits := 0)
theorem For_pdbl {p : Pn} {P : Pt} (hp : (toE p).For P) : (toE (pdblN p)).For (P.add P) := by
 obtain ⟨z1, x1, y1, _⟩ := hp
 have z1 : tF p.z ≠ 0 := z1
 have x1 : tF p.x = P.x * tF p.z := x1
 have y1 : tF p.y = P.y * tF p.z := y1
 obtain ⟨h1, h2, h3, h4⟩ := pdbl_gen cE_ne z1 P.on (den_ne P.on P.on).1 (den_ne P.on P.on).2 (add_x P P) (add_y P P)
 have ef : tF (nS (nM p.y p.y) (nM p.x p.x)) = P.y * tF p.z * (P.y * tF p.z) - P.x * tF p.z * (P.x * tF p.z) := by rw [tF_nS, tF_nM, tF_nM, x1, y1]
 have eg : tF (nS (nA (nM p.z p.z) (nM p.z p.z)) (nS (nM p.y p.y) (nM p.x p.x))) = tF p.z * tF p.z + tF p.z * tF p.z - (P.y * tF p.z * (P.y * tF p.z) - P.x * tF p.z * (P.x * tF p.z)) := by rw [tF_nS, ef, tF_nA, tF_nM]
 rw [← eg] at h2 h4
 rw [← ef] at h1 h3
 refine For_rat h1 h2 ?_ ?_
 ·rw [← h3, tF_nS, tF_nA, tF_nM, tF_nM, tF_nM, tF_nA, x1, y1]
 ·rw [← h4, tF_nA, tF_nM, tF_nM, x1, y1]
theorem For_pmul_at {k : Nat} {p : Pn} {P : Pt} (hk : k < 2 ^ 256) (hp : (toE p).For P) : ∀ j, j ≤ 256 → (toE (pmulN k p j)).For (Pt.mul (k / 2 ^ (256 - j)) P) := by
 intro j
 induction j with
 | zero =>
  intro _
  rw [Nat.sub_zero, Nat.div_eq_of_lt hk, pmulN, toE_neu]
  exact Exq.zero_for
 | succ j ih =>
  intro hj
  have hd := For_pdbl (ih (by omega))
  rw [← two_mul] at hd
  rw [show 256 - (j + 1) = 255 - j by omega, bit_step k j (by omega), pmulN]
  split
  ·exact For_padd hd hp
  ·exact hd
theorem For_pmul {k : Nat} {p : Pn} {P : Pt} (hk : k < 2 ^ 256) (hp : (toE p).For P) : (toE (pmulN k p 256)).For (Pt.mul k P) := by
 have := For_pmul_at hk hp 256 (Nat.le_refl _)
 rwa [Nat.sub_self, Nat.pow_zero, Nat.div_one] at this
theorem ptEight (P : Pt) : ((P.add P).add (P.add P)).add ((P.add P).add (P.add P)) = Pt.mul 8 P := by
 rw [show (8 : Nat) = 2 * (2 * (2 * 1)) from rfl, two_mul, two_mul, two_mul, Pt.mul_one]
theorem psm_iff {p : Pn} {P : Pt} (hp : (toE p).For P) : psmN p = true ↔ Pt.mul 8 P = .zero := by
 have h8 := For_pdbl (For_pdbl (For_pdbl hp))
 rw [ptEight] at h8
 obtain ⟨h1, h2, h3, _⟩ := h8
 have hl := pdblN_lt (pdblN (pdblN p))
 unfold psmN
 generalize pdblN (pdblN (pdblN p)) = r at *
 generalize Pt.mul 8 P = R at *
 have h1 : tF r.z ≠ 0 := h1
 have h2 : tF r.x = R.x * tF r.z := h2
 have h3 : tF r.y = R.y * tF r.z := h3
 rw [Bool.and_eq_true, decide_eq_true_eq, decide_eq_true_eq]
 constructor
 ·rintro ⟨a, b⟩
  rw [a, show tF 0 = 0 by decide] at h2
  rw [b] at h3
  have hx : R.x = 0 := (ff_zero h2.symm).resolve_right h1
  have hy : R.y = 1 := by
   refine ff_cancel h1 ?_
   clear h1 h2
   grind -lia -linarith (splits := 0)
  exact Pt.ext hx hy
 ·intro e
  rw [e] at h2 h3
  have h2 : tF r.x = 0 * tF r.z := h2
  have h3 : tF r.y = 1 * tF r.z := h3
  constructor
  ·refine tF_inj hl.1 pP_pos ?_
   rw [h2, show tF 0 = 0 by decide]
   clear h1 h2 h3
   grind -lia -linarith (splits := 0)
  ·refine tF_inj hl.2.1 hl.2.2.1 ?_
   rw [h3]
   clear h1 h2 h3
   grind -lia -linarith (splits := 0)
theorem enc_zero : encP .zero = 1 := by decide
theorem sma_same {n : Nat} (hn : n < 2 ^ 256) : smaN n = (rdOk n && psmN (rdP n)) := by
 unfold smaN
 rcases hk : rdOk n with _ | _
 ·rw [Bool.false_and, Bool.false_and]
 ·obtain ⟨P, hP, _⟩ := rd_enc hn hk
  rw [wr_enc (For_tim (k := 8) (by decide) hP), Bool.true_and, Bool.true_and]
  by_cases h : Pt.mul 8 P = .zero
  ·rw [(psm_iff hP).2 h, h, enc_zero]
   rfl
  ·rw [decide_eq_false fun e => h (encP_inj (e.trans enc_zero.symm))]
   rcases hq : psmN (rdP n) with _ | _
   ·rfl
   ·exact absurd ((psm_iff hP).1 hq) h
end Go.Proofs.YtdeigmjbcbjgeaaGreatDoor
namespace Go.Proofs.YtdeigmjbcbjgeaaGreatDoor
open Go.RowKit
def b4 (p : Pn) : List Int := by32 p.x ++ (by32 p.y ++ (by32 p.z ++ by32 p.t))
theorem b4_len (p : Pn) : (b4 p).length = 128 := by simp only [b4, List.length_append, byk_len]
abbrev Q4 (p : Pn) : LV := .agg (.flat .u8 (b4 p))
theorem parts4 {x y z t : List Int} (hx : x.length = 32) (hy : y.length = 32) (hz : z.length = 32) : (x ++ (y ++ (z ++ t))).take 32 = x ∧ ((x ++ (y ++ (z ++ t))).drop 32).take 32 = y ∧ ((x ++ (y ++ (z ++ t))).drop 64).take 32 = z ∧ (x ++ (y ++ (z ++ t))).drop 96 = t := by
 have d1 : (x ++ (y ++ (z ++ t))).drop 32 = y ++ (z ++ t) := List.drop_left' hx
 have d2 : (x ++ (y ++ (z ++ t))).drop 64 = z ++ t := by rw [show (64 : Nat) = 32 + 32 from rfl, ← List.drop_drop, d1, List.drop_left' hy]
 have d3 : (x ++ (y ++ (z ++ t))).drop 96 = t := by rw [show (96 : Nat) = 64 + 32 from rfl, ← List.drop_drop, d2, List.drop_left' hz]
 refine ⟨List.take_left' hx, ?_, ?_, d3⟩
 ·rw [d1, List.take_left' hy]
 ·rw [d2, List.take_left' hz]
theorem cut4b {x y z t : List Int} (hx : x.length = 32) (hy : y.length = 32) (hz : z.length = 32) (ht : t.length = 32) :
  (Cont.flat .u8 (x ++ (y ++ (z ++ t)))).cut 0 32 = some (.flat .u8 x) ∧ (Cont.flat .u8 (x ++ (y ++ (z ++ t)))).cut 32 32 = some (.flat .u8 y) ∧ (Cont.flat .u8 (x ++ (y ++ (z ++ t)))).cut 64 32 = some (.flat .u8 z) ∧ (Cont.flat .u8 (x ++ (y ++ (z ++ t)))).cut 96 32 = some (.flat .u8 t) := by
 obtain ⟨h1, h2, h3, h4⟩ := parts4 (t := t) hx hy hz
 have hl : (x ++ (y ++ (z ++ t))).length = 128 := by simp only [List.length_append]; omega
 refine ⟨?_, ?_, ?_, ?_⟩
 ·rw [cut_flat (by omega), List.drop_zero, h1]
 ·rw [cut_flat (by omega), h2]
 ·rw [cut_flat (by omega), h3]
 ·rw [cut_flat (by omega), h4, List.take_of_length_le (by omega)]
def isQ (l : List Int) : Bool := isF (l.take 32) && isF ((l.drop 32).take 32) && isF ((l.drop 64).take 32) && isF (l.drop 96)
def qnOf (l : List Int) : Pn := ⟨nb (l.take 32), nb ((l.drop 32).take 32), nb ((l.drop 64).take 32), nb (l.drop 96)⟩
theorem isQ_b4 {p : Pn} (h : p.lt) : isQ (b4 p) = true ∧ qnOf (b4 p) = p := by
 obtain ⟨h1, h2, h3, h4⟩ := h
 obtain ⟨e1, e2, e3, e4⟩ := parts4 (t := by32 p.t) (byk_len p.x 32) (byk_len p.y 32) (byk_len p.z 32)
 constructor
 ·unfold isQ b4
  rw [e1, e2, e3, e4, isF_by, isF_by, isF_by, isF_by]
  rfl
 ·unfold qnOf b4
  rw [e1, e2, e3, e4, nb_by32 (lt256 h1), nb_by32 (lt256 h2), nb_by32 (lt256 h3), nb_by32 (lt256 h4)]
theorem isQ_eq {l : List Int} (h : isQ l = true) : l = b4 (qnOf l) := by
 simp only [isQ, Bool.and_eq_true] at h
 obtain ⟨⟨⟨h1, h2⟩, h3⟩, h4⟩ := h
 unfold b4 qnOf
 simp only
 rw [← isF_eq h1, ← isF_eq h2, ← isF_eq h3, ← isF_eq h4]
 have e1 : (l.drop 64).take 32 ++ l.drop 96 = l.drop 64 := by
  rw [show l.drop 96 = (l.drop 64).drop 32 by rw [List.drop_drop], List.take_append_drop]
 have e2 : (l.drop 32).take 32 ++ l.drop 64 = l.drop 32 := by
  rw [show l.drop 64 = (l.drop 32).drop 32 by rw [List.drop_drop], List.take_append_drop]
 rw [e1, e2, List.take_append_drop]
set_option maxRecDepth 100000 in
set_option maxHeartbeats 1600000 in
theorem eSquare_call (a : Nat) (ha : a < 2 ^ 256) : CallOk Tryz.prog 76 [F a] (ret1 (F (nM a a))) := by
 refine execF_ok follows_ok EG0_ok Tryz.func76 ?_
 ((conv => whnf); repeat ((first | ((with_reducible refine isN_EG0 45 ?_); refine ⟨_, o_pMul ha ha, ?_⟩) | refine ⟨_, rfl, ?_⟩ | refine ⟨rfl, ?_⟩); conv => whnf))
 rfl
set_option maxRecDepth 100000 in
theorem build4b (x y z t : Nat) : opBuild EG0 59 [0, 1, 2, 3] [F x, F y, F z, F t] = some (Q4 ⟨x, y, z, t⟩, []) := by kernel_rfl
set_option maxRecDepth 100000 in
set_option maxHeartbeats 8000000 in
theorem eRatios_gen (e f g h x y z t V : List Int) (l_e : e.length = 32) (l_f : f.length = 32) (l_g : g.length = 32) (l_h : h.length = 32) (_ : x.length = 32) (_ : y.length = 32) (_ : z.length = 32) (_ : t.length = 32) (lV : V.length = 128)
  (h0 : EG0.orc 45 [.agg (.flat .u8 e), .agg (.flat .u8 g)] = some (ret1 (.agg (.flat .u8 x))))
  (h1 : EG0.orc 45 [.agg (.flat .u8 h), .agg (.flat .u8 f)] = some (ret1 (.agg (.flat .u8 y))))
  (h2 : EG0.orc 45 [.agg (.flat .u8 f), .agg (.flat .u8 g)] = some (ret1 (.agg (.flat .u8 z))))
  (h3 : EG0.orc 45 [.agg (.flat .u8 e), .agg (.flat .u8 h)] = some (ret1 (.agg (.flat .u8 t))))
  (hb : opBuild EG0 59 [0, 1, 2, 3] [.agg (.flat .u8 x), .agg (.flat .u8 y), .agg (.flat .u8 z), .agg (.flat .u8 t)] = some (.agg (.flat .u8 V), []))
  : execF EG0 Tryz.f81 [.agg (.flat .u8 e), .agg (.flat .u8 f), .agg (.flat .u8 g), .agg (.flat .u8 h)] (ret1 (.agg (.flat .u8 V))) := by
 have zV : layOne (.flat .u8 (List.replicate 128 0)) 0 (.flat .u8 V) = some (.flat .u8 V) := lay_all (by rw [List.length_replicate, lV]) (by omega)
 have nV : (Cont.flat .u8 V).len = 128 := lV
 have cV : (Cont.flat .u8 V).cut 0 128 = some (.flat .u8 V) := cut_all lV
 ((conv => whnf); repeat ((first | refine ⟨_, zV, ?_⟩ | refine ⟨nV, ?_⟩ | refine ⟨_, cV, ?_⟩ | ((with_reducible refine isN_EG0 45 ?_); first | refine ⟨_, h0, ?_⟩ | refine ⟨_, h1, ?_⟩ | refine ⟨_, h2, ?_⟩ | refine ⟨_, h3, ?_⟩) | refine ⟨_, rfl, ?_⟩ | refine ⟨by decide, ?_⟩ | refine ⟨rfl, ?_⟩ | refine ⟨_, cut_all (by omega), ?_⟩ | refine runs_eq hb ?_); conv => whnf))
 rfl
theorem eRatios_call (e f g h : Nat) (he : e < 2 ^ 256) (hf : f < 2 ^ 256) (hg : g < 2 ^ 256) (hh : h < 2 ^ 256) : CallOk Tryz.prog 81 [F e, F f, F g, F h] (ret1 (Q4 (ratN e f g h))) :=
 execF_ok follows_ok EG0_ok Tryz.func81 (eRatios_gen _ _ _ _ _ _ _ _ _ (byk_len _ _) (byk_len _ _) (byk_len _ _) (byk_len _ _) (byk_len _ _) (byk_len _ _) (byk_len _ _) (byk_len _ _) (b4_len _) (o_pMul he hg) (o_pMul hh hf) (o_pMul hf hg) (o_pMul he hh) (build4b _ _ _ _))
set_option maxRecDepth 100000 in
set_option maxHeartbeats 8000000 in
theorem at_gen10 (x y t u V : List Int) (l_x : x.length = 32) (l_y : y.length = 32) (_ : t.length = 32) (lV : V.length = 128)
  (hu : u = (List.replicate 32 0).set 0 1)
  (h0 : EG0.orc 45 [.agg (.flat .u8 x), .agg (.flat .u8 y)] = some (ret1 (.agg (.flat .u8 t))))
  (hb : opBuild EG0 59 [0, 1, 2, 3] [.agg (.flat .u8 x), .agg (.flat .u8 y), .agg (.flat .u8 u), .agg (.flat .u8 t)] = some (.agg (.flat .u8 V), []))
  : execF EG0 Tryz.f80 [.agg (.flat .u8 x), .agg (.flat .u8 y)] (ret1 (.agg (.flat .u8 V))) := by
 subst hu
 have zV : layOne (.flat .u8 (List.replicate 128 0)) 0 (.flat .u8 V) = some (.flat .u8 V) := lay_all (by rw [List.length_replicate, lV]) (by omega)
 have nV : (Cont.flat .u8 V).len = 128 := lV
 have cV : (Cont.flat .u8 V).cut 0 128 = some (.flat .u8 V) := cut_all lV
 ((conv => whnf); repeat ((first | refine ⟨_, zV, ?_⟩ | refine ⟨nV, ?_⟩ | refine ⟨_, cV, ?_⟩ | ((with_reducible refine isN_EG0 45 ?_); first | refine ⟨_, h0, ?_⟩) | refine ⟨_, rfl, ?_⟩ | refine ⟨by decide, ?_⟩ | refine ⟨rfl, ?_⟩ | refine ⟨_, cut_all (by omega), ?_⟩ | refine runs_eq hb ?_); conv => whnf))
 rfl
theorem by_one : by32 1 = (List.replicate 32 0).set 0 1 := by kernel_rfl
theorem eAt_call (x y : Nat) (hx : x < 2 ^ 256) (hy : y < 2 ^ 256) : CallOk Tryz.prog 80 [F x, F y] (ret1 (Q4 ⟨x, y, 1, nM x y⟩)) :=
 execF_ok follows_ok EG0_ok Tryz.func80 (at_gen10 _ _ _ _ _ (byk_len _ _) (byk_len _ _) (byk_len _ _) (b4_len _) by_one (o_pMul hx hy) (build4b _ _ _ _))
theorem eSquare_row {a : List Int} (hc : isF a = true) : CallOk Tryz.prog 76 [.agg (.flat .u8 a)] (ret1 (F (nM (nb a) (nb a)))) := by
 have h0 := hc
 clear hc
 have e0 := isF_eq h0
 have l0 := nb32_lt h0
 clear h0
 generalize nb a = n0 at *
 subst e0
 exact eSquare_call n0 l0
theorem eAt_row {a b : List Int} (hc : isF a = true ∧ isF b = true) : CallOk Tryz.prog 80 [.agg (.flat .u8 a), .agg (.flat .u8 b)] (ret1 (Q4 ⟨(nb a), (nb b), 1, nM (nb a) (nb b)⟩)) := by
 obtain ⟨h0, h1⟩ := hc
 have e0 := isF_eq h0
 have l0 := nb32_lt h0
 clear h0
 generalize nb a = n0 at *
 subst e0
 have e1 := isF_eq h1
 have l1 := nb32_lt h1
 clear h1
 generalize nb b = n1 at *
 subst e1
 exact eAt_call n0 n1 l0 l1
theorem eRatios_row {a b c d : List Int} (hc : isF a = true ∧ isF b = true ∧ isF c = true ∧ isF d = true) : CallOk Tryz.prog 81 [.agg (.flat .u8 a), .agg (.flat .u8 b), .agg (.flat .u8 c), .agg (.flat .u8 d)] (ret1 (Q4 (ratN (nb a) (nb b) (nb c) (nb d)))) := by
 obtain ⟨h0, h1, h2, h3⟩ := hc
 have e0 := isF_eq h0
 have l0 := nb32_lt h0
 clear h0
 generalize nb a = n0 at *
 subst e0
 have e1 := isF_eq h1
 have l1 := nb32_lt h1
 clear h1
 generalize nb b = n1 at *
 subst e1
 have e2 := isF_eq h2
 have l2 := nb32_lt h2
 clear h2
 generalize nb c = n2 at *
 subst e2
 have e3 := isF_eq h3
 have l3 := nb32_lt h3
 clear h3
 generalize nb d = n3 at *
 subst e3
 exact eRatios_call n0 n1 n2 n3 l0 l1 l2 l3
theorem pSqrt_row {a : List Int} (hc : isF a = true) : CallOk Tryz.prog 78 [.agg (.flat .u8 a)] (.many [.val (F (sqrtP (nb a)).1), .val (.v (.bool (sqrtP (nb a)).2))]) := by
 have h0 := hc
 clear hc
 have e0 := isF_eq h0
 have l0 := nb32_lt h0
 clear h0
 generalize nb a = n0 at *
 subst e0
 exact pSqrt_call n0 l0
def orcPE1 (f : Nat) (ds : List LV) : Option LRes :=
 match f with
 | 76 => match ds with
  | [.agg (.flat .u8 a)] => if isF a = true then some (ret1 (F (nM (nb a) (nb a)))) else none
  | _ => none
 | 80 => match ds with
  | [.agg (.flat .u8 a), .agg (.flat .u8 b)] => if isF a = true ∧ isF b = true then some (ret1 (Q4 ⟨(nb a), (nb b), 1, nM (nb a) (nb b)⟩)) else none
  | _ => none
 | 81 => match ds with
  | [.agg (.flat .u8 a), .agg (.flat .u8 b), .agg (.flat .u8 c), .agg (.flat .u8 d)] => if isF a = true ∧ isF b = true ∧ isF c = true ∧ isF d = true then some (ret1 (Q4 (ratN (nb a) (nb b) (nb c) (nb d)))) else none
  | _ => none
 | 78 => match ds with
  | [.agg (.flat .u8 a)] => if isF a = true then some (.many [.val (F (sqrtP (nb a)).1), .val (.v (.bool (sqrtP (nb a)).2))]) else none
  | _ => none
 | _ => orcG0 f ds
theorem orcPE1_ok : Known Tryz.prog orcPE1 := by
 intro f ds r h
 unfold orcPE1 at h
 split at h
 ·split at h
  ·split at h
   ·rename_i hc
    cases h
    exact .inl ⟨⟨_, Tryz.func76, name_ne _ (by kernel_rfl), rfl⟩, eSquare_row hc⟩
   ·cases h
  ·cases h
 ·split at h
  ·split at h
   ·rename_i hc
    cases h
    exact .inl ⟨⟨_, Tryz.func80, name_ne _ (by kernel_rfl), rfl⟩, eAt_row hc⟩
   ·cases h
  ·cases h
 ·split at h
  ·split at h
   ·rename_i hc
    cases h
    exact .inl ⟨⟨_, Tryz.func81, name_ne _ (by kernel_rfl), rfl⟩, eRatios_row hc⟩
   ·cases h
  ·cases h
 ·split at h
  ·split at h
   ·rename_i hc
    cases h
    exact .inl ⟨⟨_, Tryz.func78, name_ne _ (by kernel_rfl), rfl⟩, pSqrt_row hc⟩
   ·cases h
  ·cases h
 ·exact orcG0_ok f ds r h
def PE1 : Env := ⟨tyL, orcPE1, false, noWk, noOrw⟩
theorem PE1_ok : EnvOk Tryz.prog PE1 := ⟨tyL_ok, orcPE1_ok, noOrw_ok⟩
set_option maxRecDepth 100000 in
theorem o_eSquare {a : Nat} (ha : a < 2 ^ 256) : PE1.orc 76 [F a] = some (ret1 (F (nM a a))) :=
 (if_pos (isF_by _)).trans (by rw [nb_by32 ha])
set_option maxRecDepth 100000 in
theorem o_eAt {a b : Nat} (ha : a < 2 ^ 256) (hb : b < 2 ^ 256) : PE1.orc 80 [F a, F b] = some (ret1 (Q4 ⟨a, b, 1, nM a b⟩)) :=
 (if_pos ⟨isF_by _, isF_by _⟩).trans (by rw [nb_by32 ha, nb_by32 hb])
set_option maxRecDepth 100000 in
theorem o_eRatios {a b c d : Nat} (ha : a < 2 ^ 256) (hb : b < 2 ^ 256) (hc : c < 2 ^ 256) (hd : d < 2 ^ 256) : PE1.orc 81 [F a, F b, F c, F d] = some (ret1 (Q4 (ratN a b c d))) :=
 (if_pos ⟨isF_by _, isF_by _, isF_by _, isF_by _⟩).trans (by rw [nb_by32 ha, nb_by32 hb, nb_by32 hc, nb_by32 hd])
set_option maxRecDepth 100000 in
theorem o_pSqrt {a : Nat} (ha : a < 2 ^ 256) : PE1.orc 78 [F a] = some (.many [.val (F (sqrtP a).1), .val (.v (.bool (sqrtP a).2))]) :=
 (if_pos (isF_by _)).trans (by rw [nb_by32 ha])
theorem isN_PE1 (f : Nat) {ds : List LV} {K : LRes → Prop} (h : ∃ y, PE1.orc f ds = some y ∧ K y) : ∃ y, PE1.orc f ds = some y ∧ K y := h
theorem p1_Add {a b : Nat} (ha : a < 2 ^ 256) (hb : b < 2 ^ 256) : PE1.orc 77 [F a, F b] = some (ret1 (F (nA a b))) := (show PE1.orc 77 [F a, F b] = EG0.orc 77 [F a, F b] from rfl).trans (o_pAdd ha hb)
theorem p1_Sub {a b : Nat} (ha : a < 2 ^ 256) (hb : b < 2 ^ 256) : PE1.orc 79 [F a, F b] = some (ret1 (F (nS a b))) := (show PE1.orc 79 [F a, F b] = EG0.orc 79 [F a, F b] from rfl).trans (o_pSub ha hb)
theorem p1_Mul {a b : Nat} (ha : a < 2 ^ 256) (hb : b < 2 ^ 256) : PE1.orc 45 [F a, F b] = some (ret1 (F (nM a b))) := (show PE1.orc 45 [F a, F b] = EG0.orc 45 [F a, F b] from rfl).trans (o_pMul ha hb)
theorem p1_Inv {a : Nat} (ha : a < 2 ^ 256) : PE1.orc 46 [F a] = some (ret1 (F (pw a e3P))) := (show PE1.orc 46 [F a] = EG0.orc 46 [F a] from rfl).trans (o_pInv ha)
theorem p1_Can {a : Nat} (ha : a < 2 ^ 256) : PE1.orc 75 [F a] = some (ret1 (.v (.bool (decide (a < pP))))) := (show PE1.orc 75 [F a] = EG0.orc 75 [F a] from rfl).trans (o_pCanonical ha)
theorem dl_eq : by32 dN = [163, 120, 89, 19, 202, 77, 235, 117, 171, 216, 65, 65, 77, 10, 112, 0, 152, 232, 121, 119, 121, 64, 199, 140, 115, 254, 111, 43, 238, 108, 3, 82] := by kernel_rfl
set_option maxRecDepth 100000 in
set_option maxHeartbeats 8000000 in
theorem eAdd_gen (px py pz pt qx qy qz qt xx yy zz tt dt s u al d1 e f g h V : List Int) (l_px : px.length = 32) (l_py : py.length = 32) (l_pz : pz.length = 32) (l_pt : pt.length = 32) (l_qx : qx.length = 32) (l_qy : qy.length = 32) (l_qz : qz.length = 32) (l_qt : qt.length = 32) (l_xx : xx.length = 32) (l_yy : yy.length = 32) (l_zz : zz.length = 32) (_ : tt.length = 32) (l_dt : dt.length = 32) (_ : s.length = 32) (_ : u.length = 32) (l_al : al.length = 32) (_ : d1.length = 32) (l_e : e.length = 32) (_ : f.length = 32) (_ : g.length = 32) (_ : h.length = 32) (lV : V.length = 128)
  (h0 : PE1.orc 45 [.agg (.flat .u8 px), .agg (.flat .u8 qx)] = some (ret1 (.agg (.flat .u8 xx))))
  (h1 : PE1.orc 45 [.agg (.flat .u8 py), .agg (.flat .u8 qy)] = some (ret1 (.agg (.flat .u8 yy))))
  (h2 : PE1.orc 45 [.agg (.flat .u8 pz), .agg (.flat .u8 qz)] = some (ret1 (.agg (.flat .u8 zz))))
  (h3 : PE1.orc 45 [.agg (.flat .u8 pt), .agg (.flat .u8 qt)] = some (ret1 (.agg (.flat .u8 tt))))
  (h4 : PE1.orc 45 [.agg (.flat .u8 [163, 120, 89, 19, 202, 77, 235, 117, 171, 216, 65, 65, 77, 10, 112, 0, 152, 232, 121, 119, 121, 64, 199, 140, 115, 254, 111, 43, 238, 108, 3, 82]), .agg (.flat .u8 tt)] = some (ret1 (.agg (.flat .u8 dt))))
  (h5 : PE1.orc 77 [.agg (.flat .u8 px), .agg (.flat .u8 py)] = some (ret1 (.agg (.flat .u8 s))))
  (h6 : PE1.orc 77 [.agg (.flat .u8 qx), .agg (.flat .u8 qy)] = some (ret1 (.agg (.flat .u8 u))))
  (h7 : PE1.orc 45 [.agg (.flat .u8 s), .agg (.flat .u8 u)] = some (ret1 (.agg (.flat .u8 al))))
  (h8 : PE1.orc 79 [.agg (.flat .u8 al), .agg (.flat .u8 xx)] = some (ret1 (.agg (.flat .u8 d1))))
  (h9 : PE1.orc 79 [.agg (.flat .u8 d1), .agg (.flat .u8 yy)] = some (ret1 (.agg (.flat .u8 e))))
  (h10 : PE1.orc 77 [.agg (.flat .u8 zz), .agg (.flat .u8 dt)] = some (ret1 (.agg (.flat .u8 f))))
  (h11 : PE1.orc 79 [.agg (.flat .u8 zz), .agg (.flat .u8 dt)] = some (ret1 (.agg (.flat .u8 g))))
  (h12 : PE1.orc 77 [.agg (.flat .u8 yy), .agg (.flat .u8 xx)] = some (ret1 (.agg (.flat .u8 h))))
  (h13 : PE1.orc 81 [.agg (.flat .u8 e), .agg (.flat .u8 f), .agg (.flat .u8 g), .agg (.flat .u8 h)] = some (ret1 (.agg (.flat .u8 V))))
  : execF PE1 Tryz.f40 [.agg (.flat .u8 (px ++ (py ++ (pz ++ pt)))), .agg (.flat .u8 (qx ++ (qy ++ (qz ++ qt))))] (ret1 (.agg (.flat .u8 V))) := by
 obtain ⟨p1, p2, p3, p4⟩ := cut4b l_px l_py l_pz l_pt
 have lWp : (px ++ (py ++ (pz ++ pt))).length = 128 := by simp only [List.length_append]; omega
 obtain ⟨P, hP⟩ : ∃ P, P = px ++ (py ++ (pz ++ pt)) := ⟨_, rfl⟩
 rw [← hP] at p1 p2 p3 p4 lWp ⊢
 clear hP
 have cWp : (Cont.flat .u8 P).cut 0 128 = some (.flat .u8 P) := cut_all lWp
 obtain ⟨q1, q2, q3, q4⟩ := cut4b l_qx l_qy l_qz l_qt
 have lWq : (qx ++ (qy ++ (qz ++ qt))).length = 128 := by simp only [List.length_append]; omega
 obtain ⟨Q, hQ⟩ : ∃ Q, Q = qx ++ (qy ++ (qz ++ qt)) := ⟨_, rfl⟩
 rw [← hQ] at q1 q2 q3 q4 lWq ⊢
 clear hQ
 have cWq : (Cont.flat .u8 Q).cut 0 128 = some (.flat .u8 Q) := cut_all lWq
 have zV : layOne (.flat .u8 (List.replicate 128 0)) 0 (.flat .u8 V) = some (.flat .u8 V) := lay_all (by rw [List.length_replicate, lV]) (by omega)
 have nV : (Cont.flat .u8 V).len = 128 := lV
 have cV : (Cont.flat .u8 V).cut 0 128 = some (.flat .u8 V) := cut_all lV
 ((conv => whnf); repeat ((first | refine ⟨_, p1, ?_⟩ | refine ⟨_, p2, ?_⟩ | refine ⟨_, p3, ?_⟩ | refine ⟨_, p4, ?_⟩ | refine ⟨_, q1, ?_⟩ | refine ⟨_, q2, ?_⟩ | refine ⟨_, q3, ?_⟩ | refine ⟨_, q4, ?_⟩ | refine ⟨_, zV, ?_⟩ | refine ⟨nV, ?_⟩ | refine ⟨_, cV, ?_⟩ | ((with_reducible refine isN_PE1 45 ?_); first | refine ⟨_, h0, ?_⟩ | refine ⟨_, h1, ?_⟩ | refine ⟨_, h2, ?_⟩ | refine ⟨_, h3, ?_⟩ | refine ⟨_, h4, ?_⟩ | refine ⟨_, h7, ?_⟩) | ((with_reducible refine isN_PE1 77 ?_); first | refine ⟨_, h5, ?_⟩ | refine ⟨_, h6, ?_⟩ | refine ⟨_, h10, ?_⟩ | refine ⟨_, h12, ?_⟩) | ((with_reducible refine isN_PE1 79 ?_); first | refine ⟨_, h8, ?_⟩ | refine ⟨_, h9, ?_⟩ | refine ⟨_, h11, ?_⟩) | ((with_reducible refine isN_PE1 81 ?_); first | refine ⟨_, h13, ?_⟩) | refine ⟨_, rfl, ?_⟩ | refine ⟨by decide, ?_⟩ | refine ⟨rfl, ?_⟩ | refine ⟨_, cut_all (by omega), ?_⟩ | refine ⟨_, lay_all (by (try simp only); (try simp only [List.length_replicate]); (try simp only [List.length_cons]); (try simp only [List.length_nil]); omega) (by omega), ?_⟩ | refine ⟨len_flat (by omega), ?_⟩); conv => whnf))
 rfl
set_option maxRecDepth 100000 in
theorem eAdd_call (p q : Pn) (hp : p.lt) (hq : q.lt) : CallOk Tryz.prog 40 [Q4 p, Q4 q] (ret1 (Q4 (paddN p q))) := by
 obtain ⟨p1, p2, p3, p4⟩ := hp
 obtain ⟨q1, q2, q3, q4⟩ := hq
 have hd := p1_Mul (lt256 dN_lt) (nM_lt p.t q.t)
 rw [F, dl_eq] at hd
 exact execF_ok follows_ok PE1_ok Tryz.func40 (eAdd_gen _ _ _ _ _ _ _ _ _ _ _ _ _ _ _ _ _ _ _ _ _ _ (byk_len _ _) (byk_len _ _) (byk_len _ _) (byk_len _ _) (byk_len _ _) (byk_len _ _) (byk_len _ _) (byk_len _ _) (byk_len _ _) (byk_len _ _) (byk_len _ _) (byk_len _ _) (byk_len _ _) (byk_len _ _) (byk_len _ _) (byk_len _ _) (byk_len _ _) (byk_len _ _) (byk_len _ _) (byk_len _ _) (byk_len _ _) (b4_len _) (p1_Mul (lt256 p1) (lt256 q1)) (p1_Mul (lt256 p2) (lt256 q2)) (p1_Mul (lt256 p3) (lt256 q3)) (p1_Mul (lt256 p4) (lt256 q4)) hd (p1_Add (lt256 p1) (lt256 p2)) (p1_Add (lt256 q1) (lt256 q2)) (p1_Mul (nA_lt _ _) (nA_lt _ _)) (p1_Sub (nM_lt _ _) (nM_lt _ _)) (p1_Sub (nS_lt _ _) (nM_lt _ _)) (p1_Add (nM_lt _ _) (nM_lt _ _)) (p1_Sub (nM_lt _ _) (nM_lt _ _)) (p1_Add (nM_lt _ _) (nM_lt _ _)) (o_eRatios (nS_lt _ _) (nA_lt _ _) (nS_lt _ _) (nA_lt _ _)))
set_option maxRecDepth 100000 in
set_option maxHeartbeats 8000000 in
theorem eDouble_gen (px py pz pt xx yy zz h f s s2 e z2 g V : List Int) (l_px : px.length = 32) (l_py : py.length = 32) (l_pz : pz.length = 32) (l_pt : pt.length = 32) (l_xx : xx.length = 32) (l_yy : yy.length = 32) (l_zz : zz.length = 32) (l_h : h.length = 32) (l_f : f.length = 32) (_ : s.length = 32) (_ : s2.length = 32) (l_e : e.length = 32) (_ : z2.length = 32) (_ : g.length = 32) (lV : V.length = 128)
  (h0 : PE1.orc 76 [.agg (.flat .u8 px)] = some (ret1 (.agg (.flat .u8 xx))))
  (h1 : PE1.orc 76 [.agg (.flat .u8 py)] = some (ret1 (.agg (.flat .u8 yy))))
  (h2 : PE1.orc 76 [.agg (.flat .u8 pz)] = some (ret1 (.agg (.flat .u8 zz))))
  (h3 : PE1.orc 77 [.agg (.flat .u8 xx), .agg (.flat .u8 yy)] = some (ret1 (.agg (.flat .u8 h))))
  (h4 : PE1.orc 79 [.agg (.flat .u8 yy), .agg (.flat .u8 xx)] = some (ret1 (.agg (.flat .u8 f))))
  (h5 : PE1.orc 77 [.agg (.flat .u8 px), .agg (.flat .u8 py)] = some (ret1 (.agg (.flat .u8 s))))
  (h6 : PE1.orc 76 [.agg (.flat .u8 s)] = some (ret1 (.agg (.flat .u8 s2))))
  (h7 : PE1.orc 79 [.agg (.flat .u8 s2), .agg (.flat .u8 h)] = some (ret1 (.agg (.flat .u8 e))))
  (h8 : PE1.orc 77 [.agg (.flat .u8 zz), .agg (.flat .u8 zz)] = some (ret1 (.agg (.flat .u8 z2))))
  (h9 : PE1.orc 79 [.agg (.flat .u8 z2), .agg (.flat .u8 f)] = some (ret1 (.agg (.flat .u8 g))))
  (h10 : PE1.orc 81 [.agg (.flat .u8 e), .agg (.flat .u8 f), .agg (.flat .u8 g), .agg (.flat .u8 h)] = some (ret1 (.agg (.flat .u8 V))))
  : execF PE1 Tryz.f88 [.agg (.flat .u8 (px ++ (py ++ (pz ++ pt))))] (ret1 (.agg (.flat .u8 V))) := by
 obtain ⟨p1, p2, p3, p4⟩ := cut4b l_px l_py l_pz l_pt
 have lWp : (px ++ (py ++ (pz ++ pt))).length = 128 := by simp only [List.length_append]; omega
 obtain ⟨P, hP⟩ : ∃ P, P = px ++ (py ++ (pz ++ pt)) := ⟨_, rfl⟩
 rw [← hP] at p1 p2 p3 p4 lWp ⊢
 clear hP
 have cWp : (Cont.flat .u8 P).cut 0 128 = some (.flat .u8 P) := cut_all lWp
 have zV : layOne (.flat .u8 (List.replicate 128 0)) 0 (.flat .u8 V) = some (.flat .u8 V) := lay_all (by rw [List.length_replicate, lV]) (by omega)
 have nV : (Cont.flat .u8 V).len = 128 := lV
 have cV : (Cont.flat .u8 V).cut 0 128 = some (.flat .u8 V) := cut_all lV
 ((conv => whnf); repeat ((first | refine ⟨_, p1, ?_⟩ | refine ⟨_, p2, ?_⟩ | refine ⟨_, p3, ?_⟩ | refine ⟨_, zV, ?_⟩ | refine ⟨nV, ?_⟩ | refine ⟨_, cV, ?_⟩ | ((with_reducible refine isN_PE1 76 ?_); first | refine ⟨_, h0, ?_⟩ | refine ⟨_, h1, ?_⟩ | refine ⟨_, h2, ?_⟩ | refine ⟨_, h6, ?_⟩) | ((with_reducible refine isN_PE1 77 ?_); first | refine ⟨_, h3, ?_⟩ | refine ⟨_, h5, ?_⟩ | refine ⟨_, h8, ?_⟩) | ((with_reducible refine isN_PE1 79 ?_); first | refine ⟨_, h4, ?_⟩ | refine ⟨_, h7, ?_⟩ | refine ⟨_, h9, ?_⟩) | ((with_reducible refine isN_PE1 81 ?_); first | refine ⟨_, h10, ?_⟩) | refine ⟨_, rfl, ?_⟩ | refine ⟨by decide, ?_⟩ | refine ⟨rfl, ?_⟩ | refine ⟨_, cut_all (by omega), ?_⟩ | refine ⟨_, lay_all (by (try simp only); (try simp only [List.length_replicate]); (try simp only [List.length_cons]); (try simp only [List.length_nil]); omega) (by omega), ?_⟩ | refine ⟨len_flat (by omega), ?_⟩); conv => whnf))
 rfl
set_option maxRecDepth 100000 in
theorem eDouble_call (p : Pn) (hp : p.lt) : CallOk Tryz.prog 88 [Q4 p] (ret1 (Q4 (pdblN p))) := by
 obtain ⟨p1, p2, p3, _⟩ := hp
 exact execF_ok follows_ok PE1_ok Tryz.func88 (eDouble_gen _ _ _ _ _ _ _ _ _ _ _ _ _ _ _ (byk_len _ _) (byk_len _ _) (byk_len _ _) (byk_len _ _) (byk_len _ _) (byk_len _ _) (byk_len _ _) (byk_len _ _) (byk_len _ _) (byk_len _ _) (byk_len _ _) (byk_len _ _) (byk_len _ _) (byk_len _ _) (b4_len _) (o_eSquare (lt256 p1)) (o_eSquare (lt256 p2)) (o_eSquare (lt256 p3)) (p1_Add (nM_lt _ _) (nM_lt _ _)) (p1_Sub (nM_lt _ _) (nM_lt _ _)) (p1_Add (lt256 p1) (lt256 p2)) (o_eSquare (nA_lt _ _)) (p1_Sub (nM_lt _ _) (nA_lt _ _)) (p1_Add (nM_lt _ _) (nM_lt _ _)) (p1_Sub (nA_lt _ _) (nS_lt _ _)) (o_eRatios (nS_lt _ _) (nS_lt _ _) (nS_lt _ _) (nA_lt _ _)))
theorem lay4b {x y z t u v : List Int} (hx : x.length = 32) (hy : y.length = 32) (hz : z.length = 32) (ht : t.length = 32) (hu : u.length = 32) (hv : v.length = 32) :
  layOne (.flat .u8 (x ++ (y ++ (z ++ t)))) 0 (.flat .u8 u) = some (.flat .u8 (u ++ (y ++ (z ++ t)))) ∧ layOne (.flat .u8 (u ++ (y ++ (z ++ t)))) 96 (.flat .u8 v) = some (.flat .u8 (u ++ (y ++ (z ++ v)))) := by
 have l1 : (x ++ (y ++ (z ++ t))).length = 128 := by simp only [List.length_append]; omega
 have l2 : (u ++ (y ++ (z ++ t))).length = 128 := by simp only [List.length_append]; omega
 constructor
 ·rw [lay_flat (by omega) (by omega), hu, List.take_zero, List.nil_append, Nat.zero_add, List.drop_left' hx]
 ·rw [lay_flat (by omega) (by omega), hv, List.drop_of_length_le (by omega), List.append_nil]
  have h1 : (u ++ (y ++ (z ++ t))).take 96 = u ++ (y ++ z) := by
   rw [show u ++ (y ++ (z ++ t)) = (u ++ (y ++ z)) ++ t by simp only [List.append_assoc]]
   exact List.take_left' (by simp only [List.length_append]; omega)
  rw [h1]
  simp only [List.append_assoc]
set_option maxRecDepth 100000 in
set_option maxHeartbeats 8000000 in
theorem eNeg_gen (x y z t u v : List Int) (lx : x.length = 32) (ly : y.length = 32) (lz : z.length = 32) (lt : t.length = 32) (lu : u.length = 32) (lv : v.length = 32)
  (h0 : PE1.orc 79 [.agg (.flat .u8 (List.replicate 32 0)), .agg (.flat .u8 x)] = some (ret1 (.agg (.flat .u8 u)))) (h1 : PE1.orc 79 [.agg (.flat .u8 (List.replicate 32 0)), .agg (.flat .u8 t)] = some (ret1 (.agg (.flat .u8 v)))) : execF PE1 Tryz.f61 [.agg (.flat .u8 (x ++ (y ++ (z ++ t))))] (ret1 (.agg (.flat .u8 (u ++ (y ++ (z ++ v)))))) := by
 obtain ⟨c0, _, _, c3⟩ := cut4b lx ly lz lt
 obtain ⟨y0, y1⟩ := lay4b lx ly lz lt lu lv
 obtain ⟨P, hP⟩ : ∃ P, P = x ++ (y ++ (z ++ t)) := ⟨_, rfl⟩
 obtain ⟨Q, hQ⟩ : ∃ Q, Q = u ++ (y ++ (z ++ t)) := ⟨_, rfl⟩
 obtain ⟨V, hV⟩ : ∃ V, V = u ++ (y ++ (z ++ v)) := ⟨_, rfl⟩
 have lV : V.length = 128 := by rw [hV, List.length_append, List.length_append, List.length_append]; omega
 have lQ : Q.length = 128 := by rw [hQ, List.length_append, List.length_append, List.length_append]; omega
 rw [← hV] at y1 ⊢
 rw [← hQ] at y0 y1
 rw [← hP] at y0 c0 c3 ⊢
 clear hP hQ hV
 have zV : layOne (.flat .u8 (List.replicate 128 0)) 0 (.flat .u8 V) = some (.flat .u8 V) := lay_all (by rw [List.length_replicate, lV]) (by omega)
 have nV : (Cont.flat .u8 V).len = 128 := lV
 have cV : (Cont.flat .u8 V).cut 0 128 = some (.flat .u8 V) := cut_all lV
 ((conv => whnf); repeat ((first | refine ⟨_, c0, ?_⟩ | refine ⟨_, c3, ?_⟩ | refine ⟨_, y0, ?_⟩ | refine ⟨_, y1, ?_⟩ | refine ⟨_, zV, ?_⟩ | refine ⟨_, cV, ?_⟩ | refine ⟨nV, ?_⟩ | ((with_reducible refine isN_PE1 79 ?_); first | refine ⟨_, h0, ?_⟩ | refine ⟨_, h1, ?_⟩) | refine ⟨_, rfl, ?_⟩ | refine ⟨by decide, ?_⟩ | refine ⟨rfl, ?_⟩ | refine ⟨len_flat (by omega), ?_⟩); conv => whnf))
 rfl
theorem eNeg_call (p : Pn) (hp : p.lt) : CallOk Tryz.prog 61 [Q4 p] (ret1 (Q4 (oppN p))) := by
 have h0 := p1_Sub (show 0 < 2 ^ 256 by decide) (lt256 hp.1)
 have h1 := p1_Sub (show 0 < 2 ^ 256 by decide) (lt256 hp.2.2.2)
 rw [F, by32_z] at h0 h1
 exact execF_ok follows_ok PE1_ok Tryz.func61 (eNeg_gen (by32 p.x) (by32 p.y) (by32 p.z) (by32 p.t) _ _ (byk_len _ _) (byk_len _ _) (byk_len _ _) (byk_len _ _) (byk_len _ _) (byk_len _ _) h0 h1)
set_option maxRecDepth 100000 in
set_option maxHeartbeats 1600000 in
theorem eNeu_call : CallOk Tryz.prog 90 [] (ret1 (Q4 neuN)) := by
 have h0 := o_eAt (show 0 < 2 ^ 256 by decide) (show 1 < 2 ^ 256 by decide)
 rw [show (⟨0, 1, 1, nM 0 1⟩ : Pn) = neuN from Pn.ext rfl rfl rfl (show nM 0 1 = 0 by decide), F, F, by32_z, by_one] at h0
 have lV := b4_len neuN
 rw [Q4] at h0 ⊢
 generalize b4 neuN = V at *
 have zV : layOne (.flat .u8 (List.replicate 128 0)) 0 (.flat .u8 V) = some (.flat .u8 V) := lay_all (by rw [List.length_replicate, lV]) (by omega)
 have nV : (Cont.flat .u8 V).len = 128 := lV
 have cV : (Cont.flat .u8 V).cut 0 128 = some (.flat .u8 V) := cut_all lV
 refine execF_ok follows_ok PE1_ok Tryz.func90 ?_
 ((conv => whnf); repeat ((first | refine ⟨_, zV, ?_⟩ | refine ⟨_, cV, ?_⟩ | refine ⟨nV, ?_⟩ | ((with_reducible refine isN_PE1 80 ?_); refine ⟨_, h0, ?_⟩) | refine ⟨_, rfl, ?_⟩ | refine ⟨rfl, ?_⟩); conv => whnf))
 rfl
end Go.Proofs.YtdeigmjbcbjgeaaGreatDoor
