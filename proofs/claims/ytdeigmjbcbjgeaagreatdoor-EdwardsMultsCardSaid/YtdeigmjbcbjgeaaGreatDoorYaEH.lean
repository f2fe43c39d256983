/-
  Layer 10: the program's sums, doubles and multiples, as points.
-/
import Derived.Test.YtdeigmjbcbjgeaaGreatDoorYaED
namespace Go.Proofs.YtdeigmjbcbjgeaaGreatDoor
open Go.RowKit
set_option maxRecDepth 100000

/-- (e / f, h / g). -/
def ratN (e f g h : Nat) : Pn := ⟨nM e g, nM h f, nM f g, nM e h⟩
theorem ratN_lt (e f g h : Nat) : (ratN e f g h).lt := ⟨nM_lp _ _, nM_lp _ _, nM_lp _ _, nM_lp _ _⟩
def paddN (p q : Pn) : Pn := ratN (nS (nS (nM (nA p.x p.y) (nA q.x q.y)) (nM p.x q.x)) (nM p.y q.y)) (nA (nM p.z q.z) (nM dN (nM p.t q.t))) (nS (nM p.z q.z) (nM dN (nM p.t q.t))) (nA (nM p.y q.y) (nM p.x q.x))
def pdblN (p : Pn) : Pn := ratN (nS (nM (nA p.x p.y) (nA p.x p.y)) (nA (nM p.x p.x) (nM p.y p.y))) (nS (nM p.y p.y) (nM p.x p.x)) (nS (nA (nM p.z p.z) (nM p.z p.z)) (nS (nM p.y p.y) (nM p.x p.x))) (nA (nM p.x p.x) (nM p.y p.y))
def pmulN (k : Nat) (p : Pn) : Nat → Pn
  | 0 => neuN
  | j + 1 => if k.testBit (255 - j) then paddN (pdblN (pmulN k p j)) p else pdblN (pmulN k p j)
theorem paddN_lt (p q : Pn) : (paddN p q).lt := ratN_lt _ _ _ _
theorem pdblN_lt (p : Pn) : (pdblN p).lt := ratN_lt _ _ _ _
theorem pmulN_lt (k : Nat) (p : Pn) : ∀ j, (pmulN k p j).lt
  | 0 => neuN_lt
  | j + 1 => by
    rw [pmulN]
    split
    · exact paddN_lt _ _
    · exact pdblN_lt _
/-- Whether 8 times the point is neutral. -/
def psmN (p : Pn) : Bool := decide ((pdblN (pdblN (pdblN p))).x = 0) && decide ((pdblN (pdblN (pdblN p))).y = (pdblN (pdblN (pdblN p))).z)
theorem For_rat {e f g h : Nat} {R : Pt} (hf : tF f ≠ 0) (hg : tF g ≠ 0) (he : tF e = R.x * tF f) (hh : tF h = R.y * tF g) : (toE (ratN e f g h)).For R := by
  refine ⟨?_, ?_, ?_, ?_⟩
  · show tF (nM f g) ≠ 0
    rw [tF_nM]
    exact ff_mul_ne hf hg
  · show tF (nM e g) = R.x * tF (nM f g)
    rw [tF_nM, tF_nM, he]
    clear hf hg he hh
    grind -lia -linarith (splits := 0)
  · show tF (nM h f) = R.y * tF (nM f g)
    rw [tF_nM, tF_nM, hh]
    clear hf hg he hh
    grind -lia -linarith (splits := 0)
  · show tF (nM e h) * tF (nM f g) = tF (nM e g) * tF (nM h f)
    rw [tF_nM, tF_nM, tF_nM, tF_nM]
    clear hf hg he hh
    grind -lia -linarith (splits := 0)
theorem padd_gen {c d z w X Y X' Y' a b : FF} (hd : d * c = 1) (hc : c ≠ 0) (hz : z ≠ 0) (hw : w ≠ 0) (k1 : c + X * X' * Y * Y' ≠ 0) (k2 : c - X * X' * Y * Y' ≠ 0) (ha : a * (c + X * X' * Y * Y') = c * (X * Y' + X' * Y)) (hb : b * (c - X * X' * Y * Y') = c * (Y * Y' + X * X')) :
    z * w + d * (X * Y * z * (X' * Y' * w)) ≠ 0 ∧ z * w - d * (X * Y * z * (X' * Y' * w)) ≠ 0 ∧ (X * z + Y * z) * (X' * w + Y' * w) - X * z * (X' * w) - Y * z * (Y' * w) = a * (z * w + d * (X * Y * z * (X' * Y' * w))) ∧ Y * z * (Y' * w) + X * z * (X' * w) = b * (z * w - d * (X * Y * z * (X' * Y' * w))) := by
  have e1 : c * (z * w + d * (X * Y * z * (X' * Y' * w))) = z * w * (c + X * X' * Y * Y') := by
    clear ha hb k1 k2 hz hw hc
    grind -lia -linarith (splits := 0)
  have e2 : c * (z * w - d * (X * Y * z * (X' * Y' * w))) = z * w * (c - X * X' * Y * Y') := by
    clear ha hb k1 k2 hz hw hc
    grind -lia -linarith (splits := 0)
  have zw := ff_mul_ne hz hw
  generalize z * w + d * (X * Y * z * (X' * Y' * w)) = f at *
  generalize z * w - d * (X * Y * z * (X' * Y' * w)) = g at *
  have zero : c * (0 : FF) = 0 := by clear ha hb e1 e2; grind -lia -linarith (splits := 0)
  refine ⟨fun h => ?_, fun h => ?_, ff_cancel hc ?_, ff_cancel hc ?_⟩
  · rw [h, zero] at e1
    exact ff_mul_ne zw k1 e1.symm
  · rw [h, zero] at e2
    exact ff_mul_ne zw k2 e2.symm
  · have e3 : c * (a * f) = z * w * (a * (c + X * X' * Y * Y')) := by
      clear ha hb e2
      grind -lia -linarith (splits := 0)
    rw [e3, ha]
    clear ha hb e1 e2 e3
    grind -lia -linarith (splits := 0)
  · have e3 : c * (b * g) = z * w * (b * (c - X * X' * Y * Y')) := by
      clear ha hb e1
      grind -lia -linarith (splits := 0)
    rw [e3, hb]
    clear ha hb e1 e2 e3
    grind -lia -linarith (splits := 0)
theorem t_of {z x y t X Y : FF} (hz : z ≠ 0) (hx : x = X * z) (hy : y = Y * z) (ht : t * z = x * y) : t = X * Y * z := by
  refine ff_cancel hz ?_
  subst hx hy
  grind -lia -linarith (splits := 0)
theorem For_padd {p q : Pn} {P Q : Pt} (hp : (toE p).For P) (hq : (toE q).For Q) : (toE (paddN p q)).For (P.add Q) := by
  obtain ⟨z1, x1, y1, t1⟩ := hp
  obtain ⟨z2, x2, y2, t2⟩ := hq
  have u1 := t_of z1 x1 y1 t1
  have u2 := t_of z2 x2 y2 t2
  have z1 : tF p.z ≠ 0 := z1
  have z2 : tF q.z ≠ 0 := z2
  have x1 : tF p.x = P.x * tF p.z := x1
  have x2 : tF q.x = Q.x * tF q.z := x2
  have y1 : tF p.y = P.y * tF p.z := y1
  have y2 : tF q.y = Q.y * tF q.z := y2
  have u1 : tF p.t = P.x * P.y * tF p.z := u1
  have u2 : tF q.t = Q.x * Q.y * tF q.z := u2
  obtain ⟨h1, h2, h3, h4⟩ := padd_gen dN_c cE_ne z1 z2 (den_ne P.on Q.on).1 (den_ne P.on Q.on).2 (add_x P Q) (add_y P Q)
  have ef : tF (nA (nM p.z q.z) (nM dN (nM p.t q.t))) = tF p.z * tF q.z + tF dN * (P.x * P.y * tF p.z * (Q.x * Q.y * tF q.z)) := by rw [tF_nA, tF_nM, tF_nM, tF_nM, u1, u2]
  have eg : tF (nS (nM p.z q.z) (nM dN (nM p.t q.t))) = tF p.z * tF q.z - tF dN * (P.x * P.y * tF p.z * (Q.x * Q.y * tF q.z)) := by rw [tF_nS, tF_nM, tF_nM, tF_nM, u1, u2]
  rw [← ef] at h1 h3
  rw [← eg] at h2 h4
  refine For_rat h1 h2 ?_ ?_
  · rw [← h3, tF_nS, tF_nS, tF_nM, tF_nM, tF_nM, tF_nA, tF_nA, x1, x2, y1, y2]
  · rw [← h4, tF_nA, tF_nM, tF_nM, x1, x2, y1, y2]
theorem pdbl_gen {c z X Y a b : FF} (hc : c ≠ 0) (hz : z ≠ 0) (on : X * X * Y * Y = c * (Y * Y - X * X - 1)) (k1 : c + X * X * Y * Y ≠ 0) (k2 : c - X * X * Y * Y ≠ 0) (ha : a * (c + X * X * Y * Y) = c * (X * Y + X * Y)) (hb : b * (c - X * X * Y * Y) = c * (Y * Y + X * X)) :
    Y * z * (Y * z) - X * z * (X * z) ≠ 0 ∧ z * z + z * z - (Y * z * (Y * z) - X * z * (X * z)) ≠ 0 ∧ (X * z + Y * z) * (X * z + Y * z) - (X * z * (X * z) + Y * z * (Y * z)) = a * (Y * z * (Y * z) - X * z * (X * z)) ∧ X * z * (X * z) + Y * z * (Y * z) = b * (z * z + z * z - (Y * z * (Y * z) - X * z * (X * z))) := by
  have e1 : c * (Y * z * (Y * z) - X * z * (X * z)) = z * z * (c + X * X * Y * Y) := by
    clear ha hb k1 k2 hz hc
    grind -lia -linarith (splits := 0)
  have e2 : c * (z * z + z * z - (Y * z * (Y * z) - X * z * (X * z))) = z * z * (c - X * X * Y * Y) := by
    clear ha hb k1 k2 hz hc e1
    grind -lia -linarith (splits := 0)
  have zz := ff_mul_ne hz hz
  generalize z * z + z * z - (Y * z * (Y * z) - X * z * (X * z)) = g at *
  generalize Y * z * (Y * z) - X * z * (X * z) = f at *
  have zero : c * (0 : FF) = 0 := by clear ha hb e1 e2 on; grind -lia -linarith (splits := 0)
  refine ⟨fun h => ?_, fun h => ?_, ff_cancel hc ?_, ff_cancel hc ?_⟩
  · rw [h, zero] at e1
    exact ff_mul_ne zz k1 e1.symm
  · rw [h, zero] at e2
    exact ff_mul_ne zz k2 e2.symm
  · have e3 : c * (a * f) = z * z * (a * (c + X * X * Y * Y)) := by
      clear ha hb e2 on
      grind -lia -linarith (splits := 0)
    rw [e3, ha]
    clear ha hb e1 e2 e3 on
    grind -lia -linarith (splits := 0)
  · have e3 : c * (b * g) = z * z * (b * (c - X * X * Y * Y)) := by
      clear ha hb e1 on
      grind -lia -linarith (splits := 0)
    rw [e3, hb]
    clear ha hb e1 e2 e3 on
    grind -lia -linarith (splits := 0)
theorem For_pdbl {p : Pn} {P : Pt} (hp : (toE p).For P) : (toE (pdblN p)).For (P.add P) := by
  obtain ⟨z1, x1, y1, _⟩ := hp
  have z1 : tF p.z ≠ 0 := z1
  have x1 : tF p.x = P.x * tF p.z := x1
  have y1 : tF p.y = P.y * tF p.z := y1
  obtain ⟨h1, h2, h3, h4⟩ := pdbl_gen cE_ne z1 P.on (den_ne P.on P.on).1 (den_ne P.on P.on).2 (add_x P P) (add_y P P)
  have ef : tF (nS (nM p.y p.y) (nM p.x p.x)) = P.y * tF p.z * (P.y * tF p.z) - P.x * tF p.z * (P.x * tF p.z) := by rw [tF_nS, tF_nM, tF_nM, x1, y1]
  have eg : tF (nS (nA (nM p.z p.z) (nM p.z p.z)) (nS (nM p.y p.y) (nM p.x p.x))) = tF p.z * tF p.z + tF p.z * tF p.z - (P.y * tF p.z * (P.y * tF p.z) - P.x * tF p.z * (P.x * tF p.z)) := by rw [tF_nS, ef, tF_nA, tF_nM]
  rw [← eg] at h2 h4
  rw [← ef] at h1 h3
  refine For_rat h1 h2 ?_ ?_
  · rw [← h3, tF_nS, tF_nA, tF_nM, tF_nM, tF_nM, tF_nA, x1, y1]
  · rw [← h4, tF_nA, tF_nM, tF_nM, x1, y1]
theorem For_pmul_at {k : Nat} {p : Pn} {P : Pt} (hk : k < 2 ^ 256) (hp : (toE p).For P) : ∀ j, j ≤ 256 → (toE (pmulN k p j)).For (Pt.mul (k / 2 ^ (256 - j)) P) := by
  intro j
  induction j with
  | zero =>
    intro _
    rw [Nat.sub_zero, Nat.div_eq_of_lt hk, pmulN, toE_neu]
    exact Exq.zero_for
  | succ j ih =>
    intro hj
    have hd := For_pdbl (ih (by omega))
    rw [← two_mul] at hd
    rw [show 256 - (j + 1) = 255 - j by omega, bit_step k j (by omega), pmulN]
    split
    · exact For_padd hd hp
    · exact hd
theorem For_pmul {k : Nat} {p : Pn} {P : Pt} (hk : k < 2 ^ 256) (hp : (toE p).For P) : (toE (pmulN k p 256)).For (Pt.mul k P) := by
  have := For_pmul_at hk hp 256 (Nat.le_refl _)
  rwa [Nat.sub_self, Nat.pow_zero, Nat.div_one] at this
theorem ptEight (P : Pt) : ((P.add P).add (P.add P)).add ((P.add P).add (P.add P)) = Pt.mul 8 P := by
  rw [show (8 : Nat) = 2 * (2 * (2 * 1)) from rfl, two_mul, two_mul, two_mul, Pt.mul_one]
theorem psm_iff {p : Pn} {P : Pt} (hp : (toE p).For P) : psmN p = true ↔ Pt.mul 8 P = .zero := by
  have h8 := For_pdbl (For_pdbl (For_pdbl hp))
  rw [ptEight] at h8
  obtain ⟨h1, h2, h3, _⟩ := h8
  have hl := pdblN_lt (pdblN (pdblN p))
  unfold psmN
  generalize pdblN (pdblN (pdblN p)) = r at *
  generalize Pt.mul 8 P = R at *
  have h1 : tF r.z ≠ 0 := h1
  have h2 : tF r.x = R.x * tF r.z := h2
  have h3 : tF r.y = R.y * tF r.z := h3
  rw [Bool.and_eq_true, decide_eq_true_eq, decide_eq_true_eq]
  constructor
  · rintro ⟨a, b⟩
    rw [a, show tF 0 = 0 by decide] at h2
    rw [b] at h3
    have hx : R.x = 0 := (ff_zero h2.symm).resolve_right h1
    have hy : R.y = 1 := by
      refine ff_cancel h1 ?_
      clear h1 h2
      grind -lia -linarith (splits := 0)
    exact Pt.ext hx hy
  · intro e
    rw [e] at h2 h3
    have h2 : tF r.x = 0 * tF r.z := h2
    have h3 : tF r.y = 1 * tF r.z := h3
    constructor
    · refine tF_inj hl.1 pP_pos ?_
      rw [h2, show tF 0 = 0 by decide]
      clear h1 h2 h3
      grind -lia -linarith (splits := 0)
    · refine tF_inj hl.2.1 hl.2.2.1 ?_
      rw [h3]
      clear h1 h2 h3
      grind -lia -linarith (splits := 0)
theorem enc_zero : encP .zero = 1 := by decide
/-- The answer's way to see a point of small order. -/
theorem sma_same {n : Nat} (hn : n < 2 ^ 256) : smaN n = (rdOk n && psmN (rdP n)) := by
  unfold smaN
  rcases hk : rdOk n with _ | _
  · rw [Bool.false_and, Bool.false_and]
  · obtain ⟨P, hP, _⟩ := rd_enc hn hk
    rw [wr_enc (For_tim (k := 8) (by decide) hP), Bool.true_and, Bool.true_and]
    by_cases h : Pt.mul 8 P = .zero
    · rw [(psm_iff hP).2 h, h, enc_zero]
      rfl
    · rw [decide_eq_false fun e => h (encP_inj (e.trans enc_zero.symm))]
      rcases hq : psmN (rdP n) with _ | _
      · rfl
      · exact absurd ((psm_iff hP).1 hq) h
end Go.Proofs.YtdeigmjbcbjgeaaGreatDoor
