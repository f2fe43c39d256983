/-
  Layers 9 and 10: the base point and its order; the ladder's step on the curve.
-/
import Derived.Test.YtdeigmjbcbjgeaaGreatDoorYaGA
namespace Go.Proofs.YtdeigmjbcbjgeaaGreatDoor
structure Exq where
  X : FF
  Y : FF
  Z : FF
  T : FF
/-- Four numbers stand for a point. -/
def Exq.For (e : Exq) (P : Pt) : Prop := e.Z ≠ 0 ∧ e.X = P.x * e.Z ∧ e.Y = P.y * e.Z ∧ e.T * e.Z = e.X * e.Y
/-- The sum, with k = 2 d, of c = 1 / d. -/
def Exq.add (k : FF) (a b : Exq) : Exq :=
  let A := (a.Y - a.X) * (b.Y - b.X)
  let B := (a.Y + a.X) * (b.Y + b.X)
  let C := a.T * b.T * k
  let Z := a.Z * b.Z
  let D := Z + Z
  ⟨(B - A) * (D - C), (D + C) * (B + A), (D - C) * (D + C), (B - A) * (B + A)⟩
theorem ext_t {t x y z : FF} (h : z ≠ 0) (e : t * z = x * z * (y * z)) : t = x * (y * z) := ff_cancel h (by grind -lia -linarith (splits := 0))
theorem ext_gen {c k x1 y1 z1 t1 x2 y2 z2 t2 X Y : FF} (hk : k * c = 2) (h1 : z1 ≠ 0) (h2 : z2 ≠ 0) (hc : c ≠ 0) (e1 : t1 * z1 = x1 * z1 * (y1 * z1)) (e2 : t2 * z2 = x2 * z2 * (y2 * z2)) (hu : c + x1 * x2 * y1 * y2 ≠ 0) (hv : c - x1 * x2 * y1 * y2 ≠ 0)
    (hX : X * (c + x1 * x2 * y1 * y2) = c * (x1 * y2 + x2 * y1)) (hY : Y * (c - x1 * x2 * y1 * y2) = c * (y1 * y2 + x1 * x2)) :
    ∀ A B C D : FF, A = (y1 * z1 - x1 * z1) * (y2 * z2 - x2 * z2) → B = (y1 * z1 + x1 * z1) * (y2 * z2 + x2 * z2) → C = t1 * t2 * k → D = z1 * z2 + z1 * z2 →
    (D - C) * (D + C) ≠ 0 ∧ (B - A) * (D - C) = X * ((D - C) * (D + C)) ∧ (D + C) * (B + A) = Y * ((D - C) * (D + C)) ∧ (B - A) * (B + A) * ((D - C) * (D + C)) = (B - A) * (D - C) * ((D + C) * (B + A)) := by
  intro A B C D hA hB hC hD
  have g1 := ext_t h1 e1
  have g2 := ext_t h2 e2
  clear e1 e2
  have hz := ff_mul_ne h1 h2
  have d1 : c * (D - C) = 2 * (z1 * z2) * (c - x1 * x2 * y1 * y2) := by rw [hD, hC, g1, g2]; clear hX hY hA hB hC hD; grind -lia -linarith (splits := 0)
  have d2 : c * (D + C) = 2 * (z1 * z2) * (c + x1 * x2 * y1 * y2) := by rw [hD, hC, g1, g2]; clear hX hY hA hB hC hD; grind -lia -linarith (splits := 0)
  have d3 : B - A = 2 * (z1 * z2) * (x1 * y2 + x2 * y1) := by rw [hA, hB]; clear hX hY hA hB hC hD; grind -lia -linarith (splits := 0)
  have d4 : B + A = 2 * (z1 * z2) * (y1 * y2 + x1 * x2) := by rw [hA, hB]; clear hX hY hA hB hC hD; grind -lia -linarith (splits := 0)
  clear hA hB hC hD g1 g2 hk
  generalize D - C = F at *
  generalize D + C = E at *
  generalize B - A = I at *
  generalize B + A = J at *
  generalize x1 * y2 + x2 * y1 = n at *
  generalize y1 * y2 + x1 * x2 = m at *
  generalize c + x1 * x2 * y1 * y2 = u at *
  generalize c - x1 * x2 * y1 * y2 = v at *
  generalize z1 * z2 = z at *
  have h2z : 2 * z ≠ 0 := ff_mul_ne ff_two hz
  refine ⟨?_, ?_, ?_, ?_⟩
  · intro e
    rcases ff_zero e with e | e
    · rw [e] at d1
      exact ff_mul_ne h2z hv (by grind -lia -linarith (splits := 0))
    · rw [e] at d2
      exact ff_mul_ne h2z hu (by grind -lia -linarith (splits := 0))
  · refine ff_cancel hc ?_
    have : c * (X * (F * E)) = X * F * (c * E) := by grind -lia -linarith (splits := 0)
    rw [this, d2, d3]
    have : X * F * (2 * z * u) = F * (2 * z) * (X * u) := by grind -lia -linarith (splits := 0)
    rw [this, hX]
    grind -lia -linarith (splits := 0)
  · refine ff_cancel hc ?_
    have : c * (Y * (F * E)) = Y * E * (c * F) := by grind -lia -linarith (splits := 0)
    rw [this, d1, d4]
    have : Y * E * (2 * z * v) = E * (2 * z) * (Y * v) := by grind -lia -linarith (splits := 0)
    rw [this, hY]
    grind -lia -linarith (splits := 0)
  · grind -lia -linarith (splits := 0)
theorem Exq.add_for {k : FF} (hk : k * cE = 2) {a b : Exq} {P Q : Pt} (ha : a.For P) (hb : b.For Q) : (a.add k b).For (P.add Q) := by
  obtain ⟨a1, a2, a3, a4⟩ := ha
  obtain ⟨b1, b2, b3, b4⟩ := hb
  obtain ⟨X, Y, Z, T⟩ := a
  obtain ⟨X', Y', Z', T'⟩ := b
  simp only at a1 a2 a3 a4 b1 b2 b3 b4
  subst a2 a3 b2 b3
  exact ext_gen hk a1 b1 cE_ne a4 b4 (den_ne P.on Q.on).1 (den_ne P.on Q.on).2 (add_x P Q) (add_y P Q) _ _ _ _ rfl rfl rfl rfl
def Exq.zero : Exq := ⟨0, 1, 1, 0⟩
theorem Exq.zero_for : Exq.zero.For .zero := ⟨by decide, by decide, by decide, by decide⟩
def Pt.toE (P : Pt) : Exq := ⟨P.x, P.y, 1, P.x * P.y⟩
/-- The multiple, from bit 255 on. -/
def Exq.mulk (k : FF) (n : Nat) (e : Exq) : Nat → Exq
  | 0 => .zero
  | j + 1 =>
    let d := (mulk k n e j).add k (mulk k n e j)
    if n.testBit (255 - j) then d.add k e else d
theorem two_mul (n : Nat) (P : Pt) : Pt.mul (2 * n) P = (Pt.mul n P).add (Pt.mul n P) := by rw [Nat.two_mul, Pt.mul_add]
theorem bit_step (n j : Nat) (hj : j < 256) : n / 2 ^ (255 - j) = 2 * (n / 2 ^ (256 - j)) + if n.testBit (255 - j) then 1 else 0 := by
  have h1 : n / 2 ^ (256 - j) = n / 2 ^ (255 - j) / 2 := by
    rw [Nat.div_div_eq_div_mul, ← Nat.pow_succ]
    congr 2
    omega
  rw [Nat.testBit_eq_decide_div_mod_eq, h1]
  generalize n / 2 ^ (255 - j) = y
  by_cases h : y % 2 = 1
  · rw [if_pos (decide_eq_true h)]; omega
  · rw [if_neg (by simpa using h)]; omega
theorem Exq.mulk_for {k : FF} (hk : k * cE = 2) {n : Nat} {e : Exq} {P : Pt} (hn : n < 2 ^ 256) (he : e.For P) : ∀ j, j ≤ 256 → (Exq.mulk k n e j).For (Pt.mul (n / 2 ^ (256 - j)) P) := by
  intro j
  induction j with
  | zero =>
    intro _
    rw [Nat.sub_zero, Nat.div_eq_of_lt hn]
    exact Exq.zero_for
  | succ j ih =>
    intro hj
    have ih := ih (by omega)
    have hd := Exq.add_for hk ih ih
    rw [← two_mul] at hd
    rw [show 256 - (j + 1) = 255 - j by omega, bit_step n j (by omega), mulk]
    split
    · exact Exq.add_for hk hd he
    · exact hd
theorem Exq.mulk_all {k : FF} (hk : k * cE = 2) {n : Nat} {e : Exq} {P : Pt} (hn : n < 2 ^ 256) (he : e.For P) : (Exq.mulk k n e 256).For (Pt.mul n P) := by
  have := Exq.mulk_for hk hn he 256 (Nat.le_refl _)
  rwa [Nat.sub_self, Nat.pow_zero, Nat.div_one] at this
end Go.Proofs.YtdeigmjbcbjgeaaGreatDoor
