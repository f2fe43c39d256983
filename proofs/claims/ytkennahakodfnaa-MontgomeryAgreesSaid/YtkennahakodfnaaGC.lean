/-
  Layer 9: the ladder on the curve; the order of the base point.
-/
import Derived.Test.YtkennahakodfnaaGB
namespace Go.Proofs.Ytkennahakodfnaa
set_option maxRecDepth 100000

/-- Two numbers stand for a point, by its y alone. -/
def Mon (U V y : FF) : Prop := ¬ (U = 0 ∧ V = 0) ∧ U * (1 - y) = V * (1 + y)
theorem Mon.half {U V y : FF} (h : Mon U V y) : U + V ≠ 0 ∧ 2 * U = (U + V) * (1 + y) ∧ 2 * V = (U + V) * (1 - y) ∧ U - V = (U + V) * y := by
  obtain ⟨h1, h2⟩ := h
  have a1 : 2 * U = (U + V) * (1 + y) := by grind -lia -linarith (splits := 0)
  have a2 : 2 * V = (U + V) * (1 - y) := by grind -lia -linarith (splits := 0)
  refine ⟨fun e => h1 ⟨?_, ?_⟩, a1, a2, ff_cancel ff_two (by grind -lia -linarith (splits := 0))⟩
  · rw [e] at a1
    exact ff_cancel ff_two (by grind -lia -linarith (splits := 0))
  · rw [e] at a2
    exact ff_cancel ff_two (by grind -lia -linarith (splits := 0))
theorem dbl_id {c a x y : FF} (ha : c * a = -(a + 1)) (h : x * x * y * y = c * (y * y - x * x - 1)) : y * y = (1 + a - a * (y * y)) * (1 + x * x) := by
  grind -lia -linarith (splits := 0)
theorem dbl_gen {c a x y Y U V : FF} (ha1 : a + 1 ≠ 0) (ha : c * a = -(a + 1)) (h : x * x * y * y = c * (y * y - x * x - 1)) (hd : c - x * x * y * y ≠ 0) (hY : Y * (c - x * x * y * y) = c * (y * y + x * x)) (hM : Mon U V y) :
    Mon ((U + V) * (U + V) * ((U - V) * (U - V))) (((U + V) * (U + V) - (U - V) * (U - V)) * ((U + V) * (U + V) + a * ((U + V) * (U + V) - (U - V) * (U - V)))) Y := by
  obtain ⟨h0, _, _, h3⟩ := hM.half
  rw [h3]
  generalize U + V = s at h0 ⊢
  clear hM h3
  have hi := dbl_id ha h
  have hs := ff_mul_ne (ff_mul_ne h0 h0) (ff_mul_ne h0 h0)
  constructor
  · rintro ⟨e1, e2⟩
    have hy : y * y = 0 := ff_cancel hs (by clear h hd hY ha hi e2; grind -lia -linarith (splits := 0))
    have : (s * s) * (s * s) * (a + 1) = 0 := by
      have e3 : s * y * (s * y) = s * s * (y * y) := by grind -lia -linarith (splits := 0)
      rw [e3, hy] at e2
      clear h hd hY ha hi e1 e3
      grind -lia -linarith (splits := 0)
    exact ff_mul_ne hs ha1 this
  · refine ff_cancel hd ?_
    have e1 : (c - x * x * y * y) * (1 - Y) = c * (2 * (1 - y * y)) := by clear hi ha; grind -lia -linarith (splits := 0)
    have e2 : (c - x * x * y * y) * (1 + Y) = c * (2 * (1 + x * x)) := by clear hi ha; grind -lia -linarith (splits := 0)
    have e3 : (c - x * x * y * y) * (s * s * (s * y * (s * y)) * (1 - Y)) = s * s * (s * y * (s * y)) * ((c - x * x * y * y) * (1 - Y)) := by grind -lia -linarith (splits := 0)
    have e4 : ∀ W : FF, (c - x * x * y * y) * (W * (1 + Y)) = W * ((c - x * x * y * y) * (1 + Y)) := by intro W; grind -lia -linarith (splits := 0)
    rw [e3, e4, e1, e2]
    clear e1 e2 e3 e4 hY hd h ha hs
    generalize x * x = X at hi ⊢
    generalize c = c
    have : s * s * (s * y * (s * y)) = s * s * (s * s) * (y * y) := by grind -lia -linarith (splits := 0)
    rw [this, hi]
    have : (s * s - s * y * (s * y)) * (s * s + a * (s * s - s * y * (s * y))) = s * s * (s * s) * (1 - y * y) * (1 + a - a * (y * y)) := by grind -lia -linarith (splits := 0)
    rw [this]
    have hi2 : (1 - (1 + a - a * (y * y)) * (1 + X)) = 1 - y * y := by rw [← hi]
    grind -lia -linarith (splits := 0)
theorem add_id {c x1 y1 x2 y2 : FF} (h1 : x1 * x1 * y1 * y1 = c * (y1 * y1 - x1 * x1 - 1)) (h2 : x2 * x2 * y2 * y2 = c * (y2 * y2 - x2 * x2 - 1)) :
    (y1 + y2) * (y1 + y2) * ((c - x1 * x2 * y1 * y2 - c * (y1 * y2 + x1 * x2)) * (c + x1 * x2 * y1 * y2 - c * (y1 * y2 - x1 * x2))) = (y2 - y1) * (y2 - y1) * ((c - x1 * x2 * y1 * y2 + c * (y1 * y2 + x1 * x2)) * (c + x1 * x2 * y1 * y2 + c * (y1 * y2 - x1 * x2))) := by
  grind -lia -linarith (splits := 0)
theorem dif_gen {c x1 y1 x2 y2 S D w U V U' V' : FF} (hc : c ≠ 0) (h1 : x1 * x1 * y1 * y1 = c * (y1 * y1 - x1 * x1 - 1)) (h2 : x2 * x2 * y2 * y2 = c * (y2 * y2 - x2 * x2 - 1)) (hu : c + x1 * x2 * y1 * y2 ≠ 0) (hv : c - x1 * x2 * y1 * y2 ≠ 0)
    (hS : S * (c - x1 * x2 * y1 * y2) = c * (y1 * y2 + x1 * x2)) (hD : D * (c + x1 * x2 * y1 * y2) = c * (y1 * y2 - x1 * x2)) (hw : w * (1 - D) = 1 + D) (hw0 : w ≠ 0) (hM : Mon U V y1) (hM' : Mon U' V' y2) :
    Mon (((U' - V') * (U + V) + (U' + V') * (U - V)) * ((U' - V') * (U + V) + (U' + V') * (U - V))) (w * (((U' - V') * (U + V) - (U' + V') * (U - V)) * ((U' - V') * (U + V) - (U' + V') * (U - V)))) S := by
  obtain ⟨h0, _, _, h3⟩ := hM.half
  obtain ⟨h0', _, _, h3'⟩ := hM'.half
  rw [h3, h3']
  generalize U + V = s at h0 ⊢
  generalize U' + V' = t at h0' ⊢
  clear hM hM' h3 h3'
  have hst := ff_mul_ne h0 h0'
  have hD1 : 1 - D ≠ 0 := by
    intro e
    rw [e] at hw
    have : (2 : FF) = 0 := by grind -lia -linarith (splits := 0)
    exact ff_two this
  have eA : (t * y2 * s + t * (s * y1)) = s * t * (y1 + y2) := by grind -lia -linarith (splits := 0)
  have eB : (t * y2 * s - t * (s * y1)) = s * t * (y2 - y1) := by grind -lia -linarith (splits := 0)
  rw [eA, eB]
  generalize s * t = k at hst ⊢
  clear eA eB h0 h0'
  constructor
  · rintro ⟨e1, e2⟩
    have hk2 := ff_mul_ne hst hst
    have f1 : (y1 + y2) * (y1 + y2) = 0 := ff_cancel hk2 (by clear h1 h2 hS hD hw e2; grind -lia -linarith (splits := 0))
    have f2 : (y2 - y1) * (y2 - y1) = 0 := ff_cancel hw0 (ff_cancel hk2 (by clear h1 h2 hS hD hw e1 f1; grind -lia -linarith (splits := 0)))
    have g1 : y1 + y2 = 0 := (ff_zero f1).elim id id
    have g2 : y2 - y1 = 0 := (ff_zero f2).elim id id
    have k1 : y1 = 0 := ff_cancel ff_two (by clear h1 h2 hS hD hw f1 f2 e1 e2; grind -lia -linarith (splits := 0))
    have k2 : y2 = 0 := by clear h1 h2 hS hD hw f1 f2 e1 e2; grind -lia -linarith (splits := 0)
    subst k1 k2
    have x1s : x1 * x1 = -1 := ff_cancel hc (by clear h2 hS hD hw f1 f2 e1 e2; grind -lia -linarith (splits := 0))
    have x2s : x2 * x2 = -1 := ff_cancel hc (by clear h1 hS hD hw f1 f2 e1 e2; grind -lia -linarith (splits := 0))
    have hDx : D = -(x1 * x2) := ff_cancel hc (by clear h1 h2 hS hw f1 f2 e1 e2; grind -lia -linarith (splits := 0))
    have hDD : (D - 1) * (D + 1) = 0 := by rw [hDx]; clear h1 h2 hS hD hw f1 f2 e1 e2 hDx; grind -lia -linarith (splits := 0)
    rcases ff_zero hDD with e | e
    · exact hD1 (by clear h1 h2 hS hD hw f1 f2 e1 e2 hDx x1s x2s hDD; grind -lia -linarith (splits := 0))
    · have : w * 2 = 0 := by
        have : D = -1 := by clear h1 h2 hS hD hw f1 f2 e1 e2 hDx x1s x2s hDD; grind -lia -linarith (splits := 0)
        rw [this] at hw
        clear h1 h2 hS hD f1 f2 e1 e2 hDx x1s x2s hDD
        grind -lia -linarith (splits := 0)
      exact ff_mul_ne hw0 ff_two this
  · have hi := add_id h1 h2
    refine ff_cancel (ff_mul_ne hD1 (ff_mul_ne hu hv)) ?_
    have e1 : (c - x1 * x2 * y1 * y2) * (1 - S) = c - x1 * x2 * y1 * y2 - c * (y1 * y2 + x1 * x2) := by rw [← hS]; clear h1 h2 hS hD hw hi; grind -lia -linarith (splits := 0)
    have e2 : (c - x1 * x2 * y1 * y2) * (1 + S) = c - x1 * x2 * y1 * y2 + c * (y1 * y2 + x1 * x2) := by rw [← hS]; clear h1 h2 hS hD hw hi; grind -lia -linarith (splits := 0)
    have e3 : (c + x1 * x2 * y1 * y2) * (1 - D) = c + x1 * x2 * y1 * y2 - c * (y1 * y2 - x1 * x2) := by rw [← hD]; clear h1 h2 hS hD hw hi; grind -lia -linarith (splits := 0)
    have e4 : (c + x1 * x2 * y1 * y2) * (1 + D) = c + x1 * x2 * y1 * y2 + c * (y1 * y2 - x1 * x2) := by rw [← hD]; clear h1 h2 hS hD hw hi; grind -lia -linarith (splits := 0)
    rw [← e1, ← e2, ← e3, ← e4] at hi
    clear e1 e2 e3 e4 hS hD h1 h2
    generalize c + x1 * x2 * y1 * y2 = u at *
    generalize c - x1 * x2 * y1 * y2 = v at *
    have l1 : (1 - D) * (u * v) * (k * (y1 + y2) * (k * (y1 + y2)) * (1 - S)) = k * k * ((y1 + y2) * (y1 + y2) * (v * (1 - S) * (u * (1 - D)))) := by clear hi hw; grind -lia -linarith (splits := 0)
    have l2 : (1 - D) * (u * v) * (w * (k * (y2 - y1) * (k * (y2 - y1))) * (1 + S)) = k * k * ((y2 - y1) * (y2 - y1) * (v * (1 + S) * (u * (w * (1 - D))))) := by clear hi hw; grind -lia -linarith (splits := 0)
    rw [l1, l2, hi, hw]
/-- The ladder's step. -/
theorem mon_dbl {P : Pt} {U V : FF} (h : Mon U V P.y) : Mon ((U + V) * (U + V) * ((U - V) * (U - V))) (((U + V) * (U + V) - (U - V) * (U - V)) * ((U + V) * (U + V) + 121665 * ((U + V) * (U + V) - (U - V) * (U - V)))) (P.add P).y :=
  dbl_gen (by decide) (cE_val.trans (by decide)) P.on (den_ne P.on P.on).2 (add_y P P) h
theorem mon_dif {P Q : Pt} {U V U' V' w : FF} (hw : w * (1 - (Q.add P.neg).y) = 1 + (Q.add P.neg).y) (hw0 : w ≠ 0) (h : Mon U V P.y) (h' : Mon U' V' Q.y) :
    Mon (((U' - V') * (U + V) + (U' + V') * (U - V)) * ((U' - V') * (U + V) + (U' + V') * (U - V))) (w * (((U' - V') * (U + V) - (U' + V') * (U - V)) * ((U' - V') * (U + V) - (U' + V') * (U - V)))) (P.add Q).y := by
  have hD := add_y Q P.neg
  have hD' : (Q.add P.neg).y * (cE + P.x * Q.x * P.y * Q.y) = cE * (P.y * Q.y - P.x * Q.x) := by
    have e1 : cE - Q.x * P.neg.x * Q.y * P.neg.y = cE + P.x * Q.x * P.y * Q.y := by
      show cE - Q.x * -P.x * Q.y * P.y = _
      clear hD hw
      grind -lia -linarith (splits := 0)
    have e2 : cE * (Q.y * P.neg.y + Q.x * P.neg.x) = cE * (P.y * Q.y - P.x * Q.x) := by
      show cE * (Q.y * P.y + Q.x * -P.x) = _
      clear hD hw
      grind -lia -linarith (splits := 0)
    rw [e1, e2] at hD
    exact hD
  exact dif_gen cE_ne P.on Q.on (den_ne P.on Q.on).1 (den_ne P.on Q.on).2 (add_y P Q) hD' hw hw0 h h'
/-! the points with y = 1 and y = -1 -/
theorem y_one {P : Pt} (h : P.y = 1) : P = .zero := by
  have ho := P.on
  unfold On at ho
  rw [h] at ho
  have hx : P.x * P.x = 0 := by
    have : (1 + cE) * (P.x * P.x) = 0 := by clear h; grind -lia -linarith (splits := 0)
    exact (ff_zero this).resolve_left (by unfold cE; decide)
  exact Pt.ext ((ff_zero hx).elim id id) h
theorem y_neg {P : Pt} (h : P.y = -1) : P.add P = .zero := by
  have ho := P.on
  unfold On at ho
  rw [h] at ho
  have hx : P.x * P.x = 0 := by
    have : (1 + cE) * (P.x * P.x) = 0 := by clear h; grind -lia -linarith (splits := 0)
    exact (ff_zero this).resolve_left (by unfold cE; decide)
  have hx : P.x = 0 := (ff_zero hx).elim id id
  refine add_eq ?_ ?_
  · rw [h, hx]
    show (0 : FF) * (cE + 0 * 0 * -1 * -1) = cE * (0 * -1 + 0 * -1)
    clear h ho hx
    grind -lia -linarith (splits := 0)
  · rw [h, hx]
    show (1 : FF) * (cE - 0 * 0 * -1 * -1) = cE * (-1 * -1 + 0 * 0)
    clear h ho hx
    grind -lia -linarith (splits := 0)
theorem Pt.mul_gcd (P : Pt) : ∀ m n : Nat, Pt.mul m P = .zero → Pt.mul n P = .zero → Pt.mul (Nat.gcd m n) P = .zero := by
  intro m
  induction m using Nat.strongRecOn with
  | _ m ih =>
    intro n hm hn
    by_cases h0 : m = 0
    · rw [h0, Nat.gcd_zero_left]
      exact hn
    · rw [Nat.gcd_rec]
      refine ih (n % m) (Nat.mod_lt _ (by omega)) m ?_ hm
      have h1 := Nat.div_add_mod n m
      rw [← h1, Pt.mul_add, Nat.mul_comm, Pt.mul_mul, hm, Pt.mul_zero, Pt.zero_add] at hn
      exact hn
def kE : FF := 2 * 37095705934669439343138083508754565189542113879843219016388785533085940283555
theorem kE_c : kE * cE = 2 := by unfold kE cE; decide
theorem q_reckon : (Exq.mulk kE qE Bp.toE 256).X = 0 ∧ (Exq.mulk kE qE Bp.toE 256).Y = (Exq.mulk kE qE Bp.toE 256).Z := by
  constructor
  · kernel_rfl
  · kernel_rfl
theorem q_zero : Pt.mul qE Bp = .zero := by
  obtain ⟨h1, _, h3, _⟩ := Exq.mulk_all kE_c (n := qE) (by decide) (Pt.toE_for Bp)
  have h4 := q_reckon.2
  rw [h4] at h3
  refine y_one (ff_cancel h1 ?_)
  clear h4
  generalize (Exq.mulk kE qE Bp.toE 256).Z = z at *
  grind -lia -linarith (splits := 0)
theorem mul_ne {m : Nat} (h : ¬ qE ∣ m) : Pt.mul m Bp ≠ .zero := by
  intro e
  have h1 := Pt.mul_gcd Bp _ _ q_zero e
  rw [show Nat.gcd qE m = 1 from prq.coprime h, Pt.mul_one] at h1
  have := congrArg Pt.y h1
  exact absurd this (by decide)
theorem q_odd {m : Nat} (h : ¬ qE ∣ m) : ¬ qE ∣ 2 * m := fun hd => (prq.euclid hd).elim (fun h2 => absurd (Nat.le_of_dvd (by decide) h2) (by decide)) h
theorem mul_y {m : Nat} (h : ¬ qE ∣ m) : (Pt.mul m Bp).y ≠ 1 ∧ (Pt.mul m Bp).y ≠ -1 := by
  refine ⟨fun e => mul_ne h (y_one e), fun e => mul_ne (q_odd h) ?_⟩
  rw [two_mul]
  exact y_neg e
/-- The number of a point. -/
noncomputable def uOf (y : FF) : FF := (1 + y) * ffi (1 - y)
theorem uOf_spec {y : FF} (h : y ≠ 1) : uOf y * (1 - y) = 1 + y := by
  have h1 : 1 - y ≠ 0 := fun e => h (by grind -lia -linarith (splits := 0))
  have h2 := ffi_mul h1
  unfold uOf
  generalize ffi (1 - y) = z at h2 ⊢
  grind -lia -linarith (splits := 0)
theorem uOf_ne {y : FF} (h : y ≠ 1) (h' : y ≠ -1) : uOf y ≠ 0 := by
  intro e
  have h1 := uOf_spec h
  rw [e] at h1
  exact h' (by grind -lia -linarith (splits := 0))
theorem uOf_eq {y w : FF} (h : w * (1 - y) = 1 + y) : w = uOf y := by
  have hy : y ≠ 1 := by
    rintro rfl
    have : (2 : FF) = 0 := by grind -lia -linarith (splits := 0)
    exact ff_two this
  have h1 := uOf_spec hy
  have h2 : 1 - y ≠ 0 := fun e => hy (by clear h h1; grind -lia -linarith (splits := 0))
  refine ff_cancel h2 ?_
  generalize uOf y = z at *
  grind -lia -linarith (splits := 0)
theorem mon_out {U V y : FF} (h : Mon U V y) : U * ffi V = uOf y := by
  obtain ⟨h1, h2⟩ := h
  by_cases hV : V = 0
  · rw [hV, ffi_zero]
    rw [hV] at h1 h2
    have hU : U ≠ 0 := fun e => h1 ⟨e, rfl⟩
    have hy : 1 - y = 0 := (ff_zero (show U * (1 - y) = 0 by rw [h2]; clear h1 h2 hU; grind -lia -linarith (splits := 0))).resolve_left hU
    unfold uOf
    rw [hy, ffi_zero]
    clear h1 h2 hy hU
    grind -lia -linarith (splits := 0)
  · have h3 := ffi_mul hV
    refine uOf_eq ?_
    generalize ffi V = z at *
    clear h1
    refine ff_cancel hV ?_
    grind -lia -linarith (splits := 0)
end Go.Proofs.Ytkennahakodfnaa
