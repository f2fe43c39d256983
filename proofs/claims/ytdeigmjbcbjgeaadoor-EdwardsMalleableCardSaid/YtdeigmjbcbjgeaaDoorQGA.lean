/-
  Layers 9 and 10: the field of 2^255 - 19 numbers, and the group of the curve.
-/
import Derived.Test.YtdeigmjbcbjgeaaDoorQFN
namespace Go.Proofs.YtdeigmjbcbjgeaaDoor

abbrev FF := Fin 57896044618658097711785492504343953926634992332820282019728792003956564819949
theorem prF : Pr 57896044618658097711785492504343953926634992332820282019728792003956564819949 := pr_57896044618658097711785492504343953926634992332820282019728792003956564819949
theorem inv_gen {p a : Nat} (hp : Pr p) (ha : ¬ p ∣ a) : ∃ b, b < p ∧ a * b % p = 1 := by
  have h2 := hp.1
  refine ⟨a ^ (p - 2) % p, Nat.mod_lt _ (by omega), ?_⟩
  rw [Nat.mul_mod_mod, Nat.mul_comm, ← Nat.pow_succ, show (p - 2).succ = p - 1 by omega]
  exact fermat1 hp ha
theorem ff_dvd {a : FF} (h : a ≠ 0) : ¬ 57896044618658097711785492504343953926634992332820282019728792003956564819949 ∣ a.val := by
  refine prF.small (Nat.pos_of_ne_zero fun e => h (Fin.ext e)) a.isLt
theorem ff_zero {a b : FF} (h : a * b = 0) : a = 0 ∨ b = 0 := by
  have h1 := congrArg Fin.val h
  rw [Fin.val_mul] at h1
  rcases prF.euclid (Nat.dvd_of_mod_eq_zero h1) with hd | hd
  · exact .inl (Classical.byContradiction fun hn => ff_dvd hn hd)
  · exact .inr (Classical.byContradiction fun hn => ff_dvd hn hd)
theorem ff_mul_ne {a b : FF} (ha : a ≠ 0) (hb : b ≠ 0) : a * b ≠ 0 := fun h => (ff_zero h).elim ha hb
theorem ff_inv {a : FF} (h : a ≠ 0) : ∃ b : FF, a * b = 1 := by
  obtain ⟨b, hb, e⟩ := inv_gen prF (ff_dvd h)
  exact ⟨⟨b, hb⟩, Fin.ext (by rw [Fin.val_mul]; exact e)⟩
open Classical in
/-- The inverse, and 0 for 0. -/
noncomputable def ffi (a : FF) : FF := if h : ∃ b, a * b = 1 then Classical.choose h else 0
theorem ffi_mul {a : FF} (h : a ≠ 0) : a * ffi a = 1 := by
  unfold ffi
  rw [dif_pos (ff_inv h)]
  exact Classical.choose_spec (ff_inv h)
theorem ffi_zero : ffi 0 = 0 := by
  unfold ffi
  rw [dif_neg]
  rintro ⟨b, h⟩
  have : (0 : FF) * b = 0 := by grind
  rw [this] at h
  exact absurd h (by decide)
theorem ff_cancel {k a b : FF} (hk : k ≠ 0) (h : k * a = k * b) : a = b := by
  have h1 : k * (a - b) = 0 := by grind -lia -linarith (splits := 0)
  rcases ff_zero h1 with e | e
  · exact absurd e hk
  · grind -lia -linarith (splits := 0)
theorem ffi_uniq {a b : FF} (h : a * b = 1) : ffi a = b := by
  have ha : a ≠ 0 := by
    rintro rfl
    have : (0 : FF) * b = 0 := by grind
    rw [this] at h
    exact absurd h (by decide)
  exact ff_cancel ha ((ffi_mul ha).trans h.symm)
/-- A quotient. -/
theorem ffi_div {a b x : FF} (hb : b ≠ 0) : x = a * ffi b ↔ x * b = a := by
  have h1 := ffi_mul hb
  generalize ffi b = z at h1 ⊢
  constructor
  · intro e
    rw [e]
    grind -lia -linarith (splits := 0)
  · intro h
    apply ff_cancel hb
    grind -lia -linarith (splits := 0)
theorem ff_two : (2 : FF) ≠ 0 := by decide

/-! the curve -/
@[irreducible] def cE : FF := 29203323570479832313932222820853031755424015489030106335172286495629888845891
@[irreducible] def iE : FF := 19681161376707505956807079304988542015446066515923890162744021073123829784752
set_option maxRecDepth 100000 in
theorem iE_sq : iE * iE = -1 := by unfold iE; decide
theorem cE_ne : cE ≠ 0 := by unfold cE; decide
theorem cE_pow : pm 29203323570479832313932222820853031755424015489030106335172286495629888845891 28948022309329048855892746252171976963317496166410141009864396001978282409974 57896044618658097711785492504343953926634992332820282019728792003956564819949 ≠ 1 := by
  have : pm 29203323570479832313932222820853031755424015489030106335172286495629888845891 28948022309329048855892746252171976963317496166410141009864396001978282409974 57896044618658097711785492504343953926634992332820282019728792003956564819949 = 57896044618658097711785492504343953926634992332820282019728792003956564819948 := by kernel_rfl
  rw [this]
  decide
theorem nsq_gen {p c s h : Nat} (hp : Pr p) (hb : h < 2 ^ 256) (e : p - 1 = 2 * h) (hc : pm c h p ≠ 1) (hs : ¬ p ∣ s) : s * s % p ≠ c % p := by
  intro hq
  apply hc
  rw [pm_eq c h p hp.1 hb, Nat.pow_mod, ← hq, ← Nat.pow_mod, ← Nat.pow_two, ← Nat.pow_mul, ← e]
  exact fermat1 hp hs
theorem cE_nsq (s : FF) : s * s ≠ cE := by
  intro h
  by_cases hs : s = 0
  · rw [hs] at h
    exact cE_ne (h.symm.trans (by decide))
  · refine nsq_gen prF (by decide) (by decide) cE_pow (ff_dvd hs) ?_
    have h1 := congrArg Fin.val h
    rw [Fin.val_mul] at h1
    rw [h1]
    unfold cE
    decide
/-- A point's coordinates. -/
def On (x y : FF) : Prop := x * x * y * y = cE * (y * y - x * x - 1)
theorem on_ne {x1 y1 x2 y2 i c : FF} (hc : ∀ s : FF, s * s ≠ c) (hi : i * i = -1) (h1 : x1 * x1 * y1 * y1 = c * (y1 * y1 - x1 * x1 - 1)) (h2 : x2 * x2 * y2 * y2 = c * (y2 * y2 - x2 * x2 - 1)) : (x1 * x2 * y1 * y2) * (x1 * x2 * y1 * y2) ≠ c * c := by
  intro he
  have hc0 : c ≠ 0 := by
    rintro rfl
    exact hc 0 (by decide)
  have hx : x1 * y1 ≠ 0 := by
    intro e
    have : c * c = 0 := by rw [← he]; grind -lia -linarith (splits := 0)
    exact ff_mul_ne hc0 hc0 this
  have ea : (c * i * x1 + x1 * x2 * y1 * y2 * y1) * (c * i * x1 + x1 * x2 * y1 * y2 * y1) = c * (x1 * x1 * y1 * y1) * ((i * x2 + y2) * (i * x2 + y2)) := by grind -lia -linarith (splits := 0)
  have eb : (c * i * x1 - x1 * x2 * y1 * y2 * y1) * (c * i * x1 - x1 * x2 * y1 * y2 * y1) = c * (x1 * x1 * y1 * y1) * ((i * x2 - y2) * (i * x2 - y2)) := by grind -lia -linarith (splits := 0)
  have key : ∀ u v : FF, u * u = c * (x1 * x1 * y1 * y1) * (v * v) → v = 0 := by
    intro u v e
    refine Classical.byContradiction fun hv => ?_
    have hw := ff_mul_ne hx hv
    have h3 := ffi_mul hw
    refine hc (u * ffi (x1 * y1 * v)) ?_
    generalize ffi (x1 * y1 * v) = z at h3 ⊢
    have h4 : (x1 * y1 * v) * (x1 * y1 * v) * (u * z * (u * z)) = (x1 * y1 * v) * (x1 * y1 * v) * c := by grind -lia -linarith (splits := 0)
    exact ff_cancel (ff_mul_ne hw hw) h4
  have va := key _ _ ea
  have vb := key _ _ eb
  have hy2 : 2 * y2 = 0 := by grind -lia -linarith (splits := 0)
  rcases ff_zero hy2 with e | e
  · exact ff_two e
  · have : c * c = 0 := by rw [← he, e]; grind -lia -linarith (splits := 0)
    exact ff_mul_ne hc0 hc0 this
theorem den_ne {x1 y1 x2 y2 : FF} (h1 : On x1 y1) (h2 : On x2 y2) : cE + x1 * x2 * y1 * y2 ≠ 0 ∧ cE - x1 * x2 * y1 * y2 ≠ 0 := by
  have h := on_ne cE_nsq iE_sq h1 h2
  generalize x1 * x2 * y1 * y2 = e at h ⊢
  generalize cE = c at h ⊢
  constructor
  · intro h3
    exact h (by grind -lia -linarith (splits := 0))
  · intro h3
    exact h (by grind -lia -linarith (splits := 0))
@[ext] structure Pt where
  x : FF
  y : FF
  on : On x y
theorem closed_id {c x1 y1 x2 y2 : FF} (h1 : x1 * x1 * y1 * y1 = c * (y1 * y1 - x1 * x1 - 1)) (h2 : x2 * x2 * y2 * y2 = c * (y2 * y2 - x2 * x2 - 1)) :
    (c * (x1 * y2 + x2 * y1)) * (c * (x1 * y2 + x2 * y1)) * (c * (y1 * y2 + x1 * x2)) * (c * (y1 * y2 + x1 * x2)) = c * ((c * (y1 * y2 + x1 * x2)) * (c * (y1 * y2 + x1 * x2)) * ((c + x1 * x2 * y1 * y2) * (c + x1 * x2 * y1 * y2)) - (c * (x1 * y2 + x2 * y1)) * (c * (x1 * y2 + x2 * y1)) * ((c - x1 * x2 * y1 * y2) * (c - x1 * x2 * y1 * y2)) - (c + x1 * x2 * y1 * y2) * (c + x1 * x2 * y1 * y2) * ((c - x1 * x2 * y1 * y2) * (c - x1 * x2 * y1 * y2))) := by
  grind -lia -linarith (splits := 0)
theorem closed_gen {c a b u v n m : FF} (hu : u ≠ 0) (hv : v ≠ 0) (ha : a * u = n) (hb : b * v = m) (h : n * n * m * m = c * (m * m * (u * u) - n * n * (v * v) - u * u * (v * v))) : a * a * b * b = c * (b * b - a * a - 1) := by
  refine ff_cancel (ff_mul_ne (ff_mul_ne hu hv) (ff_mul_ne hu hv)) ?_
  subst ha hb
  grind -lia -linarith (splits := 0)
theorem closed {x1 y1 x2 y2 a b : FF} (h1 : On x1 y1) (h2 : On x2 y2) (ha : a * (cE + x1 * x2 * y1 * y2) = cE * (x1 * y2 + x2 * y1)) (hb : b * (cE - x1 * x2 * y1 * y2) = cE * (y1 * y2 + x1 * x2)) : On a b :=
  closed_gen (den_ne h1 h2).1 (den_ne h1 h2).2 ha hb (closed_id h1 h2)
noncomputable def Pt.add (P Q : Pt) : Pt where
  x := cE * (P.x * Q.y + Q.x * P.y) * ffi (cE + P.x * Q.x * P.y * Q.y)
  y := cE * (P.y * Q.y + P.x * Q.x) * ffi (cE - P.x * Q.x * P.y * Q.y)
  on := closed P.on Q.on ((ffi_div (den_ne P.on Q.on).1).1 rfl) ((ffi_div (den_ne P.on Q.on).2).1 rfl)
theorem add_x (P Q : Pt) : (P.add Q).x * (cE + P.x * Q.x * P.y * Q.y) = cE * (P.x * Q.y + Q.x * P.y) := (ffi_div (den_ne P.on Q.on).1).1 rfl
theorem add_y (P Q : Pt) : (P.add Q).y * (cE - P.x * Q.x * P.y * Q.y) = cE * (P.y * Q.y + P.x * Q.x) := (ffi_div (den_ne P.on Q.on).2).1 rfl
theorem add_eq {P Q R : Pt} (hx : R.x * (cE + P.x * Q.x * P.y * Q.y) = cE * (P.x * Q.y + Q.x * P.y)) (hy : R.y * (cE - P.x * Q.x * P.y * Q.y) = cE * (P.y * Q.y + P.x * Q.x)) : P.add Q = R :=
  Pt.ext ((ffi_div (den_ne P.on Q.on).1).2 hx).symm ((ffi_div (den_ne P.on Q.on).2).2 hy).symm
def Pt.zero : Pt := ⟨0, 1, by unfold On; grind -lia -linarith (splits := 0)⟩
def Pt.neg (P : Pt) : Pt := ⟨-P.x, P.y, by have h := P.on; unfold On at h ⊢; grind -lia -linarith (splits := 0)⟩
theorem Pt.add_comm (P Q : Pt) : P.add Q = Q.add P := by
  have hx := add_x Q P
  have hy := add_y Q P
  exact add_eq (by grind -lia -linarith (splits := 0)) (by grind -lia -linarith (splits := 0))
theorem Pt.add_zero (P : Pt) : P.add .zero = P := by
  refine add_eq ?_ ?_
  · show P.x * (cE + P.x * 0 * P.y * 1) = cE * (P.x * 1 + 0 * P.y)
    grind -lia -linarith (splits := 0)
  · show P.y * (cE - P.x * 0 * P.y * 1) = cE * (P.y * 1 + P.x * 0)
    grind -lia -linarith (splits := 0)
theorem Pt.zero_add (P : Pt) : Pt.zero.add P = P := (Pt.add_comm _ _).trans P.add_zero
theorem Pt.add_neg (P : Pt) : P.add P.neg = .zero := by
  have h := P.on
  unfold On at h
  refine add_eq ?_ ?_
  · show (0 : FF) * (cE + P.x * -P.x * P.y * P.y) = cE * (P.x * P.y + -P.x * P.y)
    grind -lia -linarith (splits := 0)
  · show (1 : FF) * (cE - P.x * -P.x * P.y * P.y) = cE * (P.y * P.y + P.x * -P.x)
    grind -lia -linarith (splits := 0)
theorem as_x {c x1 y1 x2 y2 x3 y3 : FF} (h1 : x1 * x1 * y1 * y1 = c * (y1 * y1 - x1 * x1 - 1)) (h2 : x2 * x2 * y2 * y2 = c * (y2 * y2 - x2 * x2 - 1)) (h3 : x3 * x3 * y3 * y3 = c * (y3 * y3 - x3 * x3 - 1)) :
    ((x1 * y2 + x2 * y1) * (c - x1 * x2 * y1 * y2) * y3 + x3 * (y1 * y2 + x1 * x2) * (c + x1 * x2 * y1 * y2)) * ((c + x2 * x3 * y2 * y3) * (c - x2 * x3 * y2 * y3) + c * (x1 * y1 * (x2 * y3 + x3 * y2) * (y2 * y3 + x2 * x3))) =
    (x1 * (y2 * y3 + x2 * x3) * (c + x2 * x3 * y2 * y3) + y1 * (x2 * y3 + x3 * y2) * (c - x2 * x3 * y2 * y3)) * ((c + x1 * x2 * y1 * y2) * (c - x1 * x2 * y1 * y2) + c * (x3 * y3 * (x1 * y2 + x2 * y1) * (y1 * y2 + x1 * x2))) := by
  grind -lia -linarith (splits := 0)
theorem as_y {c x1 y1 x2 y2 x3 y3 : FF} (h1 : x1 * x1 * y1 * y1 = c * (y1 * y1 - x1 * x1 - 1)) (h2 : x2 * x2 * y2 * y2 = c * (y2 * y2 - x2 * x2 - 1)) (h3 : x3 * x3 * y3 * y3 = c * (y3 * y3 - x3 * x3 - 1)) :
    ((y1 * y2 + x1 * x2) * (c + x1 * x2 * y1 * y2) * y3 + x3 * (x1 * y2 + x2 * y1) * (c - x1 * x2 * y1 * y2)) * ((c + x2 * x3 * y2 * y3) * (c - x2 * x3 * y2 * y3) - c * (x1 * y1 * (x2 * y3 + x3 * y2) * (y2 * y3 + x2 * x3))) =
    (y1 * (y2 * y3 + x2 * x3) * (c + x2 * x3 * y2 * y3) + x1 * (x2 * y3 + x3 * y2) * (c - x2 * x3 * y2 * y3)) * ((c + x1 * x2 * y1 * y2) * (c - x1 * x2 * y1 * y2) - c * (x3 * y3 * (x1 * y2 + x2 * y1) * (y1 * y2 + x1 * x2))) := by
  grind -lia -linarith (splits := 0)
theorem as_num {c a b u v n m x y : FF} (ha : a * u = n) (hb : b * v = m) : c * (x * b + a * y) * (u * v) = c * (x * m * u + y * n * v) := by
  subst ha hb
  grind -lia -linarith (splits := 0)
theorem as_nuy {c a b u v n m x y : FF} (ha : a * u = n) (hb : b * v = m) : c * (y * b + x * a) * (u * v) = c * (y * m * u + x * n * v) := by
  subst ha hb
  grind -lia -linarith (splits := 0)
theorem as_den {c a b u v n m x y : FF} (ha : a * u = n) (hb : b * v = m) : (c + x * a * y * b) * (u * v) = c * (u * v) + x * y * (n * m) := by
  subst ha hb
  grind -lia -linarith (splits := 0)
theorem as_dey {c a b u v n m x y : FF} (ha : a * u = n) (hb : b * v = m) : (c - x * a * y * b) * (u * v) = c * (u * v) - x * y * (n * m) := by
  subst ha hb
  grind -lia -linarith (splits := 0)
theorem as_fin {X k1 L1 k2 L2 s t l1 d2 d1 l2 : FF} (hs : s ≠ 0) (ht : t ≠ 0) (hk : k1 ≠ 0) (hX : X * k1 = L1) (e1 : L1 * t = l1) (e2 : k2 * s = d2) (e3 : k1 * t = d1) (e4 : L2 * s = l2) (e : l1 * d2 = l2 * d1) : X * k2 = L2 := by
  refine ff_cancel (ff_mul_ne hk (ff_mul_ne hs ht)) ?_
  subst hX e1 e2 e3 e4
  grind -lia -linarith (splits := 0)
theorem Pt.add_assoc (P Q R : Pt) : (P.add Q).add R = P.add (Q.add R) := by
  have ha := add_x P Q
  have hb := add_y P Q
  have hc := add_x Q R
  have hd := add_y Q R
  have hu := (den_ne P.on Q.on).1
  have hv := (den_ne P.on Q.on).2
  have hw := (den_ne Q.on R.on).1
  have hz := (den_ne Q.on R.on).2
  have hs := ff_mul_ne hu hv
  have ht := ff_mul_ne hw hz
  have k1 := den_ne P.on (Q.add R).on
  have f1 := add_x P (Q.add R)
  have f2 := add_y P (Q.add R)
  have x1 := as_x P.on Q.on R.on
  have y1 := as_y P.on Q.on R.on
  refine add_eq ?_ ?_
  · rw [show (P.add Q).x * R.x * (P.add Q).y * R.y = R.x * (P.add Q).x * R.y * (P.add Q).y by grind -lia -linarith (splits := 0), show (P.add Q).x * R.y + R.x * (P.add Q).y = R.x * (P.add Q).y + (P.add Q).x * R.y by grind -lia -linarith (splits := 0)]
    rw [show P.x * (Q.add R).y + (Q.add R).x * P.y = P.x * (Q.add R).y + (Q.add R).x * P.y from rfl, show P.x * (Q.add R).x * P.y * (Q.add R).y = P.x * (Q.add R).x * P.y * (Q.add R).y from rfl] at f1
    refine as_fin hs ht k1.1 f1 (as_num hc hd) (as_den ha hb) (as_den hc hd) (as_num ha hb) ?_
    clear ha hb hc hd hu hv hw hz hs ht k1 f1 f2 y1
    revert x1
    generalize cE = c
    generalize P.x * Q.y + Q.x * P.y = n
    generalize P.y * Q.y + P.x * Q.x = m
    generalize Q.x * R.y + R.x * Q.y = n'
    generalize Q.y * R.y + Q.x * R.x = m'
    generalize c + P.x * Q.x * P.y * Q.y = u
    generalize c - P.x * Q.x * P.y * Q.y = v
    generalize c + Q.x * R.x * Q.y * R.y = u'
    generalize c - Q.x * R.x * Q.y * R.y = v'
    intro x1
    grind -lia -linarith (splits := 0)
  · rw [show (P.add Q).x * R.x * (P.add Q).y * R.y = R.x * (P.add Q).x * R.y * (P.add Q).y by grind -lia -linarith (splits := 0), show (P.add Q).y * R.y + (P.add Q).x * R.x = R.y * (P.add Q).y + R.x * (P.add Q).x by grind -lia -linarith (splits := 0)]
    refine as_fin hs ht k1.2 f2 (as_nuy hc hd) (as_dey ha hb) (as_dey hc hd) (as_nuy ha hb) ?_
    clear ha hb hc hd hu hv hw hz hs ht k1 f1 f2 x1
    revert y1
    generalize cE = c
    generalize P.x * Q.y + Q.x * P.y = n
    generalize P.y * Q.y + P.x * Q.x = m
    generalize Q.x * R.y + R.x * Q.y = n'
    generalize Q.y * R.y + Q.x * R.x = m'
    generalize c + P.x * Q.x * P.y * Q.y = u
    generalize c - P.x * Q.x * P.y * Q.y = v
    generalize c + Q.x * R.x * Q.y * R.y = u'
    generalize c - Q.x * R.x * Q.y * R.y = v'
    intro y1
    grind -lia -linarith (splits := 0)
/-! multiples -/
noncomputable def Pt.mul : Nat → Pt → Pt
  | 0, _ => .zero
  | n + 1, P => (Pt.mul n P).add P
theorem Pt.mul_add (m n : Nat) (P : Pt) : Pt.mul (m + n) P = (Pt.mul m P).add (Pt.mul n P) := by
  induction n with
  | zero => exact (Pt.add_zero _).symm
  | succ n ih =>
    show (Pt.mul (m + n) P).add P = (Pt.mul m P).add ((Pt.mul n P).add P)
    rw [ih, Pt.add_assoc]
theorem Pt.mul_zero (n : Nat) : Pt.mul n .zero = .zero := by
  induction n with
  | zero => rfl
  | succ n ih =>
    show (Pt.mul n .zero).add .zero = .zero
    rw [ih, Pt.add_zero]
theorem Pt.mul_one (P : Pt) : Pt.mul 1 P = P := Pt.zero_add P
theorem Pt.mul_mul (m n : Nat) (P : Pt) : Pt.mul (m * n) P = Pt.mul m (Pt.mul n P) := by
  induction m with
  | zero =>
    rw [Nat.zero_mul]
    rfl
  | succ m ih =>
    rw [Nat.succ_mul, Pt.mul_add, ih]
    rfl
theorem Pt.mul_comm (m n : Nat) (P : Pt) : Pt.mul m (Pt.mul n P) = Pt.mul n (Pt.mul m P) := by rw [← Pt.mul_mul, Nat.mul_comm, Pt.mul_mul]
theorem Pt.cancel {P Q R : Pt} (h : P.add R = Q.add R) : P = Q := by
  have h1 := congrArg (fun X => X.add R.neg) h
  simp only [Pt.add_assoc, Pt.add_neg, Pt.add_zero] at h1
  exact h1
theorem Pt.neg_neg (P : Pt) : P.neg.neg = P := Pt.ext (show - -P.x = P.x by grind -lia -linarith (splits := 0)) rfl
theorem Pt.neg_add (P Q : Pt) : (P.add Q).neg = P.neg.add Q.neg := by
  refine Pt.cancel (R := P.add Q) ?_
  rw [Pt.add_comm, Pt.add_neg, Pt.add_comm P.neg, Pt.add_assoc, ← Pt.add_assoc P.neg, Pt.add_comm P.neg, Pt.add_neg, Pt.zero_add, Pt.add_comm, Pt.add_neg]
theorem Pt.mul_neg (n : Nat) (P : Pt) : Pt.mul n P.neg = (Pt.mul n P).neg := by
  induction n with
  | zero => exact Pt.ext (show (0 : FF) = -0 by grind -lia -linarith (splits := 0)) rfl
  | succ n ih =>
    show (Pt.mul n P.neg).add P.neg = ((Pt.mul n P).add P).neg
    rw [ih, Pt.neg_add]
end Go.Proofs.YtdeigmjbcbjgeaaDoor
/-
  Layers 9 and 10: the base point and its order; the ladder's step on the curve.
-/
namespace Go.Proofs.YtdeigmjbcbjgeaaDoor
set_option maxRecDepth 100000
theorem pr_1224481 : Pr 1224481 := trial (f := 1106) (by decide) (by kernel_rfl) (by decide)
theorem pr_531581 : Pr 531581 := trial (f := 729) (by decide) (by kernel_rfl) (by decide)
theorem pr_1257559732178653 : Pr 1257559732178653 := pock2' (r := 1224481) (s := 531581) (m := 1027014492) (k := 2365697292) (a := 2) (by decide) (by decide) pr_1224481 pr_531581 (by decide) (by decide) (by decide) (by kernel_rfl) (by kernel_rfl) (by kernel_rfl) (by decide)
theorem pr_4434155615661930479 : Pr 4434155615661930479 := pock1' (r := 1257559732178653) (m := 3526) (a := 2) (by decide) (by decide) pr_1257559732178653 (by decide) (by kernel_rfl) (by kernel_rfl) (by decide)
theorem pr_172054593956031949258510691 : Pr 172054593956031949258510691 := pock1' (r := 4434155615661930479) (m := 38802110) (a := 2) (by decide) (by decide) pr_4434155615661930479 (by decide) (by kernel_rfl) (by kernel_rfl) (by decide)
theorem pr_19757330305831588566944191468367130476339 : Pr 19757330305831588566944191468367130476339 := pock1' (r := 172054593956031949258510691) (m := 114831751082918) (a := 2) (by decide) (by decide) pr_172054593956031949258510691 (by decide) (by kernel_rfl) (by kernel_rfl) (by decide)
theorem pr_276602624281642239937218680557139826668747 : Pr 276602624281642239937218680557139826668747 := pock1' (r := 19757330305831588566944191468367130476339) (m := 14) (a := 2) (by decide) (by decide) pr_19757330305831588566944191468367130476339 (by decide) (by kernel_rfl) (by kernel_rfl) (by decide)
theorem pr_7237005577332262213973186563042994240857116359379907606001950938285454250989 : Pr 7237005577332262213973186563042994240857116359379907606001950938285454250989 := pock1' (r := 276602624281642239937218680557139826668747) (m := 26163907866482859529727157400808004) (a := 2) (by decide) (by decide) pr_276602624281642239937218680557139826668747 (by decide) (by kernel_rfl) (by kernel_rfl) (by decide)
abbrev qE : Nat := 7237005577332262213973186563042994240857116359379907606001950938285454250989
theorem prq : Pr qE := pr_7237005577332262213973186563042994240857116359379907606001950938285454250989
/-- The base point. -/
def Bx : FF := 15112221349535400772501151409588531511454012693041857206046113283949847762202
def By' : FF := 46316835694926478169428394003475163141307993866256225615783033603165251855960
theorem on_base : On Bx By' := by unfold On cE Bx By'; decide
def Bp : Pt := ⟨Bx, By', on_base⟩
/-! points as four numbers, reckoned -/
structure Exq where
  X : FF
  Y : FF
  Z : FF
  T : FF
/-- Four numbers stand for a point. -/
def Exq.For (e : Exq) (P : Pt) : Prop := e.Z ≠ 0 ∧ e.X = P.x * e.Z ∧ e.Y = P.y * e.Z ∧ e.T * e.Z = e.X * e.Y
/-- The sum, with k = 2 d, of c = 1 / d. -/
def Exq.add (k : FF) (a b : Exq) : Exq :=
  let A := (a.Y - a.X) * (b.Y - b.X)
  let B := (a.Y + a.X) * (b.Y + b.X)
  let C := a.T * b.T * k
  let Z := a.Z * b.Z
  let D := Z + Z
  ⟨(B - A) * (D - C), (D + C) * (B + A), (D - C) * (D + C), (B - A) * (B + A)⟩
theorem ext_t {t x y z : FF} (h : z ≠ 0) (e : t * z = x * z * (y * z)) : t = x * (y * z) := ff_cancel h (by grind -lia -linarith (splits := 0))
theorem ext_gen {c k x1 y1 z1 t1 x2 y2 z2 t2 X Y : FF} (hk : k * c = 2) (h1 : z1 ≠ 0) (h2 : z2 ≠ 0) (hc : c ≠ 0) (e1 : t1 * z1 = x1 * z1 * (y1 * z1)) (e2 : t2 * z2 = x2 * z2 * (y2 * z2)) (hu : c + x1 * x2 * y1 * y2 ≠ 0) (hv : c - x1 * x2 * y1 * y2 ≠ 0)
    (hX : X * (c + x1 * x2 * y1 * y2) = c * (x1 * y2 + x2 * y1)) (hY : Y * (c - x1 * x2 * y1 * y2) = c * (y1 * y2 + x1 * x2)) :
    ∀ A B C D : FF, A = (y1 * z1 - x1 * z1) * (y2 * z2 - x2 * z2) → B = (y1 * z1 + x1 * z1) * (y2 * z2 + x2 * z2) → C = t1 * t2 * k → D = z1 * z2 + z1 * z2 →
    (D - C) * (D + C) ≠ 0 ∧ (B - A) * (D - C) = X * ((D - C) * (D + C)) ∧ (D + C) * (B + A) = Y * ((D - C) * (D + C)) ∧ (B - A) * (B + A) * ((D - C) * (D + C)) = (B - A) * (D - C) * ((D + C) * (B + A)) := by
  intro A B C D hA hB hC hD
  have g1 := ext_t h1 e1
  have g2 := ext_t h2 e2
  clear e1 e2
  have hz := ff_mul_ne h1 h2
  have d1 : c * (D - C) = 2 * (z1 * z2) * (c - x1 * x2 * y1 * y2) := by rw [hD, hC, g1, g2]; clear hX hY hA hB hC hD; grind -lia -linarith (splits := 0)
  have d2 : c * (D + C) = 2 * (z1 * z2) * (c + x1 * x2 * y1 * y2) := by rw [hD, hC, g1, g2]; clear hX hY hA hB hC hD; grind -lia -linarith (splits := 0)
  have d3 : B - A = 2 * (z1 * z2) * (x1 * y2 + x2 * y1) := by rw [hA, hB]; clear hX hY hA hB hC hD; grind -lia -linarith (splits := 0)
  have d4 : B + A = 2 * (z1 * z2) * (y1 * y2 + x1 * x2) := by rw [hA, hB]; clear hX hY hA hB hC hD; grind -lia -linarith (splits := 0)
  clear hA hB hC hD g1 g2 hk
  generalize D - C = F at *
  generalize D + C = E at *
  generalize B - A = I at *
  generalize B + A = J at *
  generalize x1 * y2 + x2 * y1 = n at *
  generalize y1 * y2 + x1 * x2 = m at *
  generalize c + x1 * x2 * y1 * y2 = u at *
  generalize c - x1 * x2 * y1 * y2 = v at *
  generalize z1 * z2 = z at *
  have h2z : 2 * z ≠ 0 := ff_mul_ne ff_two hz
  refine ⟨?_, ?_, ?_, ?_⟩
  · intro e
    rcases ff_zero e with e | e
    · rw [e] at d1
      exact ff_mul_ne h2z hv (by grind -lia -linarith (splits := 0))
    · rw [e] at d2
      exact ff_mul_ne h2z hu (by grind -lia -linarith (splits := 0))
  · refine ff_cancel hc ?_
    have : c * (X * (F * E)) = X * F * (c * E) := by grind -lia -linarith (splits := 0)
    rw [this, d2, d3]
    have : X * F * (2 * z * u) = F * (2 * z) * (X * u) := by grind -lia -linarith (splits := 0)
    rw [this, hX]
    grind -lia -linarith (splits := 0)
  · refine ff_cancel hc ?_
    have : c * (Y * (F * E)) = Y * E * (c * F) := by grind -lia -linarith (splits := 0)
    rw [this, d1, d4]
    have : Y * E * (2 * z * v) = E * (2 * z) * (Y * v) := by grind -lia -linarith (splits := 0)
    rw [this, hY]
    grind -lia -linarith (splits := 0)
  · grind -lia -linarith (splits := 0)
theorem Exq.add_for {k : FF} (hk : k * cE = 2) {a b : Exq} {P Q : Pt} (ha : a.For P) (hb : b.For Q) : (a.add k b).For (P.add Q) := by
  obtain ⟨a1, a2, a3, a4⟩ := ha
  obtain ⟨b1, b2, b3, b4⟩ := hb
  obtain ⟨X, Y, Z, T⟩ := a
  obtain ⟨X', Y', Z', T'⟩ := b
  simp only at a1 a2 a3 a4 b1 b2 b3 b4
  subst a2 a3 b2 b3
  exact ext_gen hk a1 b1 cE_ne a4 b4 (den_ne P.on Q.on).1 (den_ne P.on Q.on).2 (add_x P Q) (add_y P Q) _ _ _ _ rfl rfl rfl rfl
def Exq.zero : Exq := ⟨0, 1, 1, 0⟩
theorem Exq.zero_for : Exq.zero.For .zero := ⟨by decide, by decide, by decide, by decide⟩
def Pt.toE (P : Pt) : Exq := ⟨P.x, P.y, 1, P.x * P.y⟩
theorem Pt.toE_for (P : Pt) : P.toE.For P := ⟨by show (1 : FF) ≠ 0; decide, by show P.x = P.x * 1; grind -lia -linarith (splits := 0), by show P.y = P.y * 1; grind -lia -linarith (splits := 0), by show P.x * P.y * 1 = P.x * P.y; grind -lia -linarith (splits := 0)⟩
/-- The multiple, from bit 255 on. -/
def Exq.mulk (k : FF) (n : Nat) (e : Exq) : Nat → Exq
  | 0 => .zero
  | j + 1 =>
    let d := (mulk k n e j).add k (mulk k n e j)
    if n.testBit (255 - j) then d.add k e else d
theorem two_mul (n : Nat) (P : Pt) : Pt.mul (2 * n) P = (Pt.mul n P).add (Pt.mul n P) := by rw [Nat.two_mul, Pt.mul_add]
theorem bit_step (n j : Nat) (hj : j < 256) : n / 2 ^ (255 - j) = 2 * (n / 2 ^ (256 - j)) + if n.testBit (255 - j) then 1 else 0 := by
  have h1 : n / 2 ^ (256 - j) = n / 2 ^ (255 - j) / 2 := by
    rw [Nat.div_div_eq_div_mul, ← Nat.pow_succ]
    congr 2
    omega
  rw [Nat.testBit_eq_decide_div_mod_eq, h1]
  generalize n / 2 ^ (255 - j) = y
  by_cases h : y % 2 = 1
  · rw [if_pos (decide_eq_true h)]; omega
  · rw [if_neg (by simpa using h)]; omega
theorem Exq.mulk_for {k : FF} (hk : k * cE = 2) {n : Nat} {e : Exq} {P : Pt} (hn : n < 2 ^ 256) (he : e.For P) : ∀ j, j ≤ 256 → (Exq.mulk k n e j).For (Pt.mul (n / 2 ^ (256 - j)) P) := by
  intro j
  induction j with
  | zero =>
    intro _
    rw [Nat.sub_zero, Nat.div_eq_of_lt hn]
    exact Exq.zero_for
  | succ j ih =>
    intro hj
    have ih := ih (by omega)
    have hd := Exq.add_for hk ih ih
    rw [← two_mul] at hd
    rw [show 256 - (j + 1) = 255 - j by omega, bit_step n j (by omega), mulk]
    split
    · exact Exq.add_for hk hd he
    · exact hd
theorem Exq.mulk_all {k : FF} (hk : k * cE = 2) {n : Nat} {e : Exq} {P : Pt} (hn : n < 2 ^ 256) (he : e.For P) : (Exq.mulk k n e 256).For (Pt.mul n P) := by
  have := Exq.mulk_for hk hn he 256 (Nat.le_refl _)
  rwa [Nat.sub_self, Nat.pow_zero, Nat.div_one] at this
end Go.Proofs.YtdeigmjbcbjgeaaDoor
/-
  Layer 9: the ladder on the curve; the order of the base point.
-/
namespace Go.Proofs.YtdeigmjbcbjgeaaDoor
theorem y_one {P : Pt} (h : P.y = 1) : P = .zero := by
  have ho := P.on
  unfold On at ho
  rw [h] at ho
  have hx : P.x * P.x = 0 := by
    have : (1 + cE) * (P.x * P.x) = 0 := by clear h; grind -lia -linarith (splits := 0)
    exact (ff_zero this).resolve_left (by unfold cE; decide)
  exact Pt.ext ((ff_zero hx).elim id id) h
theorem Pt.mul_gcd (P : Pt) : ∀ m n : Nat, Pt.mul m P = .zero → Pt.mul n P = .zero → Pt.mul (Nat.gcd m n) P = .zero := by
  intro m
  induction m using Nat.strongRecOn with
  | _ m ih =>
    intro n hm hn
    by_cases h0 : m = 0
    · rw [h0, Nat.gcd_zero_left]
      exact hn
    · rw [Nat.gcd_rec]
      refine ih (n % m) (Nat.mod_lt _ (by omega)) m ?_ hm
      have h1 := Nat.div_add_mod n m
      rw [← h1, Pt.mul_add, Nat.mul_comm, Pt.mul_mul, hm, Pt.mul_zero, Pt.zero_add] at hn
      exact hn
def kE : FF := 2 * 37095705934669439343138083508754565189542113879843219016388785533085940283555
theorem kE_c : kE * cE = 2 := by unfold kE cE; decide
theorem q_reckon : (Exq.mulk kE qE Bp.toE 256).X = 0 ∧ (Exq.mulk kE qE Bp.toE 256).Y = (Exq.mulk kE qE Bp.toE 256).Z := by
  constructor
  · kernel_rfl
  · kernel_rfl
theorem q_zero : Pt.mul qE Bp = .zero := by
  obtain ⟨h1, _, h3, _⟩ := Exq.mulk_all kE_c (n := qE) (by decide) (Pt.toE_for Bp)
  have h4 := q_reckon.2
  rw [h4] at h3
  refine y_one (ff_cancel h1 ?_)
  clear h4
  generalize (Exq.mulk kE qE Bp.toE 256).Z = z at *
  grind -lia -linarith (splits := 0)
theorem mul_ne {m : Nat} (h : ¬ qE ∣ m) : Pt.mul m Bp ≠ .zero := by
  intro e
  have h1 := Pt.mul_gcd Bp _ _ q_zero e
  rw [show Nat.gcd qE m = 1 from prq.coprime h, Pt.mul_one] at h1
  have := congrArg Pt.y h1
  exact absurd this (by decide)
end Go.Proofs.YtdeigmjbcbjgeaaDoor
