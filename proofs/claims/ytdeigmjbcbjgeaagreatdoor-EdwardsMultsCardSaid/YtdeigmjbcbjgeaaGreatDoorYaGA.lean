/-
  Layers 9 and 10: the field of 2^255 - 19 numbers, and the group of the curve.
-/
import Derived.Test.YtdeigmjbcbjgeaaGreatDoorYaFN
namespace Go.Proofs.YtdeigmjbcbjgeaaGreatDoor

abbrev FF := Fin 57896044618658097711785492504343953926634992332820282019728792003956564819949
theorem prF : Pr 57896044618658097711785492504343953926634992332820282019728792003956564819949 := pr_57896044618658097711785492504343953926634992332820282019728792003956564819949
theorem inv_gen {p a : Nat} (hp : Pr p) (ha : ¬ p ∣ a) : ∃ b, b < p ∧ a * b % p = 1 := by
  have h2 := hp.1
  refine ⟨a ^ (p - 2) % p, Nat.mod_lt _ (by omega), ?_⟩
  rw [Nat.mul_mod_mod, Nat.mul_comm, ← Nat.pow_succ, show (p - 2).succ = p - 1 by omega]
  exact fermat1 hp ha
theorem ff_dvd {a : FF} (h : a ≠ 0) : ¬ 57896044618658097711785492504343953926634992332820282019728792003956564819949 ∣ a.val := by
  refine prF.small (Nat.pos_of_ne_zero fun e => h (Fin.ext e)) a.isLt
theorem ff_zero {a b : FF} (h : a * b = 0) : a = 0 ∨ b = 0 := by
  have h1 := congrArg Fin.val h
  rw [Fin.val_mul] at h1
  rcases prF.euclid (Nat.dvd_of_mod_eq_zero h1) with hd | hd
  · exact .inl (Classical.byContradiction fun hn => ff_dvd hn hd)
  · exact .inr (Classical.byContradiction fun hn => ff_dvd hn hd)
theorem ff_mul_ne {a b : FF} (ha : a ≠ 0) (hb : b ≠ 0) : a * b ≠ 0 := fun h => (ff_zero h).elim ha hb
theorem ff_inv {a : FF} (h : a ≠ 0) : ∃ b : FF, a * b = 1 := by
  obtain ⟨b, hb, e⟩ := inv_gen prF (ff_dvd h)
  exact ⟨⟨b, hb⟩, Fin.ext (by rw [Fin.val_mul]; exact e)⟩
open Classical in
/-- The inverse, and 0 for 0. -/
noncomputable def ffi (a : FF) : FF := if h : ∃ b, a * b = 1 then Classical.choose h else 0
theorem ffi_mul {a : FF} (h : a ≠ 0) : a * ffi a = 1 := by
  unfold ffi
  rw [dif_pos (ff_inv h)]
  exact Classical.choose_spec (ff_inv h)
theorem ffi_zero : ffi 0 = 0 := by
  unfold ffi
  rw [dif_neg]
  rintro ⟨b, h⟩
  have : (0 : FF) * b = 0 := by grind
  rw [this] at h
  exact absurd h (by decide)
theorem ff_cancel {k a b : FF} (hk : k ≠ 0) (h : k * a = k * b) : a = b := by
  have h1 : k * (a - b) = 0 := by grind -lia -linarith (splits := 0)
  rcases ff_zero h1 with e | e
  · exact absurd e hk
  · grind -lia -linarith (splits := 0)
theorem ffi_uniq {a b : FF} (h : a * b = 1) : ffi a = b := by
  have ha : a ≠ 0 := by
    rintro rfl
    have : (0 : FF) * b = 0 := by grind
    rw [this] at h
    exact absurd h (by decide)
  exact ff_cancel ha ((ffi_mul ha).trans h.symm)
/-- A quotient. -/
theorem ffi_div {a b x : FF} (hb : b ≠ 0) : x = a * ffi b ↔ x * b = a := by
  have h1 := ffi_mul hb
  generalize ffi b = z at h1 ⊢
  constructor
  · intro e
    rw [e]
    grind -lia -linarith (splits := 0)
  · intro h
    apply ff_cancel hb
    grind -lia -linarith (splits := 0)
theorem ff_two : (2 : FF) ≠ 0 := by decide

/-! the curve -/
@[irreducible] def cE : FF := 29203323570479832313932222820853031755424015489030106335172286495629888845891
@[irreducible] def iE : FF := 19681161376707505956807079304988542015446066515923890162744021073123829784752
set_option maxRecDepth 100000 in
theorem iE_sq : iE * iE = -1 := by unfold iE; decide
theorem cE_ne : cE ≠ 0 := by unfold cE; decide
theorem cE_pow : pm 29203323570479832313932222820853031755424015489030106335172286495629888845891 28948022309329048855892746252171976963317496166410141009864396001978282409974 57896044618658097711785492504343953926634992332820282019728792003956564819949 ≠ 1 := by
  have : pm 29203323570479832313932222820853031755424015489030106335172286495629888845891 28948022309329048855892746252171976963317496166410141009864396001978282409974 57896044618658097711785492504343953926634992332820282019728792003956564819949 = 57896044618658097711785492504343953926634992332820282019728792003956564819948 := by kernel_rfl
  rw [this]
  decide
theorem nsq_gen {p c s h : Nat} (hp : Pr p) (hb : h < 2 ^ 256) (e : p - 1 = 2 * h) (hc : pm c h p ≠ 1) (hs : ¬ p ∣ s) : s * s % p ≠ c % p := by
  intro hq
  apply hc
  rw [pm_eq c h p hp.1 hb, Nat.pow_mod, ← hq, ← Nat.pow_mod, ← Nat.pow_two, ← Nat.pow_mul, ← e]
  exact fermat1 hp hs
theorem cE_nsq (s : FF) : s * s ≠ cE := by
  intro h
  by_cases hs : s = 0
  · rw [hs] at h
    exact cE_ne (h.symm.trans (by decide))
  · refine nsq_gen prF (by decide) (by decide) cE_pow (ff_dvd hs) ?_
    have h1 := congrArg Fin.val h
    rw [Fin.val_mul] at h1
    rw [h1]
    unfold cE
    decide
/-- A point's coordinates. -/
def On (x y : FF) : Prop := x * x * y * y = cE * (y * y - x * x - 1)
theorem on_ne {x1 y1 x2 y2 i c : FF} (hc : ∀ s : FF, s * s ≠ c) (hi : i * i = -1) (h1 : x1 * x1 * y1 * y1 = c * (y1 * y1 - x1 * x1 - 1)) (h2 : x2 * x2 * y2 * y2 = c * (y2 * y2 - x2 * x2 - 1)) : (x1 * x2 * y1 * y2) * (x1 * x2 * y1 * y2) ≠ c * c := by
  intro he
  have hc0 : c ≠ 0 := by
    rintro rfl
    exact hc 0 (by decide)
  have hx : x1 * y1 ≠ 0 := by
    intro e
    have : c * c = 0 := by rw [← he]; grind -lia -linarith (splits := 0)
    exact ff_mul_ne hc0 hc0 this
  have ea : (c * i * x1 + x1 * x2 * y1 * y2 * y1) * (c * i * x1 + x1 * x2 * y1 * y2 * y1) = c * (x1 * x1 * y1 * y1) * ((i * x2 + y2) * (i * x2 + y2)) := by grind -lia -linarith (splits := 0)
  have eb : (c * i * x1 - x1 * x2 * y1 * y2 * y1) * (c * i * x1 - x1 * x2 * y1 * y2 * y1) = c * (x1 * x1 * y1 * y1) * ((i * x2 - y2) * (i * x2 - y2)) := by grind -lia -linarith (splits := 0)
  have key : ∀ u v : FF, u * u = c * (x1 * x1 * y1 * y1) * (v * v) → v = 0 := by
    intro u v e
    refine Classical.byContradiction fun hv => ?_
    have hw := ff_mul_ne hx hv
    have h3 := ffi_mul hw
    refine hc (u * ffi (x1 * y1 * v)) ?_
    generalize ffi (x1 * y1 * v) = z at h3 ⊢
    have h4 : (x1 * y1 * v) * (x1 * y1 * v) * (u * z * (u * z)) = (x1 * y1 * v) * (x1 * y1 * v) * c := by grind -lia -linarith (splits := 0)
    exact ff_cancel (ff_mul_ne hw hw) h4
  have va := key _ _ ea
  have vb := key _ _ eb
  have hy2 : 2 * y2 = 0 := by grind -lia -linarith (splits := 0)
  rcases ff_zero hy2 with e | e
  · exact ff_two e
  · have : c * c = 0 := by rw [← he, e]; grind -lia -linarith (splits := 0)
    exact ff_mul_ne hc0 hc0 this
theorem den_ne {x1 y1 x2 y2 : FF} (h1 : On x1 y1) (h2 : On x2 y2) : cE + x1 * x2 * y1 * y2 ≠ 0 ∧ cE - x1 * x2 * y1 * y2 ≠ 0 := by
  have h := on_ne cE_nsq iE_sq h1 h2
  generalize x1 * x2 * y1 * y2 = e at h ⊢
  generalize cE = c at h ⊢
  constructor
  · intro h3
    exact h (by grind -lia -linarith (splits := 0))
  · intro h3
    exact h (by grind -lia -linarith (splits := 0))
@[ext] structure Pt where
  x : FF
  y : FF
  on : On x y
theorem closed_id {c x1 y1 x2 y2 : FF} (h1 : x1 * x1 * y1 * y1 = c * (y1 * y1 - x1 * x1 - 1)) (h2 : x2 * x2 * y2 * y2 = c * (y2 * y2 - x2 * x2 - 1)) :
    (c * (x1 * y2 + x2 * y1)) * (c * (x1 * y2 + x2 * y1)) * (c * (y1 * y2 + x1 * x2)) * (c * (y1 * y2 + x1 * x2)) = c * ((c * (y1 * y2 + x1 * x2)) * (c * (y1 * y2 + x1 * x2)) * ((c + x1 * x2 * y1 * y2) * (c + x1 * x2 * y1 * y2)) - (c * (x1 * y2 + x2 * y1)) * (c * (x1 * y2 + x2 * y1)) * ((c - x1 * x2 * y1 * y2) * (c - x1 * x2 * y1 * y2)) - (c + x1 * x2 * y1 * y2) * (c + x1 * x2 * y1 * y2) * ((c - x1 * x2 * y1 * y2) * (c - x1 * x2 * y1 * y2))) := by
  grind -lia -linarith (splits := 0)
theorem closed_gen {c a b u v n m : FF} (hu : u ≠ 0) (hv : v ≠ 0) (ha : a * u = n) (hb : b * v = m) (h : n * n * m * m = c * (m * m * (u * u) - n * n * (v * v) - u * u * (v * v))) : a * a * b * b = c * (b * b - a * a - 1) := by
  refine ff_cancel (ff_mul_ne (ff_mul_ne hu hv) (ff_mul_ne hu hv)) ?_
  subst ha hb
  grind -lia -linarith (splits := 0)
theorem closed {x1 y1 x2 y2 a b : FF} (h1 : On x1 y1) (h2 : On x2 y2) (ha : a * (cE + x1 * x2 * y1 * y2) = cE * (x1 * y2 + x2 * y1)) (hb : b * (cE - x1 * x2 * y1 * y2) = cE * (y1 * y2 + x1 * x2)) : On a b :=
  closed_gen (den_ne h1 h2).1 (den_ne h1 h2).2 ha hb (closed_id h1 h2)
noncomputable def Pt.add (P Q : Pt) : Pt where
  x := cE * (P.x * Q.y + Q.x * P.y) * ffi (cE + P.x * Q.x * P.y * Q.y)
  y := cE * (P.y * Q.y + P.x * Q.x) * ffi (cE - P.x * Q.x * P.y * Q.y)
  on := closed P.on Q.on ((ffi_div (den_ne P.on Q.on).1).1 rfl) ((ffi_div (den_ne P.on Q.on).2).1 rfl)
theorem add_x (P Q : Pt) : (P.add Q).x * (cE + P.x * Q.x * P.y * Q.y) = cE * (P.x * Q.y + Q.x * P.y) := (ffi_div (den_ne P.on Q.on).1).1 rfl
theorem add_y (P Q : Pt) : (P.add Q).y * (cE - P.x * Q.x * P.y * Q.y) = cE * (P.y * Q.y + P.x * Q.x) := (ffi_div (den_ne P.on Q.on).2).1 rfl
theorem add_eq {P Q R : Pt} (hx : R.x * (cE + P.x * Q.x * P.y * Q.y) = cE * (P.x * Q.y + Q.x * P.y)) (hy : R.y * (cE - P.x * Q.x * P.y * Q.y) = cE * (P.y * Q.y + P.x * Q.x)) : P.add Q = R :=
  Pt.ext ((ffi_div (den_ne P.on Q.on).1).2 hx).symm ((ffi_div (den_ne P.on Q.on).2).2 hy).symm
def Pt.zero : Pt := ⟨0, 1, by unfold On; grind -lia -linarith (splits := 0)⟩
def Pt.neg (P : Pt) : Pt := ⟨-P.x, P.y, by have h := P.on; unfold On at h ⊢; grind -lia -linarith (splits := 0)⟩
theorem Pt.add_comm (P Q : Pt) : P.add Q = Q.add P := by
  have hx := add_x Q P
  have hy := add_y Q P
  exact add_eq (by grind -lia -linarith (splits := 0)) (by grind -lia -linarith (splits := 0))
theorem Pt.add_zero (P : Pt) : P.add .zero = P := by
  refine add_eq ?_ ?_
  · show P.x * (cE + P.x * 0 * P.y * 1) = cE * (P.x * 1 + 0 * P.y)
    grind -lia -linarith (splits := 0)
  · show P.y * (cE - P.x * 0 * P.y * 1) = cE * (P.y * 1 + P.x * 0)
    grind -lia -linarith (splits := 0)
theorem Pt.zero_add (P : Pt) : Pt.zero.add P = P := (Pt.add_comm _ _).trans P.add_zero
theorem as_x {c x1 y1 x2 y2 x3 y3 : FF} (h1 : x1 * x1 * y1 * y1 = c * (y1 * y1 - x1 * x1 - 1)) (h2 : x2 * x2 * y2 * y2 = c * (y2 * y2 - x2 * x2 - 1)) (h3 : x3 * x3 * y3 * y3 = c * (y3 * y3 - x3 * x3 - 1)) :
    ((x1 * y2 + x2 * y1) * (c - x1 * x2 * y1 * y2) * y3 + x3 * (y1 * y2 + x1 * x2) * (c + x1 * x2 * y1 * y2)) * ((c + x2 * x3 * y2 * y3) * (c - x2 * x3 * y2 * y3) + c * (x1 * y1 * (x2 * y3 + x3 * y2) * (y2 * y3 + x2 * x3))) =
    (x1 * (y2 * y3 + x2 * x3) * (c + x2 * x3 * y2 * y3) + y1 * (x2 * y3 + x3 * y2) * (c - x2 * x3 * y2 * y3)) * ((c + x1 * x2 * y1 * y2) * (c - x1 * x2 * y1 * y2) + c * (x3 * y3 * (x1 * y2 + x2 * y1) * (y1 * y2 + x1 * x2))) := by
  grind -lia -linarith (splits := 0)
theorem as_y {c x1 y1 x2 y2 x3 y3 : FF} (h1 : x1 * x1 * y1 * y1 = c * (y1 * y1 - x1 * x1 - 1)) (h2 : x2 * x2 * y2 * y2 = c * (y2 * y2 - x2 * x2 - 1)) (h3 : x3 * x3 * y3 * y3 = c * (y3 * y3 - x3 * x3 - 1)) :
    ((y1 * y2 + x1 * x2) * (c + x1 * x2 * y1 * y2) * y3 + x3 * (x1 * y2 + x2 * y1) * (c - x1 * x2 * y1 * y2)) * ((c + x2 * x3 * y2 * y3) * (c - x2 * x3 * y2 * y3) - c * (x1 * y1 * (x2 * y3 + x3 * y2) * (y2 * y3 + x2 * x3))) =
    (y1 * (y2 * y3 + x2 * x3) * (c + x2 * x3 * y2 * y3) + x1 * (x2 * y3 + x3 * y2) * (c - x2 * x3 * y2 * y3)) * ((c + x1 * x2 * y1 * y2) * (c - x1 * x2 * y1 * y2) - c * (x3 * y3 * (x1 * y2 + x2 * y1) * (y1 * y2 + x1 * x2))) := by
  grind -lia -linarith (splits := 0)
theorem as_num {c a b u v n m x y : FF} (ha : a * u = n) (hb : b * v = m) : c * (x * b + a * y) * (u * v) = c * (x * m * u + y * n * v) := by
  subst ha hb
  grind -lia -linarith (splits := 0)
theorem as_nuy {c a b u v n m x y : FF} (ha : a * u = n) (hb : b * v = m) : c * (y * b + x * a) * (u * v) = c * (y * m * u + x * n * v) := by
  subst ha hb
  grind -lia -linarith (splits := 0)
theorem as_den {c a b u v n m x y : FF} (ha : a * u = n) (hb : b * v = m) : (c + x * a * y * b) * (u * v) = c * (u * v) + x * y * (n * m) := by
  subst ha hb
  grind -lia -linarith (splits := 0)
theorem as_dey {c a b u v n m x y : FF} (ha : a * u = n) (hb : b * v = m) : (c - x * a * y * b) * (u * v) = c * (u * v) - x * y * (n * m) := by
  subst ha hb
  grind -lia -linarith (splits := 0)
theorem as_fin {X k1 L1 k2 L2 s t l1 d2 d1 l2 : FF} (hs : s ≠ 0) (ht : t ≠ 0) (hk : k1 ≠ 0) (hX : X * k1 = L1) (e1 : L1 * t = l1) (e2 : k2 * s = d2) (e3 : k1 * t = d1) (e4 : L2 * s = l2) (e : l1 * d2 = l2 * d1) : X * k2 = L2 := by
  refine ff_cancel (ff_mul_ne hk (ff_mul_ne hs ht)) ?_
  subst hX e1 e2 e3 e4
  grind -lia -linarith (splits := 0)
theorem Pt.add_assoc (P Q R : Pt) : (P.add Q).add R = P.add (Q.add R) := by
  have ha := add_x P Q
  have hb := add_y P Q
  have hc := add_x Q R
  have hd := add_y Q R
  have hu := (den_ne P.on Q.on).1
  have hv := (den_ne P.on Q.on).2
  have hw := (den_ne Q.on R.on).1
  have hz := (den_ne Q.on R.on).2
  have hs := ff_mul_ne hu hv
  have ht := ff_mul_ne hw hz
  have k1 := den_ne P.on (Q.add R).on
  have f1 := add_x P (Q.add R)
  have f2 := add_y P (Q.add R)
  have x1 := as_x P.on Q.on R.on
  have y1 := as_y P.on Q.on R.on
  refine add_eq ?_ ?_
  · rw [show (P.add Q).x * R.x * (P.add Q).y * R.y = R.x * (P.add Q).x * R.y * (P.add Q).y by grind -lia -linarith (splits := 0), show (P.add Q).x * R.y + R.x * (P.add Q).y = R.x * (P.add Q).y + (P.add Q).x * R.y by grind -lia -linarith (splits := 0)]
    rw [show P.x * (Q.add R).y + (Q.add R).x * P.y = P.x * (Q.add R).y + (Q.add R).x * P.y from rfl, show P.x * (Q.add R).x * P.y * (Q.add R).y = P.x * (Q.add R).x * P.y * (Q.add R).y from rfl] at f1
    refine as_fin hs ht k1.1 f1 (as_num hc hd) (as_den ha hb) (as_den hc hd) (as_num ha hb) ?_
    clear ha hb hc hd hu hv hw hz hs ht k1 f1 f2 y1
    revert x1
    generalize cE = c
    generalize P.x * Q.y + Q.x * P.y = n
    generalize P.y * Q.y + P.x * Q.x = m
    generalize Q.x * R.y + R.x * Q.y = n'
    generalize Q.y * R.y + Q.x * R.x = m'
    generalize c + P.x * Q.x * P.y * Q.y = u
    generalize c - P.x * Q.x * P.y * Q.y = v
    generalize c + Q.x * R.x * Q.y * R.y = u'
    generalize c - Q.x * R.x * Q.y * R.y = v'
    intro x1
    grind -lia -linarith (splits := 0)
  · rw [show (P.add Q).x * R.x * (P.add Q).y * R.y = R.x * (P.add Q).x * R.y * (P.add Q).y by grind -lia -linarith (splits := 0), show (P.add Q).y * R.y + (P.add Q).x * R.x = R.y * (P.add Q).y + R.x * (P.add Q).x by grind -lia -linarith (splits := 0)]
    refine as_fin hs ht k1.2 f2 (as_nuy hc hd) (as_dey ha hb) (as_dey hc hd) (as_nuy ha hb) ?_
    clear ha hb hc hd hu hv hw hz hs ht k1 f1 f2 x1
    revert y1
    generalize cE = c
    generalize P.x * Q.y + Q.x * P.y = n
    generalize P.y * Q.y + P.x * Q.x = m
    generalize Q.x * R.y + R.x * Q.y = n'
    generalize Q.y * R.y + Q.x * R.x = m'
    generalize c + P.x * Q.x * P.y * Q.y = u
    generalize c - P.x * Q.x * P.y * Q.y = v
    generalize c + Q.x * R.x * Q.y * R.y = u'
    generalize c - Q.x * R.x * Q.y * R.y = v'
    intro y1
    grind -lia -linarith (splits := 0)
/-! multiples -/
noncomputable def Pt.mul : Nat → Pt → Pt
  | 0, _ => .zero
  | n + 1, P => (Pt.mul n P).add P
theorem Pt.mul_add (m n : Nat) (P : Pt) : Pt.mul (m + n) P = (Pt.mul m P).add (Pt.mul n P) := by
  induction n with
  | zero => exact (Pt.add_zero _).symm
  | succ n ih =>
    show (Pt.mul (m + n) P).add P = (Pt.mul m P).add ((Pt.mul n P).add P)
    rw [ih, Pt.add_assoc]
theorem Pt.mul_zero (n : Nat) : Pt.mul n .zero = .zero := by
  induction n with
  | zero => rfl
  | succ n ih =>
    show (Pt.mul n .zero).add .zero = .zero
    rw [ih, Pt.add_zero]
theorem Pt.mul_one (P : Pt) : Pt.mul 1 P = P := Pt.zero_add P
theorem Pt.mul_mul (m n : Nat) (P : Pt) : Pt.mul (m * n) P = Pt.mul m (Pt.mul n P) := by
  induction m with
  | zero =>
    rw [Nat.zero_mul]
    rfl
  | succ m ih =>
    rw [Nat.succ_mul, Pt.mul_add, ih]
    rfl
theorem Pt.mul_comm (m n : Nat) (P : Pt) : Pt.mul m (Pt.mul n P) = Pt.mul n (Pt.mul m P) := by rw [← Pt.mul_mul, Nat.mul_comm, Pt.mul_mul]
theorem Pt.neg_neg (P : Pt) : P.neg.neg = P := Pt.ext (show - -P.x = P.x by grind -lia -linarith (splits := 0)) rfl
end Go.Proofs.YtdeigmjbcbjgeaaGreatDoor
