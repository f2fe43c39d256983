/-
  Layer 8: FieldRoots.
-/
import Derived.Test.YtepbhihklmclaaaFE
import Derived.Test.YtepbhihklmclaaaFP
namespace Go.Proofs.Ytepbhihklmclaaa
open Go.RowKit

theorem two_roots {r a : Nat} (hr : r < pP) (h : r * r % pP = a * a % pP) : r = a % pP ∨ (r + a) % pP = 0 := by
  have ha := mod_ltP a
  have h' : r * r % pP = a % pP * (a % pP) % pP := by rw [← Nat.mul_mod]; exact h
  rw [show (r + a) % pP = (r + a % pP) % pP by rw [Nat.add_mod_mod]]
  generalize a % pP = A at *
  have fac : ∀ x y : Nat, y ≤ x → x * x - y * y = (x - y) * (x + y) := by
    intro x y hxy
    obtain ⟨k, rfl⟩ : ∃ k, x = y + k := ⟨x - y, by omega⟩
    have e1 : (y + k) * (y + k) = y * y + y * k + (k * y + k * k) := by rw [Nat.add_mul, Nat.mul_add, Nat.mul_add]
    have e2 : k * (y + k + y) = k * y + k * k + k * y := by rw [Nat.mul_add, Nat.mul_add]
    rw [show y + k - y = k by omega, e1, e2, Nat.mul_comm y k]
    omega
  rcases Nat.le_total A r with hle | hle
  · have hd := dvd_of_mod_eq h' (Nat.mul_le_mul hle hle)
    rw [fac r A hle] at hd
    rcases prP.euclid hd with hd | hd
    · left
      obtain ⟨c, hc⟩ := hd
      rcases c with _ | c
      · omega
      · rw [Nat.mul_add] at hc
        omega
    · exact .inr (Nat.mod_eq_zero_of_dvd hd)
  · have hd := dvd_of_mod_eq h'.symm (Nat.mul_le_mul hle hle)
    rw [fac A r hle] at hd
    rcases prP.euclid hd with hd | hd
    · left
      obtain ⟨c, hc⟩ := hd
      rcases c with _ | c
      · omega
      · rw [Nat.mul_add] at hc
        omega
    · right
      rw [Nat.add_comm]
      exact Nat.mod_eq_zero_of_dvd hd
theorem odd_b {r : Nat} (h : r % 2 = 0) : ((bt r 0).tmod 2 != 0) = false := by
  rw [bt, show (2 : Int) = ((2 : Nat) : Int) from rfl, tmod_nat, Nat.mul_zero, Nat.pow_zero, Nat.div_one, show r % 256 % 2 = 0 by omega]
  rfl
/-- What the square of a has. -/
theorem sq_root (a : Nat) : (sqrtP (a * a % pP)).2 = true ∧ (sqrtP (a * a % pP)).1 * (sqrtP (a * a % pP)).1 % pP = a * a % pP ∧ (sqrtP (a * a % pP)).1 % 2 = 0 ∧ (sqrtP (a * a % pP)).1 < pP := by
  have hs := mod_ltP (a * a)
  have hy : a * a % pP = 0 ∨ (a * a % pP) ^ eH % pP = 1 := by
    by_cases h : a % pP = 0
    · left
      rw [Nat.mul_mod, h, Nat.zero_mul, Nat.zero_mod]
    · right
      rw [← Nat.pow_mod, ← Nat.pow_two, ← Nat.pow_mul, ← e_H.1]
      exact fermat1 prP (mod_ne h)
  have hr := root_ok hs hy
  have e : a * a % pP % pP = a * a % pP := Nat.mod_mod _ _
  have := sqrt_even (x := a * a % pP) (by rw [e]; exact hr.1) (by rw [e]; exact hr.2.1) (by rw [e]; exact hr.2.2)
  rw [e] at this
  exact ⟨by rw [sqrt_ok, e]; exact hr.1, this⟩
theorem root_zero : (rootP 0).2 = true := (root_ok prP.pos (.inl rfl)).1
/-- A number and twice it. -/
theorem one_of_two {a : Nat} (h : a % pP ≠ 0) : (sqrtP a).2 = !(sqrtP ((a + a) % pP)).2 := by
  have h2 := pP_two
  have hb : (a + a) % pP ≠ 0 := fun e => by
    have hd := Nat.dvd_of_mod_eq_zero e
    rw [show a + a = 2 * a by omega] at hd
    rcases prP.euclid hd with hd | hd
    · have := Nat.le_of_dvd (by decide) hd
      unfold pP at this
      omega
    · exact h (Nat.mod_eq_zero_of_dvd hd)
  rw [sqrt_ok, sqrt_ok, Nat.mod_mod, root_iff (mod_ltP a) h, root_iff (mod_ltP _) hb]
  rw [← Nat.pow_mod a, ← Nat.pow_mod (a + a), show a + a = 2 * a by omega, Nat.mul_pow, Nat.mul_mod, two_H]
  have hne : pP - 1 ≠ 1 := by unfold pP; omega
  have hnn := neg_neg 1
  rw [Nat.one_mul, Nat.mod_eq_of_lt (by omega : 1 < pP)] at hnn
  rcases half_one h with e | e
  · rw [e, Nat.mul_one, Nat.mod_eq_of_lt (by omega), decide_eq_true rfl, decide_eq_false hne]
    rfl
  · rw [e, hnn, decide_eq_true rfl, decide_eq_false hne]
    rfl
set_option maxRecDepth 100000 in
set_option maxHeartbeats 8000000 in
theorem roots_exec (a : Nat) (ha : a < 2 ^ 256) : execF ELb Try.f8 [F a] (ret1 (.v (.bool true))) := by
  have m1 := l_pMul ha ha
  have q1 := l_pSqrt (mod_lt256 (a * a))
  obtain ⟨k1, k2, k3, k4⟩ := sq_root a
  have hs := mod_lt256 (a * a)
  generalize hx : a * a % pP = s at m1 q1 k1 k2 k3 k4 hs
  rw [k1] at q1
  generalize (sqrtP s).1 = r at q1 k2 k3 k4
  have hr : r < 2 ^ 256 := Nat.lt_trans k4 pP_lt
  have m2 := l_pMul hr hr
  rw [k2] at m2
  have od := odd_b k3
  have r1 := l_pReduce ha
  have a1 := l_pAdd hr ha
  have a2 := l_pAdd ha ha
  have q2 := l_pSqrt ha
  have q3 := l_pSqrt (mod_lt256 (a + a))
  have two := two_roots k4 (k2.trans hx.symm)
  have b1 := beq_by hr (mod_lt256 a)
  have hcase : (a % pP = 0 ∧ r = a % pP ∧ (sqrtP a).2 = true ∧ (sqrtP ((a + a) % pP)).2 = true) ∨ (sqrtP a).2 = !(sqrtP ((a + a) % pP)).2 := by
    by_cases h : a % pP = 0
    · left
      have h0 : s = 0 := by rw [← hx, Nat.mul_mod, h, Nat.zero_mul, Nat.zero_mod]
      have hr0 : r = 0 := by
        rw [h0] at k2
        have hd : pP ∣ r := by
          rcases prP.euclid (Nat.dvd_of_mod_eq_zero k2) with hd | hd
          · exact hd
          · exact hd
        obtain ⟨c, hc⟩ := hd
        rcases c with _ | c
        · rw [hc, Nat.mul_zero]
        · rw [Nat.mul_add] at hc
          omega
      refine ⟨h, by rw [h, hr0], ?_, ?_⟩
      · rw [sqrt_ok, h]; exact root_zero
      · rw [sqrt_ok, Nat.mod_mod, Nat.add_mod, h, Nat.zero_mod]; exact root_zero
    · exact .inr (one_of_two h)
  generalize (sqrtP a).1 = u at q2
  generalize (sqrtP a).2 = v at q2 hcase
  generalize (sqrtP ((a + a) % pP)).1 = x at q3
  generalize (sqrtP ((a + a) % pP)).2 = y at q3 hcase
  have nn : ∀ b : Bool, (!(b == !b)) = true := by decide
  have n2 : ∀ b : Bool, (!((!b) == b)) = true := by decide
  rcases hcase with ⟨hz, hra, hv, hy⟩ | hv
  · have b2 : (!(by32 r == by32 (a % pP))) = false := by rw [b1, decide_eq_true hra]; rfl
    rw [hz] at r1 b2
    subst hv
    subst hy
    ((conv => whnf); repeat ((first | refine ⟨fun _ => ?_, fun h => absurd ((od).symm.trans h) (by decide)⟩ | refine ⟨fun h => absurd ((od).symm.trans h) (by decide), fun _ => ?_⟩ | refine ⟨fun _ => ?_, fun h => absurd ((b2).symm.trans h) (by decide)⟩ | refine ⟨fun h => absurd ((b2).symm.trans h) (by decide), fun _ => ?_⟩ | refine ⟨fun _ => ?_, fun h => absurd ((ne_self _).symm.trans h) (by decide)⟩ | refine ⟨fun h => absurd ((ne_self _).symm.trans h) (by decide), fun _ => ?_⟩ | refine ⟨fun _ => ?_, fun h => absurd ((eq_self _).symm.trans h) (by decide)⟩ | refine ⟨fun h => absurd ((eq_self _).symm.trans h) (by decide), fun _ => ?_⟩ | refine ⟨fun _ => ?_, fun h => absurd ((nb_self _).symm.trans h) (by decide)⟩ | refine ⟨fun h => absurd ((nb_self _).symm.trans h) (by decide), fun _ => ?_⟩ | ((with_reducible refine isN_ELb 22 ?_); first | refine ⟨_, m1, ?_⟩ | refine ⟨_, m2, ?_⟩) | ((with_reducible refine isN_ELb 24 ?_); first | refine ⟨_, q1, ?_⟩ | refine ⟨_, q2, ?_⟩ | refine ⟨_, q3, ?_⟩) | ((with_reducible refine isN_ELb 13 ?_); first | refine ⟨_, r1, ?_⟩) | ((with_reducible refine isN_ELb 18 ?_); first | refine ⟨_, a1, ?_⟩ | refine ⟨_, a2, ?_⟩) | ((with_reducible refine isN_ELb 17 ?_); first | refine ⟨_, l_awake, ?_⟩) | refine ⟨_, rfl, ?_⟩ | refine ⟨by decide, ?_⟩ | refine ⟨rfl, ?_⟩ | refine ⟨fun _ => ?_, fun h => absurd h (by decide)⟩ | refine ⟨fun h => absurd h (by decide), fun _ => ?_⟩ | refine ⟨inI_of (by omega), ?_⟩ | refine ⟨⟨rfl, inI_of (by omega)⟩, ?_⟩ | refine ⟨⟨rfl, by decide⟩, ?_⟩ | (apply Exists.intro; refine ⟨?_, ?_⟩; ((try simp only); (try simp only [Nat.zero_add]); (try simp only [Nat.mul_one]); (try simp only [Int.toNat_natCast]); exact at_g (by omega))) | (apply Exists.intro; refine ⟨?_, ?_⟩; ((try simp only); (try simp only [Nat.zero_add]); (try simp only [Nat.mul_one]); (try simp only [Int.toNat_natCast]); exact put_flat (by omega))) | refine ⟨_, cut_all (by omega), ?_⟩ | refine ⟨_, lay_all (by omega) (by omega), ?_⟩ | refine ⟨_, lay_all (by (try simp only); (try simp only [List.length_replicate]); (try simp only [List.length_cons]); (try simp only [List.length_nil]); omega) (by omega), ?_⟩ | refine ⟨by omega, ?_⟩ | refine ⟨len_flat (by omega), ?_⟩ | refine ⟨apart_uv _ _ _, ?_⟩ | refine ⟨_, resSlot_own rfl (by omega) (by first | exact .inl rfl | exact .inr ⟨rfl, rfl⟩), ?_⟩ | refine ⟨(by kernel_rfl : regB _ = true), ?_⟩ | refine ⟨⟨rfl, inI_of (by omega), by decide⟩, ?_⟩ | (apply Exists.intro; refine ⟨?_, ?_⟩; ((try simp only); (try simp only [Nat.zero_add]); (try simp only [Nat.mul_one]); (try simp only [Int.toNat_natCast]); exact at_drop_g (by omega))) | (apply Exists.intro; refine ⟨?_, ?_⟩; ((try simp only); (try simp only [Nat.zero_add]); (try simp only [Nat.mul_one]); (try simp only [Int.toNat_natCast]); exact cut_rest (by omega)))); conv => whnf))
    rfl
  · subst hv
    by_cases h : r = a % pP
    · have b2 : (!(by32 r == by32 (a % pP))) = false := by rw [b1, decide_eq_true h]; rfl
      cases y
      · ((conv => whnf); repeat ((first | refine ⟨fun _ => ?_, fun h => absurd ((od).symm.trans h) (by decide)⟩ | refine ⟨fun h => absurd ((od).symm.trans h) (by decide), fun _ => ?_⟩ | refine ⟨fun _ => ?_, fun h => absurd ((b2).symm.trans h) (by decide)⟩ | refine ⟨fun h => absurd ((b2).symm.trans h) (by decide), fun _ => ?_⟩ | refine ⟨fun _ => ?_, fun h => absurd ((ne_self _).symm.trans h) (by decide)⟩ | refine ⟨fun h => absurd ((ne_self _).symm.trans h) (by decide), fun _ => ?_⟩ | refine ⟨fun _ => ?_, fun h => absurd ((eq_self _).symm.trans h) (by decide)⟩ | refine ⟨fun h => absurd ((eq_self _).symm.trans h) (by decide), fun _ => ?_⟩ | refine ⟨fun _ => ?_, fun h => absurd ((nb_self _).symm.trans h) (by decide)⟩ | refine ⟨fun h => absurd ((nb_self _).symm.trans h) (by decide), fun _ => ?_⟩ | ((with_reducible refine isN_ELb 22 ?_); first | refine ⟨_, m1, ?_⟩ | refine ⟨_, m2, ?_⟩) | ((with_reducible refine isN_ELb 24 ?_); first | refine ⟨_, q1, ?_⟩ | refine ⟨_, q2, ?_⟩ | refine ⟨_, q3, ?_⟩) | ((with_reducible refine isN_ELb 13 ?_); first | refine ⟨_, r1, ?_⟩) | ((with_reducible refine isN_ELb 18 ?_); first | refine ⟨_, a1, ?_⟩ | refine ⟨_, a2, ?_⟩) | ((with_reducible refine isN_ELb 17 ?_); first | refine ⟨_, l_awake, ?_⟩) | refine ⟨_, rfl, ?_⟩ | refine ⟨by decide, ?_⟩ | refine ⟨rfl, ?_⟩ | refine ⟨fun _ => ?_, fun h => absurd h (by decide)⟩ | refine ⟨fun h => absurd h (by decide), fun _ => ?_⟩ | refine ⟨inI_of (by omega), ?_⟩ | refine ⟨⟨rfl, inI_of (by omega)⟩, ?_⟩ | refine ⟨⟨rfl, by decide⟩, ?_⟩ | (apply Exists.intro; refine ⟨?_, ?_⟩; ((try simp only); (try simp only [Nat.zero_add]); (try simp only [Nat.mul_one]); (try simp only [Int.toNat_natCast]); exact at_g (by omega))) | (apply Exists.intro; refine ⟨?_, ?_⟩; ((try simp only); (try simp only [Nat.zero_add]); (try simp only [Nat.mul_one]); (try simp only [Int.toNat_natCast]); exact put_flat (by omega))) | refine ⟨_, cut_all (by omega), ?_⟩ | refine ⟨_, lay_all (by omega) (by omega), ?_⟩ | refine ⟨_, lay_all (by (try simp only); (try simp only [List.length_replicate]); (try simp only [List.length_cons]); (try simp only [List.length_nil]); omega) (by omega), ?_⟩ | refine ⟨by omega, ?_⟩ | refine ⟨len_flat (by omega), ?_⟩ | refine ⟨apart_uv _ _ _, ?_⟩ | refine ⟨_, resSlot_own rfl (by omega) (by first | exact .inl rfl | exact .inr ⟨rfl, rfl⟩), ?_⟩ | refine ⟨(by kernel_rfl : regB _ = true), ?_⟩ | refine ⟨⟨rfl, inI_of (by omega), by decide⟩, ?_⟩ | (apply Exists.intro; refine ⟨?_, ?_⟩; ((try simp only); (try simp only [Nat.zero_add]); (try simp only [Nat.mul_one]); (try simp only [Int.toNat_natCast]); exact at_drop_g (by omega))) | (apply Exists.intro; refine ⟨?_, ?_⟩; ((try simp only); (try simp only [Nat.zero_add]); (try simp only [Nat.mul_one]); (try simp only [Int.toNat_natCast]); exact cut_rest (by omega)))); conv => whnf))
        rfl
      · ((conv => whnf); repeat ((first | refine ⟨fun _ => ?_, fun h => absurd ((od).symm.trans h) (by decide)⟩ | refine ⟨fun h => absurd ((od).symm.trans h) (by decide), fun _ => ?_⟩ | refine ⟨fun _ => ?_, fun h => absurd ((b2).symm.trans h) (by decide)⟩ | refine ⟨fun h => absurd ((b2).symm.trans h) (by decide), fun _ => ?_⟩ | refine ⟨fun _ => ?_, fun h => absurd ((ne_self _).symm.trans h) (by decide)⟩ | refine ⟨fun h => absurd ((ne_self _).symm.trans h) (by decide), fun _ => ?_⟩ | refine ⟨fun _ => ?_, fun h => absurd ((eq_self _).symm.trans h) (by decide)⟩ | refine ⟨fun h => absurd ((eq_self _).symm.trans h) (by decide), fun _ => ?_⟩ | refine ⟨fun _ => ?_, fun h => absurd ((nb_self _).symm.trans h) (by decide)⟩ | refine ⟨fun h => absurd ((nb_self _).symm.trans h) (by decide), fun _ => ?_⟩ | ((with_reducible refine isN_ELb 22 ?_); first | refine ⟨_, m1, ?_⟩ | refine ⟨_, m2, ?_⟩) | ((with_reducible refine isN_ELb 24 ?_); first | refine ⟨_, q1, ?_⟩ | refine ⟨_, q2, ?_⟩ | refine ⟨_, q3, ?_⟩) | ((with_reducible refine isN_ELb 13 ?_); first | refine ⟨_, r1, ?_⟩) | ((with_reducible refine isN_ELb 18 ?_); first | refine ⟨_, a1, ?_⟩ | refine ⟨_, a2, ?_⟩) | ((with_reducible refine isN_ELb 17 ?_); first | refine ⟨_, l_awake, ?_⟩) | refine ⟨_, rfl, ?_⟩ | refine ⟨by decide, ?_⟩ | refine ⟨rfl, ?_⟩ | refine ⟨fun _ => ?_, fun h => absurd h (by decide)⟩ | refine ⟨fun h => absurd h (by decide), fun _ => ?_⟩ | refine ⟨inI_of (by omega), ?_⟩ | refine ⟨⟨rfl, inI_of (by omega)⟩, ?_⟩ | refine ⟨⟨rfl, by decide⟩, ?_⟩ | (apply Exists.intro; refine ⟨?_, ?_⟩; ((try simp only); (try simp only [Nat.zero_add]); (try simp only [Nat.mul_one]); (try simp only [Int.toNat_natCast]); exact at_g (by omega))) | (apply Exists.intro; refine ⟨?_, ?_⟩; ((try simp only); (try simp only [Nat.zero_add]); (try simp only [Nat.mul_one]); (try simp only [Int.toNat_natCast]); exact put_flat (by omega))) | refine ⟨_, cut_all (by omega), ?_⟩ | refine ⟨_, lay_all (by omega) (by omega), ?_⟩ | refine ⟨_, lay_all (by (try simp only); (try simp only [List.length_replicate]); (try simp only [List.length_cons]); (try simp only [List.length_nil]); omega) (by omega), ?_⟩ | refine ⟨by omega, ?_⟩ | refine ⟨len_flat (by omega), ?_⟩ | refine ⟨apart_uv _ _ _, ?_⟩ | refine ⟨_, resSlot_own rfl (by omega) (by first | exact .inl rfl | exact .inr ⟨rfl, rfl⟩), ?_⟩ | refine ⟨(by kernel_rfl : regB _ = true), ?_⟩ | refine ⟨⟨rfl, inI_of (by omega), by decide⟩, ?_⟩ | (apply Exists.intro; refine ⟨?_, ?_⟩; ((try simp only); (try simp only [Nat.zero_add]); (try simp only [Nat.mul_one]); (try simp only [Int.toNat_natCast]); exact at_drop_g (by omega))) | (apply Exists.intro; refine ⟨?_, ?_⟩; ((try simp only); (try simp only [Nat.zero_add]); (try simp only [Nat.mul_one]); (try simp only [Int.toNat_natCast]); exact cut_rest (by omega)))); conv => whnf))
        rfl
    · have b2 : (!(by32 r == by32 (a % pP))) = true := by rw [b1, decide_eq_false h]; rfl
      rw [two.resolve_left h] at a1
      cases y
      · ((conv => whnf); repeat ((first | refine ⟨fun _ => ?_, fun h => absurd ((od).symm.trans h) (by decide)⟩ | refine ⟨fun h => absurd ((od).symm.trans h) (by decide), fun _ => ?_⟩ | refine ⟨fun _ => ?_, fun h => absurd ((b2).symm.trans h) (by decide)⟩ | refine ⟨fun h => absurd ((b2).symm.trans h) (by decide), fun _ => ?_⟩ | refine ⟨fun _ => ?_, fun h => absurd ((ne_self _).symm.trans h) (by decide)⟩ | refine ⟨fun h => absurd ((ne_self _).symm.trans h) (by decide), fun _ => ?_⟩ | refine ⟨fun _ => ?_, fun h => absurd ((eq_self _).symm.trans h) (by decide)⟩ | refine ⟨fun h => absurd ((eq_self _).symm.trans h) (by decide), fun _ => ?_⟩ | refine ⟨fun _ => ?_, fun h => absurd ((nb_self _).symm.trans h) (by decide)⟩ | refine ⟨fun h => absurd ((nb_self _).symm.trans h) (by decide), fun _ => ?_⟩ | ((with_reducible refine isN_ELb 22 ?_); first | refine ⟨_, m1, ?_⟩ | refine ⟨_, m2, ?_⟩) | ((with_reducible refine isN_ELb 24 ?_); first | refine ⟨_, q1, ?_⟩ | refine ⟨_, q2, ?_⟩ | refine ⟨_, q3, ?_⟩) | ((with_reducible refine isN_ELb 13 ?_); first | refine ⟨_, r1, ?_⟩) | ((with_reducible refine isN_ELb 18 ?_); first | refine ⟨_, a1, ?_⟩ | refine ⟨_, a2, ?_⟩) | ((with_reducible refine isN_ELb 17 ?_); first | refine ⟨_, l_awake, ?_⟩) | refine ⟨_, rfl, ?_⟩ | refine ⟨by decide, ?_⟩ | refine ⟨rfl, ?_⟩ | refine ⟨fun _ => ?_, fun h => absurd h (by decide)⟩ | refine ⟨fun h => absurd h (by decide), fun _ => ?_⟩ | refine ⟨inI_of (by omega), ?_⟩ | refine ⟨⟨rfl, inI_of (by omega)⟩, ?_⟩ | refine ⟨⟨rfl, by decide⟩, ?_⟩ | (apply Exists.intro; refine ⟨?_, ?_⟩; ((try simp only); (try simp only [Nat.zero_add]); (try simp only [Nat.mul_one]); (try simp only [Int.toNat_natCast]); exact at_g (by omega))) | (apply Exists.intro; refine ⟨?_, ?_⟩; ((try simp only); (try simp only [Nat.zero_add]); (try simp only [Nat.mul_one]); (try simp only [Int.toNat_natCast]); exact put_flat (by omega))) | refine ⟨_, cut_all (by omega), ?_⟩ | refine ⟨_, lay_all (by omega) (by omega), ?_⟩ | refine ⟨_, lay_all (by (try simp only); (try simp only [List.length_replicate]); (try simp only [List.length_cons]); (try simp only [List.length_nil]); omega) (by omega), ?_⟩ | refine ⟨by omega, ?_⟩ | refine ⟨len_flat (by omega), ?_⟩ | refine ⟨apart_uv _ _ _, ?_⟩ | refine ⟨_, resSlot_own rfl (by omega) (by first | exact .inl rfl | exact .inr ⟨rfl, rfl⟩), ?_⟩ | refine ⟨(by kernel_rfl : regB _ = true), ?_⟩ | refine ⟨⟨rfl, inI_of (by omega), by decide⟩, ?_⟩ | (apply Exists.intro; refine ⟨?_, ?_⟩; ((try simp only); (try simp only [Nat.zero_add]); (try simp only [Nat.mul_one]); (try simp only [Int.toNat_natCast]); exact at_drop_g (by omega))) | (apply Exists.intro; refine ⟨?_, ?_⟩; ((try simp only); (try simp only [Nat.zero_add]); (try simp only [Nat.mul_one]); (try simp only [Int.toNat_natCast]); exact cut_rest (by omega)))); conv => whnf))
        rfl
      · ((conv => whnf); repeat ((first | refine ⟨fun _ => ?_, fun h => absurd ((od).symm.trans h) (by decide)⟩ | refine ⟨fun h => absurd ((od).symm.trans h) (by decide), fun _ => ?_⟩ | refine ⟨fun _ => ?_, fun h => absurd ((b2).symm.trans h) (by decide)⟩ | refine ⟨fun h => absurd ((b2).symm.trans h) (by decide), fun _ => ?_⟩ | refine ⟨fun _ => ?_, fun h => absurd ((ne_self _).symm.trans h) (by decide)⟩ | refine ⟨fun h => absurd ((ne_self _).symm.trans h) (by decide), fun _ => ?_⟩ | refine ⟨fun _ => ?_, fun h => absurd ((eq_self _).symm.trans h) (by decide)⟩ | refine ⟨fun h => absurd ((eq_self _).symm.trans h) (by decide), fun _ => ?_⟩ | refine ⟨fun _ => ?_, fun h => absurd ((nb_self _).symm.trans h) (by decide)⟩ | refine ⟨fun h => absurd ((nb_self _).symm.trans h) (by decide), fun _ => ?_⟩ | ((with_reducible refine isN_ELb 22 ?_); first | refine ⟨_, m1, ?_⟩ | refine ⟨_, m2, ?_⟩) | ((with_reducible refine isN_ELb 24 ?_); first | refine ⟨_, q1, ?_⟩ | refine ⟨_, q2, ?_⟩ | refine ⟨_, q3, ?_⟩) | ((with_reducible refine isN_ELb 13 ?_); first | refine ⟨_, r1, ?_⟩) | ((with_reducible refine isN_ELb 18 ?_); first | refine ⟨_, a1, ?_⟩ | refine ⟨_, a2, ?_⟩) | ((with_reducible refine isN_ELb 17 ?_); first | refine ⟨_, l_awake, ?_⟩) | refine ⟨_, rfl, ?_⟩ | refine ⟨by decide, ?_⟩ | refine ⟨rfl, ?_⟩ | refine ⟨fun _ => ?_, fun h => absurd h (by decide)⟩ | refine ⟨fun h => absurd h (by decide), fun _ => ?_⟩ | refine ⟨inI_of (by omega), ?_⟩ | refine ⟨⟨rfl, inI_of (by omega)⟩, ?_⟩ | refine ⟨⟨rfl, by decide⟩, ?_⟩ | (apply Exists.intro; refine ⟨?_, ?_⟩; ((try simp only); (try simp only [Nat.zero_add]); (try simp only [Nat.mul_one]); (try simp only [Int.toNat_natCast]); exact at_g (by omega))) | (apply Exists.intro; refine ⟨?_, ?_⟩; ((try simp only); (try simp only [Nat.zero_add]); (try simp only [Nat.mul_one]); (try simp only [Int.toNat_natCast]); exact put_flat (by omega))) | refine ⟨_, cut_all (by omega), ?_⟩ | refine ⟨_, lay_all (by omega) (by omega), ?_⟩ | refine ⟨_, lay_all (by (try simp only); (try simp only [List.length_replicate]); (try simp only [List.length_cons]); (try simp only [List.length_nil]); omega) (by omega), ?_⟩ | refine ⟨by omega, ?_⟩ | refine ⟨len_flat (by omega), ?_⟩ | refine ⟨apart_uv _ _ _, ?_⟩ | refine ⟨_, resSlot_own rfl (by omega) (by first | exact .inl rfl | exact .inr ⟨rfl, rfl⟩), ?_⟩ | refine ⟨(by kernel_rfl : regB _ = true), ?_⟩ | refine ⟨⟨rfl, inI_of (by omega), by decide⟩, ?_⟩ | (apply Exists.intro; refine ⟨?_, ?_⟩; ((try simp only); (try simp only [Nat.zero_add]); (try simp only [Nat.mul_one]); (try simp only [Int.toNat_natCast]); exact at_drop_g (by omega))) | (apply Exists.intro; refine ⟨?_, ?_⟩; ((try simp only); (try simp only [Nat.zero_add]); (try simp only [Nat.mul_one]); (try simp only [Int.toNat_natCast]); exact cut_rest (by omega)))); conv => whnf))
        rfl
end Go.Proofs.Ytepbhihklmclaaa
