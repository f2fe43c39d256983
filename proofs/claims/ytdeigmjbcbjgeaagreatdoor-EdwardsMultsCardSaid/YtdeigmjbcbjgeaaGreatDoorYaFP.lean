/-
  Layer 8: roots and inverses modulo the prime.
-/
import Derived.Test.YtdeigmjbcbjgeaaGreatDoorYaFA
import Derived.Test.YtdeigmjbcbjgeaaGreatDoorYaFN
import Derived.Test.YtdeigmjbcbjgeaaGreatDoorYaGB
import Derived.Test.YtdeigmjbcbjgeaaGreatDoorYaGO
namespace Go.Proofs.YtdeigmjbcbjgeaaGreatDoor
open Go.RowKit

theorem prP : Pr pP := pr_57896044618658097711785492504343953926634992332820282019728792003956564819949
theorem pP_two : 2 ≤ pP := prP.1
theorem pwk_pmk (x e : Nat) : ∀ k, pwk x e k = pmk x e pP k
  | 0 => rfl
  | k + 1 => by rw [pwk, pmk, pwk_pmk x e k]
theorem pw_val (x e : Nat) (he : e < 2 ^ 256) : pw x e = x ^ e % pP := by
  rw [pw, pwk_pmk]
  exact pm_eq x e pP pP_two he
def eH : Nat := 28948022309329048855892746252171976963317496166410141009864396001978282409974
theorem e_H : pP - 1 = 2 * eH ∧ eH = 2 * e2P ∧ 2 * e1P = e2P + 1 ∧ e3P + 1 = pP - 1 := by
  unfold pP eH e1P e2P e3P
  omega
theorem eH_lt : eH < 2 ^ 256 := by unfold eH; omega
/-- 2 is no square. -/
theorem two_H : 2 ^ eH % pP = pP - 1 := by
  rw [← pm_eq 2 eH pP pP_two eH_lt]
  kernel_rfl
theorem mod_ne {a : Nat} (h : a % pP ≠ 0) : ¬ pP ∣ a := fun hd => h (Nat.mod_eq_zero_of_dvd hd)
/-! inverses -/
theorem inv_one (a : Nat) (h : a % pP ≠ 0) : a * pw a e3P % pP = 1 := by
  rw [pw_val a e3P e3P_lt, Nat.mul_mod_mod, ← Nat.pow_succ']
  show a ^ (e3P + 1) % pP = 1
  rw [e_H.2.2.2]
  exact fermat1 prP (mod_ne h)
theorem inv_zero (a : Nat) (h : a % pP = 0) : a * pw a e3P % pP = 0 := by
  rw [Nat.mul_mod, h, Nat.zero_mul, Nat.zero_mod]
/-! squares -/
theorem sq_one {t : Nat} (h : t * t % pP = 1) : t % pP = 1 ∨ t % pP = pP - 1 := by
  have h2 := pP_two
  have ht : t ≠ 0 := fun e => by rw [e] at h; simp at h
  have h1 : t * t % pP = 1 % pP := by rw [h, Nat.mod_eq_of_lt (by omega)]
  have hd := dvd_of_mod_eq h1 (Nat.mul_pos (Nat.pos_of_ne_zero ht) (Nat.pos_of_ne_zero ht))
  have e : t * t - 1 = (t - 1) * (t + 1) := by
    obtain ⟨k, rfl⟩ : ∃ k, t = k + 1 := ⟨t - 1, by omega⟩
    have h1 : (k + 1) * (k + 1) = k * (k + 1) + (k + 1) := Nat.succ_mul _ _
    have h2 : k * (k + 1 + 1) = k * (k + 1) + k := Nat.mul_succ _ _
    rw [Nat.add_sub_cancel]
    omega
  rw [e] at hd
  rcases prP.euclid hd with h | h
  · left
    rw [mod_of_dvd h (by omega)]
    exact Nat.mod_eq_of_lt (by omega)
  · right
    obtain ⟨c, hc⟩ := h
    have hc0 : c ≠ 0 := fun e => by rw [e] at hc; omega
    obtain ⟨d, rfl⟩ : ∃ d, c = d + 1 := ⟨c - 1, by omega⟩
    rw [show t = (pP - 1) + pP * d by rw [Nat.mul_add] at hc; omega, Nat.add_mul_mod_self_left]
    exact Nat.mod_eq_of_lt (by omega)
theorem neg_neg (x : Nat) : x * (pP - 1) * (pP - 1) % pP = x % pP := by
  have h2 := pP_two
  have e : (pP - 1) * (pP - 1) % pP = 1 % pP := by
    have : (pP - 1) * (pP - 1) = 1 + pP * (pP - 2) := by
      obtain ⟨k, hk⟩ : ∃ k, pP = k + 2 := ⟨pP - 2, by omega⟩
      have h1 : (k + 1) * (k + 1) = k * (k + 1) + (k + 1) := Nat.succ_mul _ _
      have h3 : k * (k + 1) = k * k + k := Nat.mul_succ _ _
      have h4 : (k + 2) * k = k * k + 2 * k := Nat.add_mul _ _ _
      rw [hk, show k + 2 - 1 = k + 1 by omega, show k + 2 - 2 = k by omega]
      omega
    rw [this, Nat.add_mul_mod_self_left]
  rw [Nat.mul_assoc, Nat.mul_mod, e, ← Nat.mul_mod, Nat.mul_one]
/-- The square of the first candidate. -/
theorem cand_sq (y : Nat) : pw y e1P * pw y e1P % pP = y * (y ^ e2P % pP) % pP := by
  rw [pw_val y e1P e1P_lt, ← Nat.mul_mod, ← Nat.pow_add, show e1P + e1P = e2P + 1 by have := e_H.2.2.1; omega, Nat.pow_succ', Nat.mul_mod_mod]
theorem two_sq : pw 2 e2P * pw 2 e2P % pP = pP - 1 := by
  rw [pw_val 2 e2P e2P_lt, ← Nat.mul_mod, ← Nat.pow_add, show e2P + e2P = eH by have := e_H.2.1; omega, two_H]
theorem half_sq (y : Nat) : y ^ e2P % pP * (y ^ e2P % pP) % pP = y ^ eH % pP := by
  rw [← Nat.mul_mod, ← Nat.pow_add, show e2P + e2P = eH by have := e_H.2.1; omega]
/-- Where there is a root. -/
theorem root_ok {y : Nat} (hy : y < pP) (h : y = 0 ∨ y ^ eH % pP = 1) : (rootP y).2 = true ∧ (rootP y).1 * (rootP y).1 % pP = y ∧ (rootP y).1 < pP := by
  have h2 := pP_two
  have hlt : pw y e1P < pP := by rw [pw_val y e1P e1P_lt]; exact Nat.mod_lt _ prP.pos
  by_cases hc : pw y e1P * pw y e1P % pP = y
  · rw [rootP, if_pos hc]
    exact ⟨rfl, hc, hlt⟩
  · rw [rootP, if_neg hc]
    have hr : pw y e1P * pw 2 e2P % pP * (pw y e1P * pw 2 e2P % pP) % pP = y := by
      rcases h with h | h
      · exfalso
        apply hc
        rw [cand_sq, h, Nat.zero_mul, Nat.zero_mod]
      · have ht := half_sq y
        rw [h] at ht
        rcases sq_one ht with ht | ht
        · exfalso
          apply hc
          rw [cand_sq, ← Nat.mod_mod (y ^ e2P), ht, Nat.mul_one, Nat.mod_eq_of_lt hy]
        · rw [Nat.mod_mod] at ht
          have e1 := cand_sq y
          rw [ht] at e1
          rw [← Nat.mul_mod, Nat.mul_mul_mul_comm, Nat.mul_mod, e1, two_sq, Nat.mod_mul_mod, neg_neg, Nat.mod_eq_of_lt hy]
    have hl := Nat.mod_lt (pw y e1P * pw 2 e2P) prP.pos
    generalize pw y e1P * pw 2 e2P % pP = r at *
    refine ⟨?_, hr, hl⟩
    show decide (r * r % pP = y) = true
    exact decide_eq_true hr
theorem neg_sq {r : Nat} (h : r < pP) : (pP - r) * (pP - r) % pP = r * r % pP := by
  obtain ⟨s, hs⟩ : ∃ s, pP = r + s := ⟨pP - r, by omega⟩
  rw [show pP - r = s by omega]
  have e : s * s + pP * r = r * r + pP * s := by
    rw [hs, Nat.add_mul, Nat.add_mul, Nat.mul_comm s r]
    omega
  rw [← Nat.add_mul_mod_self_left (s * s) pP r, e, Nat.add_mul_mod_self_left]
end Go.Proofs.YtdeigmjbcbjgeaaGreatDoor
/-
  Layer 9: numbers as elements of the field; two parties agree.
-/
namespace Go.Proofs.YtdeigmjbcbjgeaaGreatDoor
open Go.RowKit

def tF (n : Nat) : FF := ⟨n % pP, Nat.mod_lt _ pP_pos⟩
theorem tF_mod (n : Nat) : tF (n % pP) = tF n := Fin.ext (Nat.mod_mod _ _)
theorem tF_add (a b : Nat) : tF (a + b) = tF a + tF b := Fin.ext (by
  rw [Fin.val_add]
  exact Nat.add_mod a b pP)
theorem tF_mul (a b : Nat) : tF (a * b) = tF a * tF b := Fin.ext (by
  rw [Fin.val_mul]
  exact Nat.mul_mod a b pP)
theorem tF_pP : tF pP = 0 := Fin.ext (Nat.mod_self _)
theorem tF_sub {a : Nat} (h : a ≤ pP) : tF (pP - a) = - tF a := by
  have h1 : tF (pP - a) + tF a = 0 := by rw [← tF_add, Nat.sub_add_cancel h, tF_pP]
  generalize tF (pP - a) = x at *
  generalize tF a = y at *
  grind -lia -linarith (splits := 0)
theorem tF_nA (a b : Nat) : tF (nA a b) = tF a + tF b := by rw [nA, tF_mod, tF_add]
theorem tF_nM (a b : Nat) : tF (nM a b) = tF a * tF b := by rw [nM, tF_mod, tF_mul]
theorem tF_nS (a b : Nat) : tF (nS a b) = tF a - tF b := by
  rw [nS, tF_mod, tF_add, tF_sub (Nat.le_of_lt (Nat.mod_lt _ pP_pos)), tF_mod]
  generalize tF a = x
  generalize tF b = y
  grind -lia -linarith (splits := 0)
theorem tF_inj {a b : Nat} (ha : a < pP) (hb : b < pP) (h : tF a = tF b) : a = b := by
  have := congrArg Fin.val h
  have e : a % pP = b % pP := this
  rwa [Nat.mod_eq_of_lt ha, Nat.mod_eq_of_lt hb] at e
theorem tF_inv (a : Nat) : tF (pw a e3P) = ffi (tF a) ∨ tF a = 0 := by
  by_cases h : a % pP = 0
  · exact .inr (Fin.ext h)
  · refine .inl (ffi_uniq ?_).symm
    rw [← tF_mul]
    refine Fin.ext ?_
    show a * pw a e3P % pP = 1
    exact inv_one a h
theorem tF_div (x a : Nat) : tF (nM x (pw a e3P)) = tF x * ffi (tF a) := by
  rw [tF_nM]
  rcases tF_inv a with h | h
  · rw [h]
  · rw [h, ffi_zero]
    have ha : a % pP = 0 := congrArg Fin.val h
    have h0 : pw a e3P % pP = 0 := by
      have h1 := inv_zero a ha
      rw [pw_val a e3P e3P_lt, Nat.mod_mod, Nat.pow_mod, ha]
      have : 0 < e3P := by unfold e3P; omega
      rw [Nat.zero_pow this, Nat.zero_mod]
    rw [show tF (pw a e3P) = 0 from Fin.ext h0]
/-! the ladder -/
end Go.Proofs.YtdeigmjbcbjgeaaGreatDoor
