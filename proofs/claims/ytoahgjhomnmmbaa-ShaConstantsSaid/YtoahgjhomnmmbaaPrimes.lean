/-
  ShaConstants: which numbers the statement's loops come to, and the closed reckoning at each of them.
-/
import Derived.Test.YtoahgjhomnmmbaaCube2
import Derived.Test.YtoahgjhomnmmbaaRefSha
namespace Go.Proofs.Ytoahgjhomnmmbaa
open Go.RowKit

/-- The least d from 2 on whose square is above p. -/
def dOf (p : Nat) : Nat := ((List.range 30).find? (fun d => decide (2 ≤ d) && decide (p < d * d))).getD 30
/-- No number from 2 to below d divides p. -/
def chk (p d : Nat) : Bool := (List.range d).all (fun e => decide (e < 2) || p % e != 0)
theorem chk_two (p : Nat) : chk p 2 = true := rfl
theorem chk_succ (p d : Nat) (h : 2 ≤ d) : chk p (d + 1) = (chk p d && (p % d != 0)) := by
  have : ¬ d < 2 := by omega
  simp [chk, List.range_succ, this]
def isP (p : Nat) : Bool := chk p (dOf p)
/-- How many primes lie above 2 and up to 2 + j. -/
def cnt : Nat → Nat
  | 0 => 0
  | j + 1 => cnt j + (if isP (3 + j) then 1 else 0)
def wOf (p : Nat) : Nat := ((List.range 10).find? (fun v => decide (1 ≤ v) && decide (p < (v + 1) * (v + 1) * (v + 1)))).getD 10

theorem dOf_eq : ∀ p : Fin 412, ∀ d : Fin 26, 2 ≤ d.val → (d.val - 1) * (d.val - 1) ≤ p.val ∨ d.val = 2 → p.val < d.val * d.val → dOf p.val = d.val := by decide +kernel
theorem wOf_eq : ∀ p : Fin 412, ∀ v : Fin 9, 1 ≤ v.val → v.val * v.val * v.val ≤ p.val ∨ v.val = 1 → p.val < (v.val + 1) * (v.val + 1) * (v.val + 1) → wOf p.val = v.val := by decide +kernel
theorem cnt_last : cnt 407 = 79 := by kernel_rfl
theorem cnt_mono (j : Nat) : ∀ i, cnt j ≤ cnt (j + i)
  | 0 => Nat.le_refl _
  | i + 1 => Nat.le_trans (cnt_mono j i) (by rw [show j + (i + 1) = (j + i) + 1 by omega, cnt]; omega)
theorem cnt_lt (j : Nat) (h : cnt j < 79) : j < 407 := by
  rcases Nat.lt_or_ge j 407 with h1 | h1
  · exact h1
  · have := cnt_mono 407 (j - 407)
    rw [show 407 + (j - 407) = j by omega, cnt_last] at this
    omega

/-- The reckoning at 2 + j, where it is one of the first eighty primes. -/
def goodAt (j : Nat) : Bool :=
  !(decide (cnt j < 80) && (j == 0 || isP (2 + j))) ||
    (belowB (refKs.getD (cnt j) 0) (wOf (2 + j)) ((2 + j : Nat) : Int) && !belowB (refKs.getD (cnt j) 0 + 1) (wOf (2 + j)) ((2 + j : Nat) : Int) &&
      decide (0 ≤ refKs.getD (cnt j) 0) && decide (refKs.getD (cnt j) 0 < 18446744073709551615))
set_option maxRecDepth 1000000 in
theorem good_all : (List.range 408).all goodAt = true := by kernel_rfl
theorem good (j : Nat) (hj : j ≤ 407) (h1 : cnt j < 80) (h2 : j = 0 ∨ isP (2 + j) = true) :
    belowB (refKs.getD (cnt j) 0) (wOf (2 + j)) ((2 + j : Nat) : Int) = true ∧ belowB (refKs.getD (cnt j) 0 + 1) (wOf (2 + j)) ((2 + j : Nat) : Int) = false ∧
      0 ≤ refKs.getD (cnt j) 0 ∧ refKs.getD (cnt j) 0 < 18446744073709551615 := by
  have h := List.all_eq_true.1 good_all j (by simp; omega)
  have h3 : (j == 0 || isP (2 + j)) = true := by
    rcases h2 with rfl | h2
    · rfl
    · rw [h2]; simp
  rw [goodAt, h3] at h
  simp only [h1, decide_true, Bool.and_self, Bool.not_true, Bool.false_or, Bool.and_eq_true, Bool.not_eq_true', decide_eq_true_eq] at h
  exact ⟨h.1.1.1, h.1.1.2, h.1.2, h.2⟩
end Go.Proofs.Ytoahgjhomnmmbaa
