/-
  Layer 9: numbers as elements of the field; two parties agree.
-/
import Derived.Test.YtkennahakodfnaaGO
import Derived.Test.YtkennahakodfnaaFP
import Derived.Test.YtkennahakodfnaaGC
namespace Go.Proofs.Ytkennahakodfnaa
open Go.RowKit

def tF (n : Nat) : FF := ⟨n % pP, Nat.mod_lt _ pP_pos⟩
theorem tF_mod (n : Nat) : tF (n % pP) = tF n := Fin.ext (Nat.mod_mod _ _)
theorem tF_add (a b : Nat) : tF (a + b) = tF a + tF b := Fin.ext (by
  rw [Fin.val_add]
  exact Nat.add_mod a b pP)
theorem tF_mul (a b : Nat) : tF (a * b) = tF a * tF b := Fin.ext (by
  rw [Fin.val_mul]
  exact Nat.mul_mod a b pP)
theorem tF_pP : tF pP = 0 := Fin.ext (Nat.mod_self _)
theorem tF_sub {a : Nat} (h : a ≤ pP) : tF (pP - a) = - tF a := by
  have h1 : tF (pP - a) + tF a = 0 := by rw [← tF_add, Nat.sub_add_cancel h, tF_pP]
  generalize tF (pP - a) = x at *
  generalize tF a = y at *
  grind -lia -linarith (splits := 0)
theorem tF_nA (a b : Nat) : tF (nA a b) = tF a + tF b := by rw [nA, tF_mod, tF_add]
theorem tF_nM (a b : Nat) : tF (nM a b) = tF a * tF b := by rw [nM, tF_mod, tF_mul]
theorem tF_nS (a b : Nat) : tF (nS a b) = tF a - tF b := by
  rw [nS, tF_mod, tF_add, tF_sub (Nat.le_of_lt (Nat.mod_lt _ pP_pos)), tF_mod]
  generalize tF a = x
  generalize tF b = y
  grind -lia -linarith (splits := 0)
theorem tF_inj {a b : Nat} (ha : a < pP) (hb : b < pP) (h : tF a = tF b) : a = b := by
  have := congrArg Fin.val h
  have e : a % pP = b % pP := this
  rwa [Nat.mod_eq_of_lt ha, Nat.mod_eq_of_lt hb] at e
theorem tF_inv (a : Nat) : tF (pw a e3P) = ffi (tF a) ∨ tF a = 0 := by
  by_cases h : a % pP = 0
  · exact .inr (Fin.ext h)
  · refine .inl (ffi_uniq ?_).symm
    rw [← tF_mul]
    refine Fin.ext ?_
    show a * pw a e3P % pP = 1
    exact inv_one a h
theorem tF_div (x a : Nat) : tF (nM x (pw a e3P)) = tF x * ffi (tF a) := by
  rw [tF_nM]
  rcases tF_inv a with h | h
  · rw [h]
  · rw [h, ffi_zero]
    have ha : a % pP = 0 := congrArg Fin.val h
    have h0 : pw a e3P % pP = 0 := by
      have h1 := inv_zero a ha
      rw [pw_val a e3P e3P_lt, Nat.mod_mod, Nat.pow_mod, ha]
      have : 0 < e3P := by unfold e3P; omega
      rw [Nat.zero_pow this, Nat.zero_mod]
    rw [show tF (pw a e3P) = 0 from Fin.ext h0]
/-! the ladder -/
theorem dif_one (m : Nat) (P : Pt) : ((Pt.mul (m + 1) P).add (Pt.mul m P).neg).y = P.y := by
  show (((Pt.mul m P).add P).add (Pt.mul m P).neg).y = P.y
  rw [Pt.add_comm (Pt.mul m P), Pt.add_assoc, Pt.add_neg, Pt.add_zero]
theorem dif_neg' (m : Nat) (P : Pt) : ((Pt.mul m P).add (Pt.mul (m + 1) P).neg).y = P.y := by
  show ((Pt.mul m P).add ((Pt.mul m P).add P).neg).y = P.y
  rw [Pt.neg_add, ← Pt.add_assoc, Pt.add_neg, Pt.zero_add]
  rfl
theorem stp_mon {u : Nat} {s : Lad} {P Q : Pt} (hw : tF u * (1 - (Q.add P.neg).y) = 1 + (Q.add P.neg).y) (hw0 : tF u ≠ 0) (h : Mon (tF s.x) (tF s.z) P.y) (h' : Mon (tF s.v) (tF s.w) Q.y) :
    Mon (tF (stp u s).x) (tF (stp u s).z) (P.add P).y ∧ Mon (tF (stp u s).v) (tF (stp u s).w) (P.add Q).y := by
  have h1 := mon_dbl h
  have h2 := mon_dif hw hw0 h h'
  simp only [stp, tF_nM, tF_nA, tF_nS]
  rw [show tF 121665 = 121665 from rfl]
  exact ⟨h1, h2⟩
theorem lad_mon {u n : Nat} {P : Pt} (hn : n < 2 ^ 256) (hw : tF u * (1 - P.y) = 1 + P.y) (hw0 : tF u ≠ 0) : ∀ j, j ≤ 256 →
    Mon (tF (lad u n j).x) (tF (lad u n j).z) (Pt.mul (n / 2 ^ (256 - j)) P).y ∧ Mon (tF (lad u n j).v) (tF (lad u n j).w) (Pt.mul (n / 2 ^ (256 - j) + 1) P).y := by
  intro j
  induction j with
  | zero =>
    intro _
    rw [Nat.sub_zero, Nat.div_eq_of_lt hn]
    refine ⟨⟨fun e => absurd e.1 (show tF 1 ≠ 0 by decide), ?_⟩, ⟨fun e => absurd e.2 (show tF 1 ≠ 0 by decide), ?_⟩⟩
    · show (1 : FF) * (1 - 1) = 0 * (1 + 1)
      decide
    · rw [Nat.zero_add, Pt.mul_one]
      show tF u * (1 - P.y) = 1 * (1 + P.y)
      rw [hw]
      generalize P.y = y
      clear hw
      grind -lia -linarith (splits := 0)
  | succ j ih =>
    intro hj
    obtain ⟨i1, i2⟩ := ih (by omega)
    rw [show 256 - (j + 1) = 255 - j by omega, bit_step n j (by omega), lad]
    generalize n / 2 ^ (256 - j) = m at *
    split
    · obtain ⟨k1, k2⟩ := stp_mon (u := u) (s := swp (lad u n j)) (P := Pt.mul (m + 1) P) (Q := Pt.mul m P) (by rw [dif_neg']; exact hw) hw0 i2 i1
      rw [← two_mul, show 2 * (m + 1) = 2 * m + 1 + 1 by omega] at k1
      rw [← Pt.mul_add, show m + 1 + m = 2 * m + 1 by omega] at k2
      exact ⟨k2, k1⟩
    · obtain ⟨k1, k2⟩ := stp_mon (u := u) (s := lad u n j) (P := Pt.mul m P) (Q := Pt.mul (m + 1) P) (by rw [dif_one]; exact hw) hw0 i1 i2
      rw [← two_mul] at k1
      rw [← Pt.mul_add, show m + (m + 1) = 2 * m + 1 by omega] at k2
      exact ⟨k1, k2⟩
theorem mlt_uOf {u n : Nat} {P : Pt} (hn : n < 2 ^ 256) (hw : tF u * (1 - P.y) = 1 + P.y) (hw0 : tF u ≠ 0) : tF (mlt u n) = uOf (Pt.mul n P).y := by
  have h := (lad_mon hn hw hw0 256 (Nat.le_refl _)).1
  rw [Nat.sub_self, Nat.pow_zero, Nat.div_one] at h
  rw [mlt, tF_div]
  exact mon_out h
theorem clamp_free (k : Nat) : ¬ qE ∣ clampN k := by
  have e : clampN k = 8 * (k % 2 ^ 254 / 8 + 2 ^ 251) := by unfold clampN; omega
  rw [e]
  intro h
  rcases prq.euclid h with h | h
  · exact absurd (Nat.le_of_dvd (by decide) h) (by decide)
  · have := Nat.le_of_dvd (by omega) h
    have h2 : k % 2 ^ 254 / 8 + 2 ^ 251 < 2 ^ 252 := by omega
    have h3 : 2 ^ 252 ≤ qE := by decide
    omega
theorem clamp_mul (k l : Nat) : ¬ qE ∣ clampN l * clampN k := fun h => (prq.euclid h).elim (clamp_free l) (clamp_free k)
theorem nine : tF 9 * (1 - Bp.y) = 1 + Bp.y ∧ tF 9 ≠ 0 := ⟨by show tF 9 * (1 - By') = 1 + By'; decide, by decide⟩
theorem x25_lp (k u : Nat) : x25 k u < pP := nM_lp _ _
theorem x25_pub (k : Nat) : tF (x25 k 9) = uOf (Pt.mul (clampN k) Bp).y := by
  have := mlt_uOf (n := clampN k) (clampN_lt k) nine.1 nine.2
  exact this
theorem x25_sec (k l : Nat) : tF (x25 k (x25 l 9)) = uOf (Pt.mul (clampN k * clampN l) Bp).y := by
  obtain ⟨h1, h2⟩ := mul_y (clamp_free l)
  have hu := x25_pub l
  have hlt := x25_lp l 9
  have e : x25 k (x25 l 9) = mlt (x25 l 9) (clampN k) := by
    rw [x25, Nat.mod_eq_of_lt (show x25 l 9 < 2 ^ 255 from Nat.lt_trans hlt (by decide)), Nat.mod_eq_of_lt hlt]
  rw [e, Pt.mul_mul]
  exact mlt_uOf (clampN_lt k) (by rw [hu]; exact uOf_spec h1) (by rw [hu]; exact uOf_ne h1 h2)
/-- Two parties agree, on what is not 0. -/
theorem x25_agree (k l : Nat) : x25 k (x25 l 9) = x25 l (x25 k 9) ∧ x25 k (x25 l 9) ≠ 0 := by
  constructor
  · refine tF_inj (x25_lp _ _) (x25_lp _ _) ?_
    rw [x25_sec, x25_sec, Nat.mul_comm]
  · intro e
    obtain ⟨h1, h2⟩ := mul_y (clamp_mul l k)
    refine uOf_ne h1 h2 ?_
    rw [← x25_sec, e]
    rfl
end Go.Proofs.Ytkennahakodfnaa
