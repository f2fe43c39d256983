/-
  Plain lists of numbers: changed place by place; blocks of sixteen; bytes.
-/
import Derived.Test.YtcmceadekcfpbaaMQ
import Derived.Laws.BitsAllLaws
namespace Go.Proofs.Ytcmceadekcfpbaa
open Go.RowKit

abbrev x8 (a b : Int) : Int := bits .xor .u8 a b



theorem g_eq (l : List Int) (i : Nat) : l.getD i 0 = g l i := rfl
theorem g_lt {l : List Int} {i : Nat} (h : i < l.length) : l[i]? = some (g l i) := by simp [g, List.getD_eq_getElem?_getD, h]
theorem ext_g {a b : List Int} (h : a.length = b.length) (hg : ∀ i, i < a.length → g a i = g b i) : a = b := by
  apply List.ext_getElem?
  intro i
  by_cases hi : i < a.length
  · rw [g_lt hi, g_lt (by omega), hg i hi]
  · rw [List.getElem?_eq_none (by omega), List.getElem?_eq_none (by omega)]
theorem g_map {f : Nat → Int} {n i : Nat} (h : i < n) : g ((List.range n).map f) i = f i := by simp [g, List.getD_eq_getElem?_getD, h]

/-- Below i as f says, from there on as l. -/
def upd (f : Nat → Int) (l : List Int) (i : Nat) : List Int := (List.range l.length).map fun j => if j < i then f j else g l j
theorem upd_len (f : Nat → Int) (l : List Int) (i : Nat) : (upd f l i).length = l.length := by simp [upd]
theorem g_upd {f : Nat → Int} {l : List Int} {i j : Nat} (h : j < l.length) : g (upd f l i) j = if j < i then f j else g l j := g_map h
theorem upd_zero (f : Nat → Int) (l : List Int) : upd f l 0 = l := ext_g (upd_len _ _ _) fun i hi => by rw [g_upd (by rwa [upd_len] at hi)]; simp
theorem upd_all (f : Nat → Int) (l : List Int) {n : Nat} (h : l.length = n) : upd f l n = (List.range n).map f := by
  subst h
  exact ext_g (by simp [upd]) fun i hi => by
    rw [upd_len] at hi
    rw [g_upd hi, if_pos hi, g_map hi]
theorem g_set {l : List Int} {i j : Nat} {x : Int} (h : i < l.length) : g (l.set i x) j = if j = i then x else g l j := by
  simp only [g, List.getD_eq_getElem?_getD, List.getElem?_set]
  by_cases e : i = j
  · subst e; simp [h]
  · rw [if_neg e, if_neg (fun h => e h.symm)]
theorem upd_set (f : Nat → Int) (l : List Int) {i : Nat} (h : i < l.length) : (upd f l i).set i (f i) = upd f l (i + 1) :=
  ext_g (by simp [upd]) fun j hj => by
    have hj' : j < l.length := by simpa [upd] using hj
    rw [g_set (by rw [upd_len]; exact h), g_upd hj', g_upd hj']
    by_cases e : j = i
    · subst e; simp
    · rw [if_neg e]
      by_cases h2 : j < i
      · rw [if_pos h2, if_pos (by omega)]
      · rw [if_neg h2, if_neg (by omega)]

/-! bytes -/
def By (l : List Int) : Prop := ∀ x ∈ l, 0 ≤ x ∧ x < 256
theorem By.g {l : List Int} (h : By l) (i : Nat) : 0 ≤ g l i ∧ g l i < 256 := by
  by_cases hi : i < l.length
  · exact h _ (List.mem_of_getElem? (g_lt hi))
  · simp [Go.Proofs.Ytcmceadekcfpbaa.g, List.getD_eq_getElem?_getD, List.getElem?_eq_none (Nat.not_lt.1 hi)]
theorem By.map {f : Nat → Int} {n : Nat} (h : ∀ i, i < n → 0 ≤ f i ∧ f i < 256) : By ((List.range n).map f) := by
  intro x hx
  obtain ⟨i, hi, rfl⟩ := List.mem_map.1 hx
  exact h i (List.mem_range.1 hi)
theorem By.ok {l : List Int} (h : By l) : byteOk l = true := byteOk_iff.2 h
theorem x8_byte {a b : Int} (ha : 0 ≤ a ∧ a < 256) (hb : 0 ≤ b ∧ b < 256) : 0 ≤ x8 a b ∧ x8 a b < 256 := by
  have e := u8_xor a b ha.1 ha.2 hb.1 hb.2
  have h := Nat.xor_lt_two_pow (x := a.toNat) (y := b.toNat) (n := 8) (by omega) (by omega)
  unfold x8
  rw [e]
  omega
theorem w8_byte (a : Int) : 0 ≤ IntKind.u8.wrap a ∧ IntKind.u8.wrap a < 256 := by
  simp [IntKind.wrap, IntKind.signed, IntKind.bits]
  omega

/-! blocks of sixteen -/
def flatK (f : Nat → List Int) (n : Nat) : List Int := ((List.range n).map f).flatten
theorem flatK_succ (f : Nat → List Int) (n : Nat) : flatK f (n + 1) = flatK f n ++ f n := by simp [flatK, List.range_succ]
theorem flatK_len {f : Nat → List Int} (h : ∀ i, (f i).length = 16) : ∀ n, (flatK f n).length = 16 * n
  | 0 => rfl
  | n + 1 => by rw [flatK_succ, List.length_append, flatK_len h n, h]; omega
theorem flatK_cut {f : Nat → List Int} (h : ∀ i, (f i).length = 16) {n i : Nat} (hi : i < n) (rest : List Int) : ((flatK f n ++ rest).drop (16 * i)).take 16 = f i := by
  induction n generalizing rest with
  | zero => omega
  | succ n ih =>
    rw [flatK_succ, List.append_assoc]
    by_cases e : i = n
    · subst e
      rw [List.drop_append_of_le_length (by rw [flatK_len h]; exact Nat.le_refl _), List.drop_of_length_le (by rw [flatK_len h]; exact Nat.le_refl _), List.nil_append, List.take_append_of_le_length (by rw [h]; exact Nat.le_refl _), List.take_of_length_le (by rw [h]; exact Nat.le_refl _)]
    · exact ih (by omega) _
theorem By.append {a b : List Int} (ha : By a) (hb : By b) : By (a ++ b) := by
  intro x hx
  rcases List.mem_append.1 hx with h | h
  · exact ha x h
  · exact hb x h
theorem By.flatK {f : Nat → List Int} (h : ∀ i, By (f i)) : ∀ n, By (flatK f n)
  | 0 => by intro x hx; simp [Go.Proofs.Ytcmceadekcfpbaa.flatK] at hx
  | n + 1 => by rw [flatK_succ]; exact (By.flatK h n).append (h n)
end Go.Proofs.Ytcmceadekcfpbaa
