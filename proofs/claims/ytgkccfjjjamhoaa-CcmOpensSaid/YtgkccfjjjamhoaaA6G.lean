/-
  Layer 6: mixings are linear: the answer's are the program's, and four are none.
-/
import Derived.Test.YtgkccfjjjamhoaaA6F
namespace Go.Proofs.Ytgkccfjjjamhoaa
open Go.RowKit

def E (v : BitVec 8) : Int := (v.toNat : Int)
theorem all8 {p : BitVec 8 → Bool} (h : ((List.range 256).all fun n => p (BitVec.ofNat 8 n)) = true) (v : BitVec 8) : p v = true := by
  have := all_lt h v.isLt
  simpa using this
theorem byteE {a : Int} (h : 0 ≤ a ∧ a < 256) : ∃ v, a = E v := ⟨BitVec.ofNat 8 a.toNat, by
  unfold E
  rw [BitVec.toNat_ofNat, Nat.mod_eq_of_lt (by omega)]
  omega⟩
theorem x8_E (u v : BitVec 8) : x8 (E u) (E v) = E (u ^^^ v) := by
  have h := u8_xor_nat u.toNat v.toNat u.isLt v.isLt
  unfold x8 E
  rw [h, BitVec.toNat_xor]
def dV (v : BitVec 8) : BitVec 8 := (v <<< 1) ^^^ ((v >>> 7) * 27#8)
theorem dbl_E (v : BitVec 8) : dbl (E v) = E (dV v) := by
  have := all8 (p := fun v => dbl (E v) == E (dV v)) (by kernel_rfl) v
  simpa using this
theorem top_bit (v : BitVec 8) : v >>> 7 = 0#8 ∨ v >>> 7 = 1#8 := by
  have := all8 (p := fun v => v >>> 7 == 0#8 || v >>> 7 == 1#8) (by kernel_rfl) v
  simpa using this
theorem dV_xor (u v : BitVec 8) : dV (u ^^^ v) = dV u ^^^ dV v := by
  have h : ((u ^^^ v) >>> 7) * 27#8 = ((u >>> 7) * 27#8) ^^^ ((v >>> 7) * 27#8) := by
    rw [BitVec.ushiftRight_xor_distrib]
    rcases top_bit u with hu | hu <;> rcases top_bit v with hv | hv <;> rw [hu, hv] <;> decide
  unfold dV
  rw [h, BitVec.shiftLeft_xor_distrib]
  ac_rfl
abbrev Q := BitVec 8 × BitVec 8 × BitVec 8 × BitVec 8
def addQ (x y : Q) : Q := (x.1 ^^^ y.1, x.2.1 ^^^ y.2.1, x.2.2.1 ^^^ y.2.2.1, x.2.2.2 ^^^ y.2.2.2)
def MC (x : Q) : Q := (x.1 ^^^ (x.1 ^^^ x.2.1 ^^^ x.2.2.1 ^^^ x.2.2.2 ^^^ dV (x.1 ^^^ x.2.1)), x.2.1 ^^^ (x.1 ^^^ x.2.1 ^^^ x.2.2.1 ^^^ x.2.2.2 ^^^ dV (x.2.1 ^^^ x.2.2.1)),
  x.2.2.1 ^^^ (x.1 ^^^ x.2.1 ^^^ x.2.2.1 ^^^ x.2.2.2 ^^^ dV (x.2.2.1 ^^^ x.2.2.2)), x.2.2.2 ^^^ (x.1 ^^^ x.2.1 ^^^ x.2.2.1 ^^^ x.2.2.2 ^^^ dV (x.2.2.2 ^^^ x.1)))
def m3 (v : BitVec 8) : BitVec 8 := dV v ^^^ v
def m9 (v : BitVec 8) : BitVec 8 := dV (dV (dV v)) ^^^ v
def m11 (v : BitVec 8) : BitVec 8 := dV (dV (dV v)) ^^^ dV v ^^^ v
def m13 (v : BitVec 8) : BitVec 8 := dV (dV (dV v)) ^^^ dV (dV v) ^^^ v
def m14 (v : BitVec 8) : BitVec 8 := dV (dV (dV v)) ^^^ dV (dV v) ^^^ dV v
def R2 (x : Q) : Q := (0 ^^^ dV x.1 ^^^ m3 x.2.1 ^^^ x.2.2.1 ^^^ x.2.2.2, 0 ^^^ x.1 ^^^ dV x.2.1 ^^^ m3 x.2.2.1 ^^^ x.2.2.2, 0 ^^^ x.1 ^^^ x.2.1 ^^^ dV x.2.2.1 ^^^ m3 x.2.2.2, 0 ^^^ m3 x.1 ^^^ x.2.1 ^^^ x.2.2.1 ^^^ dV x.2.2.2)
def RI (x : Q) : Q := (0 ^^^ m14 x.1 ^^^ m11 x.2.1 ^^^ m13 x.2.2.1 ^^^ m9 x.2.2.2, 0 ^^^ m9 x.1 ^^^ m14 x.2.1 ^^^ m11 x.2.2.1 ^^^ m13 x.2.2.2,
  0 ^^^ m13 x.1 ^^^ m9 x.2.1 ^^^ m14 x.2.2.1 ^^^ m11 x.2.2.2, 0 ^^^ m11 x.1 ^^^ m13 x.2.1 ^^^ m9 x.2.2.1 ^^^ m14 x.2.2.2)
theorem MC_add (x y : Q) : MC (addQ x y) = addQ (MC x) (MC y) := by
  unfold MC addQ
  simp only [dV_xor, Prod.mk.injEq]
  refine ⟨?_, ?_, ?_, ?_⟩ <;> ac_rfl
theorem R2_add (x y : Q) : R2 (addQ x y) = addQ (R2 x) (R2 y) := by
  unfold R2 addQ m3
  simp only [dV_xor, Prod.mk.injEq]
  refine ⟨?_, ?_, ?_, ?_⟩ <;> ac_rfl
theorem RI_add (x y : Q) : RI (addQ x y) = addQ (RI x) (RI y) := by
  unfold RI addQ m9 m11 m13 m14
  simp only [dV_xor, Prod.mk.injEq]
  refine ⟨?_, ?_, ?_, ?_⟩ <;> ac_rfl
theorem lin {F G : Q → Q} (hF : ∀ x y, F (addQ x y) = addQ (F x) (F y)) (hG : ∀ x y, G (addQ x y) = addQ (G x) (G y)) (h0 : ∀ v, F (v, 0, 0, 0) = G (v, 0, 0, 0)) (h1 : ∀ v, F (0, v, 0, 0) = G (0, v, 0, 0))
    (h2 : ∀ v, F (0, 0, v, 0) = G (0, 0, v, 0)) (h3 : ∀ v, F (0, 0, 0, v) = G (0, 0, 0, v)) (x : Q) : F x = G x := by
  obtain ⟨a, b, c, d⟩ := x
  have e : ((a, b, c, d) : Q) = addQ (addQ (a, 0, 0, 0) (0, b, 0, 0)) (addQ (0, 0, c, 0) (0, 0, 0, d)) := by simp [addQ]
  rw [e, hF, hF, hF, hG, hG, hG, h0, h1, h2, h3]
theorem allQ {F G : Q → Q} {e : BitVec 8 → Q} (h : ((List.range 256).all fun n => F (e (BitVec.ofNat 8 n)) == G (e (BitVec.ofNat 8 n))) = true) (v : BitVec 8) : F (e v) = G (e v) := by
  have := all8 (p := fun v => F (e v) == G (e v)) h v
  simpa using this
theorem R2_eq (x : Q) : R2 x = MC x := lin R2_add MC_add (allQ (e := fun v => (v, 0, 0, 0)) (by kernel_rfl)) (allQ (e := fun v => (0, v, 0, 0)) (by kernel_rfl)) (allQ (e := fun v => (0, 0, v, 0)) (by kernel_rfl)) (allQ (e := fun v => (0, 0, 0, v)) (by kernel_rfl)) x
def M3 (x : Q) : Q := MC (MC (MC x))
def M4 (x : Q) : Q := MC (MC (MC (MC x)))
theorem M3_add (x y : Q) : M3 (addQ x y) = addQ (M3 x) (M3 y) := by simp only [M3, MC_add]
theorem M4_add (x y : Q) : M4 (addQ x y) = addQ (M4 x) (M4 y) := by simp only [M4, MC_add]
theorem RI_eq (x : Q) : RI x = M3 x := lin RI_add M3_add (allQ (e := fun v => (v, 0, 0, 0)) (by kernel_rfl)) (allQ (e := fun v => (0, v, 0, 0)) (by kernel_rfl)) (allQ (e := fun v => (0, 0, v, 0)) (by kernel_rfl)) (allQ (e := fun v => (0, 0, 0, v)) (by kernel_rfl)) x
theorem M4_eq (x : Q) : M4 x = id x := lin M4_add (fun _ _ => rfl) (allQ (e := fun v => (v, 0, 0, 0)) (by kernel_rfl)) (allQ (e := fun v => (0, v, 0, 0)) (by kernel_rfl)) (allQ (e := fun v => (0, 0, v, 0)) (by kernel_rfl)) (allQ (e := fun v => (0, 0, 0, v)) (by kernel_rfl)) x

theorem mul_E1 (v : BitVec 8) : mulP (E v) 1 = E v := by
  have := all8 (p := fun v => mulP (E v) 1 == E v) (by kernel_rfl) v
  simpa using this
theorem mul_E2 (v : BitVec 8) : mulP (E v) 2 = E (dV v) := by
  have := all8 (p := fun v => mulP (E v) 2 == E (dV v)) (by kernel_rfl) v
  simpa using this
theorem mul_E3 (v : BitVec 8) : mulP (E v) 3 = E (m3 v) := by
  have := all8 (p := fun v => mulP (E v) 3 == E (m3 v)) (by kernel_rfl) v
  simpa using this
theorem mul_E9 (v : BitVec 8) : mulP (E v) 9 = E (m9 v) := by
  have := all8 (p := fun v => mulP (E v) 9 == E (m9 v)) (by kernel_rfl) v
  simpa using this
theorem mul_E11 (v : BitVec 8) : mulP (E v) 11 = E (m11 v) := by
  have := all8 (p := fun v => mulP (E v) 11 == E (m11 v)) (by kernel_rfl) v
  simpa using this
theorem mul_E13 (v : BitVec 8) : mulP (E v) 13 = E (m13 v) := by
  have := all8 (p := fun v => mulP (E v) 13 == E (m13 v)) (by kernel_rfl) v
  simpa using this
theorem mul_E14 (v : BitVec 8) : mulP (E v) 14 = E (m14 v) := by
  have := all8 (p := fun v => mulP (E v) 14 == E (m14 v)) (by kernel_rfl) v
  simpa using this
theorem mul_two {a : Int} (h : 0 ≤ a ∧ a < 256) : mulP a 2 = dbl a := by
  obtain ⟨v, rfl⟩ := byteE h
  rw [mul_E2, dbl_E]
theorem mul_three {a : Int} (h : 0 ≤ a ∧ a < 256) : mulP a 3 = x8 a (dbl a) := by
  obtain ⟨v, rfl⟩ := byteE h
  rw [mul_E3, dbl_E, x8_E, m3, BitVec.xor_comm]

theorem mixP_of (a0 a1 a2 a3 a4 a5 a6 a7 a8 a9 a10 a11 a12 a13 a14 a15 : Int) : mixP [a0, a1, a2, a3, a4, a5, a6, a7, a8, a9, a10, a11, a12, a13, a14, a15] = [x8 a0 (x8 (x8 (x8 (x8 a0 a1) a2) a3) (dbl (x8 a0 a1))), x8 a1 (x8 (x8 (x8 (x8 a0 a1) a2) a3) (dbl (x8 a1 a2))), x8 a2 (x8 (x8 (x8 (x8 a0 a1) a2) a3) (dbl (x8 a2 a3))), x8 a3 (x8 (x8 (x8 (x8 a0 a1) a2) a3) (dbl (x8 a3 a0))), x8 a4 (x8 (x8 (x8 (x8 a4 a5) a6) a7) (dbl (x8 a4 a5))), x8 a5 (x8 (x8 (x8 (x8 a4 a5) a6) a7) (dbl (x8 a5 a6))), x8 a6 (x8 (x8 (x8 (x8 a4 a5) a6) a7) (dbl (x8 a6 a7))), x8 a7 (x8 (x8 (x8 (x8 a4 a5) a6) a7) (dbl (x8 a7 a4))), x8 a8 (x8 (x8 (x8 (x8 a8 a9) a10) a11) (dbl (x8 a8 a9))), x8 a9 (x8 (x8 (x8 (x8 a8 a9) a10) a11) (dbl (x8 a9 a10))), x8 a10 (x8 (x8 (x8 (x8 a8 a9) a10) a11) (dbl (x8 a10 a11))), x8 a11 (x8 (x8 (x8 (x8 a8 a9) a10) a11) (dbl (x8 a11 a8))), x8 a12 (x8 (x8 (x8 (x8 a12 a13) a14) a15) (dbl (x8 a12 a13))), x8 a13 (x8 (x8 (x8 (x8 a12 a13) a14) a15) (dbl (x8 a13 a14))), x8 a14 (x8 (x8 (x8 (x8 a12 a13) a14) a15) (dbl (x8 a14 a15))), x8 a15 (x8 (x8 (x8 (x8 a12 a13) a14) a15) (dbl (x8 a15 a12)))] := rfl
theorem rmixP_of (a0 a1 a2 a3 a4 a5 a6 a7 a8 a9 a10 a11 a12 a13 a14 a15 f0 f1 f2 f3 : Int) : rmixP [a0, a1, a2, a3, a4, a5, a6, a7, a8, a9, a10, a11, a12, a13, a14, a15] [f0, f1, f2, f3] = [x8 (x8 (x8 (x8 0 (mulP a0 f0)) (mulP a1 f1)) (mulP a2 f2)) (mulP a3 f3), x8 (x8 (x8 (x8 0 (mulP a0 f3)) (mulP a1 f0)) (mulP a2 f1)) (mulP a3 f2), x8 (x8 (x8 (x8 0 (mulP a0 f2)) (mulP a1 f3)) (mulP a2 f0)) (mulP a3 f1), x8 (x8 (x8 (x8 0 (mulP a0 f1)) (mulP a1 f2)) (mulP a2 f3)) (mulP a3 f0), x8 (x8 (x8 (x8 0 (mulP a4 f0)) (mulP a5 f1)) (mulP a6 f2)) (mulP a7 f3), x8 (x8 (x8 (x8 0 (mulP a4 f3)) (mulP a5 f0)) (mulP a6 f1)) (mulP a7 f2), x8 (x8 (x8 (x8 0 (mulP a4 f2)) (mulP a5 f3)) (mulP a6 f0)) (mulP a7 f1), x8 (x8 (x8 (x8 0 (mulP a4 f1)) (mulP a5 f2)) (mulP a6 f3)) (mulP a7 f0), x8 (x8 (x8 (x8 0 (mulP a8 f0)) (mulP a9 f1)) (mulP a10 f2)) (mulP a11 f3), x8 (x8 (x8 (x8 0 (mulP a8 f3)) (mulP a9 f0)) (mulP a10 f1)) (mulP a11 f2), x8 (x8 (x8 (x8 0 (mulP a8 f2)) (mulP a9 f3)) (mulP a10 f0)) (mulP a11 f1), x8 (x8 (x8 (x8 0 (mulP a8 f1)) (mulP a9 f2)) (mulP a10 f3)) (mulP a11 f0), x8 (x8 (x8 (x8 0 (mulP a12 f0)) (mulP a13 f1)) (mulP a14 f2)) (mulP a15 f3), x8 (x8 (x8 (x8 0 (mulP a12 f3)) (mulP a13 f0)) (mulP a14 f1)) (mulP a15 f2), x8 (x8 (x8 (x8 0 (mulP a12 f2)) (mulP a13 f3)) (mulP a14 f0)) (mulP a15 f1), x8 (x8 (x8 (x8 0 (mulP a12 f1)) (mulP a13 f2)) (mulP a14 f3)) (mulP a15 f0)] := rfl
theorem mixP_E (v0 v1 v2 v3 v4 v5 v6 v7 v8 v9 v10 v11 v12 v13 v14 v15 : BitVec 8) : mixP [E v0, E v1, E v2, E v3, E v4, E v5, E v6, E v7, E v8, E v9, E v10, E v11, E v12, E v13, E v14, E v15] = [E (MC (v0, v1, v2, v3)).1, E (MC (v0, v1, v2, v3)).2.1, E (MC (v0, v1, v2, v3)).2.2.1, E (MC (v0, v1, v2, v3)).2.2.2, E (MC (v4, v5, v6, v7)).1, E (MC (v4, v5, v6, v7)).2.1, E (MC (v4, v5, v6, v7)).2.2.1, E (MC (v4, v5, v6, v7)).2.2.2, E (MC (v8, v9, v10, v11)).1, E (MC (v8, v9, v10, v11)).2.1, E (MC (v8, v9, v10, v11)).2.2.1, E (MC (v8, v9, v10, v11)).2.2.2, E (MC (v12, v13, v14, v15)).1, E (MC (v12, v13, v14, v15)).2.1, E (MC (v12, v13, v14, v15)).2.2.1, E (MC (v12, v13, v14, v15)).2.2.2] := by
  rw [mixP_of]
  simp only [x8_E, dbl_E]
  rfl
theorem zeroE : (0 : Int) = E 0 := rfl
theorem rmix2_E (v0 v1 v2 v3 v4 v5 v6 v7 v8 v9 v10 v11 v12 v13 v14 v15 : BitVec 8) : rmixP [E v0, E v1, E v2, E v3, E v4, E v5, E v6, E v7, E v8, E v9, E v10, E v11, E v12, E v13, E v14, E v15] [2, 3, 1, 1] = [E (R2 (v0, v1, v2, v3)).1, E (R2 (v0, v1, v2, v3)).2.1, E (R2 (v0, v1, v2, v3)).2.2.1, E (R2 (v0, v1, v2, v3)).2.2.2, E (R2 (v4, v5, v6, v7)).1, E (R2 (v4, v5, v6, v7)).2.1, E (R2 (v4, v5, v6, v7)).2.2.1, E (R2 (v4, v5, v6, v7)).2.2.2, E (R2 (v8, v9, v10, v11)).1, E (R2 (v8, v9, v10, v11)).2.1, E (R2 (v8, v9, v10, v11)).2.2.1, E (R2 (v8, v9, v10, v11)).2.2.2, E (R2 (v12, v13, v14, v15)).1, E (R2 (v12, v13, v14, v15)).2.1, E (R2 (v12, v13, v14, v15)).2.2.1, E (R2 (v12, v13, v14, v15)).2.2.2] := by
  rw [rmixP_of]
  simp only [mul_E1, mul_E2, mul_E3]
  rw [zeroE]
  simp only [x8_E]
  rfl
theorem rmixI_E (v0 v1 v2 v3 v4 v5 v6 v7 v8 v9 v10 v11 v12 v13 v14 v15 : BitVec 8) : rmixP [E v0, E v1, E v2, E v3, E v4, E v5, E v6, E v7, E v8, E v9, E v10, E v11, E v12, E v13, E v14, E v15] [14, 11, 13, 9] = [E (RI (v0, v1, v2, v3)).1, E (RI (v0, v1, v2, v3)).2.1, E (RI (v0, v1, v2, v3)).2.2.1, E (RI (v0, v1, v2, v3)).2.2.2, E (RI (v4, v5, v6, v7)).1, E (RI (v4, v5, v6, v7)).2.1, E (RI (v4, v5, v6, v7)).2.2.1, E (RI (v4, v5, v6, v7)).2.2.2, E (RI (v8, v9, v10, v11)).1, E (RI (v8, v9, v10, v11)).2.1, E (RI (v8, v9, v10, v11)).2.2.1, E (RI (v8, v9, v10, v11)).2.2.2, E (RI (v12, v13, v14, v15)).1, E (RI (v12, v13, v14, v15)).2.1, E (RI (v12, v13, v14, v15)).2.2.1, E (RI (v12, v13, v14, v15)).2.2.2] := by
  rw [rmixP_of]
  simp only [mul_E9, mul_E11, mul_E13, mul_E14]
  rw [zeroE]
  simp only [x8_E]
  rfl
theorem byE {l : List Int} (h : l.length = 16) (hb : By l) : ∃ v0 v1 v2 v3 v4 v5 v6 v7 v8 v9 v10 v11 v12 v13 v14 v15, l = [E v0, E v1, E v2, E v3, E v4, E v5, E v6, E v7, E v8, E v9, E v10, E v11, E v12, E v13, E v14, E v15] := by
  obtain ⟨a0, a1, a2, a3, a4, a5, a6, a7, a8, a9, a10, a11, a12, a13, a14, a15, rfl⟩ := len16 h
  obtain ⟨v0, rfl⟩ := byteE (hb a0 (by simp))
  obtain ⟨v1, rfl⟩ := byteE (hb a1 (by simp))
  obtain ⟨v2, rfl⟩ := byteE (hb a2 (by simp))
  obtain ⟨v3, rfl⟩ := byteE (hb a3 (by simp))
  obtain ⟨v4, rfl⟩ := byteE (hb a4 (by simp))
  obtain ⟨v5, rfl⟩ := byteE (hb a5 (by simp))
  obtain ⟨v6, rfl⟩ := byteE (hb a6 (by simp))
  obtain ⟨v7, rfl⟩ := byteE (hb a7 (by simp))
  obtain ⟨v8, rfl⟩ := byteE (hb a8 (by simp))
  obtain ⟨v9, rfl⟩ := byteE (hb a9 (by simp))
  obtain ⟨v10, rfl⟩ := byteE (hb a10 (by simp))
  obtain ⟨v11, rfl⟩ := byteE (hb a11 (by simp))
  obtain ⟨v12, rfl⟩ := byteE (hb a12 (by simp))
  obtain ⟨v13, rfl⟩ := byteE (hb a13 (by simp))
  obtain ⟨v14, rfl⟩ := byteE (hb a14 (by simp))
  obtain ⟨v15, rfl⟩ := byteE (hb a15 (by simp))
  exact ⟨v0, v1, v2, v3, v4, v5, v6, v7, v8, v9, v10, v11, v12, v13, v14, v15, rfl⟩
theorem rmix2 {a : List Int} (h : a.length = 16) (hb : By a) : rmixP a [2, 3, 1, 1] = mixP a := by
  obtain ⟨v0, v1, v2, v3, v4, v5, v6, v7, v8, v9, v10, v11, v12, v13, v14, v15, rfl⟩ := byE h hb
  rw [rmix2_E, mixP_E]
  simp only [R2_eq]
theorem mix3_E (v0 v1 v2 v3 v4 v5 v6 v7 v8 v9 v10 v11 v12 v13 v14 v15 : BitVec 8) : mixP (mixP (mixP [E v0, E v1, E v2, E v3, E v4, E v5, E v6, E v7, E v8, E v9, E v10, E v11, E v12, E v13, E v14, E v15])) = [E (M3 (v0, v1, v2, v3)).1, E (M3 (v0, v1, v2, v3)).2.1, E (M3 (v0, v1, v2, v3)).2.2.1, E (M3 (v0, v1, v2, v3)).2.2.2, E (M3 (v4, v5, v6, v7)).1, E (M3 (v4, v5, v6, v7)).2.1, E (M3 (v4, v5, v6, v7)).2.2.1, E (M3 (v4, v5, v6, v7)).2.2.2, E (M3 (v8, v9, v10, v11)).1, E (M3 (v8, v9, v10, v11)).2.1, E (M3 (v8, v9, v10, v11)).2.2.1, E (M3 (v8, v9, v10, v11)).2.2.2, E (M3 (v12, v13, v14, v15)).1, E (M3 (v12, v13, v14, v15)).2.1, E (M3 (v12, v13, v14, v15)).2.2.1, E (M3 (v12, v13, v14, v15)).2.2.2] := by
  rw [mixP_E, mixP_E, mixP_E]
  rfl
theorem rmixI {a : List Int} (h : a.length = 16) (hb : By a) : rmixP a [14, 11, 13, 9] = mixP (mixP (mixP a)) := by
  obtain ⟨v0, v1, v2, v3, v4, v5, v6, v7, v8, v9, v10, v11, v12, v13, v14, v15, rfl⟩ := byE h hb
  rw [rmixI_E, mix3_E]
  simp only [RI_eq]
theorem mix4 {a : List Int} (h : a.length = 16) (hb : By a) : mixP (mixP (mixP (mixP a))) = a := by
  obtain ⟨v0, v1, v2, v3, v4, v5, v6, v7, v8, v9, v10, v11, v12, v13, v14, v15, rfl⟩ := byE h hb
  have e : mixP (mixP (mixP (mixP [E v0, E v1, E v2, E v3, E v4, E v5, E v6, E v7, E v8, E v9, E v10, E v11, E v12, E v13, E v14, E v15]))) = [E (M4 (v0, v1, v2, v3)).1, E (M4 (v0, v1, v2, v3)).2.1, E (M4 (v0, v1, v2, v3)).2.2.1, E (M4 (v0, v1, v2, v3)).2.2.2, E (M4 (v4, v5, v6, v7)).1, E (M4 (v4, v5, v6, v7)).2.1, E (M4 (v4, v5, v6, v7)).2.2.1, E (M4 (v4, v5, v6, v7)).2.2.2, E (M4 (v8, v9, v10, v11)).1, E (M4 (v8, v9, v10, v11)).2.1, E (M4 (v8, v9, v10, v11)).2.2.1, E (M4 (v8, v9, v10, v11)).2.2.2, E (M4 (v12, v13, v14, v15)).1, E (M4 (v12, v13, v14, v15)).2.1, E (M4 (v12, v13, v14, v15)).2.2.1, E (M4 (v12, v13, v14, v15)).2.2.2] := by
    rw [mixP_E, mixP_E, mixP_E, mixP_E]
    rfl
  rw [e]
  simp only [M4_eq]
  rfl

/-! undone -/
theorem unshift_shift {a : List Int} (h : a.length = 16) : unshiftP (shiftP a) = a := by
  obtain ⟨a0, a1, a2, a3, a4, a5, a6, a7, a8, a9, a10, a11, a12, a13, a14, a15, rfl⟩ := len16 h
  kernel_rfl
theorem shift_unshift {a : List Int} (h : a.length = 16) : shiftP (unshiftP a) = a := by
  obtain ⟨a0, a1, a2, a3, a4, a5, a6, a7, a8, a9, a10, a11, a12, a13, a14, a15, rfl⟩ := len16 h
  kernel_rfl
theorem plus_plus {a b : List Int} (h : a.length = 16) (ha : By a) (hb : By b) : plusP (plusP a b) b = a := by
  apply ext_g (by rw [plusP_len, h])
  intro i hi
  rw [plusP_len] at hi
  unfold plusP
  rw [g_map hi, g_map hi]
  obtain ⟨u, hu⟩ := byteE (ha.g i)
  obtain ⟨v, hv⟩ := byteE (hb.g i)
  rw [hu, hv, x8_E, x8_E]
  congr 1
  rw [BitVec.xor_assoc, BitVec.xor_self, BitVec.xor_zero]
theorem IB_SB {x : Int} (h : 0 ≤ x ∧ x < 256) : g IB (g SB x.toNat).toNat = x := by
  have := all_lt (n := 256) (p := fun n => g IB (g SB n).toNat == (n : Int)) (by kernel_rfl) (i := x.toNat) (by omega)
  simp at this
  rw [this]
  omega
theorem SB_IB {x : Int} (h : 0 ≤ x ∧ x < 256) : g SB (g IB x.toNat).toNat = x := by
  have := all_lt (n := 256) (p := fun n => g SB (g IB n).toNat == (n : Int)) (by kernel_rfl) (i := x.toNat) (by omega)
  simp at this
  rw [this]
  omega
theorem repl_back {a : List Int} (h : a.length = 16) (ha : By a) : replP (replP a SB) IB = a := by
  apply ext_g (by rw [replP_len, h])
  intro i hi
  rw [replP_len] at hi
  unfold replP
  rw [g_map hi, g_map hi, IB_SB (ha.g i)]
theorem back_repl {a : List Int} (h : a.length = 16) (ha : By a) : replP (replP a IB) SB = a := by
  apply ext_g (by rw [replP_len, h])
  intro i hi
  rw [replP_len] at hi
  unfold replP
  rw [g_map hi, g_map hi, SB_IB (ha.g i)]

section
variable {key block : List Int} (hkb : By key) (hbb : By block) (hb : block.length = 16)
include hkb hbb in
theorem dec_enc_at : ∀ m, m ≤ 10 → decS key (encS key block 10) m = encS key block (10 - m)
  | 0, _ => rfl
  | m + 1, hm => by
    have ih := dec_enc_at m (by omega)
    have hkk : ∀ i, By (kkP key SB i) := kk_by hkb SB_by
    have hs : By (replP (encS key block (9 - m)) SB) := replP_by SB_by
    have hel := encS_len key block (9 - m)
    have heb := encS_by hkb hbb (9 - m)
    have e9 : 10 - m = (9 - m) + 1 := by omega
    rw [decS, ih]
    by_cases h0 : m = 0
    · subst h0
      have e : plusP (encS key block (10 - 0)) (kkP key SB 10) = shiftP (replP (encS key block 9) SB) := by
        show plusP (encS key block (9 + 1)) _ = _
        rw [encS, if_neg (by omega)]
        exact plus_plus (shiftP_len _) (shiftP_by hs) (hkk 10)
      rw [if_pos rfl, e, unshift_shift (replP_len _ _), repl_back hel heb]
    · have e : plusP (encS key block (10 - m)) (kkP key SB (10 - m)) = mixP (shiftP (replP (encS key block (9 - m)) SB)) := by
        rw [e9, encS, if_pos (by omega)]
        exact plus_plus (mixP_len _) (mixP_by (shiftP_by hs)) (hkk _)
      rw [if_neg h0, e, mix4 (shiftP_len _) (shiftP_by hs), unshift_shift (replP_len _ _), repl_back hel heb]
      congr 1
      omega
include hkb hbb hb in
theorem dec_enc : decP key (encS key block 10) = block := by
  rw [decP, dec_enc_at hkb hbb 10 (Nat.le_refl _)]
  exact plus_plus hb hbb (kk_by hkb SB_by 0)
include hkb hbb hb in
theorem enc_dec_at : ∀ i, i ≤ 10 → encS key (decP key block) i = decS key block (10 - i)
  | 0, _ => by
    rw [encS, decP]
    exact plus_plus (replP_len _ _) (decS_by hbb 10) (kk_by hkb SB_by 0)
  | i + 1, hi => by
    have ih := enc_dec_at i (by omega)
    have hkk : ∀ i, By (kkP key SB i) := kk_by hkb SB_by
    have hdl := decS_len hb (key := key) (9 - i)
    have hdb := decS_by hbb (key := key) (9 - i)
    have e9 : 10 - i = (9 - i) + 1 := by omega
    have e10 : 10 - (i + 1) = 9 - i := by omega
    rw [encS, ih, e9, e10, decS]
    by_cases h0 : 9 - i = 0
    · have hi9 : i = 9 := by omega
      subst hi9
      rw [if_pos rfl, if_neg (by omega), back_repl (unshiftP_len _) (unshiftP_by (plusP_by hdb (hkk 10))), shift_unshift (plusP_len _ _)]
      exact plus_plus hdl hdb (hkk 10)
    · have hp : By (plusP (decS key block (9 - i)) (kkP key SB (10 - (9 - i)))) := plusP_by hdb (hkk _)
      have e11 : 10 - (9 - i) = i + 1 := by omega
      rw [if_neg h0, if_pos (by omega), back_repl (unshiftP_len _) (unshiftP_by (mixP_by (mixP_by (mixP_by hp)))), shift_unshift (mixP_len _), mix4 (plusP_len _ _) hp, e11]
      exact plus_plus hdl hdb (hkk _)
include hkb hbb hb in
theorem enc_dec : encS key (decP key block) 10 = block := by
  rw [enc_dec_at hkb hbb hb 10 (Nat.le_refl _)]
  rfl
end
end Go.Proofs.Ytgkccfjjjamhoaa
