/-
  Layer 8: sums and products in the field.
-/
import Derived.Test.YtepbhihklmclaaaFE
import Derived.Test.YtepbhihklmclaaaFP
namespace Go.Proofs.Ytepbhihklmclaaa
open Go.RowKit

theorem fl_sub (a e : Nat) : ((a + e) % pP + (pP - e % pP)) % pP = a % pP := by
  have he := mod_ltP e
  rw [Nat.mod_add_mod]
  have h := Nat.div_add_mod e pP
  rw [show a + e + (pP - e % pP) = a + pP * (e / pP + 1) by rw [Nat.mul_add]; omega, Nat.add_mul_mod_self_left]
theorem fl_dist (a b e : Nat) : a * ((b + e) % pP) % pP = (a * b + a * e) % pP := by rw [Nat.mul_mod_mod, Nat.mul_add]
theorem zero_one : (by32 0 == by32 1) = false := by kernel_rfl
theorem eql_go {a b : List Int} {K : LV × List (Nat × Blk) → Prop} (ha : a.length = 32) (hb : b.length = 32) (h : K (.v (.bool (a == b)), [])) : runs (opBin ELb .eql 23 (.agg (.flat .u8 a)) (.agg (.flat .u8 b))) K := by
  have e : opBin ELb .eql 23 (.agg (.flat .u8 a)) (.agg (.flat .u8 b)) = some (.v (.bool (a == b)), []) := if_pos ⟨rfl, ha, hb⟩
  rw [e]
  exact h
end Go.Proofs.Ytepbhihklmclaaa
