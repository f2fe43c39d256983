import Derived.Laws.Externs
import Derived.WalkLawsBesides
import Derived.Laws.FloatArith
import Derived.Test.YtdeigmjbcbjgeaaGreatDoorYcMkS
namespace Go.Proofs.YtdeigmjbcbjgeaaGreatDoor
open Go.RowKit
theorem Bits_run (x : Nat) (w : World) : (callFunc 152 #[.float .f64 x]).run Tryz.prog w = .ok (.value (.int .u64 x)) w := by
 rw [run_callFunc_extern Tryz.func152 (by kernel_rfl) (by kernel_rfl) (by kernel_rfl) (e := Extern.MathFloatBits.float64bits) (by kernel_rfl)]
 rfl
theorem From_run (n : Int) (w : World) : (callFunc 151 #[.int .u64 n]).run Tryz.prog w = .ok (.value (.float .f64 n.toNat)) w := by
 rw [run_callFunc_extern Tryz.func151 (by kernel_rfl) (by kernel_rfl) (by kernel_rfl) (e := Extern.MathFloatBits.float64frombits) (by kernel_rfl)]
 rfl
theorem Sqrt_run (x r : Nat) (h : FloatKind.f64.format.sqrt x = some r) (w : World) : (callFunc 146 #[.float .f64 x]).run Tryz.prog w = .ok (.value (.float .f64 r)) w := by
 rw [run_callFunc_extern Tryz.func146 (by kernel_rfl) (by kernel_rfl) (by kernel_rfl) (e := Extern.MathSqrt.sqrt) (by kernel_rfl)]
 conv in Extern.MathSqrt.sqrt _ => whnf
 rw [h]
 rfl
def wholeW (way : Ieee.Toward) (x : Nat) : Option Nat :=
 match FloatKind.f64.decode x with
 | .nan _ _ => none
 | d => some (FloatKind.f64.encode (d.integral way))
theorem whole_run {name : String} (way : Ieee.Toward) (x r : Nat) (h : wholeW way x = some r) (P : Program) (w : World) : (Extern.MathFloor.toIntegral name way #[.float .f64 x]).run P w = .ok (.float .f64 r) w := by
 conv in Extern.MathFloor.toIntegral _ _ _ => whnf
 unfold wholeW at h
 cases hd : FloatKind.f64.decode x with
 | number s m e => rw [hd] at h; injection h with h; subst h; rfl
 | infinity s => rw [hd] at h; injection h with h; subst h; rfl
 | nan s t => rw [hd] at h; cases h
theorem Trunc_run (x r : Nat) (h : wholeW .zero x = some r) (w : World) : (callFunc 149 #[.float .f64 x]).run Tryz.prog w = .ok (.value (.float .f64 r)) w := by
 rw [run_callFunc_extern Tryz.func149 (by kernel_rfl) (by kernel_rfl) (by kernel_rfl) (e := Extern.MathFloor.toIntegral "math.archTrunc" .zero) (by kernel_rfl), whole_run .zero x r h]
 rfl
theorem Floor_run (x r : Nat) (h : wholeW .down x = some r) (w : World) : (callFunc 144 #[.float .f64 x]).run Tryz.prog w = .ok (.value (.float .f64 r)) w := by
 rw [run_callFunc_extern Tryz.func144 (by kernel_rfl) (by kernel_rfl) (by kernel_rfl) (e := Extern.MathFloor.toIntegral "math.archFloor" .down) (by kernel_rfl), whole_run .down x r h]
 rfl
-- THE WALKS
set_option maxHeartbeats 400000 in
theorem Sqrt_any (x r : Nat) (w : World) (h : FloatKind.f64.format.sqrt x = some r) :
  Calls Tryz.prog 139 #[.float .f64 x] w fun e w' => e = .returned (.float .f64 r) ∧ w' = w := by
 have h1 := Sqrt_run x r h
 clear h
 go_enter Tryz.func139, Tryz.ntmps139
 go_wp2
 go_ret
 exact ⟨rfl, rfl⟩
set_option maxHeartbeats 400000 in
theorem Floor_any (x r : Nat) (w : World) (h : wholeW .down x = some r) :
  Calls Tryz.prog 137 #[.float .f64 x] w fun e w' => e = .returned (.float .f64 r) ∧ w' = w := by
 have h1 := Floor_run x r h
 clear h
 go_enter Tryz.func137, Tryz.ntmps137
 go_wp2
 go_ret
 exact ⟨rfl, rfl⟩
set_option maxHeartbeats 400000 in
theorem Trunc_any (x r : Nat) (w : World) (h : wholeW .zero x = some r) :
  Calls Tryz.prog 141 #[.float .f64 x] w fun e w' => e = .returned (.float .f64 r) ∧ w = w' := by
 have h1 := Trunc_run x r h
 clear h
 go_enter Tryz.func141, Tryz.ntmps141
 go_wp2
 go_ret
 exact ⟨rfl, rfl⟩
def copyW (d f : Nat) : Nat := (bits .or .u64 (bits .andNot .u64 (d : Int) 9223372036854775808) (bits .and .u64 (f : Int) 9223372036854775808)).toNat
set_option maxHeartbeats 400000 in
theorem Copysign_any (d f : Nat) (w : World) :
  Calls Tryz.prog 142 #[.float .f64 d, .float .f64 f] w fun e w' => e = .returned (.float .f64 (copyW d f)) ∧ w = w' := by
 have h1 := Bits_run
 have h2 := From_run
 unfold copyW
 go_enter Tryz.func142, Tryz.ntmps142
 go_wp2
 go_ret
 exact ⟨rfl, rfl⟩
set_option maxHeartbeats 400000 in
theorem Modf_any (x i d : Nat) (w : World) (ht : wholeW .zero x = some i) (hs : floatBits .sub .f64 x i = some d) :
  Calls Tryz.prog 135 #[.float .f64 x] w fun e w' => e = .returned (.tuple #[.float .f64 i, .float .f64 (copyW d x)]) ∧ w = w' := by
 have H1 := hid (Trunc_any x i w ht)
 have h2 := fun w => run_float_arith (P := Tryz.prog) w .sub 136 .f64 x i d hs
 clear ht hs
 go_enter Tryz.func135, Tryz.ntmps135
 go_wp2_with fail
 refine (H1.out).mono ?_
 rintro e w' ⟨rfl, rfl⟩
 go_wp2_with fail
 refine (Copysign_any d x w).mono ?_
 rintro e w' ⟨rfl, rfl⟩
 go_wp2_with fail
 go_ret2
 exact ⟨rfl, rfl⟩
set_option maxHeartbeats 400000 in
theorem IsNaN_any (x : Nat) (w : World) (h : (FloatKind.f64.format.order x x != some .eq) = false) :
  Calls Tryz.prog 153 #[.float .f64 x] w fun e w' => e = .returned (.bool false) ∧ w = w' := by
 go_enter Tryz.func153, Tryz.ntmps153
 go_wp2
 go_ret
 exact ⟨by simp, rfl⟩
def absW (x : Nat) : Nat := (bits .andNot .u64 (x : Int) 9223372036854775808).toNat
set_option maxHeartbeats 400000 in
theorem Abs_any (x : Nat) (w : World) :
  Calls Tryz.prog 155 #[.float .f64 x] w fun e w' => e = .returned (.float .f64 (absW x)) ∧ w = w' := by
 have h1 := Bits_run
 have h2 := From_run
 unfold absW
 go_enter Tryz.func155, Tryz.ntmps155
 go_wp2
 go_ret
 exact ⟨rfl, rfl⟩
set_option maxHeartbeats 400000 in
theorem IsInf_any (x : Nat) (w : World) (h : (FloatKind.f64.format.order (absW x) 9218868437227405311 == some .gt) = false) :
  Calls Tryz.prog 154 #[.float .f64 x, .int .i64 0] w fun e w' => e = .returned (.bool false) ∧ w = w' := by
 have HA := hid (Abs_any x w)
 generalize absW x = y at h HA
 go_enter Tryz.func154, Tryz.ntmps154
 go_wp2_with fail
 refine (HA.out).mono ?_
 rintro e w' ⟨rfl, rfl⟩
 go_wp2_with fail
 go_ret
 exact ⟨by simp, rfl⟩
end Go.Proofs.YtdeigmjbcbjgeaaGreatDoor
