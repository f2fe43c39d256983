/-
  coresecmake by the machine: Some, Mod, Seed, Short, Few.
-/
import Derived.Test.YtdeigmjbcbjgeaaDoorQLst
import Derived.Test.YtdeigmjbcbjgeaaDoorQTypes
namespace Go.Proofs.YtdeigmjbcbjgeaaDoor
open Go.RowKit

def EM : Env := ⟨tyL, fun _ _ => none, false, noWk, noOrw⟩
theorem EM_ok : EnvOk Tryd.prog EM := ⟨tyL_ok, (by intro f ds r h; cases h), noOrw_ok⟩

def sdE (k : Int) (i : Nat) : Int := bits .xor .u8 (IntKind.u8.wrap ((IntKind.u64.wrap k).fdiv (2 ^ min (IntKind.u64.wrap (8 * IntKind.u64.wrap ((i : Int).tmod 8))).toNat IntKind.u64.bits))) (IntKind.u8.wrap (IntKind.i64.wrap (37 * IntKind.i64.wrap ((i : Int).tdiv 8))))
def sdP (k : Int) : List Int := (List.range 32).map (sdE k)
theorem sdP_len (k : Int) : (sdP k).length = 32 := by rw [sdP, List.length_map, List.length_range]
theorem sdP_by (k : Int) : By (sdP k) := By.map fun _ _ => x8_byte (w8_byte _) (w8_byte _)
theorem seed_call (k : Int) : CallOk Tryd.prog 7 [.v (.int .i64 k)] (.one (.own 1 32 5 (.flat .u8 (sdP k)))) :=
  runF_ok follows_ok EM_ok Tryd.func7 (fuel := 100) (by kernel_rfl)

/-! Mod -/
theorem short_exec (n : Nat) (c : Option Nat) (x : Cont) : execF EM Tryd.f4 [.im 1 n c x] (.one (.val (.v (.bool (decide ((n : Int) ≤ 600)))))) := by
  ((conv => whnf); repeat ((first | refine ⟨_, rfl, ?_⟩ | refine ⟨rfl, ?_⟩); conv => whnf))
  rfl
end Go.Proofs.YtdeigmjbcbjgeaaDoor
