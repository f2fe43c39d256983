/-
  The answer of layer 4: one block of SHA-256: what it computes, as plain functions.
-/
import Derived.Test.YtomeeeakaejokaaRefPad
import Derived.BigRegion
import Derived.StillTailTactics
namespace Go.Proofs.Ytomeeeakaejokaa
open Go.RowKit

theorem neg_mask32 : ∀ n : Fin 32, 1 ≤ n.val → bits .and .u64 (IntKind.u64.wrap (-(n.val : Int))) 31 = ((32 - n.val : Nat) : Int) := by decide +kernel
theorem neg_mask64 : ∀ n : Fin 64, 1 ≤ n.val → bits .and .u64 (IntKind.u64.wrap (-(n.val : Int))) 63 = ((64 - n.val : Nat) : Int) := by decide +kernel

/-- x rotated right by n places. -/
def ror32 (x : Int) (n : Nat) : Int := rot32 x (32 - n)
def ror64 (x : Int) (n : Nat) : Int := rot64 x (64 - n)

set_option maxHeartbeats 400000 in
theorem refR32_any (x : Int) (n : Nat) (w : World) (h1 : 1 ≤ n) (h2 : n < 32) :
    Calls Try.prog 50 #[.int .u32 x, .int .i64 n] w fun e w' => e = .returned (.int .u32 (ror32 x n)) ∧ w = w' := by
  have HC := hid (Rot32_any x (-(n : Int)) (32 - n) w (neg_mask32 ⟨n, h2⟩ h1) (by omega))
  have h2' : (n : Int) < 32 := by omega
  go_enter Try.func50, Try.ntmps50
  go_wp2_with fail
  refine (HC.out).mono ?_
  rintro e w1 ⟨rfl, rfl⟩
  go_wp2
  go_ret
  exact ⟨rfl, rfl⟩

theorem refR32_z (x z : Int) (w : World) (h1 : 1 ≤ z) (h2 : z < 32) : Calls Try.prog 50 #[.int .u32 x, .int .i64 z] w fun e w' => e = .returned (.int .u32 (ror32 x z.toNat)) ∧ w' = w := by
  obtain ⟨n, rfl⟩ := Int.eq_ofNat_of_zero_le (show 0 ≤ z by omega)
  exact (refR32_any x n w (by omega) (by omega)).mono fun _ _ h => ⟨h.1, h.2.symm⟩
end Go.Proofs.Ytomeeeakaejokaa
