/-
  coresecmake by the machine: Some, Mod, Seed, Short, Few.
-/
import Derived.Test.YtdeigmjbcbjgeaaGreatDoorQLst
import Derived.Test.YtdeigmjbcbjgeaaGreatDoorQTypes
namespace Go.Proofs.YtdeigmjbcbjgeaaGreatDoor
open Go.RowKit

def EM : Env := ⟨tyL, fun _ _ => none, false, noWk, noOrw⟩
theorem EM_ok : EnvOk Tryz.prog EM := ⟨tyL_ok, (by intro f ds r h; cases h), noOrw_ok⟩

def sdE (k : Int) (i : Nat) : Int := bits .xor .u8 (IntKind.u8.wrap ((IntKind.u64.wrap k).fdiv (2 ^ min (IntKind.u64.wrap (8 * IntKind.u64.wrap ((i : Int).tmod 8))).toNat IntKind.u64.bits))) (IntKind.u8.wrap (IntKind.i64.wrap (37 * IntKind.i64.wrap ((i : Int).tdiv 8))))
def sdP (k : Int) : List Int := (List.range 32).map (sdE k)
theorem sdP_len (k : Int) : (sdP k).length = 32 := by rw [sdP, List.length_map, List.length_range]
theorem sdP_by (k : Int) : By (sdP k) := By.map fun _ _ => x8_byte (w8_byte _) (w8_byte _)
theorem seed_call (k : Int) : CallOk Tryz.prog 22 [.v (.int .i64 k)] (.one (.own 1 32 5 (.flat .u8 (sdP k)))) :=
  runF_ok follows_ok EM_ok Tryz.func22 (fuel := 100) (by kernel_rfl)

/-! Mod -/
theorem short_exec (n : Nat) (c : Option Nat) (x : Cont) : execF EM Tryz.f21 [.im 1 n c x] (.one (.val (.v (.bool (decide ((n : Int) ≤ 600)))))) := by
  ((conv => whnf); repeat ((first | refine ⟨_, rfl, ?_⟩ | refine ⟨by decide, ?_⟩ | refine ⟨rfl, ?_⟩ | refine ⟨fun _ => ?_, fun h => absurd h (by decide)⟩ | refine ⟨fun h => absurd h (by decide), fun _ => ?_⟩ | refine ⟨inI_of (by omega), ?_⟩ | refine ⟨⟨rfl, inI_of (by omega)⟩, ?_⟩ | refine ⟨⟨rfl, by decide⟩, ?_⟩ | (apply Exists.intro; refine ⟨?_, ?_⟩; ((try simp only); (try simp only [Nat.zero_add]); (try simp only [Nat.mul_one]); (try simp only [Int.toNat_natCast]); first | exact at_g (by omega) | exact put_flat (by omega))) | refine ⟨_, cut_all (by omega), ?_⟩ | refine ⟨_, lay_all (by omega) (by omega), ?_⟩ | refine ⟨_, lay_all (by (try simp only); (try simp only [List.length_replicate]); (try simp only [List.length_cons]); (try simp only [List.length_nil]); omega) (by omega), ?_⟩ | refine ⟨by omega, ?_⟩ | refine ⟨len_flat (by omega), ?_⟩ | refine ⟨apart_uv _ _ _, ?_⟩ | refine ⟨_, resSlot_own rfl (by omega) (by first | exact .inl rfl | exact .inr ⟨rfl, rfl⟩), ?_⟩ | refine ⟨(by kernel_rfl : regB _ = true), ?_⟩ | refine ⟨⟨rfl, inI_of (by omega), by decide⟩, ?_⟩ | (apply Exists.intro; refine ⟨?_, ?_⟩; ((try simp only); (try simp only [Nat.zero_add]); (try simp only [Nat.mul_one]); (try simp only [Int.toNat_natCast]); first | exact at_drop_g (by omega) | exact cut_rest (by omega)))); conv => whnf))
  rfl
end Go.Proofs.YtdeigmjbcbjgeaaGreatDoor
