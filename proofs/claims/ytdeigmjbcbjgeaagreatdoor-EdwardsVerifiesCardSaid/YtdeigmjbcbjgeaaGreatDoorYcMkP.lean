import Derived.Test.YtdeigmjbcbjgeaaGreatDoorYcLst
import Derived.Test.YtdeigmjbcbjgeaaGreatDoorYcTypes
namespace Go.Proofs.YtdeigmjbcbjgeaaGreatDoor
open Go.RowKit
def EM : Env := ⟨tyL, fun _ _ => none, false, noWk, noOrw⟩
theorem EM_ok : EnvOk Tryz.prog EM := ⟨tyL_ok, (by intro f ds r h; cases h), noOrw_ok⟩
def sdE (k : Int) (i : Nat) : Int := bits .xor .u8 (IntKind.u8.wrap ((IntKind.u64.wrap k).fdiv (2 ^ min (IntKind.u64.wrap (8 * IntKind.u64.wrap ((i : Int).tmod 8))).toNat IntKind.u64.bits))) (IntKind.u8.wrap (IntKind.i64.wrap (37 * IntKind.i64.wrap ((i : Int).tdiv 8))))
def sdP (k : Int) : List Int := (List.range 32).map (sdE k)
theorem sdP_len (k : Int) : (sdP k).length = 32 := by rw [sdP, List.length_map, List.length_range]
theorem sdP_by (k : Int) : By (sdP k) := By.map fun _ _ => x8_byte (w8_byte _) (w8_byte _)
theorem seed_call (k : Int) : CallOk Tryz.prog 22 [.v (.int .i64 k)] (.one (.own 1 32 5 (.flat .u8 (sdP k)))) :=
 runF_ok follows_ok EM_ok Tryz.func22 (fuel := 100) (by kernel_rfl)
theorem emod_tmod {v n : Int} (hn : 0 < n) : v % n = if v.tmod n < 0 then v.tmod n + n else v.tmod n := by
 have h0 := Int.emod_nonneg v (by omega : n ≠ 0)
 have h1 := Int.emod_lt_of_pos v hn
 have h2 := Int.emod_add_mul_ediv v n
 have h3 := Int.tmod_add_mul_tdiv v n
 have h4 := Int.tmod_eq_emod (a := v) (b := n)
 split at h4
 ·rw [if_neg (by omega)]; omega
 ·rw [if_pos (by omega)]; omega
theorem mod_exec (v n : Int) (hn : 0 < n) (hn2 : n < 9223372036854775808) : execF EM Tryz.f23 [.v (.int .i64 v), .v (.int .i64 n)] (.one (.val (.v (.int .i64 (v % n))))) := by
 have hb : -n < v.tmod n ∧ v.tmod n < n := by
  constructor
  ·exact Int.lt_tmod_of_pos v hn
  ·exact Int.tmod_lt_of_pos v hn
 have hne : n ≠ 0 := by omega
 rw [emod_tmod hn]
 ((conv => whnf); repeat ((first | refine ⟨⟨rfl, hne⟩, ?_⟩); conv => whnf))
 refine ⟨fun h => ?_, fun h => ?_⟩
 ·have h := of_decide_eq_true h
  rw [if_pos h]
  ((conv => whnf); repeat ((first | refine ⟨_, rfl, ?_⟩ | refine ⟨rfl, ?_⟩); conv => whnf))
  rw [wrap64 (by omega)]
  rfl
 ·have h := of_decide_eq_false h
  rw [if_neg h]
  ((conv => whnf); repeat ((first | refine ⟨_, rfl, ?_⟩ | refine ⟨rfl, ?_⟩); conv => whnf))
  rfl
theorem mod_call (v n : Int) (hn : 0 < n) (hn2 : n < 9223372036854775808) : CallOk Tryz.prog 23 [.v (.int .i64 v), .v (.int .i64 n)] (.one (.val (.v (.int .i64 (v % n))))) := execF_ok follows_ok EM_ok Tryz.func23 (mod_exec v n hn hn2)
theorem short_exec (n : Nat) (c : Option Nat) (x : Cont) : execF EM Tryz.f21 [.im 1 n c x] (.one (.val (.v (.bool (decide ((n : Int) ≤ 600)))))) := by
 ((conv => whnf); repeat ((first | refine ⟨_, rfl, ?_⟩ | refine ⟨rfl, ?_⟩); conv => whnf))
 rfl
end Go.Proofs.YtdeigmjbcbjgeaaGreatDoor
