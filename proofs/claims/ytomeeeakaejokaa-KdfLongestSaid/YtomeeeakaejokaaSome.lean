/-
  Contracts of the makers' functions on plain bytes: Some, Seed.
-/
import Derived.Test.YtomeeeakaejokaaMkS
namespace Go.Proofs.Ytomeeeakaejokaa
open Go.RowKit

theorem info_u8s : (Try.prog.info? 5).map (fun i => (i.zero, i.size, i.bytes)) = some (some (.int .u8 0), 1, 1) := by kernel_rfl

/-- The byte at place i of what Some makes. -/
def someB (k : Int) (i : Nat) : Int := (IntKind.u64.wrap k / 2 ^ (8 * (i % 8)) + (i : Int) / 8) % 256
def someL (k : Int) (n : Nat) : List Int := (List.range n).map (someB k)
theorem someL_length (k : Int) (n : Nat) : (someL k n).length = n := by simp [someL]
theorem someL_succ (k : Int) (n : Nat) : someL k (n + 1) = someL k n ++ [someB k n] := by simp [someL, List.range_succ]
theorem someB_wf (k : Int) (i : Nat) : (Lit.int .u8 (someB k i)).wf = true := wf_u8_mk (by unfold someB; omega) (by unfold someB; omega)

def SomePost (k : Int) (n : Nat) (w : World) (e : Ending) (w' : World) : Prop :=
  ∃ v, e = .returned v ∧ OwnI .u8 5 w.heap.size w' v (someL k n) ∧ Keeps (fun _ => False) w w'

def SomeLoop (k : Int) (n : Nat) (w : World) (v c : Value) (wr : World) : Prop :=
  ∃ (i : Nat), c = .int .i64 i ∧ i ≤ n ∧ OwnI .u8 5 w.heap.size wr v (someL k i) ∧ Keeps (fun _ => False) w wr

set_option maxHeartbeats 400000 in
set_option maxRecDepth 100000 in
theorem Some_any (k : Int) (n : Nat) (w : World) (hn : n ≤ 1000000) :
    Calls Try.prog 11 #[.int .i64 k, .int .i64 n] w (SomePost k n w) := by
  obtain ⟨i0, hi, hz0, hz1, hz2⟩ := info_parts info_u8s
  go_enter Try.func11, Try.ntmps11
  go_wp2_with fail
  go_loopw [5, 6, 8] (fun v _ c wr => SomeLoop k n w v c wr) (fun _ _ i _ => n - (intOf i).toNat)
  case atStart =>
    exact ⟨0, rfl, by omega, OwnI.nil _ _ _ _, Keeps.refl _ _⟩
  case round =>
    obtain ⟨c, rfl, hc, hown, hkr⟩ := hrel
    by_cases hlt : c < n
    · have hlt' : (c : Int) < (n : Int) := by omega
      go_wp2_with (at_builtin; (refine wpList_push rfl _ _ 22 rfl .u8 w.heap.size 5 i0 1 Try.underlying22 hi hz0 hz1 hz2 u5 (someL k c) ((IntKind.u64.wrap k / 2 ^ (8 * (c % 8)) + (c : Int) / 8) % 256) rfl hown rfl (someB_wf k c) (by rw [someL_length]; omega) (by omega) hkr.size ?_))
      intro v' w3 hown3 hk3 _
      go_wp2
      go_roundw
      case rel =>
        refine ⟨c + 1, rfl, hlt, by rw [someL_succ]; exact hown3, hkr.step hk3 (fun i hi hb => absurd (hown.base i hb).1 (by omega))⟩
      case measure => simp [intOf]; omega
    · go_wp2_with fail
      go_ret
      have : c = n := by omega
      subst this
      exact ⟨_, rfl, hown, hkr⟩
end Go.Proofs.Ytomeeeakaejokaa
