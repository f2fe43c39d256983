/-
  The answer of layer 5: byte strings joined.
-/
import Derived.Test.YtomeeeakaejokaaRefPad
namespace Go.Proofs.Ytomeeeakaejokaa
open Go.RowKit

/-- A row of byte slices, each of which can be read. -/
def SlicesAt (w : World) (g off : Nat) (ls : List (List Int)) : Prop :=
  g < w.heap.size ∧ ∀ j, j < ls.length → ∃ a c, w.cell? ⟨g, off + j, none⟩ = some (.slice a (ls.getD j []).length c) ∧ (a = none → c = 0) ∧ RowAt (fun _ => True) .u8 w a (ls.getD j [])
theorem flatten_take (ls : List (List Int)) (i : Nat) (h : i < ls.length) : (ls.take i).flatten ++ ls.getD i [] = (ls.take (i + 1)).flatten := by
  rw [List.take_add_one, List.flatten_append, List.getElem?_eq_getElem h, List.getD_eq_getElem?_getD, List.getElem?_eq_getElem h]
  simp
theorem flatten_take_le (ls : List (List Int)) : ∀ i, (ls.take i).flatten.length ≤ ls.flatten.length := fun i => by
  conv => rhs; rw [← List.take_append_drop i ls, List.flatten_append, List.length_append]
  omega

def JoinPost (ls : List (List Int)) (w : World) (e : Ending) (w' : World) : Prop :=
  ∃ v, e = .returned v ∧ OwnI .u8 5 w.heap.size w' v ls.flatten ∧ Keeps (fun _ => False) w w'
def JoinLoop (ls : List (List Int)) (w : World) (v i : Value) (wr : World) : Prop :=
  ∃ n : Nat, i = .int .i64 n ∧ n ≤ ls.length ∧ OwnI .u8 5 w.heap.size wr v (ls.take n).flatten ∧ Keeps (fun _ => False) w wr

set_option maxHeartbeats 1000000 in
set_option maxRecDepth 100000 in
theorem refJoin_any (g off c : Nat) (ls : List (List Int)) (w : World) (hl : ls.length ≤ 1000) (hb : ls.flatten.length ≤ 10000000) (hs : SlicesAt w g off ls) :
    Calls Try.prog 31 #[.slice (some ⟨g, off, none⟩) ls.length c] w (JoinPost ls w) := by
  obtain ⟨i0, hi, hz0, hz1, hz2⟩ := info_parts info_u8p
  obtain ⟨hg, hs⟩ := hs
  have HS := hid hs
  clear hs
  go_enter Try.func31, Try.ntmps31
  go_wp2_with fail
  go_loopw [3, 8] (fun v i wr => JoinLoop ls w v i wr) (fun _ i _ => ls.length - (intOf i).toNat)
  case atStart => exact ⟨0, rfl, by omega, OwnI.nil _ _ _ _, Keeps.refl _ _⟩
  case round =>
    obtain ⟨n, rfl, hn, hown, hkr⟩ := hrel
    by_cases hlt : n < ls.length
    · have hlt' : (n : Int) < (ls.length : Int) := by omega
      obtain ⟨a, c', hcell, hc', hr⟩ := HS.out n hlt
      have hcw : wr.cell? ⟨g, off + n, none⟩ = some (.slice a (ls.getD n []).length c') := (hkr.cell (p := ⟨g, off + n, none⟩) hg (fun h => h)).trans hcell
      have hrw := hr.keeps hkr (fun _ _ h => h)
      have HF := hid (flatten_take ls n hlt)
      have h1 := flatten_take_le ls n
      have h2 := flatten_take_le ls (n + 1)
      rw [← HF.out, List.length_append] at h2
      have hle := hkr.size
      obtain ⟨L, hL⟩ : ∃ L, L = ls.getD n [] := ⟨_, rfl⟩
      rw [← hL] at hcw hrw HF h2
      clear hL hcell hr
      go_wp2_with (at_builtin; (refine wpList_pour rfl _ _ 22 rfl .u8 w.heap.size 5 i0 1 Try.underlying22 hi hz0 hz1 hz2 u3 (ls.take n).flatten rfl hown a c' L rfl hc' (fun _ => True) hrw (by omega) (by omega) hle ?_))
      intro v' w3 hown3 hk3
      rw [HF.out] at hown3
      go_wp2
      go_roundw
      case rel => exact ⟨n + 1, rfl, by omega, hown3, hkr.step hk3 (fun i hi hb => absurd (hown.base i hb).1 (by omega))⟩
      case measure => simp [intOf]; omega
    · have hge : n = ls.length := by omega
      have hlt' : ¬ (n : Int) < (ls.length : Int) := by omega
      go_wp2_with fail
      go_ret
      refine ⟨_, rfl, ?_, hkr⟩
      rw [hge, List.take_length] at hown
      exact hown
end Go.Proofs.Ytomeeeakaejokaa
