/-
  KdfCalls, walked.
-/
import Derived.Test.YtomeeeakaejokaaKdfLaw
import Derived.Deep.QuietTactic
import Derived.BigQuiet
namespace Go.Proofs.Ytomeeeakaejokaa
open Go.RowKit

def CallsLoop (w0 : World) (i : Value) (wr : World) : Prop := ∃ n : Nat, i = .int .i64 n ∧ n ≤ 3 ∧ Keeps (fun _ => False) w0 wr

set_option maxHeartbeats 4000000 in
set_option maxRecDepth 100000 in
theorem KdfCalls_any (a b n : Int) (w : World) :
    Calls Try.prog 6 #[.int .i64 a, .int .i64 b, .int .i64 n] w fun e w' => e = .returned (.bool true) ∧ Keeps (fun _ => False) w w' := by
  have HA := hid awake5_any
  obtain ⟨p, hp⟩ : ∃ p, p = a % 1048576 := ⟨_, rfl⟩
  obtain ⟨q, hq⟩ : ∃ q, q = b % 1048576 := ⟨_, rfl⟩
  obtain ⟨r, hr⟩ : ∃ r, r = n % 8161 := ⟨_, rfl⟩
  have M1 := hid (Mod_any a 1048576 w (by omega) (by omega))
  have M2 := hid (Mod_any b 1048576 w (by omega) (by omega))
  have M3 := hid (Mod_any n 8161 w (by omega) (by omega))
  rw [← hp] at M1
  rw [← hq] at M2
  rw [← hr] at M3
  have p0 : 0 ≤ p ∧ p ≤ 1048575 := by omega
  have q0 : 0 ≤ q ∧ q ≤ 1048575 := by omega
  have r0 : 0 ≤ r ∧ r ≤ 8160 := by omega
  clear hp hq hr
  obtain ⟨p1, p2⟩ := p0
  obtain ⟨q1, q2⟩ := q0
  obtain ⟨r1, r2⟩ := r0
  go_enter Try.func6, Try.ntmps6
  go_wp2_with fail
  refine (M1.out).mono ?_
  rintro e w' ⟨rfl, rfl⟩
  go_wp2_with fail
  refine (M2.out).mono ?_
  rintro e w' ⟨rfl, rfl⟩
  go_wp2_with fail
  refine (M3.out).mono ?_
  rintro e w' ⟨rfl, rfl⟩
  go_wp2_with fail
  obtain ⟨g, hg⟩ : ∃ g, g = w.heap.size := ⟨_, rfl⟩
  have k1 : Keeps (fun _ => False) w (w.alloc (.cells (wordsOf .i64 [p, q, r, p % 130, q % 200, r % 100, p % 66, 0, r % 34]) 34)) := (Keeps.refl _ w).alloc _
  have hgl : g < (w.alloc (.cells (wordsOf .i64 [p, q, r, p % 130, q % 200, r % 100, p % 66, 0, r % 34]) 34)).heap.size := by rw [World.size_alloc]; omega
  have hc : ∀ j, j < 9 → (w.alloc (.cells (wordsOf .i64 [p, q, r, p % 130, q % 200, r % 100, p % 66, 0, r % 34]) 34)).cell? ⟨g, j, none⟩ = some (.int .i64 ([p, q, r, p % 130, q % 200, r % 100, p % 66, 0, r % 34].getD j 0)) := fun j hj => by
    rw [hg, cell_of_row _ _ _ _ _ _ (heap_alloc_last _ _), wordsOf_get _ _ _ hj]
  rw [show wordsOf .i64 [p, q, r, p % 130, q % 200, r % 100, p % 66, 0, r % 34] = #[.int .i64 p, .int .i64 q, .int .i64 r, .int .i64 (p % 130), .int .i64 (q % 200), .int .i64 (r % 100), .int .i64 (p % 66), .int .i64 0, .int .i64 (r % 34)] from rfl] at k1 hc hgl
  have HC := hid hc
  clear hc
  generalize w.alloc (.cells #[.int .i64 p, .int .i64 q, .int .i64 r, .int .i64 (p % 130), .int .i64 (q % 200), .int .i64 (r % 100), .int .i64 (p % 66), .int .i64 0, .int .i64 (r % 34)] 34) = w1 at *
  rw [← hg]
  clear hg
  go_loopw [33] (fun i wr => CallsLoop w1 i wr) (fun i _ => 3 - (intOf i).toNat)
  case atStart => exact ⟨0, rfl, by omega, Keeps.refl _ _⟩
  case round =>
    obtain ⟨n, rfl, hn, hkr⟩ := hrel
    obtain rfl | rfl | rfl | rfl : n = 0 ∨ n = 1 ∨ n = 2 ∨ n = 3 := by omega
    · have cx : wr.cell? ⟨g, 0, none⟩ = some (.int .i64 (p)) := (hkr.cell (p := ⟨g, 0, none⟩) hgl (fun h => h)).trans (HC.out 0 (by omega))
      have cy : wr.cell? ⟨g, 1, none⟩ = some (.int .i64 (q)) := (hkr.cell (p := ⟨g, 1, none⟩) hgl (fun h => h)).trans (HC.out 1 (by omega))
      have cz : wr.cell? ⟨g, 2, none⟩ = some (.int .i64 (r)) := (hkr.cell (p := ⟨g, 2, none⟩) hgl (fun h => h)).trans (HC.out 2 (by omega))
      obtain ⟨x, hx⟩ : ∃ x : Int, x = p := ⟨_, rfl⟩
      obtain ⟨y, hy⟩ : ∃ y : Int, y = q := ⟨_, rfl⟩
      obtain ⟨z, hz⟩ : ∃ z : Int, z = r := ⟨_, rfl⟩
      have x1 : 0 ≤ x ∧ x ≤ 1048575 := by omega
      have y1 : 0 ≤ y ∧ y ≤ 1048575 := by omega
      have z1 : 0 ≤ z ∧ z ≤ 8160 := by omega
      rw [← hx] at cx
      rw [← hy] at cy
      rw [← hz] at cz
      have H1 := hid (fun W => (prgCalls_any x y W (by omega) (by omega) (by omega)).mono fun _ _ h => (⟨h.1, h.2.symm⟩ : _ ∧ _))
      have H2 := hid (fun W => (refCalls_any x y W (by omega) (by omega) (by omega)).mono fun _ _ h => (⟨h.1, h.2.symm⟩ : _ ∧ _))
      have H3 := hid (fun W => (prgExpandCalls_any x y z W (by omega) (by omega) (by omega) (by omega) (by omega) (by omega)).mono fun _ _ h => (⟨h.1, h.2.symm⟩ : _ ∧ _))
      have H4 := hid (fun W => (refExpandCalls_any x y z W (by omega) (by omega) (by omega) (by omega) (by omega)).mono fun _ _ h => (⟨h.1, h.2.symm⟩ : _ ∧ _))
      generalize kcalls x y = C at H1 H2
      generalize ecalls x y ((z + 31) / 32).toNat = D at H3 H4
      clear hx hy hz x1 y1 z1 p1 p2 q1 q2 r1 r2
      go_wp2_with fail
      go_quiet ((first | (go_at_call 19; exact Calls.quiet_of_same (H1.out _)) | (go_at_call 20; exact Calls.quiet_of_same (H2.out _)) | (go_at_call 21; exact Calls.quiet_of_same (H3.out _)) | (go_at_call 22; exact Calls.quiet_of_same (H4.out _))))
      go_wp2_with fail
      exact ⟨⟨1, rfl, by omega, ((hkr.alloc _).drewN _)⟩, by simp [intOf]⟩
    · have cx : wr.cell? ⟨g, 3, none⟩ = some (.int .i64 (p % 130)) := (hkr.cell (p := ⟨g, 3, none⟩) hgl (fun h => h)).trans (HC.out 3 (by omega))
      have cy : wr.cell? ⟨g, 4, none⟩ = some (.int .i64 (q % 200)) := (hkr.cell (p := ⟨g, 4, none⟩) hgl (fun h => h)).trans (HC.out 4 (by omega))
      have cz : wr.cell? ⟨g, 5, none⟩ = some (.int .i64 (r % 100)) := (hkr.cell (p := ⟨g, 5, none⟩) hgl (fun h => h)).trans (HC.out 5 (by omega))
      obtain ⟨x, hx⟩ : ∃ x : Int, x = p % 130 := ⟨_, rfl⟩
      obtain ⟨y, hy⟩ : ∃ y : Int, y = q % 200 := ⟨_, rfl⟩
      obtain ⟨z, hz⟩ : ∃ z : Int, z = r % 100 := ⟨_, rfl⟩
      have x1 : 0 ≤ x ∧ x ≤ 1048575 := by omega
      have y1 : 0 ≤ y ∧ y ≤ 1048575 := by omega
      have z1 : 0 ≤ z ∧ z ≤ 8160 := by omega
      rw [← hx] at cx
      rw [← hy] at cy
      rw [← hz] at cz
      have H1 := hid (fun W => (prgCalls_any x y W (by omega) (by omega) (by omega)).mono fun _ _ h => (⟨h.1, h.2.symm⟩ : _ ∧ _))
      have H2 := hid (fun W => (refCalls_any x y W (by omega) (by omega) (by omega)).mono fun _ _ h => (⟨h.1, h.2.symm⟩ : _ ∧ _))
      have H3 := hid (fun W => (prgExpandCalls_any x y z W (by omega) (by omega) (by omega) (by omega) (by omega) (by omega)).mono fun _ _ h => (⟨h.1, h.2.symm⟩ : _ ∧ _))
      have H4 := hid (fun W => (refExpandCalls_any x y z W (by omega) (by omega) (by omega) (by omega) (by omega)).mono fun _ _ h => (⟨h.1, h.2.symm⟩ : _ ∧ _))
      generalize kcalls x y = C at H1 H2
      generalize ecalls x y ((z + 31) / 32).toNat = D at H3 H4
      clear hx hy hz x1 y1 z1 p1 p2 q1 q2 r1 r2
      go_wp2_with fail
      go_quiet ((first | (go_at_call 19; exact Calls.quiet_of_same (H1.out _)) | (go_at_call 20; exact Calls.quiet_of_same (H2.out _)) | (go_at_call 21; exact Calls.quiet_of_same (H3.out _)) | (go_at_call 22; exact Calls.quiet_of_same (H4.out _))))
      go_wp2_with fail
      exact ⟨⟨2, rfl, by omega, ((hkr.alloc _).drewN _)⟩, by simp [intOf]⟩
    · have cx : wr.cell? ⟨g, 6, none⟩ = some (.int .i64 (p % 66)) := (hkr.cell (p := ⟨g, 6, none⟩) hgl (fun h => h)).trans (HC.out 6 (by omega))
      have cy : wr.cell? ⟨g, 7, none⟩ = some (.int .i64 (0)) := (hkr.cell (p := ⟨g, 7, none⟩) hgl (fun h => h)).trans (HC.out 7 (by omega))
      have cz : wr.cell? ⟨g, 8, none⟩ = some (.int .i64 (r % 34)) := (hkr.cell (p := ⟨g, 8, none⟩) hgl (fun h => h)).trans (HC.out 8 (by omega))
      obtain ⟨x, hx⟩ : ∃ x : Int, x = p % 66 := ⟨_, rfl⟩
      obtain ⟨y, hy⟩ : ∃ y : Int, y = 0 := ⟨_, rfl⟩
      obtain ⟨z, hz⟩ : ∃ z : Int, z = r % 34 := ⟨_, rfl⟩
      have x1 : 0 ≤ x ∧ x ≤ 1048575 := by omega
      have y1 : 0 ≤ y ∧ y ≤ 1048575 := by omega
      have z1 : 0 ≤ z ∧ z ≤ 8160 := by omega
      rw [← hx] at cx
      rw [← hy] at cy
      rw [← hz] at cz
      have H1 := hid (fun W => (prgCalls_any x y W (by omega) (by omega) (by omega)).mono fun _ _ h => (⟨h.1, h.2.symm⟩ : _ ∧ _))
      have H2 := hid (fun W => (refCalls_any x y W (by omega) (by omega) (by omega)).mono fun _ _ h => (⟨h.1, h.2.symm⟩ : _ ∧ _))
      have H3 := hid (fun W => (prgExpandCalls_any x y z W (by omega) (by omega) (by omega) (by omega) (by omega) (by omega)).mono fun _ _ h => (⟨h.1, h.2.symm⟩ : _ ∧ _))
      have H4 := hid (fun W => (refExpandCalls_any x y z W (by omega) (by omega) (by omega) (by omega) (by omega)).mono fun _ _ h => (⟨h.1, h.2.symm⟩ : _ ∧ _))
      generalize kcalls x y = C at H1 H2
      generalize ecalls x y ((z + 31) / 32).toNat = D at H3 H4
      clear hx hy hz x1 y1 z1 p1 p2 q1 q2 r1 r2
      go_wp2_with fail
      go_quiet ((first | (go_at_call 19; exact Calls.quiet_of_same (H1.out _)) | (go_at_call 20; exact Calls.quiet_of_same (H2.out _)) | (go_at_call 21; exact Calls.quiet_of_same (H3.out _)) | (go_at_call 22; exact Calls.quiet_of_same (H4.out _))))
      go_wp2_with fail
      exact ⟨⟨3, rfl, by omega, ((hkr.alloc _).drewN _)⟩, by simp [intOf]⟩
    · go_wp2_with fail
      refine (HA.out wr).mono ?_
      rintro e w' ⟨rfl, hk⟩
      go_wp2_with fail
      go_ret
      exact ⟨rfl, (k1.trans hkr).trans hk⟩

theorem KdfCalls_walk (a : Int) (_ : (Lit.int .i64 a).wf = true) (b : Int) (_ : (Lit.int .i64 b).wf = true) (n : Int) (_ : (Lit.int .i64 n).wf = true) (w : World) :
    Calls Try.prog 6 #[.int .i64 a, .int .i64 b, .int .i64 n] w fun e w' => e = .returned (.bool true) ∧ Keeps (fun _ => False) w w' :=
  KdfCalls_any a b n w
end Go.Proofs.Ytomeeeakaejokaa
