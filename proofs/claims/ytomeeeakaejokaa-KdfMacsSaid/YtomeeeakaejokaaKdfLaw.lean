/-
  The statements of layer 5: the sanity check.
-/
import Derived.Test.YtomeeeakaejokaaPrgKdfE
import Derived.Test.YtomeeeakaejokaaSome
import Derived.Test.YtomeeeakaejokaaRel
import Derived.Test.YtomeeeakaejokaaTail
namespace Go.Proofs.Ytomeeeakaejokaa
open Go.RowKit

theorem Short_yes (a : Option Addr) (c n : Nat) (w : World) (h : n ≤ 600) :
    Calls Try.prog 9 #[.slice a n c] w fun e w' => e = .returned (.bool true) ∧ w = w' := by
  have h' : (n : Int) ≤ 600 := by omega
  go_enter Try.func9, Try.ntmps9
  go_wp2_with fail
  go_ret
  exact ⟨rfl, rfl⟩
theorem Short_no (a : Option Addr) (c n : Nat) (w : World) (h : ¬ n ≤ 600) :
    Calls Try.prog 9 #[.slice a n c] w fun e w' => e = .returned (.bool false) ∧ w = w' := by
  have h' : ¬ (n : Int) ≤ 600 := by omega
  go_enter Try.func9, Try.ntmps9
  go_wp2_with fail
  go_ret
  exact ⟨rfl, rfl⟩

def hiKey : List Int := [11, 11, 11, 11, 11, 11, 11, 11, 11, 11, 11, 11, 11, 11, 11, 11, 11, 11, 11, 11]
def hiText : List Int := [72, 105, 32, 84, 104, 101, 114, 101]
set_option maxRecDepth 1000000 in
theorem hi_all : (fun l : List Int => (l.getD 0 0, l.getD 1 0, l.getD 31 0)) (hmac hiKey hiText) = (176, 52, 247) := by kernel_rfl

set_option maxHeartbeats 1000000 in
set_option maxRecDepth 100000 in
theorem awake5_any (w : World) :
    Calls Try.prog 10 #[] w fun e w' => e = .returned (.bool true) ∧ Keeps (fun _ => False) w w' := by
  have h1 : Calls Try.prog 13 #[.slice (some ⟨w.heap.size, 0, none⟩) 20 20, .slice (some ⟨w.heap.size + 1, 0, none⟩) 8 8]
      ((w.alloc (.cells (wordsOf .u8 hiKey) 5)).alloc (.cells (wordsOf .u8 hiText) 5 (8, 9))) (HmacPost hiKey hiText ((w.alloc (.cells (wordsOf .u8 hiKey) 5)).alloc (.cells (wordsOf .u8 hiText) 5 (8, 9)))) := by
    have r1 := RowAt.new .u8 w 5 hiKey (by decide) (by decide)
    have r2 := RowAt.new .u8 (w.alloc (.cells (wordsOf .u8 hiKey) 5)) 5 hiText (by decide) (by decide) (8, 9)
    rw [World.size_alloc] at r2
    exact prgHMAC_any (some ⟨w.heap.size, 0, none⟩) 20 hiKey (some ⟨w.heap.size + 1, 0, none⟩) 8 hiText _ (by decide) (by decide) ⟨fun h => (by cases h), by decide⟩ (r1.keeps ((Keeps.refl (fun _ => False) _).alloc _) (fun _ _ h => h)) ⟨fun h => (by cases h), by decide⟩ r2
  have kA : Keeps (fun _ => False) w ((w.alloc (.cells (wordsOf .u8 hiKey) 5)).alloc (.cells (wordsOf .u8 hiText) 5 (8, 9))) := ((Keeps.refl _ _).alloc _).alloc _
  have hsA : ((w.alloc (.cells (wordsOf .u8 hiKey) 5)).alloc (.cells (wordsOf .u8 hiText) 5 (8, 9))).heap.size = w.heap.size + 2 := by rw [World.size_alloc, World.size_alloc]
  rw [show wordsOf .u8 hiKey = #[.int .u8 11, .int .u8 11, .int .u8 11, .int .u8 11, .int .u8 11, .int .u8 11, .int .u8 11, .int .u8 11, .int .u8 11, .int .u8 11, .int .u8 11, .int .u8 11, .int .u8 11, .int .u8 11, .int .u8 11, .int .u8 11, .int .u8 11, .int .u8 11, .int .u8 11, .int .u8 11] from rfl, show wordsOf .u8 hiText = #[.int .u8 72, .int .u8 105, .int .u8 32, .int .u8 84, .int .u8 104, .int .u8 101, .int .u8 114, .int .u8 101] from rfl] at h1 kA hsA
  have H1 := hid h1
  have HKA := hid kA
  have HSA := hid hsA
  clear h1 kA hsA
  have hall := hi_all
  simp only [Prod.mk.injEq] at hall
  obtain ⟨q0, q1, q31⟩ := hall
  obtain ⟨R, hR⟩ : ∃ R, R = hmac hiKey hiText := ⟨_, rfl⟩
  have HL := hid (show R.length = 32 by rw [hR, hmac, sha256_length])
  have HR := hid (show ∀ W, HmacPost hiKey hiText W = fun e w' => ∃ v, e = .returned v ∧ OwnI .u8 5 W.heap.size w' v R ∧ Keeps (fun _ => False) W w' from fun W => by rw [hR]; rfl)
  rw [← hR] at q0 q1 q31
  have Q0 := hid q0; have Q1 := hid q1; have Q31 := hid q31
  clear q0 q1 q31 hR
  have kc : ∀ (o : Obj) (C : Array Value) (n c : Nat), (convert 22 22 (.slice (some ⟨w.heap.size + 1, 0, none⟩) n c)).run Try.prog ((w.alloc o).alloc (.cells C 5)) =
      .ok (.slice (some ⟨w.heap.size + 1, 0, none⟩) n c) ((w.alloc o).alloc (.cells C 5 (C.size, C.size + 1))) := fun o C n c => by
    have h := Lib.run_convert_bytes_const (P := Try.prog) (w.alloc o) 22 5 C n c Try.underlying22 Try.underlying5
    rwa [World.size_alloc] at h
  go_enter Try.func10, Try.ntmps10
  go_wp2_with fail
  refine (H1.out).mono ?_
  rintro e w1 hp
  rw [HR.out] at hp
  obtain ⟨v, rfl, hown, hk1⟩ := hp
  have kp1 := HKA.out.trans hk1
  obtain ⟨g, c, rfl, hgb, hgl, hcap, hcm, hcell⟩ := hown.look (by rw [HL.out]; omega)
  have x0 := hcell 0 (by rw [HL.out]; omega)
  have x1 := hcell 1 (by rw [HL.out]; omega)
  have x31 := hcell 31 (by rw [HL.out]; omega)
  rw [Q0.out] at x0
  rw [Q1.out] at x1
  rw [Q31.out] at x31
  rw [HL.out]
  have HE := hid (prgExpand_err (some ⟨g, 0, none⟩) c R none 0 [] (-1) w1 (.inl (by omega)))
  rw [HL.out] at HE
  clear hk1 hcell hown hgb
  go_wp2_with fail
  refine (HE.out).mono ?_
  rintro e w2 ⟨rfl, rfl⟩
  go_wp2_with fail
  go_ret
  exact ⟨rfl, kp1⟩
end Go.Proofs.Ytomeeeakaejokaa
