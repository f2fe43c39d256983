/-
  The statements of layer 4, over what the program's functions promise: the sanity check, ShaBlocks.
-/
import Derived.Test.YtoahgjhomnmmbaaRefSum256
import Derived.Test.YtoahgjhomnmmbaaRefSum512
import Derived.Test.YtoahgjhomnmmbaaSome
import Derived.Lib.SlBytesConst
namespace Go.Proofs.Ytoahgjhomnmmbaa
open Go.RowKit

/-- What the program's four functions are asked to be. -/
def PSum256 : Prop := ∀ (a : Option Addr) (c : Nat) (b : List Int) (w : World), b.length ≤ 1000000 → CapOk a c b.length → RowAt (fun _ => True) .u8 w a b →
  Calls Try.prog 9 #[.slice a b.length c] w (Sum256Post b w)
def PSum512 : Prop := ∀ (a : Option Addr) (c : Nat) (b : List Int) (w : World), b.length ≤ 1000000 → CapOk a c b.length → RowAt (fun _ => True) .u8 w a b →
  Calls Try.prog 11 #[.slice a b.length c] w (Sum512Post b w)
def blocks256 (n : Int) : Int := if n < 0 then 0 else (n + 72) / 64
def blocks512 (n : Int) : Int := if n < 0 then 0 else (n + 144) / 128
def PBlocks256 : Prop := ∀ (n : Int) (w : World), n ≤ 1099511627776 → Calls Try.prog 15 #[.int .i64 n] w fun e w' => e = .returned (.int .i64 (blocks256 n)) ∧ w = w'
def PBlocks512 : Prop := ∀ (n : Int) (w : World), n ≤ 1099511627776 → Calls Try.prog 17 #[.int .i64 n] w fun e w' => e = .returned (.int .i64 (blocks512 n)) ∧ w = w'

theorem sha256_len (b : List Int) : (sha256 b).length = 32 := by rw [sha256, outs32_len]
theorem sha512_len (b : List Int) : (sha512 b).length = 64 := by rw [sha512, outs64_len]

set_option maxRecDepth 1000000 in
theorem abc0 : (sha256 [97, 98, 99]).getD 0 0 = 186 := by kernel_rfl
set_option maxRecDepth 1000000 in
theorem abc1 : (sha256 [97, 98, 99]).getD 1 0 = 120 := by kernel_rfl
set_option maxRecDepth 1000000 in
theorem abc31 : (sha256 [97, 98, 99]).getD 31 0 = 173 := by kernel_rfl

set_option maxHeartbeats 1000000 in
set_option maxRecDepth 100000 in
theorem awake_any (h256 : PSum256) (h512 : PSum512) (hb : PBlocks256) (w : World) :
    Calls Try.prog 8 #[] w fun e w' => e = .returned (.bool true) ∧ Keeps (fun _ => False) w w' := by
  have h1 : ∀ w : World, Calls Try.prog 9 #[.slice (some ⟨w.heap.size, 0, none⟩) 3 3] (w.alloc (.cells #[.int .u8 97, .int .u8 98, .int .u8 99] 5 (3, 4))) (Sum256Post [97, 98, 99] (w.alloc (.cells #[.int .u8 97, .int .u8 98, .int .u8 99] 5 (3, 4)))) := by
    intro w
    have h := h256 (some ⟨w.heap.size, 0, none⟩) 3 [97, 98, 99] (w.alloc (.cells (wordsOf .u8 [97, 98, 99]) 5 (3, 4))) (by simp) ⟨fun h => (by cases h), by simp⟩ (RowAt.new .u8 w 5 [97, 98, 99] (by decide) (by simp) (3, 4))
    rwa [show wordsOf .u8 [97, 98, 99] = #[.int .u8 97, .int .u8 98, .int .u8 99] from rfl, show ([97, 98, 99] : List Int).length = 3 from rfl] at h
  have H1 := hid h1
  clear h1
  have H2 := hid h512
  have H3 := hid (fun w => hb 55 w (by omega))
  have H4 := hid (fun w => hb 56 w (by omega))
  clear h256 h512 hb
  have kc := fun (w : World) (C : Array Value) (n c : Nat) => Lib.run_convert_bytes_const (P := Try.prog) w 22 5 C n c Try.underlying22 Try.underlying5
  go_enter Try.func8, Try.ntmps8
  go_wp2_with fail
  refine (H1.out w).mono ?_
  rintro e w1 ⟨v, rfl, hown, hk1⟩
  obtain ⟨g, c, rfl, hgb, hgl, hcap, hcm, hcell⟩ := hown.look (by rw [sha256_len]; omega)
  have x0 := hcell 0 (by rw [sha256_len]; omega)
  have x1 := hcell 1 (by rw [sha256_len]; omega)
  have x31 := hcell 31 (by rw [sha256_len]; omega)
  rw [abc0] at x0
  rw [abc1] at x1
  rw [abc31] at x31
  rw [sha256_len]
  have kp1 : Keeps (fun _ => False) w w1 := ((Keeps.refl (fun _ => False) w).alloc _).trans hk1
  clear hk1 hcell hown hgb
  go_wp2_with fail
  refine (H2.out none 0 [] w1 (by simp) ⟨fun _ => rfl, by simp⟩ ⟨by simp, by simp, .inl rfl⟩).mono ?_
  rintro e w2 ⟨v2, rfl, hown2, hk2⟩
  obtain ⟨a2, c2, rfl, _⟩ := hown2.row
  rw [sha512_len]
  have y0 : w2.cell? ⟨g, 0, none⟩ = _ := (hk2.cell (p := ⟨g, 0, none⟩) hgl (fun h => h)).trans x0
  have y1 : w2.cell? ⟨g, 1, none⟩ = _ := (hk2.cell (p := ⟨g, 1, none⟩) hgl (fun h => h)).trans x1
  have y31 : w2.cell? ⟨g, 31, none⟩ = _ := (hk2.cell (p := ⟨g, 31, none⟩) hgl (fun h => h)).trans x31
  clear x0 x1 x31 hown2
  have kp2 := kp1.trans hk2
  clear hk2 kp1
  go_wp2_with fail
  refine (H3.out w2).mono ?_
  rintro e w3 ⟨rfl, rfl⟩
  go_wp2_with fail
  refine (H4.out w2).mono ?_
  rintro e w3 ⟨rfl, rfl⟩
  go_wp2_with fail
  go_ret
  exact ⟨rfl, kp2⟩

theorem refB256 (n : Int) (w : World) (hn : n ≤ 1099511627776) : Calls Try.prog 16 #[.int .i64 n] w fun e w' => e = .returned (.int .i64 (blocks256 n)) ∧ w = w' := refBlocks256_any n w (by omega)
theorem refB512 (n : Int) (w : World) (hn : n ≤ 1099511627776) : Calls Try.prog 18 #[.int .i64 n] w fun e w' => e = .returned (.int .i64 (blocks512 n)) ∧ w = w' := refBlocks512_any n w (by omega)

set_option maxHeartbeats 1000000 in
set_option maxRecDepth 100000 in
theorem ShaBlocks_any (h256 : PSum256) (h512 : PSum512) (hb : PBlocks256) (hb5 : PBlocks512) (n : Int) (hl : -9223372036854775808 ≤ n) (hh : n ≤ 9223372036854775807) (w : World) :
    Calls Try.prog 5 #[.int .i64 n] w fun e w' => e = .returned (.bool true) ∧ Keeps (fun _ => False) w w' := by
  have HA := hid (awake_any h256 h512 hb)
  have HB := hid hb
  have HB5 := hid hb5
  have HM := hid (fun w => Mod_any n 1099511627776 w (by omega) (by omega))
  obtain ⟨m, hm⟩ : ∃ m, m = n % 1099511627776 := ⟨_, rfl⟩
  have hm0 : 0 ≤ m := by omega
  have hm1 : m ≤ 1099511627776 := by omega
  rw [← hm] at HM
  clear h256 h512 hb hb5 hm
  have hm2 : m % 1000 ≤ 1099511627776 := by omega
  by_cases hgt : n > 1099511627776
  · go_enter Try.func5, Try.ntmps5
    go_wp2_with fail
    refine (HM.out w).mono ?_
    rintro e w' ⟨rfl, rfl⟩
    go_wp2_with fail
    refine (HB.out m w hm1).mono ?_
    rintro e w' ⟨rfl, rfl⟩
    go_wp2_with fail
    refine (refB256 m w hm1).mono ?_
    rintro e w' ⟨rfl, rfl⟩
    go_wp2_with fail
    refine (HB5.out m w hm1).mono ?_
    rintro e w' ⟨rfl, rfl⟩
    go_wp2_with fail
    refine (refB512 m w hm1).mono ?_
    rintro e w' ⟨rfl, rfl⟩
    go_wp2_with fail
    refine (HB.out m w hm1).mono ?_
    rintro e w' ⟨rfl, rfl⟩
    go_wp2_with fail
    refine (refB256 m w hm1).mono ?_
    rintro e w' ⟨rfl, rfl⟩
    go_wp2_with fail
    refine (HB5.out (m % 1000) w hm2).mono ?_
    rintro e w' ⟨rfl, rfl⟩
    go_wp2_with fail
    refine (refB512 (m % 1000) w hm2).mono ?_
    rintro e w' ⟨rfl, rfl⟩
    go_wp2_with fail
    refine (HA.out w).mono ?_
    rintro e w' ⟨rfl, hk⟩
    go_wp2_with fail
    go_ret
    exact ⟨rfl, hk⟩
  · have hn1 : n ≤ 1099511627776 := by omega
    go_enter Try.func5, Try.ntmps5
    go_wp2_with fail
    refine (HM.out w).mono ?_
    rintro e w' ⟨rfl, rfl⟩
    go_wp2_with fail
    refine (HB.out n w hn1).mono ?_
    rintro e w' ⟨rfl, rfl⟩
    go_wp2_with fail
    refine (refB256 n w hn1).mono ?_
    rintro e w' ⟨rfl, rfl⟩
    go_wp2_with fail
    refine (HB5.out n w hn1).mono ?_
    rintro e w' ⟨rfl, rfl⟩
    go_wp2_with fail
    refine (refB512 n w hn1).mono ?_
    rintro e w' ⟨rfl, rfl⟩
    go_wp2_with fail
    refine (HB.out m w hm1).mono ?_
    rintro e w' ⟨rfl, rfl⟩
    go_wp2_with fail
    refine (refB256 m w hm1).mono ?_
    rintro e w' ⟨rfl, rfl⟩
    go_wp2_with fail
    refine (HB5.out (m % 1000) w hm2).mono ?_
    rintro e w' ⟨rfl, rfl⟩
    go_wp2_with fail
    refine (refB512 (m % 1000) w hm2).mono ?_
    rintro e w' ⟨rfl, rfl⟩
    go_wp2_with fail
    refine (HA.out w).mono ?_
    rintro e w' ⟨rfl, hk⟩
    go_wp2_with fail
    go_ret
    exact ⟨rfl, hk⟩

theorem ShaBlocks_walk (h256 : PSum256) (h512 : PSum512) (hb : PBlocks256) (hb5 : PBlocks512) (n : Int) (hw : (Lit.int .i64 n).wf = true) (w : World) :
    Calls Try.prog 5 #[.int .i64 n] w fun e w' => e = .returned (.bool true) ∧ Keeps (fun _ => False) w w' :=
  ShaBlocks_any h256 h512 hb hb5 n (wf_i64 hw).1 (wf_i64 hw).2 w
end Go.Proofs.Ytoahgjhomnmmbaa
