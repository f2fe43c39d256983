/-
  The answer of layer 4: SHA-256 of any bytes.
-/
import Derived.Test.YtomeeeakaejokaaRefB256
namespace Go.Proofs.Ytomeeeakaejokaa
open Go.RowKit

/-- The eight words behind the first n blocks of p. -/
def chain32 (p : List Int) : Nat → W8
  | 0 => ⟨1779033703, 3144134277, 1013904242, 2773480762, 1359893119, 2600822924, 528734635, 1541459225⟩
  | n + 1 => block32 (chain32 p n) ((p.drop (64 * n)).take 64)
/-- The four bytes of a word. -/
def outWord32 (x : Int) : List Int := [x / 16777216 % 256, x / 65536 % 256, x / 256 % 256, x % 256]
theorem outWord32_wf (x : Int) : ∀ y, y ∈ outWord32 x → (Lit.int .u8 y).wf = true := by
  intro y hy
  simp only [outWord32, List.mem_cons, List.not_mem_nil, or_false] at hy
  exact wf_u8_mk (by omega) (by omega)
/-- The bytes of the first i words. -/
def outs32 (l : List Int) : Nat → List Int
  | 0 => []
  | i + 1 => outs32 l i ++ outWord32 (l.getD i 0)
theorem outs32_len (l : List Int) : ∀ i, (outs32 l i).length = 4 * i
  | 0 => rfl
  | i + 1 => by rw [outs32, List.length_append, outs32_len l i]; simp [outWord32]; omega
def padded256 (b : List Int) : List Int := padL b ((119 - b.length % 64) % 64) 8
def sha256 (b : List Int) : List Int := outs32 (chain32 (padded256 b) ((padded256 b).length / 64)).list 8

def Sum256Post (b : List Int) (w : World) (e : Ending) (w' : World) : Prop :=
  ∃ v, e = .returned v ∧ OwnI .u8 5 w.heap.size w' v (sha256 b) ∧ Keeps (fun _ => False) w w'
def Chain256 (p : List Int) (g3 : Nat) (wp : World) (i : Value) (wr : World) : Prop :=
  ∃ n : Nat, i = .int .i64 ((64 * n : Nat) : Int) ∧ 64 * n ≤ p.length ∧ wr.heap[g3]? = some (.cells ((chain32 p n).cells .u32) 52 (0, 0)) ∧ Keeps (· = g3) wp wr
/-- The first i words are the initial ones, the others still 0. -/
def initTo (i : Nat) : List Int := (refIs.map (· / 4294967296)).take i ++ (List.replicate 8 0).drop i
theorem initTo_set : ∀ i, i < 8 → (initTo i).set i (refIs.getD i 0 / 4294967296 % 4294967296) = initTo (i + 1)
  | 0, _ => rfl | 1, _ => rfl | 2, _ => rfl | 3, _ => rfl | 4, _ => rfl | 5, _ => rfl | 6, _ => rfl | 7, _ => rfl
  | n + 8, h => absurd h (by omega)
theorem initTo_len (i : Nat) (h : i ≤ 8) : (initTo i).length = 8 := by
  rw [initTo, List.length_append, List.length_take, List.length_drop, List.length_map, List.length_replicate, show refIs.length = 8 from rfl]; omega
def Init256 (g3 : Nat) (wp : World) (i : Value) (wr : World) : Prop :=
  ∃ n : Nat, i = .int .i64 n ∧ n ≤ 8 ∧ wr.heap[g3]? = some (.cells (wordsOf .u32 (initTo n)) 52 (0, 0)) ∧ Keeps (· = g3) wp wr
def Outs256 (l : List Int) (base : Nat) (wp : World) (v i : Value) (wr : World) : Prop :=
  ∃ n : Nat, i = .int .i64 n ∧ n ≤ 8 ∧ OwnI .u8 5 base wr v (outs32 l n) ∧ Keeps (fun g => base ≤ g) wp wr

set_option maxHeartbeats 4000000 in
set_option maxRecDepth 100000 in
theorem refSum256_any (a : Option Addr) (c : Nat) (b : List Int) (w : World) (hb : b.length ≤ 1000000000) (hc : a = none → c = 0) (hr : RowAt (fun _ => True) .u8 w a b) :
    Calls Try.prog 25 #[.slice a b.length c] w (Sum256Post b w) := by
  obtain ⟨i0, hi, hz0, hz1, hz2⟩ := info_parts info_u8p
  have HIX := hid (fun (i : Nat) (hi : i < 8) => run_index_words (P := Try.prog) 58 42 .u64 refIs Try.underlying58 (fun w => by kernel_rfl) (by kernel_rfl) i hi)
  have HS0 := hid (show wordsOf .u32 (initTo 8) = (chain32 (padded256 b) 0).cells .u32 from rfl)
  go_enter Try.func25, Try.ntmps25
  go_wp2_with fail
  refine (refInitial_any _).mono ?_
  rintro e w1 ⟨rfl, hk1⟩
  obtain ⟨I, hI⟩ : ∃ I, I = wordsOf .u64 refIs := ⟨_, rfl⟩
  rw [← hI] at HIX ⊢
  clear hI
  obtain ⟨g3, hg3⟩ : ∃ g3, g3 = w.heap.size := ⟨_, rfl⟩
  have hst0 : w1.heap[g3]? = some (.cells (wordsOf .u32 (initTo 0)) 52 (0, 0)) := by
    rw [hg3]; exact (hk1.block w.heap.size (by rw [World.size_alloc]; omega) (fun h => h)).trans (heap_alloc_last _ _)
  have kp1 : Keeps (fun _ => False) w w1 := Keeps.trans (Keeps.alloc (Keeps.refl _ w) _) hk1
  have hg3s : w.heap.size ≤ g3 ∧ g3 < w1.heap.size := by
    have h1 := hk1.size
    rw [World.size_alloc] at h1
    omega
  rw [← hg3]
  have HG3 := hid hg3
  clear hg3 hk1
  go_wp2_with fail
  go_loopw [12] (fun i wr => Init256 g3 w1 i wr) (fun i _ => 8 - (intOf i).toNat)
  case atStart => exact ⟨0, rfl, by omega, hst0, Keeps.refl _ _⟩
  case round =>
    obtain ⟨i, rfl, hi8, hsi, hki⟩ := hrel
    by_cases hlt8 : i < 8
    · have hlt8' : (i : Int) < 8 := by omega
      have hix := HIX.out i hlt8
      obtain ⟨x, hx⟩ : ∃ x, x = refIs.getD i 0 := ⟨_, rfl⟩
      rw [← hx] at hix
      have HX := hid hx
      have hci : wr.cell? ⟨g3, i, none⟩ = some (.int .u32 ((initTo i).getD i 0)) := by
        rw [cell_of_row wr g3 i _ _ _ hsi, wordsOf_get _ _ _ (by rw [initTo_len i hi8]; omega)]
      generalize (initTo i).getD i 0 = y at hci
      have hfi : wr.frozen? ⟨g3, i, none⟩ = false := frozen_of_row wr g3 i _ _ hsi
      clear hx
      go_wp2_with fail
      go_roundw
      case rel =>
        refine ⟨i + 1, rfl, by omega, ?_, Keeps.setCell hki _ _ (fun _ => rfl)⟩
        rw [heap_setCell_same wr g3 i _ _ _ hsi, wordsOf_set, HX.out, initTo_set i hlt8]
      case measure => simp [intOf]; omega
    · have h8 : i = 8 := by omega
      subst h8
      obtain ⟨w2, hw2⟩ : ∃ w2, w2 = wr := ⟨_, rfl⟩
      rw [← hw2] at hsi hki ⊢
      rw [HS0.out] at hsi
      have hst0 := hsi
      have kp2 : Keeps (fun _ => False) w w2 := kp1.step hki (fun i hi e => by omega)
      have hg3s : w.heap.size ≤ g3 ∧ g3 < w2.heap.size := by have := hki.size; omega
      clear hki hw2 hsi
      obtain ⟨S0, hS0⟩ : ∃ S0, S0 = chain32 (padded256 b) 0 := ⟨_, rfl⟩
      have HS0 := hid hS0
      rw [← hS0] at hst0
      clear hS0
      go_wp2_with fail
      refine (refPad64 a c b w2 hb hc (hr.keeps kp2 (fun _ _ h => h))).mono ?_
      rintro e w3 ⟨v, rfl, hown, hk3⟩
      have hp : padL b ((119 - b.length % 64) % 64) 8 = padded256 b := rfl
      rw [hp] at hown
      clear hp
      obtain ⟨p, hpp⟩ : ∃ p, p = padded256 b := ⟨_, rfl⟩
      have HP := hid hpp
      have hplen : ∃ q, p.length = 64 * q ∧ 1 ≤ q ∧ q ≤ 20000000 := by
        rw [hpp, padded256, padL_len]
        exact ⟨(b.length + 1 + ((119 - b.length % 64) % 64) + 8) / 64, by omega, by omega, by omega⟩
      obtain ⟨q, hpl, hq1, hq2⟩ := hplen
      rw [← hpp] at hown
      clear hpp
      obtain ⟨gp, cp, rfl, hgb, hgl, hcap, hcm, hcell⟩ := hown.look (by omega)
      have hwf := hown.2.1
      rw [hpl] at hcap ⊢
      have HCELL := hid hcell
      have HWF := hid hwf
      have HPL := hid hpl
      have hst3 : w3.heap[g3]? = some (.cells ((chain32 p 0).cells .u32) 52 (0, 0)) := by
        rw [hk3.block g3 hg3s.2 (fun h => h), hst0, HS0.out]; rfl
      have hg3' : g3 < w3.heap.size := by have := hk3.size; omega
      have hne : gp ≠ g3 := by omega
      obtain ⟨hg3a, hg3b⟩ := hg3s
      clear hcell hwf hst0 hown
      go_wp2_with fail
      go_loopw [7] (fun i wr => Chain256 p g3 w3 i wr) (fun i _ => 64 * q - (intOf i).toNat)
      case atStart => exact ⟨0, rfl, by omega, hst3, Keeps.refl _ _⟩
      case round =>
        obtain ⟨n, rfl, hn, hst, hkr⟩ := hrel
        by_cases hlt : n < q
        · have hlt' : ((64 * n : Nat) : Int) < 64 * (q : Int) := by omega
          obtain ⟨s, hs⟩ : ∃ s, s = chain32 p n := ⟨_, rfl⟩
          have HS := hid hs
          rw [← hs] at hst
          clear hs
          have c0 : wr.cell? ⟨g3, 0, none⟩ = some (.int .u32 s.a) := by rw [cell_of_row wr g3 0 _ _ _ hst]; rfl
          have c1 : wr.cell? ⟨g3, 1, none⟩ = some (.int .u32 s.b) := by rw [cell_of_row wr g3 1 _ _ _ hst]; rfl
          have c2 : wr.cell? ⟨g3, 2, none⟩ = some (.int .u32 s.c) := by rw [cell_of_row wr g3 2 _ _ _ hst]; rfl
          have c3 : wr.cell? ⟨g3, 3, none⟩ = some (.int .u32 s.d) := by rw [cell_of_row wr g3 3 _ _ _ hst]; rfl
          have c4 : wr.cell? ⟨g3, 4, none⟩ = some (.int .u32 s.e) := by rw [cell_of_row wr g3 4 _ _ _ hst]; rfl
          have c5 : wr.cell? ⟨g3, 5, none⟩ = some (.int .u32 s.f) := by rw [cell_of_row wr g3 5 _ _ _ hst]; rfl
          have c6 : wr.cell? ⟨g3, 6, none⟩ = some (.int .u32 s.g) := by rw [cell_of_row wr g3 6 _ _ _ hst]; rfl
          have c7 : wr.cell? ⟨g3, 7, none⟩ = some (.int .u32 s.h) := by rw [cell_of_row wr g3 7 _ _ _ hst]; rfl
          have hcapn : ¬ cp = 64 * n := by omega
          go_wp2_with fail
          refine wp_region_tail 6 (by kernel_rfl) (by kernel_rfl) _ _ rfl rfl ?_
          simp only [List.take_succ_cons, List.take_zero, List.drop_succ_cons, List.drop_zero]
          repeat (first | go_big_quiet_skip | (go_big_quiet_want; go_big_quiet_op; first | go_big_quiet_on | (apply Exists.intro; refine ⟨?_, ?_⟩; (fail); go_big_quiet_on)))
          refine wpQuiet_nil ?_
          have e64 : 64 * n + 64 - 64 * n = 64 := by omega
          rw [e64]
          have hrow : RowAt (fun _ => True) .u8 wr.drew (some ⟨gp, 64 * n, none⟩) ((p.drop (64 * n)).take 64) := by
            have h0 := RowAt.cut (F := fun _ => True) (k := .u8) (w := wr.drew) (g := gp) (off := 0) (l := p) HWF.out (by have := hkr.size; show gp < wr.heap.size; omega) trivial (fun j hj => by
              rw [Nat.zero_add]
              exact ((hkr.drew).cell (p := ⟨gp, j, none⟩) hgl hne).trans (HCELL.out j hj)) (64 * n) 64 (by have := HPL.out; omega) (by omega)
            rwa [Nat.zero_add] at h0
          have hbl : ((p.drop (64 * n)).take 64).length = 64 := by simp; have := HPL.out; omega
          have HC := hid (refBlock256_any s _ (some ⟨gp, 64 * n, none⟩) (cp - 64 * n) wr.drew hbl hrow)
          clear e64 c0 c1 c2 c3 c4 c5 c6 c7 hrow hbl
          go_wp2_with fail
          refine (HC.out).mono ?_
          rintro e w4 ⟨rfl, hk4⟩
          have hst4 : w4.heap[g3]? = some (.cells (s.cells .u32) 52 (0, 0)) := by
            rw [hk4.block g3 (by have := hkr.size; show g3 < wr.heap.size; omega) (fun h => h)]; exact hst
          have hk5 : Keeps (· = g3) w3 w4 := (hkr.drew).trans (hk4.mono (fun _ _ h => h.elim))
          obtain ⟨S', hS'⟩ : ∃ S', S' = block32 s ((p.drop (64 * n)).take 64) := ⟨_, rfl⟩
          rw [← hS']
          have HS' := hid hS'
          clear hS' HC hst hkr hk4
          go_wp2_with (refine wpList_store_row rfl _ _ _ rfl g3 (S'.cells .u32) rfl rfl _ (s.cells .u32) hst4 (by kernel_rfl) (by kernel_rfl) (by kernel_rfl) ?_)
          go_roundw
          case rel =>
            refine ⟨n + 1, ?_, by have := HPL.out; omega, ?_, Keeps.setRow hk5 _ _ (fun _ => rfl)⟩
            · congr 1
            · rw [setRow_heap _ _ _ _ _ _ hst4, chain32, ← HS.out, ← HS'.out]
          case measure => simp [intOf]; omega
        · have hnq : n = q := by have := HPL.out; omega
          subst hnq
          obtain ⟨s, hs⟩ : ∃ s, s = chain32 p n := ⟨_, rfl⟩
          have HS := hid hs
          rw [← hs] at hst
          clear hs hst3
          obtain ⟨C, hC⟩ : ∃ C, C = s.cells .u32 := ⟨_, rfl⟩
          have HIX := hid (fun (i : Nat) (hi : i < 8) => run_index_words (P := Try.prog) 52 51 .u32 s.list Try.underlying52 (fun w => by kernel_rfl) (by kernel_rfl) i hi)
          rw [← W8.cells_list, ← hC] at HIX
          rw [← hC] at hst
          have HCS := hid (show (Try.prog.info? 52).map (·.size) = some C.size by rw [hC]; kernel_rfl)
          clear hC
          obtain ⟨wo, rfl⟩ : ∃ wo : World, wo = wr := ⟨_, rfl⟩
          have hle : w.heap.size ≤ wo.heap.size := by have := hkr.size; omega
          go_wp2_with (refine wpList_load_row rfl _ _ rfl g3 rfl _ C (0, 0) _ hst Try.underlying52 rfl HCS.out ?_)
          go_loopw [8, 38] (fun v i wr => Outs256 s.list w.heap.size wo v i wr) (fun _ i _ => 8 - (intOf i).toNat)
          case atStart => exact ⟨0, rfl, by omega, OwnI.nil _ _ _ _, Keeps.refl _ _⟩
          case round =>
            obtain ⟨i, rfl, hi8, hown, hkw⟩ := hrel
            by_cases hlt8 : i < 8
            · have hlt8' : (i : Int) < 8 := by omega
              have hix := HIX.out i hlt8
              obtain ⟨x, hx⟩ : ∃ x, x = s.list.getD i 0 := ⟨_, rfl⟩
              rw [← hx] at hix
              have HX := hid hx
              clear hx
              have hlew : w.heap.size ≤ wr.heap.size := by have := hkw.size; omega
              go_wp2_with (at_builtin; (refine wpList_pushes rfl _ _ 22 rfl .u8 w.heap.size 5 i0 1 Try.underlying22 hi hz0 hz1 hz2 u8 (outs32 s.list i) (outWord32 x) rfl hown rfl (outWord32_wf x) (by rw [outs32_len, outWord32]; simp only [List.length_cons, List.length_nil]; omega) (by omega) hlew _ rfl ?_))
              intro v' w7 hown7 hk7
              go_wp2
              go_roundw
              case rel =>
                refine ⟨i + 1, rfl, by omega, ?_, hkw.step hk7 (fun i _ hb => (hown.base i hb).1)⟩
                rw [outs32, ← HX.out]; exact hown7
              case measure => simp [intOf]; omega
            · have h8 : i = 8 := by omega
              subst h8
              go_wp2_with fail
              go_ret
              have hps : p.length / 64 = n := by have := HPL.out; omega
              refine ⟨_, rfl, ?_, ?_⟩
              · rw [sha256, ← HP.out, hps, ← HS.out]; exact hown
              · refine (((kp2.trans hk3).step hkr (fun i hi e => ?_)).step hkw (fun i hi e => ?_)) <;> omega
end Go.Proofs.Ytomeeeakaejokaa
