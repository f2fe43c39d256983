/-
  The answer of layer 4: SHA-512 of any bytes.
-/
import Derived.Test.YtoahgjhomnmmbaaRefB512
namespace Go.Proofs.Ytoahgjhomnmmbaa
open Go.RowKit

/-- The eight words behind the first n blocks of p. -/
def chain64 (p : List Int) : Nat → W8
  | 0 => ⟨7640891576956012808, 13503953896175478587, 4354685564936845355, 11912009170470909681, 5840696475078001361, 11170449401992604703, 2270897969802886507, 6620516959819538809⟩
  | n + 1 => block64 (chain64 p n) ((p.drop (128 * n)).take 128)
/-- The first j of a word's eight bytes, the highest first. -/
def outWord64 (x : Int) (j : Nat) : List Int := (List.range j).map fun i => byteAt x (7 - i)
theorem outWord64_len (x : Int) (j : Nat) : (outWord64 x j).length = j := by simp [outWord64]
theorem outWord64_succ (x : Int) (q : Nat) (hq : q < 8) : outWord64 x (7 - q) ++ [byteAt x q] = outWord64 x (8 - q) := by
  rw [show 8 - q = (7 - q) + 1 by omega, outWord64, outWord64, List.range_succ, List.map_append, show 7 - q = 7 - q from rfl]
  simp [show 7 - (7 - q) = q by omega]
/-- The bytes of the first i words. -/
def outs64 (l : List Int) : Nat → List Int
  | 0 => []
  | i + 1 => outs64 l i ++ outWord64 (l.getD i 0) 8
theorem outs64_len (l : List Int) : ∀ i, (outs64 l i).length = 8 * i
  | 0 => rfl
  | i + 1 => by rw [outs64, List.length_append, outs64_len l i, outWord64_len]; omega
def padded512 (b : List Int) : List Int := padL b ((239 - b.length % 128) % 128 + 8) 8
def sha512 (b : List Int) : List Int := outs64 (chain64 (padded512 b) ((padded512 b).length / 128)).list 8

def Sum512Post (b : List Int) (w : World) (e : Ending) (w' : World) : Prop :=
  ∃ v, e = .returned v ∧ OwnI .u8 5 w.heap.size w' v (sha512 b) ∧ Keeps (fun _ => False) w w'
def Chain512 (p : List Int) (g3 : Nat) (wp : World) (i : Value) (wr : World) : Prop :=
  ∃ n : Nat, i = .int .i64 ((128 * n : Nat) : Int) ∧ 128 * n ≤ p.length ∧ wr.heap[g3]? = some (.cells ((chain64 p n).cells .u64) 44 (0, 0)) ∧ Keeps (· = g3) wp wr
def Word512 (l : List Int) (n : Nat) (x : Int) (base : Nat) (wp : World) (v i : Value) (wr : World) : Prop :=
  ∃ k : Nat, k ≤ 8 ∧ i = .int .i64 ((k : Int) - 1) ∧ OwnI .u8 5 base wr v (outs64 l n ++ outWord64 x (8 - k)) ∧ Keeps (fun g => base ≤ g) wp wr
def Outs512 (l : List Int) (base : Nat) (wp : World) (v i : Value) (wr : World) : Prop :=
  ∃ n : Nat, i = .int .i64 n ∧ n ≤ 8 ∧ OwnI .u8 5 base wr v (outs64 l n) ∧ Keeps (fun g => base ≤ g) wp wr

set_option maxHeartbeats 4000000 in
set_option maxRecDepth 100000 in
theorem refSum512_any (a : Option Addr) (c : Nat) (b : List Int) (w : World) (hb : b.length ≤ 1000000000) (hc : a = none → c = 0) (hr : RowAt (fun _ => True) .u8 w a b) :
    Calls Try.prog 12 #[.slice a b.length c] w (Sum512Post b w) := by
  obtain ⟨i0, hi, hz0, hz1, hz2⟩ := info_parts info_u8p
  have HI := hid (show (chain64 (padded512 b) 0).cells .u64 = wordsOf .u64 refIs from rfl)
  go_enter Try.func12, Try.ntmps12
  go_wp2_with fail
  refine (refInitial_any _).mono ?_
  rintro e w1 ⟨rfl, hk1⟩
  rw [← HI.out]
  obtain ⟨S0, hS0⟩ : ∃ S0, S0 = chain64 (padded512 b) 0 := ⟨_, rfl⟩
  rw [← hS0]
  have HS0 := hid hS0
  clear hS0
  go_wp2_with (refine wpList_store_row rfl _ _ _ rfl w1.heap.size (S0.cells .u64) rfl rfl _ _ (heap_alloc_last _ _) (by kernel_rfl) (by kernel_rfl) (by kernel_rfl) ?_)
  rw [World.setRow_alloc_new]
  obtain ⟨w2, hw2⟩ : ∃ w2, w2 = w1.alloc (Obj.cells (S0.cells .u64) 44) := ⟨_, rfl⟩
  obtain ⟨g3, hg3⟩ : ∃ g3, g3 = w1.heap.size := ⟨_, rfl⟩
  rw [← hw2, ← hg3]
  have hst0 : w2.heap[g3]? = some (.cells (S0.cells .u64) 44 (0, 0)) := by rw [hw2, hg3]; exact heap_alloc_last _ _
  have kp2 : Keeps (fun _ => False) w w2 := by rw [hw2]; exact Keeps.alloc hk1 _
  have hg3s : w.heap.size ≤ g3 ∧ g3 < w2.heap.size := by
    have h1 := hk1.size
    have h2 : w2.heap.size = w1.heap.size + 1 := by rw [hw2, World.size_alloc]
    omega
  clear hw2 hg3 hk1
  refine (refPad128 a c b w2 hb hc (hr.keeps kp2 (fun _ _ h => h))).mono ?_
  rintro e w3 ⟨v, rfl, hown, hk3⟩
  have hp : padL b ((239 - b.length % 128) % 128 + 8) 8 = padded512 b := rfl
  rw [hp] at hown
  clear hp
  obtain ⟨p, hpp⟩ : ∃ p, p = padded512 b := ⟨_, rfl⟩
  have HP := hid hpp
  have hplen : ∃ q, p.length = 128 * q ∧ 1 ≤ q ∧ q ≤ 20000000 := by
    rw [hpp, padded512, padL_len]
    exact ⟨(b.length + 1 + ((239 - b.length % 128) % 128 + 8) + 8) / 128, by omega, by omega, by omega⟩
  obtain ⟨q, hpl, hq1, hq2⟩ := hplen
  rw [← hpp] at hown
  clear hpp
  obtain ⟨gp, cp, rfl, hgb, hgl, hcap, hcm, hcell⟩ := hown.look (by omega)
  have hwf := hown.2.1
  rw [hpl] at hcap ⊢
  have HCELL := hid hcell
  have HWF := hid hwf
  have HPL := hid hpl
  have hst3 : w3.heap[g3]? = some (.cells ((chain64 p 0).cells .u64) 44 (0, 0)) := by
    rw [hk3.block g3 hg3s.2 (fun h => h), hst0, HS0.out]; rfl
  have hg3' : g3 < w3.heap.size := by have := hk3.size; omega
  have hne : gp ≠ g3 := by omega
  obtain ⟨hg3a, hg3b⟩ := hg3s
  clear hcell hwf hst0 hown
  go_wp2_with fail
  go_loopw [5] (fun i wr => Chain512 p g3 w3 i wr) (fun i _ => 128 * q - (intOf i).toNat)
  case atStart => exact ⟨0, rfl, by omega, hst3, Keeps.refl _ _⟩
  case round =>
    obtain ⟨n, rfl, hn, hst, hkr⟩ := hrel
    by_cases hlt : n < q
    · have hlt' : ((128 * n : Nat) : Int) < 128 * (q : Int) := by omega
      obtain ⟨s, hs⟩ : ∃ s, s = chain64 p n := ⟨_, rfl⟩
      have HS := hid hs
      rw [← hs] at hst
      clear hs
      have c0 : wr.cell? ⟨g3, 0, none⟩ = some (.int .u64 s.a) := by rw [cell_of_row wr g3 0 _ _ _ hst]; rfl
      have c1 : wr.cell? ⟨g3, 1, none⟩ = some (.int .u64 s.b) := by rw [cell_of_row wr g3 1 _ _ _ hst]; rfl
      have c2 : wr.cell? ⟨g3, 2, none⟩ = some (.int .u64 s.c) := by rw [cell_of_row wr g3 2 _ _ _ hst]; rfl
      have c3 : wr.cell? ⟨g3, 3, none⟩ = some (.int .u64 s.d) := by rw [cell_of_row wr g3 3 _ _ _ hst]; rfl
      have c4 : wr.cell? ⟨g3, 4, none⟩ = some (.int .u64 s.e) := by rw [cell_of_row wr g3 4 _ _ _ hst]; rfl
      have c5 : wr.cell? ⟨g3, 5, none⟩ = some (.int .u64 s.f) := by rw [cell_of_row wr g3 5 _ _ _ hst]; rfl
      have c6 : wr.cell? ⟨g3, 6, none⟩ = some (.int .u64 s.g) := by rw [cell_of_row wr g3 6 _ _ _ hst]; rfl
      have c7 : wr.cell? ⟨g3, 7, none⟩ = some (.int .u64 s.h) := by rw [cell_of_row wr g3 7 _ _ _ hst]; rfl
      have hcapn : ¬ cp = 128 * n := by omega
      go_wp2_with fail
      refine wp_region_tail 6 (by kernel_rfl) (by kernel_rfl) _ _ rfl rfl ?_
      simp only [List.take_succ_cons, List.take_zero, List.drop_succ_cons, List.drop_zero]
      repeat (first | go_big_quiet_skip | (go_big_quiet_want; go_big_quiet_op; first | go_big_quiet_on | (apply Exists.intro; refine ⟨?_, ?_⟩; (fail); go_big_quiet_on)))
      refine wpQuiet_nil ?_
      have e128 : 128 * n + 128 - 128 * n = 128 := by omega
      rw [e128]
      have hrow : RowAt (fun _ => True) .u8 wr.drew (some ⟨gp, 128 * n, none⟩) ((p.drop (128 * n)).take 128) := by
        have h0 := RowAt.cut (F := fun _ => True) (k := .u8) (w := wr.drew) (g := gp) (off := 0) (l := p) HWF.out (by have := hkr.size; show gp < wr.heap.size; omega) trivial (fun j hj => by
          rw [Nat.zero_add]
          exact ((hkr.drew).cell (p := ⟨gp, j, none⟩) hgl hne).trans (HCELL.out j hj)) (128 * n) 128 (by have := HPL.out; omega) (by omega)
        rwa [Nat.zero_add] at h0
      have hbl : ((p.drop (128 * n)).take 128).length = 128 := by simp; have := HPL.out; omega
      have HC := hid (refBlock512_any s _ (some ⟨gp, 128 * n, none⟩) (cp - 128 * n) wr.drew hbl hrow)
      clear e128 c0 c1 c2 c3 c4 c5 c6 c7 hrow hbl
      go_wp2_with fail
      refine (HC.out).mono ?_
      rintro e w4 ⟨rfl, hk4⟩
      have hst4 : w4.heap[g3]? = some (.cells (s.cells .u64) 44 (0, 0)) := by
        rw [hk4.block g3 (by have := hkr.size; show g3 < wr.heap.size; omega) (fun h => h)]; exact hst
      have hk5 : Keeps (· = g3) w3 w4 := (hkr.drew).trans (hk4.mono (fun _ _ h => h.elim))
      obtain ⟨S', hS'⟩ : ∃ S', S' = block64 s ((p.drop (128 * n)).take 128) := ⟨_, rfl⟩
      rw [← hS']
      have HS' := hid hS'
      clear hS' HC hst hkr hk4
      go_wp2_with (refine wpList_store_row rfl _ _ _ rfl g3 (S'.cells .u64) rfl rfl _ (s.cells .u64) hst4 (by kernel_rfl) (by kernel_rfl) (by kernel_rfl) ?_)
      go_roundw
      case rel =>
        refine ⟨n + 1, ?_, by have := HPL.out; omega, ?_, Keeps.setRow hk5 _ _ (fun _ => rfl)⟩
        · congr 1
        · rw [setRow_heap _ _ _ _ _ _ hst4, chain64, ← HS.out, ← HS'.out]
      case measure => simp [intOf]; omega
    · have hnq : n = q := by have := HPL.out; omega
      subst hnq
      obtain ⟨s, hs⟩ : ∃ s, s = chain64 p n := ⟨_, rfl⟩
      have HS := hid hs
      rw [← hs] at hst
      clear hs hst3
      obtain ⟨C, hC⟩ : ∃ C, C = s.cells .u64 := ⟨_, rfl⟩
      have HIX := hid (fun (i : Nat) (hi : i < 8) => run_index_words (P := Try.prog) 44 31 .u64 s.list Try.underlying44 (fun w => by kernel_rfl) (by kernel_rfl) i hi)
      rw [← W8.cells_list, ← hC] at HIX
      rw [← hC] at hst
      have HCS := hid (show (Try.prog.info? 44).map (·.size) = some C.size by rw [hC]; kernel_rfl)
      clear hC
      obtain ⟨wo, rfl⟩ : ∃ wo : World, wo = wr := ⟨_, rfl⟩
      have hle : w.heap.size ≤ wo.heap.size := by have := hkr.size; omega
      go_wp2_with (refine wpList_load_row rfl _ _ rfl g3 rfl _ C (0, 0) _ hst Try.underlying44 rfl HCS.out ?_)
      go_loopw [6, 27] (fun v i wr => Outs512 s.list w.heap.size wo v i wr) (fun _ i _ => 8 - (intOf i).toNat)
      case atStart => exact ⟨0, rfl, by omega, OwnI.nil _ _ _ _, Keeps.refl _ _⟩
      case round =>
        obtain ⟨i, rfl, hi8, hown, hkw⟩ := hrel
        by_cases hlt8 : i < 8
        · have hlt8' : (i : Int) < 8 := by omega
          have hix := HIX.out i hlt8
          obtain ⟨x, hx⟩ : ∃ x, x = s.list.getD i 0 := ⟨_, rfl⟩
          rw [← hx] at hix
          have HX := hid hx
          clear hx
          go_wp2_with fail
          obtain ⟨wi, rfl⟩ : ∃ wi : World, wi = wr := ⟨_, rfl⟩
          go_loopw [6, 9] (fun v j wr => Word512 s.list i x w.heap.size wi v j wr) (fun _ j _ => (intOf j + 1).toNat)
          case atStart => exact ⟨8, by omega, rfl, by rw [show outWord64 x (8 - 8) = [] from rfl, List.append_nil]; exact hown, Keeps.refl _ _⟩
          case round =>
            clear hown
            obtain ⟨k, hk8, rfl, hown, hkr2⟩ := hrel
            have hlew : w.heap.size ≤ wr.heap.size := by have := hkw.size; have := hkr2.size; omega
            rcases k with _ | q
            · go_wp2_with fail
              go_roundw
              case rel =>
                refine ⟨i + 1, rfl, by omega, ?_, hkw.trans hkr2⟩
                rw [outs64, ← HX.out]; exact hown
              case measure => simp [intOf]; omega
            · have hq : (((q + 1 : Nat) : Int) - 1) = q := by omega
              rw [hq]
              clear hq
              go_wp2_with (at_builtin; (refine wpList_push rfl _ _ 22 rfl .u8 w.heap.size 5 i0 1 Try.underlying22 hi hz0 hz1 hz2 u6 (outs64 s.list i ++ outWord64 x (8 - (q + 1))) (byteAt x q) rfl hown rfl (byteAt_wf _ _) (by simp only [List.length_append, outs64_len, outWord64_len]; omega) (by omega) hlew ?_))
              intro v' w7 hown7 hk7 _
              go_wp2
              go_roundw
              case rel =>
                refine ⟨q, by omega, rfl, ?_, hkr2.step hk7 (fun i _ hb => (hown.base i hb).1)⟩
                rw [← outWord64_succ x q (by omega)]
                exact hown7
              case measure => simp [intOf]
        · have h8 : i = 8 := by omega
          subst h8
          go_wp2_with fail
          go_ret
          have hps : p.length / 128 = n := by have := HPL.out; omega
          refine ⟨_, rfl, ?_, ?_⟩
          · rw [sha512, ← HP.out, hps, ← HS.out]; exact hown
          · refine (((kp2.trans hk3).step hkr (fun i hi e => ?_)).step hkw (fun i hi e => ?_)) <;> omega
end Go.Proofs.Ytoahgjhomnmmbaa
