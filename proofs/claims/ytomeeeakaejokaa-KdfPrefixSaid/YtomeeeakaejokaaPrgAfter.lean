/-
  What whole blocks make of the program's state, walked.
-/
import Derived.Test.YtomeeeakaejokaaPrgBlock
namespace Go.Proofs.Ytomeeeakaejokaa
open Go.RowKit

def lenOf : Value → Nat
  | .slice _ n _ => n
  | _ => 0
theorem RowAt.takeN {F : Nat → Prop} {k : IntKind} {w : World} {a : Option Addr} {l : List Int} (h : RowAt F k w a l) (n : Nat) : RowAt F k w a (l.take n) := by
  obtain ⟨h1, h2, h3⟩ := h
  refine ⟨by rw [List.length_take]; omega, fun x hx => h2 x (List.mem_of_mem_take hx), ?_⟩
  rcases h3 with h3 | ⟨g, off, h4, h5, h6, h7⟩
  · left; rw [h3]; simp
  · refine .inr ⟨g, off, h4, h5, h6, fun j hj => ?_⟩
    rw [List.length_take] at hj
    rw [h7 j (by omega)]
    simp [List.getD_eq_getElem?_getD, show j < n by omega]
theorem RowAt.dropN {F : Nat → Prop} {k : IntKind} {w : World} {g off : Nat} {l : List Int} (h : RowAt F k w (some ⟨g, off, none⟩) l) (n : Nat) : RowAt F k w (some ⟨g, off + n, none⟩) (l.drop n) := by
  obtain ⟨h1, h2, h3⟩ := h
  refine ⟨by rw [List.length_drop]; omega, fun x hx => h2 x (List.mem_of_mem_drop hx), ?_⟩
  rcases h3 with h3 | ⟨g', off', h4, h5, h6, h7⟩
  · left; rw [h3]; simp
  · injection h4 with h4; injection h4 with h4 h4'; subst h4; subst h4'
    refine .inr ⟨g, off + n, rfl, h5, h6, fun j hj => ?_⟩
    rw [List.length_drop] at hj
    rw [Nat.add_assoc, h7 (n + j) (by omega)]
    simp [List.getD_eq_getElem?_getD, List.getElem?_drop]

/-- What the first n blocks of b make of the state h. -/
def pchain32 (h : W8) (b : List Int) : Nat → W8
  | 0 => h
  | n + 1 => block32 (pchain32 h b n) ((b.drop (64 * n)).take 64)
def PAfter32 (h : W8) (b : List Int) (c gs : Nat) (w w2 : World) (x : Value) (wr : World) : Prop :=
  ∃ (n : Nat) (a : Option Addr), x = .slice a (b.length - 64 * n) (c - 64 * n) ∧ 64 * n ≤ b.length ∧ RowAt (fun _ => True) .u8 w a (b.drop (64 * n)) ∧
    wr.heap[gs]? = some (.cells ((pchain32 h b n).cells .u32) 52 (0, 0)) ∧ Keeps (· = gs) w2 wr

set_option maxHeartbeats 4000000 in
set_option maxRecDepth 100000 in
theorem after32_any (gv : Nat) (h : W8) (b : List Int) (a : Option Addr) (c : Nat) (w : World) (hv : w.heap[gv]? = some (.cells kind32 56 (0, 0))) (hc : b.length ≤ c) (hr : RowAt (fun _ => True) .u8 w a b) :
    Calls Try.prog 40 #[.pointer (some ⟨gv, 0, none⟩), .agg (h.cells .u32), .slice a b.length c] w fun e w' => e = .returned (.agg ((pchain32 h b (b.length / 64)).cells .u32)) ∧ Keeps (fun _ => False) w w' := by
  rw [W8.cells_def]
  have hgv : gv < w.heap.size := (Array.getElem?_eq_some_iff.1 hv).1
  have HV := hid hv
  have HBL := hid (fun (W : World) (k : Keeps (fun _ => False) w W) (s : W8) (b' : List Int) (a' : Option Addr) (c' : Nat) (h1 : b'.length = 64) (h2 : 64 ≤ c') (h3 : RowAt (fun _ => True) .u8 w a' b') =>
    afterBlock32_any gv s b' a' c' W (by rw [k.block gv hgv (fun h => h)]; exact hv) h1 h2 (h3.keeps k (fun _ _ h => h)))
  obtain ⟨m, hm⟩ : ∃ m, m = b.length := ⟨_, rfl⟩
  rw [← hm] at hc ⊢
  have HM := hid hm
  have hm0 : m ≤ 9223372036854775807 := by rw [hm]; exact hr.1
  have HR := hid hr
  clear hr hv hm
  have hv0 : w.cell? ⟨gv, 0, none⟩ = some (.int .i64 4) := by rw [cell_of_row w gv 0 _ _ _ HV.out]; exact kind32_c0
  go_enter Try.func40, Try.ntmps40
  obtain ⟨gs, hgsn⟩ : ∃ gs, gs = w.heap.size := ⟨_, rfl⟩
  obtain ⟨w2, hw2⟩ : ∃ w2, w2 = (w.alloc (Obj.cells #[.int .u32 h.a, .int .u32 h.b, .int .u32 h.c, .int .u32 h.d, .int .u32 h.e, .int .u32 h.f, .int .u32 h.g, .int .u32 h.h] 52)).alloc (Obj.cells #[.int .u32 0, .int .u32 0, .int .u32 0, .int .u32 0, .int .u32 0, .int .u32 0, .int .u32 0, .int .u32 0] 52) := ⟨_, rfl⟩
  have hgs : w2.heap[gs]? = some (.cells ((pchain32 h b 0).cells .u32) 52 (0, 0)) := by rw [hw2, hgsn]; exact heap_alloc2_old w _ _
  have hgr : w2.heap[gs + 1]? = some (.cells #[.int .u32 0, .int .u32 0, .int .u32 0, .int .u32 0, .int .u32 0, .int .u32 0, .int .u32 0, .int .u32 0] 52 (0, 0)) := by rw [hw2, hgsn]; exact heap_alloc2_new w _ _
  have kp2 : Keeps (fun _ => False) w w2 := by rw [hw2]; exact ((Keeps.refl _ w).alloc _).alloc _
  have hs2 : w2.heap.size = gs + 2 := by rw [hw2, hgsn]; simp
  have hv2 : w2.cell? ⟨gv, 0, none⟩ = some (.int .i64 4) := by rw [kp2.cell (p := ⟨gv, 0, none⟩) hgv (fun h => h)]; exact hv0
  have HW2 := hid hw2
  have HGSN := hid hgsn
  clear hgsn hw2
  go_upto_region 1 with (fail)
  rw [← HGSN.out, ← HW2.out]
  clear hv0
  have HGR := hid hgr
  have HS2 := hid hs2
  clear hgr hs2
  go_wp2_with fail
  go_loopw [2] (fun x wr => PAfter32 h b c gs w w2 x wr) (fun x _ => lenOf x)
  case atStart => exact ⟨0, a, by rw [← HM.out]; rfl, by omega, HR.out, hgs, Keeps.refl _ _⟩
  case round =>
    clear hgs
    obtain ⟨n, a', rfl, hn, hra, hst, hkr⟩ := hrel
    rw [← HM.out] at hn ⊢
    obtain ⟨s, hs⟩ : ∃ s, s = pchain32 h b n := ⟨_, rfl⟩
    have HS := hid hs
    rw [← hs] at hst
    clear hs
    obtain ⟨q, hq⟩ : ∃ q, q = m - 64 * n := ⟨_, rfl⟩
    obtain ⟨d, hd⟩ : ∃ d, d = c - 64 * n := ⟨_, rfl⟩
    rw [← hq, ← hd]
    have hqd : q ≤ d := by omega
    have hq9 : q ≤ 9223372036854775807 := by omega
    have HQ := hid hq
    have HD := hid hd
    have hne : w2.heap.size = gs + 2 := HS2.out
    have hneg : gv ≠ gs := by have := HGSN.out; omega
    have kf : Keeps (fun _ => False) w wr := kp2.step hkr (fun i hi e => by have := HGSN.out; omega)
    clear hq hd hne
    by_cases hlt : 64 ≤ q
    · have hlt' : (64 : Int) ≤ (q : Int) := by omega
      have hdl : (b.drop (64 * n)).length = q := by rw [List.length_drop, ← HM.out, HQ.out]
      obtain ⟨g, off, rfl⟩ : ∃ g off, a' = some ⟨g, off, none⟩ := by
        rcases hra.2.2 with h0 | ⟨g, off, h1, _⟩
        · rw [h0] at hdl; simp at hdl; omega
        · exact ⟨g, off, h1⟩
      have c0 : wr.cell? ⟨gs, 0, none⟩ = some (.int .u32 s.a) := by rw [cell_of_row wr gs 0 _ _ _ hst]; rfl
      have c1 : wr.cell? ⟨gs, 1, none⟩ = some (.int .u32 s.b) := by rw [cell_of_row wr gs 1 _ _ _ hst]; rfl
      have c2 : wr.cell? ⟨gs, 2, none⟩ = some (.int .u32 s.c) := by rw [cell_of_row wr gs 2 _ _ _ hst]; rfl
      have c3 : wr.cell? ⟨gs, 3, none⟩ = some (.int .u32 s.d) := by rw [cell_of_row wr gs 3 _ _ _ hst]; rfl
      have c4 : wr.cell? ⟨gs, 4, none⟩ = some (.int .u32 s.e) := by rw [cell_of_row wr gs 4 _ _ _ hst]; rfl
      have c5 : wr.cell? ⟨gs, 5, none⟩ = some (.int .u32 s.f) := by rw [cell_of_row wr gs 5 _ _ _ hst]; rfl
      have c6 : wr.cell? ⟨gs, 6, none⟩ = some (.int .u32 s.g) := by rw [cell_of_row wr gs 6 _ _ _ hst]; rfl
      have c7 : wr.cell? ⟨gs, 7, none⟩ = some (.int .u32 s.h) := by rw [cell_of_row wr gs 7 _ _ _ hst]; rfl
      have HCALL := hid (HBL.out wr.drew kf.drew s ((b.drop (64 * n)).take 64) (some ⟨g, off, none⟩) d (by rw [List.length_take, hdl]; omega) (by omega) (hra.takeN 64))
      rw [W8.cells_def] at HCALL
      have hdz : ∀ b', b' = b.drop (64 * (n + 1)) → RowAt (fun _ => True) .u8 w (if d = 64 then some ⟨g, off, none⟩ else some ⟨g, off + 64, none⟩) b' := by
        intro b' hb'
        subst hb'
        rw [show 64 * (n + 1) = 64 * n + 64 by omega, ← List.drop_drop]
        by_cases hz : d = 64
        · rw [if_pos hz, List.drop_eq_nil_of_le (by omega)]
          exact ⟨by simp, by simp, .inl rfl⟩
        · rw [if_neg hz]; exact hra.dropN 64
      have HDZ := hid hdz
      clear hdz hra hdl
      go_wp2_with fail
      refine wp_region_tail 5 (by kernel_rfl) (by kernel_rfl) _ _ rfl rfl ?_
      simp only [List.take_succ_cons, List.take_zero, List.drop_succ_cons, List.drop_zero]
      repeat (first | go_big_quiet_skip | (go_big_quiet_want; go_big_quiet_op; first | go_big_quiet_on | (apply Exists.intro; refine ⟨?_, ?_⟩; (fail); go_big_quiet_on)))
      refine wpQuiet_nil ?_
      repeat (first | go_values | go_skip | go_guarded | go_step | go_upon | go_back)
      refine (HCALL.out).mono ?_
      rintro e w4 ⟨rfl, hk4⟩
      have hst4 : w4.heap[gs]? = some (.cells (s.cells .u32) 52 (0, 0)) := by
        rw [hk4.block gs (Array.getElem?_eq_some_iff.1 hst).1 (fun h => h)]; exact hst
      have hk5 : Keeps (· = gs) w2 w4 := (hkr.drew).trans (hk4.mono (fun _ _ h => h.elim))
      have hnx : pchain32 h b (n + 1) = block32 s ((b.drop (64 * n)).take 64) := by rw [pchain32, HS.out]
      obtain ⟨s', hs'⟩ : ∃ s', s' = block32 s ((b.drop (64 * n)).take 64) := ⟨_, rfl⟩
      rw [← hs'] at hnx ⊢
      have HNX := hid hnx
      clear hs' hnx c0 c1 c2 c3 c4 c5 c6 c7 hst hk4
      by_cases hz : d = 64
      all_goals
        go_wp2_with (refine wpList_store_row rfl _ _ _ rfl gs (s'.cells .u32) rfl rfl _ _ hst4 (by kernel_rfl) (by kernel_rfl) (by kernel_rfl) ?_)
        go_roundw
        case rel =>
          refine ⟨n + 1, _, ?_, by have := HQ.out; have := HM.out; omega, HDZ.out _ rfl, by rw [setRow_heap _ _ _ _ _ _ hst4, HNX.out], Keeps.setRow hk5 _ _ (fun _ => rfl)⟩
          rw [show b.length - 64 * (n + 1) = q - 64 by have := HQ.out; have := HM.out; omega, show c - 64 * (n + 1) = d - 64 by have := HD.out; omega]
          first | (rw [if_neg hz]; done) | (rw [if_pos hz, hz])
        case measure => simp [lenOf]; omega
    · have hlt' : ¬ (64 : Int) ≤ (q : Int) := by omega
      have hgr := (hkr.block (gs + 1) (by have := HS2.out; omega) (by omega)).trans HGR.out
      have c0 : wr.cell? ⟨gs, 0, none⟩ = some (.int .u32 s.a) := by rw [cell_of_row wr gs 0 _ _ _ hst]; rfl
      have c1 : wr.cell? ⟨gs, 1, none⟩ = some (.int .u32 s.b) := by rw [cell_of_row wr gs 1 _ _ _ hst]; rfl
      have c2 : wr.cell? ⟨gs, 2, none⟩ = some (.int .u32 s.c) := by rw [cell_of_row wr gs 2 _ _ _ hst]; rfl
      have c3 : wr.cell? ⟨gs, 3, none⟩ = some (.int .u32 s.d) := by rw [cell_of_row wr gs 3 _ _ _ hst]; rfl
      have c4 : wr.cell? ⟨gs, 4, none⟩ = some (.int .u32 s.e) := by rw [cell_of_row wr gs 4 _ _ _ hst]; rfl
      have c5 : wr.cell? ⟨gs, 5, none⟩ = some (.int .u32 s.f) := by rw [cell_of_row wr gs 5 _ _ _ hst]; rfl
      have c6 : wr.cell? ⟨gs, 6, none⟩ = some (.int .u32 s.g) := by rw [cell_of_row wr gs 6 _ _ _ hst]; rfl
      have c7 : wr.cell? ⟨gs, 7, none⟩ = some (.int .u32 s.h) := by rw [cell_of_row wr gs 7 _ _ _ hst]; rfl
      have HN := hid (show m / 64 = n by have := HQ.out; omega)
      go_wp2_with (refine wpList_store_row rfl _ _ _ rfl (gs + 1) (s.cells .u32) rfl rfl _ _ hgr (by kernel_rfl) (by kernel_rfl) (by kernel_rfl) ?_)
      refine bodyPost_ret (v := .agg (s.cells .u32)) (results_cell_row rfl _ _ (gs + 1) 52 _ (0, 0) _ rfl (setRow_heap _ _ _ _ _ _ hgr) Try.underlying52 rfl (by kernel_rfl)) rfl ?_
      exact ⟨by rw [HN.out, HS.out], Keeps.setRow kf _ _ (fun hi => absurd hi (by have := HGSN.out; omega))⟩

/-- What the first n blocks of b make of the state h. -/
def pchain64 (h : W8) (b : List Int) : Nat → W8
  | 0 => h
  | n + 1 => block64 (pchain64 h b n) ((b.drop (128 * n)).take 128)
def PAfter64 (h : W8) (b : List Int) (c gs : Nat) (w w2 : World) (x : Value) (wr : World) : Prop :=
  ∃ (n : Nat) (a : Option Addr), x = .slice a (b.length - 128 * n) (c - 128 * n) ∧ 128 * n ≤ b.length ∧ RowAt (fun _ => True) .u8 w a (b.drop (128 * n)) ∧
    wr.heap[gs]? = some (.cells ((pchain64 h b n).cells .u64) 58 (0, 0)) ∧ Keeps (· = gs) w2 wr

end Go.Proofs.Ytomeeeakaejokaa
