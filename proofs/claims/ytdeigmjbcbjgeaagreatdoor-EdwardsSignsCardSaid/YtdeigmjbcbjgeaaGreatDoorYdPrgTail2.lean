/-
  What the program appends to a message: walked.
-/
import Derived.Deep.OwnRows
import Derived.Test.YtdeigmjbcbjgeaaGreatDoorYdPrgTail
namespace Go.Proofs.YtdeigmjbcbjgeaaGreatDoor
open Go.RowKit

theorem padA_drop (b : List Int) (k i : Nat) (h : k ≤ b.length) : (padA b i).drop k = padA (b.drop k) i := by
  rw [padA, padA, List.drop_append_of_le_length h]
theorem keeps_of_below {w w' : World} (h : Below w.heap.size w w') : Keeps (fun _ => False) w w' := ⟨h.os, h.tape, h.output, h.size, fun k hk _ => h.block k hk⟩
/-- The last eight bytes while they are written, the last i of them done. -/
def lenTo (C : Int) (i : Nat) : List Int := List.replicate (8 - i) 0 ++ (lenBytes C 8).drop (8 - i)
theorem lenTo_set (C : Int) (i : Nat) (hi : i < 8) : (lenTo C i).set (7 - i) (byteAt C i) = lenTo C (i + 1) := by
  rcases i with _ | _ | _ | _ | _ | _ | _ | _ | i <;> first | rfl | omega
theorem lenTo_len (C : Int) (i : Nat) (h : i ≤ 8) : (lenTo C i).length = 8 := by
  rw [lenTo, List.length_append, List.length_replicate, List.length_drop, lenBytes_len]; omega
theorem lenTo_full (C : Int) : lenTo C 8 = lenBytes C 8 := rfl
theorem made_zero (n : Nat) : madeCells #[Value.int .u8 0] n = (List.replicate n (Value.int .u8 0)).toArray := by
  apply Array.ext
  · simp [madeCells]
  · intro i h1 h2
    simp [madeCells, Nat.mod_one]
theorem splice_zero (r : List Int) (N : Nat) :
    (splice (List.replicate N (Value.int .u8 0)) 0 (r.map (Value.int .u8))).toArray = wordsOf .u8 (r ++ List.replicate (N - r.length) 0) := by
  simp [splice, wordsOf, List.drop_replicate]
theorem set_mark (r : List Int) (n : Nat) : (r ++ List.replicate (n + 1) 0).set r.length 128 = padA r n := by
  rw [List.set_append_right _ _ (Nat.le_refl _), Nat.sub_self, List.replicate_succ, padA]; rfl
theorem padA_eight (r : List Int) (z : Nat) (C : Int) : padA r (z + 8) = padA r z ++ lenTo C 0 := by
  rw [padA, padA, lenTo, Nat.sub_zero, List.drop_eq_nil_of_le (by rw [lenBytes_len]; exact Nat.le_refl _), List.append_nil, ← List.replicate_append_replicate]
  simp
theorem tail_set (r : List Int) (z i p : Nat) (C x : Int) (hi : i < 8) (hp : p = r.length + 1 + z + (7 - i)) (hx : x = byteAt C i) : (padA r z ++ lenTo C i).set p x = padA r z ++ lenTo C (i + 1) := by
  subst hx
  rw [List.set_append_right _ _ (by rw [padA_len]; omega), padA_len, show p - (r.length + 1 + z) = 7 - i by omega, lenTo_set C i hi]
theorem tail_wf (r : List Int) (z : Nat) (C : Int) (h : ∀ x, x ∈ r → (Lit.int .u8 x).wf = true) : ∀ x, x ∈ padA r z ++ lenBytes C 8 → (Lit.int .u8 x).wf = true := by
  intro x hx
  rcases List.mem_append.1 hx with hx | hx
  · rw [padA] at hx
    rcases List.mem_append.1 hx with hx | hx
    · exact h x hx
    · rcases List.mem_cons.1 hx with rfl | hx
      · decide
      · rw [(List.mem_replicate.1 hx).2]; decide
  · rw [lenBytes] at hx
    obtain ⟨i, _, rfl⟩ := List.mem_map.1 hx
    exact byteAt_wf _ _
def ptail128 (b : List Int) : List Int := (padded512 b).drop (128 * (b.length / 128))
def PTail (r : List Int) (z : Nat) (C : Int) (ge : Nat) (w : World) (i : Value) (wr : World) : Prop :=
  ∃ n : Nat, i = .int .i64 n ∧ n ≤ 8 ∧ wr.heap[ge]? = some (.cells (wordsOf .u8 (padA r z ++ lenTo C n)) 5 (0, 0)) ∧ Keeps (fun _ => False) w wr
def TailPost (l : List Int) (w : World) (e : Ending) (w' : World) : Prop :=
  ∃ g, e = .returned (.slice (some ⟨g, 0, none⟩) l.length l.length) ∧ RowAt (fun _ => True) .u8 w' (some ⟨g, 0, none⟩) l ∧ Keeps (fun _ => False) w w'

theorem ptail128_eq (b : List Int) : ptail128 b = padA (b.drop (128 * (b.length / 128))) ((239 - b.length % 128) % 128 + 8) ++ lenBytes ((b.length : Int) * 8) 8 := by
  rw [ptail128, padded512, padL, List.drop_append_of_le_length (by rw [padA_len]; omega), padA_drop _ _ _ (by omega)]

set_option maxHeartbeats 2000000 in
set_option maxRecDepth 100000 in
theorem tail128_any (a : Option Addr) (c : Nat) (b : List Int) (w : World) (hb : b.length ≤ 1000000) (hc : CapOk a c b.length) (hr : RowAt (fun _ => True) .u8 w a b) :
    Calls Tryz.prog 123 #[.slice a b.length c, .int .i64 128] w (TailPost (ptail128 b) w) := by
  obtain ⟨i0, hi, hz0, hz1, hz2⟩ := info_parts info_u8p
  have HSZ := hid (show (Tryz.prog.info? 5).map (·.size) = some 1 by kernel_rfl)
  rw [ptail128_eq]
  obtain ⟨z, hz⟩ : ∃ z, z = (239 - b.length % 128) % 128 + 8 := ⟨_, rfl⟩
  rw [← hz]
  obtain ⟨r, hrr⟩ : ∃ r, r = b.drop (128 * (b.length / 128)) := ⟨_, rfl⟩
  rw [← hrr]
  have hrl : r.length = b.length % 128 := by rw [hrr, List.length_drop]; omega
  obtain ⟨m, hm⟩ : ∃ m, m = b.length := ⟨_, rfl⟩
  rw [← hm] at hb hc hz hrl ⊢
  have HM := hid hm
  obtain ⟨f, hf⟩ : ∃ f, f = m / 128 := ⟨_, rfl⟩
  obtain ⟨T, hT⟩ : ∃ T, T = (m + 144) / 128 := ⟨_, rfl⟩
  obtain ⟨N, hN⟩ : ∃ N, N = r.length + 1 + z + 8 := ⟨_, rfl⟩
  have hB : ∀ W, Calls Tryz.prog 132 #[.int .i64 m, .int .i64 128] W fun e w' => e = .returned (.int .i64 T) ∧ W = w' := fun W => by
    have h := blocks128_any m W (by omega)
    rw [show blocks512 (m : Int) = (T : Int) by rw [blocks512, if_neg (by omega), hT]; omega] at h
    exact h
  have HBK := hid hB
  have hf' : (m : Int) / 128 = (f : Int) := by omega
  have hN' : 128 * ((T : Int) - (f : Int)) = (N : Int) := by omega
  have hm0 : 0 ≤ (m : Int) := by omega
  have hm1 : (m : Int) ≤ 1000000 := by omega
  have hTf : f ≤ T := by omega
  have hT1 : T ≤ 1000000 := by omega
  have hN1 : N ≤ 1000 := by omega
  have hfm : 128 * f ≤ m := by omega
  have hcm : m ≤ c := hc.2
  have HRL := hid (show r.length ≤ N by omega)
  have HRL2 := hid (show r.length = m - 128 * f by omega)
  have HZ := hid hz; have HF := hid hf; have HT := hid hT; have HN := hid hN; have HL := hid hrl; have HRR := hid hrr
  have HWF := hid (tail_wf r z ((m : Int) * 8) (fun x hx => hr.2.1 x (by rw [hrr] at hx; exact List.mem_of_mem_drop hx)))
  clear hB hm hz hf hT hN hrl hrr
  by_cases hrem : r.length = 0
  · by_cases hzz : c = 128 * f
    all_goals
      go_enter Tryz.func123, Tryz.ntmps123
      go_wp2_with fail
      refine (HBK.out _).mono ?_
      rintro e w' ⟨rfl, rfl⟩
      go_wp2_with (first
        | (with_reducible refine wpList_make_row _ rfl _ _ 33 rfl 5 i0 (.int .u8 0) Tryz.underlying33 hi hz0 hz1 rfl .i64 .i64 N rfl rfl (by rw [hz2]; omega) (by omega) ?_)
        | ((with_reducible show wpList _ _ _ (Oper.mk (some 29) _ _ _ _ _ :: _) _ _); refine Hid.out ?_))
      refine hid ?_
      refine wpList_copy_splice rfl _ _ 33 33 rfl 5 Tryz.underlying33 HSZ.out _ _ N N _ _ rfl rfl w.heap.size 0 (List.replicate N (Value.int .u8 0)) 5 (by rw [← made_zero]; exact heap_alloc_last _ _) [] (by have := HRL2.out; have := HRL.out; show _ = min (m - 128 * f) N; rw [Nat.min_eq_left (by omega)]; simp; omega) (fun h => absurd h (by simp)) (by rw [List.length_replicate]; have := HRL.out; simp; try omega) (by intro v hv; simp at hv; try (obtain ⟨_, _, rfl⟩ := hv; rfl)) w.heap.size w (Below.alloc (Below.refl _ _) (Nat.le_refl _) _) (Nat.le_refl _) ?_
      intro w3 HG3 hB3
      try rw [List.length_map]
      have hk3 := keeps_of_below hB3
      clear hB3
      have hg3 := HG3.out
      rw [show ([] : List Value) = r.map (Value.int .u8) by rw [List.eq_nil_of_length_eq_zero hrem]; rfl, splice_zero] at hg3
      obtain ⟨ge, hge⟩ : ∃ ge, ge = w.heap.size := ⟨_, rfl⟩
      rw [← hge] at hg3 ⊢
      have HGE := hid hge
      clear HG3 hge
      have cm : w3.cell? ⟨ge, 0, none⟩ = some (.int .u8 ((r ++ List.replicate (N - r.length) 0).getD 0 0)) := by
        rw [cell_of_row w3 ge 0 _ _ _ hg3, wordsOf_get _ _ _ (by rw [List.length_append, List.length_replicate]; have := HN.out; omega)]
      generalize (r ++ List.replicate (N - r.length) 0).getD 0 0 = x0 at cm
      have fm : w3.frozen? ⟨ge, 0, none⟩ = false := frozen_of_row w3 ge 0 _ _ hg3
      have hqN : 0 < N := by have := HN.out; omega
      have e := set_mark r (z + 8)
      rw [hrem] at e
      have hset : (w3.setCell ⟨ge, 0, none⟩ (.int .u8 128)).heap[ge]? = some (.cells (wordsOf .u8 (padA r z ++ lenTo ((m : Int) * 8) 0)) 5 (0, 0)) := by
        rw [heap_setCell_same w3 ge 0 _ _ _ hg3, wordsOf_set, show N - r.length = (z + 8) + 1 by have := HN.out; omega, e, padA_eight]
      have hks : Keeps (fun _ => False) w (w3.setCell ⟨ge, 0, none⟩ (.int .u8 128)) := Keeps.setCell hk3 _ _ (fun h => absurd h (by have := HGE.out; show ¬ ge < w.heap.size; omega))
      clear hg3 hk3 e
      go_wp2_with fail
      obtain ⟨w4, hw4⟩ : ∃ w4, w4 = w3.setCell ⟨ge, 0, none⟩ (.int .u8 128) := ⟨_, rfl⟩
      rw [← hw4] at hset hks ⊢
      clear hw4 cm fm
      go_loopw [37] (fun i wr => PTail r z ((m : Int) * 8) ge w i wr) (fun i _ => 8 - (intOf i).toNat)
      case atStart => exact ⟨0, rfl, by omega, hset, hks⟩
      case round =>
        clear hset hks
        obtain ⟨n, rfl, hn, hst, hkr⟩ := hrel
        by_cases hlt : n < 8
        · have hlt' : (n : Int) < 8 := by omega
          obtain ⟨p, hp⟩ : ∃ p, p = N - 1 - n := ⟨_, rfl⟩
          have hpi : (N : Int) - 1 - (n : Int) = (p : Int) := by omega
          have hpN : p < N := by omega
          have hll : (padA r z ++ lenTo ((m : Int) * 8) n).length = N := by rw [List.length_append, padA_len, lenTo_len _ _ hn, HN.out]
          have cp : wr.cell? ⟨ge, p, none⟩ = some (.int .u8 ((padA r z ++ lenTo ((m : Int) * 8) n).getD p 0)) := by
            rw [cell_of_row wr ge p _ _ _ hst, wordsOf_get _ _ _ (by omega)]
          generalize (padA r z ++ lenTo ((m : Int) * 8) n).getD p 0 = x0 at cp
          have fp : wr.frozen? ⟨ge, p, none⟩ = false := frozen_of_row wr ge p _ _ hst
          have HP := hid hp
          clear hp hll
          go_wp2_with fail
          go_roundw
          case rel =>
            refine ⟨n + 1, rfl, by omega, ?_, Keeps.setCell hkr _ _ (fun h => absurd h (by have := HGE.out; show ¬ ge < w.heap.size; omega))⟩
            rw [heap_setCell_same wr ge p _ _ _ hst, wordsOf_set, tail_set r z n p _ _ hlt (by have := HP.out; have := HN.out; omega) ?_]
            rw [byteAt, Int.mul_comm]
          case measure => simp [intOf]; omega
        · have h8 : n = 8 := by omega
          subst h8
          have hfin : (padA r z ++ lenBytes ((m : Int) * 8) 8).length = N := by rw [List.length_append, padA_len, lenBytes_len, HN.out]
          go_wp2_with fail
          go_ret
          refine ⟨ge, by rw [hfin]; rfl, ⟨by rw [hfin]; omega, fun x hx => ?_, .inr ⟨ge, 0, rfl, trivial, (Array.getElem?_eq_some_iff.1 hst).1, fun j hj => ?_⟩⟩, hkr⟩
          · exact HWF.out x hx
          · rw [Nat.zero_add, cell_of_row wr ge j _ _ _ hst, lenTo_full, wordsOf_get _ _ _ hj]

  · obtain ⟨g0, off, rfl, hg0, hcell⟩ : ∃ g0 off, a = some ⟨g0, off, none⟩ ∧ g0 < w.heap.size ∧ ∀ j, j < b.length → w.cell? ⟨g0, off + j, none⟩ = some (.int .u8 (b.getD j 0)) := by
      rcases hr.2.2 with h0 | ⟨g0, off, h1, _, h2, h3⟩
      · rw [HM.out, h0] at HRL2; have := HRL2.out; simp at this; exact absurd (by rw [this]; rfl) hrem
      · exact ⟨g0, off, h1, h2, h3⟩
    have hzz : ¬ c = 128 * f := by have := HRL2.out; omega
    have HSRC := hid (show ∀ j v, (r.map (Value.int .u8))[j]? = some v → (w.alloc (.cells (madeCells #[Value.int .u8 0] N) 5)).cell? ((⟨g0, off + 128 * f, none⟩ : Addr).add j) = some v from fun j v hj => by
      rw [List.getElem?_map] at hj
      rcases hq : r[j]? with _ | y
      · simp [hq] at hj
      · simp [hq] at hj
        have hjl : j < r.length := (List.getElem?_eq_some_iff.1 hq).1
        rw [add_block_none, World.cell?_alloc_lt _ _ _ hg0, Nat.add_assoc, hcell (128 * f + j) (by have := HRL2.out; have := HM.out; omega), ← hj]
        rw [HRR.out, List.getElem?_drop] at hq
        simp [List.getD_eq_getElem?_getD, HF.out, HM.out, hq])
    clear hcell
    go_enter Tryz.func123, Tryz.ntmps123
    go_wp2_with fail
    refine (HBK.out _).mono ?_
    rintro e w' ⟨rfl, rfl⟩
    go_wp2_with (first
      | (with_reducible refine wpList_make_row _ rfl _ _ 33 rfl 5 i0 (.int .u8 0) Tryz.underlying33 hi hz0 hz1 rfl .i64 .i64 N rfl rfl (by rw [hz2]; omega) (by omega) ?_)
      | ((with_reducible show wpList _ _ _ (Oper.mk (some 29) _ _ _ _ _ :: _) _ _); refine Hid.out ?_))
    refine hid ?_
    refine wpList_copy_splice rfl _ _ 33 33 rfl 5 Tryz.underlying33 HSZ.out _ _ N N _ _ rfl rfl w.heap.size 0 (List.replicate N (Value.int .u8 0)) 5 (by rw [← made_zero]; exact heap_alloc_last _ _) (r.map (Value.int .u8)) (by have h1 := HRL2.out; have h2 := HRL.out; show _ = min (m - 128 * f) N; rw [Nat.min_eq_left (by omega), List.length_map]; exact h1) (fun _ => ⟨rfl, ⟨g0, off + 128 * f, none⟩, rfl, HSRC.out⟩) (by rw [List.length_replicate]; have := HRL.out; simp; try omega) (by intro v hv; simp at hv; try (obtain ⟨_, _, rfl⟩ := hv; rfl)) w.heap.size w (Below.alloc (Below.refl _ _) (Nat.le_refl _) _) (Nat.le_refl _) ?_
    intro w3 HG3 hB3
    try rw [List.length_map]
    have hk3 := keeps_of_below hB3
    clear hB3
    have hg3 := HG3.out
    rw [splice_zero] at hg3
    obtain ⟨ge, hge⟩ : ∃ ge, ge = w.heap.size := ⟨_, rfl⟩
    rw [← hge] at hg3 ⊢
    have HGE := hid hge
    clear HG3 hge
    have cm : w3.cell? ⟨ge, r.length, none⟩ = some (.int .u8 ((r ++ List.replicate (N - r.length) 0).getD r.length 0)) := by
      rw [cell_of_row w3 ge r.length _ _ _ hg3, wordsOf_get _ _ _ (by rw [List.length_append, List.length_replicate]; have := HN.out; omega)]
    generalize (r ++ List.replicate (N - r.length) 0).getD r.length 0 = x0 at cm
    have fm : w3.frozen? ⟨ge, r.length, none⟩ = false := frozen_of_row w3 ge r.length _ _ hg3
    have hqN : r.length < N := by have := HN.out; omega
    have e := set_mark r (z + 8)
    
    have hset : (w3.setCell ⟨ge, r.length, none⟩ (.int .u8 128)).heap[ge]? = some (.cells (wordsOf .u8 (padA r z ++ lenTo ((m : Int) * 8) 0)) 5 (0, 0)) := by
      rw [heap_setCell_same w3 ge r.length _ _ _ hg3, wordsOf_set, show N - r.length = (z + 8) + 1 by have := HN.out; omega, e, padA_eight]
    have hks : Keeps (fun _ => False) w (w3.setCell ⟨ge, r.length, none⟩ (.int .u8 128)) := Keeps.setCell hk3 _ _ (fun h => absurd h (by have := HGE.out; show ¬ ge < w.heap.size; omega))
    clear hg3 hk3 e
    go_wp2_with fail
    obtain ⟨w4, hw4⟩ : ∃ w4, w4 = w3.setCell ⟨ge, r.length, none⟩ (.int .u8 128) := ⟨_, rfl⟩
    rw [← hw4] at hset hks ⊢
    clear hw4 cm fm
    go_loopw [37] (fun i wr => PTail r z ((m : Int) * 8) ge w i wr) (fun i _ => 8 - (intOf i).toNat)
    case atStart => exact ⟨0, rfl, by omega, hset, hks⟩
    case round =>
      clear hset hks
      obtain ⟨n, rfl, hn, hst, hkr⟩ := hrel
      by_cases hlt : n < 8
      · have hlt' : (n : Int) < 8 := by omega
        obtain ⟨p, hp⟩ : ∃ p, p = N - 1 - n := ⟨_, rfl⟩
        have hpi : (N : Int) - 1 - (n : Int) = (p : Int) := by omega
        have hpN : p < N := by omega
        have hll : (padA r z ++ lenTo ((m : Int) * 8) n).length = N := by rw [List.length_append, padA_len, lenTo_len _ _ hn, HN.out]
        have cp : wr.cell? ⟨ge, p, none⟩ = some (.int .u8 ((padA r z ++ lenTo ((m : Int) * 8) n).getD p 0)) := by
          rw [cell_of_row wr ge p _ _ _ hst, wordsOf_get _ _ _ (by omega)]
        generalize (padA r z ++ lenTo ((m : Int) * 8) n).getD p 0 = x0 at cp
        have fp : wr.frozen? ⟨ge, p, none⟩ = false := frozen_of_row wr ge p _ _ hst
        have HP := hid hp
        clear hp hll
        go_wp2_with fail
        go_roundw
        case rel =>
          refine ⟨n + 1, rfl, by omega, ?_, Keeps.setCell hkr _ _ (fun h => absurd h (by have := HGE.out; show ¬ ge < w.heap.size; omega))⟩
          rw [heap_setCell_same wr ge p _ _ _ hst, wordsOf_set, tail_set r z n p _ _ hlt (by have := HP.out; have := HN.out; omega) ?_]
          rw [byteAt, Int.mul_comm]
        case measure => simp [intOf]; omega
      · have h8 : n = 8 := by omega
        subst h8
        have hfin : (padA r z ++ lenBytes ((m : Int) * 8) 8).length = N := by rw [List.length_append, padA_len, lenBytes_len, HN.out]
        go_wp2_with fail
        go_ret
        refine ⟨ge, by rw [hfin]; rfl, ⟨by rw [hfin]; omega, fun x hx => ?_, .inr ⟨ge, 0, rfl, trivial, (Array.getElem?_eq_some_iff.1 hst).1, fun j hj => ?_⟩⟩, hkr⟩
        · exact HWF.out x hx
        · rw [Nat.zero_add, cell_of_row wr ge j _ _ _ hst, lenTo_full, wordsOf_get _ _ _ hj]

end Go.Proofs.YtdeigmjbcbjgeaaGreatDoor
