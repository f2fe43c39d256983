/-
  The machine of plain values: the other operations that write nothing.
-/
import Derived.Test.YtcmceadekcfpbaaM5
namespace Go.Proofs.Ytcmceadekcfpbaa
open Go.RowKit

section
variable {P : Program} {E : Env} (hT : ∀ t i, E.T t = some i → tiOf P t = some i) {F : Nat → Prop} {w : World} {m : Map} {bs : List (Nat × Blk)} {u' : LV}
include hT

theorem opAlloc_ok {d t : Nat} (h : opAlloc E d t = some (u', bs)) : ∃ x cs, bs = [(8 * d, ⟨x, t, false⟩)] ∧ u' = .ptr (8 * d) 0 ∧ RepC F w m x cs ∧
    (Instr.alloc t true (.tuple #[])).run P w = .ok (.pointer (some ⟨w.heap.size, 0, none⟩)) (w.alloc (.cells cs t)) := by
  unfold opAlloc at h
  split at h
  · rename_i _ _ _ _ z hti
    cases h
    obtain ⟨i, d', hi, hd, _, _, _, _, hz⟩ := tiOf_spec (hT _ _ hti)
    obtain ⟨zv, h1, h2⟩ := hz z rfl
    exact ⟨z, zv.cells, rfl, rfl, zero_rep h2, by simp [Instr.alloc, run_zeroI hi h1, newVar, newRow]⟩
  · cases h
omit hT in
theorem opBox_ok {d t : Nat} {u : LV} {v : Value} (hr : Rep F w m u v) (h : opBox d t u = some (u', bs)) : ∃ x cs, bs = [(8 * d, ⟨x, t, false⟩)] ∧ u' = .ptr (8 * d) 0 ∧ RepC F w m x cs ∧
    (Instr.box t v).run P w = .ok (.pointer (some ⟨w.heap.size, 0, none⟩)) (w.alloc (.cells cs t)) := by
  unfold opBox at h
  split at h
  · rename_i x hx
    cases h
    obtain ⟨h1, h2, _⟩ := cells_rep hr hx
    exact ⟨x, v.cells, rfl, rfl, ⟨h1, h2⟩, by simp [Instr.box, newVar, newRow]⟩
  · cases h
theorem opBuildSlice_ok {a : Act} {d t len : Nat} {ps : Array (Nat × Operand)} {xs : List LV} (hxs : xs.length = ps.size)
    (hr : ∀ (i : Nat) (u : LV) (p : Nat × Operand), xs[i]? = some u → ps[i]? = some p → Rep F w m u (a.eval p.2)) (h : opBuildSlice E d t len (ps.toList.map (·.1)) xs = some (u', bs)) :
    ∃ x cs e s, bs = [(8 * d, ⟨x, e, false⟩)] ∧ u' = .sl s (8 * d) 0 len (some len) ∧ len ≤ 9223372036854775807 ∧ RepC F w m x cs ∧
    (Instr.buildSlice t len (ps.map fun (i, x) => (i, a.eval x))).run P w = .ok (.slice (some ⟨w.heap.size, 0, none⟩) len len) (w.alloc (.cells cs e)) := by
  obtain ⟨hl, hp⟩ := zip_parts hxs hr
  unfold opBuildSlice at h
  split at h
  · rename_i e s _ _ _ _ hti
    obtain ⟨i, d', hi, hd, htd, _, _, _, _⟩ := tiOf_spec (hT _ _ hti)
    obtain ⟨rfl, j, hj, hjs⟩ := td_slice htd
    split at h
    · rename_i _ _ _ _ z hte
      obtain ⟨i2, d2, hi2, hd2, htd2, hs2, _, _, hz2⟩ := tiOf_spec (hT _ _ hte)
      obtain ⟨zv, h1, h2⟩ := hz2 z rfl
      rw [hj] at hi2
      cases hi2
      split at h
      · rename_i hc
        obtain ⟨hc1, hc2, hc3⟩ := hc
        split at h
        · rename_i x hx
          cases h
          have hzr := zero_rep (F := F) (w := w) (m := m) h2
          have hzs : zv.cells.size = s := by rw [hzr.1, ← Cont.len_vals, hc3]
          have hne : ¬ (16777216 < len * s) := by omega
          have hrz := rep_zero hzr (by omega) len
          rw [hzs] at hrz
          obtain ⟨cs, e1, e2⟩ := layAll_ok _ _ _ _ _ hrz hl hp hx
          refine ⟨x, cs, e, s, rfl, rfl, Nat.le_trans (Nat.le_mul_of_pos_right len hc2) (by omega), e2, ?_⟩
          have hr0 : ∀ f : Nat → Value, (Array.range 0).map f = #[] := fun f => by apply Array.ext'; simp
          simp only [Array.toList_map] at e1
          by_cases h0 : len * s = 0
          · rw [h0, hr0] at e1
            simp [Instr.buildSlice, run_underlying hd, run_sizeOfI hj, hjs, h0, newRow]
            rw [hr0, e1]
            simp
          · simp [Instr.buildSlice, run_underlying hd, run_sizeOfI hj, hjs, hne, h0, run_zeroI hj h1, newRow, hzs]
            rw [e1]
            simp
        · cases h
      · cases h
    · cases h
  · cases h

omit hT in
theorem pickInt_rep {u : LV} {v : Value} {n : Int} (hr : Rep F w m u v) (h : pickInt u = some n) : ∃ k, v = .int k n := by
  unfold pickInt at h
  split at h
  · cases h; cases hr; exact ⟨_, rfl⟩
  · cases h
theorem opMakeSlice_ok {d t : Nat} {l c : LV} {vl vc : Value} (hl : Rep F w m l vl) (hc : Rep F w m c vc) (h : opMakeSlice E d t l c = some (u', bs)) :
    ∃ x cs e s n k, bs = [(8 * d, ⟨x, e, false⟩)] ∧ u' = .sl s (8 * d) 0 n (some k) ∧ n ≤ k ∧ k ≤ 9223372036854775807 ∧ RepC F w m x cs ∧
    (Instr.makeSlice t vl vc).run P w = .ok (.slice (some ⟨w.heap.size, 0, none⟩) n k) (w.alloc (.cells cs e)) := by
  unfold opMakeSlice at h
  split at h
  · rename_i l1 c1 e s _ _ _ _ h1 h2 hti
    obtain ⟨kl, rfl⟩ := pickInt_rep hl h1
    obtain ⟨kc, rfl⟩ := pickInt_rep hc h2
    obtain ⟨i, d', hi, hd, htd, _, _, _, _⟩ := tiOf_spec (hT _ _ hti)
    obtain ⟨rfl, j, hj, hjs⟩ := td_slice htd
    split at h
    · rename_i _ _ _ _ z hte
      obtain ⟨i2, d2, hi2, hd2, htd2, hs2, hb2, _, hz2⟩ := tiOf_spec (hT _ _ hte)
      obtain ⟨zv, h1, h2⟩ := hz2 z rfl
      rw [hj] at hi2
      cases hi2
      split at h
      · rename_i hc
        obtain ⟨c0, c1', c2, c3, c4, c5⟩ := hc
        cases h
        simp only at hb2
        have hzr := zero_rep (F := F) (w := w) (m := m) h2
        have hzs : zv.cells.size = s := by rw [hzr.1, ← Cont.len_vals, c5]
        have hrz := rep_zero hzr (by omega) c1.toNat
        rw [hzs] at hrz
        refine ⟨_, _, e, s, l1.toNat, c1.toNat, rfl, rfl, by omega, by omega, hrz, ?_⟩
        have w1 : IntKind.i64.wrap l1 = l1 := by simp [IntKind.wrap, IntKind.bits, IntKind.signed]; omega
        have w2 : IntKind.i64.wrap c1 = c1 := by simp [IntKind.wrap, IntKind.bits, IntKind.signed]; omega
        rw [hb2] at c2
        have hbig : ¬ ((j.bytes : Int) * c1 > 281474976710656) := by
          obtain ⟨q, rfl⟩ := Int.eq_ofNat_of_zero_le (show 0 ≤ c1 by omega)
          have : q * j.bytes ≤ 281474976710656 := by simpa using c2
          rw [Nat.mul_comm] at this
          have h3 : ((j.bytes * q : Nat) : Int) ≤ 281474976710656 := by omega
          rw [Int.natCast_mul] at h3
          omega
        have n1 : ¬ c1 < 0 := by omega
        have n2 : ¬ l1 < 0 := by omega
        have n3 : ¬ l1 > c1 := by omega
        have hr0 : ∀ f : Nat → Value, (Array.range 0).map f = #[] := fun f => by apply Array.ext'; simp
        by_cases h0 : c1.toNat * s = 0
        · rw [h0, hr0]
          simp [Instr.makeSlice, run_underlying hd, asInt, asIntOf, typeInfo, hj, w1, w2, hbig, n1, n2, n3, run_sizeOfI hj, hjs, h0, newRow]
          rw [hr0]
        · simp [Instr.makeSlice, run_underlying hd, asInt, asIntOf, typeInfo, hj, w1, w2, hbig, n1, n2, n3, run_sizeOfI hj, hjs, h0, run_zeroI hj h1, newRow, hzs]
      · cases h
    · cases h
  · cases h

omit hT in
theorem opNil_ok {u : LV} {v : Value} (hr : Rep F w m u v) (h : opNil u = some (u', bs)) : bs = [] ∧ (∃ a, v = .pointer (some a)) ∧ Rep F w m u' v := by
  unfold opNil at h
  split at h
  · cases h; cases hr with
    | ptr _ _ _ g s hm => exact ⟨rfl, ⟨_, rfl⟩, .ptr _ _ _ _ _ hm⟩
  · cases h; cases hr with
    | imp _ _ g o f h1 h2 h3 => exact ⟨rfl, ⟨_, rfl⟩, .imp _ _ _ _ f h1 h2 h3⟩
  · cases h

omit hT in
theorem just_ok {u : Option LV} (h : just u = some (u', bs)) : u = some u' ∧ bs = [] := by
  unfold just at h
  split at h
  · cases h; exact ⟨rfl, rfl⟩
  · cases h

omit hT in
theorem part_ok {x : Cont} {cs : Array Value} (hx : RepC F w m x cs) {t : Nat} {i : TypeInfo} {d : TypeDesc} (hi : P.info? t = some i) (hd : P.underlying t = some d) {off : Nat}
    (h : loadC x off i.size (isAggD d) = some (u', bs)) : bs = [] ∧ ∃ v, (part t cs off).run P w = .ok v w ∧ Rep F w m u' v := by
  unfold loadC at h
  split at h
  · rename_i ha
    rcases hq : x.cut off i.size with _ | y
    · rw [hq] at h; cases h
    · rw [hq] at h
      cases h
      obtain ⟨h1, h2⟩ := Cont.cut_vals hq
      refine ⟨rfl, .agg (cs.extract off (off + i.size)), ?_, ?_⟩
      · simp [part, run_isAggD hd, ha, run_sizeOfI hi]
      · refine .agg _ _ _ (by simp [h2, hx.1]; omega) (fun j u hu => ?_)
        rw [h2, List.getElem?_take] at hu
        split at hu
        · rename_i hj
          rw [List.getElem?_drop] at hu
          have := hx.2 _ _ hu
          have hlt : off + j < cs.size := by rw [hx.1]; omega
          have e : (cs.extract off (off + i.size)).getD j undef = cs.getD (off + j) undef := by
            rw [Array.getD_eq_getD_getElem?, Array.getD_eq_getD_getElem?, Array.getElem?_extract]
            rw [if_pos (by omega)]
          rw [e]; exact this
        · cases hu
  · rename_i ha
    rcases hq : x.at? off with _ | y
    · rw [hq] at h; cases h
    · rw [hq] at h
      cases h
      have h1 := Cont.at_vals hq
      refine ⟨rfl, cs.getD off undef, ?_, hx.2 _ _ h1⟩
      have hcell := getD_of (cs := cs) (i := off) (by rw [hx.1]; exact lt_of_get h1)
      simp only [part, Sem.run_bind, run_isAggD hd, Result.andThen_ok, ha]
      rw [hcell]
      rfl

omit hT in
theorem imp_cut {x y : Cont} {g o o' n : Nat} {f : Nat → Value} (hF : F g) (hc : ∀ i, i < x.vals.length → w.cell? ⟨g, o + i, none⟩ = some (f i)) (hr : ∀ (i : Nat) (u : LV), x.vals[i]? = some u → Rep F w noMap u (f i))
    (h : x.cut o' n = some y) : Rep F w m (.imp y) (.pointer (some ⟨g, o + o', none⟩)) := by
  obtain ⟨h1, h2⟩ := Cont.cut_vals h
  have hl : y.vals.length = n := by rw [h2]; simp; omega
  refine .imp _ _ _ _ (fun i => f (o' + i)) hF (fun i hi => ?_) (fun i u hu => ?_)
  · rw [Nat.add_assoc]; exact hc (o' + i) (by omega)
  · rw [h2, List.getElem?_take] at hu
    split at hu
    · rw [List.getElem?_drop] at hu; exact hr _ _ hu
    · cases hu
theorem opFieldAddr_ok {s f : Nat} {u : LV} {v : Value} (hr : Rep F w m u v) (h : opFieldAddr E s f u = some (u', bs)) : bs = [] ∧ ∃ v', (Instr.fieldAt s v f).run P w = .ok v' w ∧ Rep F w m u' v' := by
  unfold opFieldAddr at h
  split at h
  · rename_i fs _ _ _ _ hti
    obtain ⟨i, d', hi, hd, htd, _, _, _, _⟩ := tiOf_spec (hT _ _ hti)
    obtain ⟨gs, rfl, hfl, hfs⟩ := td_struct htd
    split at h
    · rename_i o z g hq
      obtain ⟨fd, j, d2, e1, e2, e3, e4, e5, e6⟩ := hfs _ _ _ _ hq
      split at h
      · cases h
      · rename_i hz
        have hne : j.size ≠ 0 := by omega
        split at h
        · rename_i b off
          cases h
          cases hr with
          | ptr _ _ _ gg ss hm =>
            refine ⟨rfl, .pointer (some ⟨gg, off + o, none⟩), ?_, .ptr _ _ _ _ ss hm⟩
            simp [Instr.fieldAt, run_underlying hd, e1, Instr.sureAddr, fieldPlace, run_sizeOfI e2, hne, add_block_none, e4]
        · rename_i x
          cases hr with
          | imp _ _ gg oo ff hF hc hrr =>
            unfold justP at h
            split at h
            · rename_i y hy
              cases h
              refine ⟨rfl, .pointer (some ⟨gg, oo + o, none⟩), ?_, imp_cut hF hc hrr hy⟩
              simp [Instr.fieldAt, run_underlying hd, e1, Instr.sureAddr, fieldPlace, run_sizeOfI e2, hne, add_block_none, e4]
            · cases h
        · cases h
    · cases h
  · cases h
theorem opField_ok {s f : Nat} {u : LV} {v : Value} (hr : Rep F w m u v) (h : opField E s f u = some (u', bs)) : bs = [] ∧ ∃ v', (Instr.field s v f).run P w = .ok v' w ∧ Rep F w m u' v' := by
  unfold opField at h
  split at h
  · rename_i fs _ _ _ _ hti
    obtain ⟨i, d', hi, hd, htd, _, _, _, _⟩ := tiOf_spec (hT _ _ hti)
    obtain ⟨gs, rfl, hfl, hfs⟩ := td_struct htd
    split at h
    · rename_i o z g hq
      obtain ⟨fd, j, d2, e1, e2, e3, e4, e5, e6⟩ := hfs _ _ _ _ hq
      split at h
      · rename_i x
        cases hr with
        | agg _ _ cs hl hrr =>
          subst e5; subst e6; subst e4
          obtain ⟨h1, v', h2, h3⟩ := part_ok (P := P) ⟨hl, hrr⟩ e2 e3 h
          exact ⟨h1, v', by simp [Instr.field, run_underlying hd, e1, asAgg, h2], h3⟩
      · cases h
    · cases h
  · cases h
omit hT in
theorem inI_iff {i : Int} {n : Nat} (h : inI i n = true) : 0 ≤ i ∧ i < (n : Int) := by simpa [inI] using h
theorem opIndexAddr_ok {t : Nat} {u i : LV} {v vi : Value} (hr : Rep F w m u v) (hri : Rep F w m i vi) (h : opIndexAddr E t u i = some (u', bs)) : bs = [] ∧ ∃ v', (Instr.indexAt t v vi).run P w = .ok v' w ∧ Rep F w m u' v' := by
  unfold opIndexAddr at h
  split at h
  · rename_i n e z _ _ _ _ i1 hti hi1
    obtain ⟨k, rfl⟩ := pickInt_rep hri hi1
    obtain ⟨ii, d', hii, hd, htd, _, _, _, _⟩ := tiOf_spec (hT _ _ hti)
    obtain ⟨rfl, j, hj, hjs⟩ := td_arr htd
    split at h
    · rename_i hin
      have hin := inI_iff hin
      split at h
      · rename_i b off
        cases h
        cases hr with
        | ptr _ _ _ gg ss hm =>
          refine ⟨rfl, .pointer (some ⟨gg, off + i1.toNat * z, none⟩), ?_, .ptr _ _ _ _ ss hm⟩
          simp [Instr.indexAt, asIntOf, run_underlying hd, Instr.sureAddr, hin, run_sizeOfI hj, hjs, add_block_none]
      · rename_i x
        cases hr with
        | imp _ _ gg oo ff hF hc hrr =>
          unfold justP at h
          split at h
          · rename_i y hy
            cases h
            refine ⟨rfl, .pointer (some ⟨gg, oo + i1.toNat * z, none⟩), ?_, imp_cut hF hc hrr hy⟩
            simp [Instr.indexAt, asIntOf, run_underlying hd, Instr.sureAddr, hin, run_sizeOfI hj, hjs, add_block_none]
          · cases h
      · cases h
    · cases h
  · rename_i e z _ _ _ _ i1 hti hi1
    obtain ⟨k, rfl⟩ := pickInt_rep hri hi1
    obtain ⟨ii, d', hii, hd, htd, _, _, _, _⟩ := tiOf_spec (hT _ _ hti)
    obtain ⟨rfl, j, hj, hjs⟩ := td_slice htd
    split at h
    · rename_i z' b off n c
      split at h
      · rename_i hzi
        obtain ⟨rfl, hin⟩ := hzi
        have hin := inI_iff hin
        cases h
        cases hr with
        | sl _ _ _ _ _ _ gg ss a c' hm ha hn hk hs hx =>
          have ha : a = ⟨gg, off, none⟩ := by
            rcases ha with h | ⟨h, _⟩
            · exact h
            · omega
          subst ha
          refine ⟨rfl, .pointer (some ⟨gg, off + i1.toNat * z, none⟩), ?_, .ptr _ _ _ _ ss hm⟩
          simp [Instr.indexAt, asIntOf, run_underlying hd, hin, run_sizeOfI hj, hjs, add_block_none]
        | slNil => simp at hin; omega
      · cases h
    · rename_i z' n c x
      split at h
      · rename_i hzi
        obtain ⟨rfl, hin, hz0⟩ := hzi
        have hin := inI_iff hin
        cases hr with
        | im _ _ _ _ _ a c' f hl hn hk ha hm hrr =>
          unfold justP at h
          split at h
          · rename_i y hy
            cases h
            have hx : x.vals ≠ [] := by
              intro h0
              rw [h0] at hl
              have : n * z = 0 := by simpa using hl.symm
              rcases Nat.mul_eq_zero.1 this with h | h <;> omega
            obtain ⟨g, o, rfl, hF, hc⟩ := hm.resolve_left hx
            refine ⟨rfl, .pointer (some ⟨g, o + i1.toNat * z, none⟩), ?_, imp_cut hF hc hrr hy⟩
            simp [Instr.indexAt, asIntOf, run_underlying hd, hin, run_sizeOfI hj, hjs, add_block_none]
          · cases h
      · cases h
    · cases h
  · cases h
theorem opIndex_ok {t : Nat} {u i : LV} {v vi : Value} (hr : Rep F w m u v) (hri : Rep F w m i vi) (h : opIndex E t u i = some (u', bs)) : bs = [] ∧ ∃ v', (Instr.index t v vi).run P w = .ok v' w ∧ Rep F w m u' v' := by
  unfold opIndex at h
  split at h
  · rename_i n e z _ _ _ _ i1 hti hi1
    obtain ⟨k, rfl⟩ := pickInt_rep hri hi1
    obtain ⟨ii, d', hii, hd, htd, _, _, _, _⟩ := tiOf_spec (hT _ _ hti)
    obtain ⟨rfl, j, hj, hjs⟩ := td_arr htd
    split at h
    · rename_i hin
      have hin := inI_iff hin
      split at h
      · rename_i ti x hte
        obtain ⟨j2, d2, hj2, hd2, _, _, _, hg2, _⟩ := tiOf_spec (hT _ _ hte)
        rw [hj] at hj2
        cases hj2
        cases hr with
        | agg _ _ cs hl hrr =>
          subst hjs
          rw [hg2] at h
          obtain ⟨h1, v', h2, h3⟩ := part_ok (P := P) ⟨hl, hrr⟩ hj hd2 h
          exact ⟨h1, v', by simp [Instr.index, asIntOf, run_underlying hd, hin, run_sizeOfI hj, h2], h3⟩
      · cases h
    · cases h
  · cases h
theorem opToArr_ok {t : Nat} {u : LV} {v : Value} (hr : Rep F w m u v) (h : opToArr E t u = some (u', bs)) : bs = [] ∧ ∃ v', (Instr.arrayAt t v).run P w = .ok v' w ∧ Rep F w m u' v' := by
  unfold opToArr at h
  split at h
  case h_2 => cases h
  rename_i n e z _ _ _ _ hti
  obtain ⟨i, d, hi, hd, htd, _⟩ := tiOf_spec (hT _ _ hti)
  obtain ⟨rfl, _⟩ := td_arr htd
  have hrun : ∀ (ad : Option Addr) (len c : Nat), n ≤ len → (Instr.arrayAt t (.slice ad len c)).run P w = .ok (.pointer ad) w := by
    intro ad len c hl
    have hl' : ¬ len < n := by omega
    simp only [Instr.arrayAt, Sem.run_bind, run_underlying hd, Result.andThen_ok, if_neg hl']
    rfl
  split at h
  · rename_i z' b off mm c
    split at h
    · rename_i hc
      obtain ⟨rfl, hm, h0⟩ := hc
      cases h
      cases hr with
      | sl _ _ _ off _ _ g s ad c' hmm ha hn hk hs hx =>
        have ha : ad = ⟨g, off, none⟩ := by rcases ha with h | ⟨h, _⟩; exact h; omega
        subst ha
        exact ⟨rfl, _, hrun _ _ _ hm, .ptr _ _ _ g s hmm⟩
      | slNil => omega
    · cases h
  · split at h
    · rename_i hc
      obtain ⟨rfl, hm, h0, hz⟩ := hc
      cases h
      cases hr with
      | im _ _ _ _ x ad c' f hl hn hk ha hmm hrr =>
        rcases hmm with hmm | ⟨g, o, rfl, hF, hcell⟩
        · rw [hmm] at hl
          simp at hl
          have := Nat.mul_pos (show 0 < _ from Nat.lt_of_lt_of_le h0 hm) hz
          omega
        · exact ⟨rfl, _, hrun _ _ _ hm, .imp _ _ g o f hF hcell hrr⟩
    · cases h
  · cases h
omit hT in
theorem opExtract_ok {i : Nat} {u : LV} {v : Value} (hr : Rep F w m u v) (h : opExtract i u = some (u', bs)) : bs = [] ∧ ∃ v', (Instr.extract v i).run P w = .ok v' w ∧ Rep F w m u' v' := by
  unfold opExtract at h
  split at h
  · rename_i l
    obtain ⟨h1, rfl⟩ := just_ok h
    cases hr with
    | tup _ _ vs hl hrr =>
      have := getD_of (cs := vs) (i := i) (by rw [hl]; exact lt_of_get h1)
      exact ⟨rfl, _, by simp only [Instr.extract, this]; rfl, hrr _ _ h1⟩
  · cases h
end
end Go.Proofs.Ytcmceadekcfpbaa
