/-
  The machine of plain values: arithmetic, comparisons, conversions; what a slice shows.
-/
import Derived.Test.YtcmceadekcfpbaaM7
namespace Go.Proofs.Ytcmceadekcfpbaa
open Go.RowKit

theorem byte_inj : ∀ (a b : List Int), byteOk a = true → byteOk b = true → (a.map fun n : Int => UInt8.ofNat n.toNat) = (b.map fun n : Int => UInt8.ofNat n.toNat) → a = b
  | [], [], _, _, _ => rfl
  | [], _ :: _, _, _, h => by simp at h
  | _ :: _, [], _, _, h => by simp at h
  | x :: a, y :: b, ha, hb, h => by
    simp only [byteOk, List.all_cons, Bool.and_eq_true, decide_eq_true_eq] at ha hb
    simp only [List.map_cons, List.cons.injEq] at h
    have ih := byte_inj a b ha.2 hb.2 h.2
    have h1 : (UInt8.ofNat x.toNat).toNat = (UInt8.ofNat y.toNat).toNat := by rw [h.1]
    simp at h1
    rw [ih, show x = y by omega]
theorem str_eq (a b : List Int) (ha : byteOk a = true) (hb : byteOk b = true) : ((strOfNums a).toList == (strOfNums b).toList) = (a == b) := by
  rw [ByteArray.toList_eq, ByteArray.toList_eq, Bool.eq_iff_iff]
  simp only [beq_iff_eq]
  constructor
  · intro h; exact byte_inj a b ha hb (by simpa [strOfNums] using h)
  · rintro rfl; rfl

section
variable {P : Program} {E : Env} (hT : ∀ t i, E.T t = some i → tiOf P t = some i) {F : Nat → Prop} {w : World} {m : Map} {bs : List (Nat × Blk)} {u' : LV}

theorem eqGuard_int (op : BinOp) (t : Nat) (x y : Operand) (k k' : IntKind) (a b : Int) : (eqGuard op t x y (.int k a) (.int k' b)).run P w = .ok () w := by
  unfold eqGuard
  cases op <;> simp
theorem eqGuard_str (op : BinOp) (t : Nat) (x y : Operand) (a b : ByteArray) : (eqGuard op t x y (.string a) (.string b)).run P w = .ok () w := by
  unfold eqGuard
  cases op <;> simp
theorem eqGuard_bool (op : BinOp) (t : Nat) (x y : Operand) (a b : Bool) : (eqGuard op t x y (.bool a) (.bool b)).run P w = .ok () w := by
  unfold eqGuard
  cases op <;> simp

theorem binI_ok {op : BinOp} {t : Nat} {k : IntKind} {a b : Int} (h : binI op k a b = some u') : ∃ v, (binOp op t (.int k a) (.int k b)).run P w = .ok v w ∧ Rep F w m u' v := by
  cases op <;> simp only [binI, Option.some.injEq, reduceCtorEq] at h <;> first
    | (subst h; exact ⟨_, by simp [binOp, Op.intArith, Op.intCmp]; rfl, .v _ _ rfl⟩)
    | (subst h; exact ⟨_, by simp only [binOp, ne_eq, not_true_eq_false, if_false]; rfl, .v _ _ rfl⟩)
    | (split at h
       · cases h
       · rename_i hb
         cases h
         exact ⟨_, by simp [binOp, Op.intDiv, hb], .v _ _ rfl⟩)
theorem shiftI_ok {op : BinOp} (hop : op = .shl ∨ op = .shr) {t : Nat} {k k' : IntKind} {a b : Int} (h : shiftI op k a b = some u') : ∃ v, (binOp op t (.int k a) (.int k' b)).run P w = .ok v w ∧ Rep F w m u' v := by
  unfold shiftI at h
  split at h
  · cases h
  · rename_i hb
    rcases hop with rfl | rfl
    · cases h; exact ⟨_, by simp [binOp, Op.shift, hb], .v _ _ rfl⟩
    · cases h; exact ⟨_, by simp [binOp, Op.shift, hb], .v _ _ rfl⟩
theorem binV_ok {op : BinOp} {t : Nat} {x y : Operand} {lx ly : LV} {vx vy : Value} (hx : Rep F w m lx vx) (hy : Rep F w m ly vy) (h : binV op lx ly = some u') :
    ∃ v, ((do eqGuard op t x y vx vy; binOp op t vx vy : Sem Value)).run P w = .ok v w ∧ Rep F w m u' v := by
  unfold binV at h
  split at h
  · cases hx; cases hy
    obtain ⟨v, h1, h2⟩ := shiftI_ok (P := P) (F := F) (w := w) (m := m) (t := t) (.inl rfl) h
    exact ⟨v, by simp only [Sem.run_bind, eqGuard_int, Result.andThen_ok]; exact h1, h2⟩
  · cases hx; cases hy
    obtain ⟨v, h1, h2⟩ := shiftI_ok (P := P) (F := F) (w := w) (m := m) (t := t) (.inr rfl) h
    exact ⟨v, by simp only [Sem.run_bind, eqGuard_int, Result.andThen_ok]; exact h1, h2⟩
  · cases hx; cases hy
    split at h
    · rename_i hk
      subst hk
      obtain ⟨v, h1, h2⟩ := binI_ok (P := P) (F := F) (w := w) (m := m) (t := t) h
      exact ⟨v, by simp only [Sem.run_bind, eqGuard_int, Result.andThen_ok]; exact h1, h2⟩
    · cases h
  · cases hx; cases hy
    split at h
    · rename_i a b hab
      cases h
      simp only [Bool.and_eq_true] at hab
      exact ⟨_, by simp only [Sem.run_bind, eqGuard_str, Result.andThen_ok, binOp, Op.stringOp, str_eq _ _ hab.1 hab.2]; rfl, .v _ _ rfl⟩
    · cases h
  · cases hx; cases hy
    split at h
    · rename_i a b hab
      cases h
      simp only [Bool.and_eq_true] at hab
      exact ⟨_, by simp only [Sem.run_bind, eqGuard_str, Result.andThen_ok, binOp, Op.stringOp, str_eq _ _ hab.1 hab.2]; rfl, .v _ _ rfl⟩
    · cases h
  · cases h
theorem unV_ok {op : UnOp} {lx : LV} {vx : Value} (hx : Rep F w m lx vx) (h : unV op lx = some u') : ∃ v, (Op.unary op vx).run P w = .ok v w ∧ Rep F w m u' v := by
  unfold unV at h
  split at h
  · cases hx; cases h
    exact ⟨_, by simp [Op.unary, Op.intArith], .v _ _ rfl⟩
  · cases hx; cases h
    exact ⟨_, by simp only [Op.unary, intBits_xor]; rfl, .v _ _ rfl⟩
  · cases hx; cases h
    exact ⟨_, by simp [Op.unary], .v _ _ rfl⟩
  · cases h
include hT
theorem opBin_ok {op : BinOp} {t : Nat} {x y : Operand} {lx ly : LV} {vx vy : Value} (hx : Rep F w m lx vx) (hy : Rep F w m ly vy) (h : opBin E op t lx ly = some (u', bs)) :
    bs = [] ∧ ∃ v, ((do eqGuard op t x y vx vy; binOp op t vx vy : Sem Value)).run P w = .ok v w ∧ Rep F w m u' v := by
  unfold opBin at h
  split at h
  · rename_i a b
    cases hx; cases hy
    split at h
    · rename_i _ _ _ _ hti
      obtain ⟨ii, d', hii, hd, htd, _, _, _, _⟩ := tiOf_spec (hT _ _ hti)
      have hdb : d' = .bool := by cases d' <;> simp [tdOf] at htd; rfl
      subst hdb
      obtain ⟨h1, rfl⟩ := just_ok h
      refine ⟨rfl, ?_⟩
      cases op <;> simp only [eqB, Option.some.injEq, reduceCtorEq] at h1
      · subst h1
        exact ⟨_, by simp only [Sem.run_bind, eqGuard_bool, Result.andThen_ok, binOp, run_equal_bool w _ _ _ hd]; rfl, .v _ _ rfl⟩
      · subst h1
        exact ⟨_, by simp only [Sem.run_bind, eqGuard_bool, Result.andThen_ok, binOp, run_equal_bool w _ _ _ hd]; rfl, .v _ _ rfl⟩
    · cases h
  · obtain ⟨h1, rfl⟩ := just_ok h
    exact ⟨rfl, binV_ok hx hy h1⟩

omit hT in
/-- What a slice shows. -/
theorem shown_ok {base : Nat} {β : Nat → Option Blk} (hB : ∀ b k, β b = some k → BlkOk F base w m b k) {z n : Nat} {u : LV} {v : Value} {y : Cont} (hr : Rep F w m u v) (h : shown β z u = some (y, n)) :
    ∃ a c f, v = .slice a n c ∧ y.vals.length = n * z ∧ (a = none → n = 0 ∧ c = 0) ∧ (y.vals = [] ∨ ∃ g o, a = some ⟨g, o, none⟩ ∧ Cells F w m y g o f) := by
  unfold shown at h
  split at h
  · cases h; cases hr
    exact ⟨none, 0, fun _ => undef, rfl, by simp [Cont.vals], fun _ => ⟨rfl, rfl⟩, .inl rfl⟩
  · rename_i z' b off n' c
    split at h
    · rename_i hz
      subst hz
      split at h
      · rename_i k hk
        rcases hq : k.x.cut off (n' * z) with _ | y'
        · rw [hq] at h; cases h
        · rw [hq] at h
          cases h
          obtain ⟨y1, y2⟩ := Cont.cut_vals hq
          have ylen : y.vals.length = n * z := by rw [y2]; simp; omega
          cases hr with
          | sl _ _ _ _ _ _ g s ad c' hm ha hn hkk hs hx =>
            obtain ⟨cs, b1, b2, b3, b4⟩ := blk_cells (hB _ _ hk) hm
            refine ⟨some ad, c', fun i => cs.getD (off + i) undef, rfl, ylen, (fun h => by cases h), ?_⟩
            rcases ha with rfl | ⟨rfl, _, _⟩
            · refine .inr ⟨g, off, rfl, fun i hi => ?_, fun i u hu => ?_⟩
              · have := b4.1 (off + i) (by omega)
                rwa [Nat.zero_add] at this
              · rw [y2, List.getElem?_take] at hu
                split at hu
                · rw [List.getElem?_drop] at hu; exact b4.2 _ _ hu
                · cases hu
            · exact .inl (List.eq_nil_of_length_eq_zero (by rw [ylen]; simp))
          | slNil _ _ _ _ hm hkk =>
            exact ⟨none, 0, fun _ => undef, rfl, ylen, fun _ => ⟨rfl, rfl⟩, .inl (List.eq_nil_of_length_eq_zero (by rw [ylen]; simp))⟩
      · cases h
    · cases h
  · rename_i z' n' c x
    split at h
    · rename_i hz
      subst hz
      cases h
      cases hr with
      | im _ _ _ _ _ ad c' f hl hn hk ha hm hrr =>
        refine ⟨ad, c', f, rfl, hl, ha, ?_⟩
        rcases hm with hm | ⟨g, o, h1, h2, h3⟩
        · exact .inl hm
        · exact .inr ⟨g, o, h1, h3, fun i u hu => (hrr i u hu).noMap_up m⟩
    · cases h
  · cases h

theorem convV_ok {base : Nat} {β : Nat → Option Blk} (hB : ∀ b k, β b = some k → BlkOk F base w m b k) {src dst : Nat} {u : LV} {v : Value} (hr : Rep F w m u v) (h : convV E β src dst u = some u') :
    ∃ v', (convert src dst v).run P w = .ok v' w ∧ Rep F w m u' v' := by
  unfold convV at h
  split at h
  · rename_i ti k _ _ _ _ k' n hts htd
    cases h
    obtain ⟨i1, d1, _, hd1, _, _, _, _, _⟩ := tiOf_spec (hT _ _ hts)
    obtain ⟨i2, d2, _, hd2, ht2, _, _, _, _⟩ := tiOf_spec (hT _ _ htd)
    have := td_int ht2
    subst this
    cases hr
    exact ⟨_, by simp only [convert, Sem.run_bind, run_underlying hd1, run_underlying hd2, Result.andThen_ok, Conv.intToInt]; rfl, .v _ _ rfl⟩
  · rename_i e z _ _ _ _ _ _ _ _ hts htd
    obtain ⟨i1, d1, _, hd1, ht1, _, _, _, _⟩ := tiOf_spec (hT _ _ hts)
    obtain ⟨i2, d2, _, hd2, ht2, _, _, _, _⟩ := tiOf_spec (hT _ _ htd)
    have := td_str ht2
    subst this
    obtain ⟨rfl, j, hj, hjs⟩ := td_slice ht1
    split at h
    · rename_i _ _ _ _ l n hte hsh
      obtain ⟨i3, d3, _, hd3, ht3, _, _, _, _⟩ := tiOf_spec (hT _ _ hte)
      have := td_int ht3
      subst this
      obtain ⟨a, c, f, rfl, hlen, ha, hcell⟩ := shown_ok hB hr hsh
      split at h
      · rename_i hok
        cases h
        simp only [Bool.and_eq_true, beq_iff_eq] at hok
        refine ⟨_, ?_, .str _ _⟩
        rcases hcell with hnil | ⟨g, o, rfl, h1, h2⟩
        · have hl0 : l = [] := by simpa [Cont.vals] using hnil
          subst hl0
          have hn0 : n = 0 := by have := hok.2; simpa using this.symm
          subst hn0
          rw [run_convert_bytes_string w src dst e _ _ c hd1 hd3 hd2]
          rcases a with _ | ad
          · simp [Conv.bytesToString, strOfNums]; rfl
          · simp [Conv.bytesToString, strOfNums, loadCells]; rfl
        · refine run_convert_bytes_arg w src e hd1 hd3 g o n c l hok.2 (fun i hi => ?_) dst hd2
          have hi' : i < (Cont.flat IntKind.u8 l).vals.length := by simp [Cont.vals]; omega
          rw [h1 i hi']
          obtain ⟨u, hu⟩ := getL_of hi'
          have hrep := h2 i u hu
          obtain ⟨q, rfl⟩ := flat_leaf hu
          simp only [Cont.vals, List.getElem?_map] at hu
          have hil : i < l.length := by omega
          rw [List.getElem?_eq_getElem hil] at hu
          simp at hu
          generalize f i = fv at hrep ⊢
          cases hrep
          rw [List.getD_eq_getElem?_getD, List.getElem?_eq_getElem hil]
          simp [hu]
      · cases h
    · rename_i _ _ _ _ n hte hsh
      obtain ⟨i3, d3, _, hd3, ht3, _, _, _, _⟩ := tiOf_spec (hT _ _ hte)
      have := td_int ht3
      subst this
      cases h
      obtain ⟨a, c, f, rfl, hlen, ha, hcell⟩ := shown_ok hB hr hsh
      have hn0 : n = 0 := by simpa [Cont.vals] using hlen.symm
      subst hn0
      refine ⟨_, ?_, .str _ _⟩
      rw [run_convert_bytes_string w src dst e _ _ c hd1 hd3 hd2]
      rcases a with _ | ad
      · simp [Conv.bytesToString, strOfNums]; rfl
      · simp [Conv.bytesToString, strOfNums, loadCells]; rfl
    · cases h
  · rename_i _ _ _ _ _ _ _ _ l hts htd
    cases h
    obtain ⟨i1, d1, _, hd1, ht1, _, _, _, _⟩ := tiOf_spec (hT _ _ hts)
    obtain ⟨i2, d2, _, hd2, ht2, _, _, _, _⟩ := tiOf_spec (hT _ _ htd)
    have := td_str ht2
    subst this
    have := td_str ht1
    subst this
    cases hr
    exact ⟨_, by simp only [convert, Sem.run_bind, run_underlying hd1, run_underlying hd2, Result.andThen_ok]; rfl, .str _ _⟩
  · cases h
end
end Go.Proofs.Ytcmceadekcfpbaa
