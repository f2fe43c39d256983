/-
  The machine of plain values: arithmetic, comparisons, conversions; what a slice shows.
-/
import Derived.ChangeKeysEq
import Derived.Test.YtdeigmjbcbjgeaaGreatDoorYdM4
namespace Go.Proofs.YtdeigmjbcbjgeaaGreatDoor
open Go.RowKit

theorem byte_inj : ∀ (a b : List Int), byteOk a = true → byteOk b = true → (a.map fun n : Int => UInt8.ofNat n.toNat) = (b.map fun n : Int => UInt8.ofNat n.toNat) → a = b
  | [], [], _, _, _ => rfl
  | [], _ :: _, _, _, h => by simp at h
  | _ :: _, [], _, _, h => by simp at h
  | x :: a, y :: b, ha, hb, h => by
    simp only [byteOk, List.all_cons, Bool.and_eq_true, decide_eq_true_eq] at ha hb
    simp only [List.map_cons, List.cons.injEq] at h
    have ih := byte_inj a b ha.2 hb.2 h.2
    have h1 : (UInt8.ofNat x.toNat).toNat = (UInt8.ofNat y.toNat).toNat := by rw [h.1]
    simp at h1
    rw [ih, show x = y by omega]
theorem str_eq (a b : List Int) (ha : byteOk a = true) (hb : byteOk b = true) : ((strOfNums a).toList == (strOfNums b).toList) = (a == b) := by
  rw [ByteArray.toList_eq, ByteArray.toList_eq, Bool.eq_iff_iff]
  simp only [beq_iff_eq]
  constructor
  · intro h; exact byte_inj a b ha hb (by simpa [strOfNums] using h)
  · rintro rfl; rfl

section
variable {P : Program} {E : Env} (hT : ∀ t i, E.T t = some i → tiOf P t = some i) {F : Nat → Prop} {w : World} {m : Map} {bs : List (Nat × Blk)} {u' : LV}

theorem eqGuard_int (op : BinOp) (t : Nat) (x y : Operand) (k k' : IntKind) (a b : Int) : (eqGuard op t x y (.int k a) (.int k' b)).run P w = .ok () w := by
  unfold eqGuard
  cases op <;> simp
theorem eqGuard_str (op : BinOp) (t : Nat) (x y : Operand) (a b : ByteArray) : (eqGuard op t x y (.string a) (.string b)).run P w = .ok () w := by
  unfold eqGuard
  cases op <;> simp
theorem eqGuard_bool (op : BinOp) (t : Nat) (x y : Operand) (a b : Bool) : (eqGuard op t x y (.bool a) (.bool b)).run P w = .ok () w := by
  unfold eqGuard
  cases op <;> simp

theorem binI_ok {op : BinOp} {t : Nat} {k : IntKind} {a b : Int} (h : binI op k a b = some u') : ∃ v, (binOp op t (.int k a) (.int k b)).run P w = .ok v w ∧ Rep F w m u' v := by
  cases op <;> simp only [binI, Option.some.injEq, reduceCtorEq] at h <;> first
    | (subst h; exact ⟨_, by simp [binOp, Op.intArith, Op.intCmp]; rfl, .v _ _ rfl⟩)
    | (subst h; exact ⟨_, by simp only [binOp, ne_eq, not_true_eq_false, if_false]; rfl, .v _ _ rfl⟩)
    | (split at h
       · cases h
       · rename_i hb
         cases h
         exact ⟨_, by simp [binOp, Op.intDiv, hb], .v _ _ rfl⟩)
theorem shiftI_ok {op : BinOp} (hop : op = .shl ∨ op = .shr) {t : Nat} {k k' : IntKind} {a b : Int} (h : shiftI op k a b = some u') : ∃ v, (binOp op t (.int k a) (.int k' b)).run P w = .ok v w ∧ Rep F w m u' v := by
  unfold shiftI at h
  split at h
  · cases h
  · rename_i hb
    rcases hop with rfl | rfl
    · cases h; exact ⟨_, by simp [binOp, Op.shift, hb], .v _ _ rfl⟩
    · cases h; exact ⟨_, by simp [binOp, Op.shift, hb], .v _ _ rfl⟩
theorem binV_ok {op : BinOp} {t : Nat} {x y : Operand} {lx ly : LV} {vx vy : Value} (hx : Rep F w m lx vx) (hy : Rep F w m ly vy) (h : binV op lx ly = some u') :
    ∃ v, ((do eqGuard op t x y vx vy; binOp op t vx vy : Sem Value)).run P w = .ok v w ∧ Rep F w m u' v := by
  unfold binV at h
  split at h
  · cases hx; cases hy
    obtain ⟨v, h1, h2⟩ := shiftI_ok (P := P) (F := F) (w := w) (m := m) (t := t) (.inl rfl) h
    exact ⟨v, by simp only [Sem.run_bind, eqGuard_int, Result.andThen_ok]; exact h1, h2⟩
  · cases hx; cases hy
    obtain ⟨v, h1, h2⟩ := shiftI_ok (P := P) (F := F) (w := w) (m := m) (t := t) (.inr rfl) h
    exact ⟨v, by simp only [Sem.run_bind, eqGuard_int, Result.andThen_ok]; exact h1, h2⟩
  · cases hx; cases hy
    split at h
    · rename_i hk
      subst hk
      obtain ⟨v, h1, h2⟩ := binI_ok (P := P) (F := F) (w := w) (m := m) (t := t) h
      exact ⟨v, by simp only [Sem.run_bind, eqGuard_int, Result.andThen_ok]; exact h1, h2⟩
    · cases h
  · cases hx; cases hy
    split at h
    · rename_i a b hab
      cases h
      simp only [Bool.and_eq_true] at hab
      exact ⟨_, by simp only [Sem.run_bind, eqGuard_str, Result.andThen_ok, binOp, Op.stringOp, str_eq _ _ hab.1 hab.2]; rfl, .v _ _ rfl⟩
    · cases h
  · cases hx; cases hy
    split at h
    · rename_i a b hab
      cases h
      simp only [Bool.and_eq_true] at hab
      exact ⟨_, by simp only [Sem.run_bind, eqGuard_str, Result.andThen_ok, binOp, Op.stringOp, str_eq _ _ hab.1 hab.2]; rfl, .v _ _ rfl⟩
    · cases h
  · cases h
theorem unV_ok {op : UnOp} {lx : LV} {vx : Value} (hx : Rep F w m lx vx) (h : unV op lx = some u') : ∃ v, (Op.unary op vx).run P w = .ok v w ∧ Rep F w m u' v := by
  unfold unV at h
  split at h
  · cases hx; cases h
    exact ⟨_, by simp [Op.unary, Op.intArith], .v _ _ rfl⟩
  · cases hx; cases h
    exact ⟨_, by simp only [Op.unary, intBits_xor]; rfl, .v _ _ rfl⟩
  · cases hx; cases h
    exact ⟨_, by simp [Op.unary], .v _ _ rfl⟩
  · cases h
theorem flat_cell {k : IntKind} {a : List Int} {xs : Array Value} (hl : xs.size = (Cont.flat k a).vals.length) (hr : ∀ (i : Nat) (u : LV), (Cont.flat k a).vals[i]? = some u → Rep F w m u (xs.getD i undef)) {j : Nat} {q : Int} (hq : a[j]? = some q) :
    xs[j]? = some (.int k q) := by
  have h := hr j (.v (.int k q)) (by simp [Cont.vals, hq])
  have hj : j < xs.size := by rw [hl]; simp only [Cont.vals, List.length_map]; exact (List.getElem?_eq_some_iff.1 hq).1
  rw [Array.getD_eq_getD_getElem?, Array.getElem?_eq_getElem hj] at h
  rw [Array.getElem?_eq_getElem hj]
  generalize hv : xs[j] = v at h ⊢
  simp only [Option.getD_some] at h
  cases h
  rfl
theorem run_eqItems_int (d : Nat) {e : TypeId} {k k' : IntKind} (he : P.underlying e = some (.int k')) {a b : List Int} {xs ys : Array Value} (hx : ∀ (j : Nat) (q : Int), a[j]? = some q → xs[j]? = some (Value.int k q)) (hy : ∀ (j : Nat) (q : Int), b[j]? = some q → ys[j]? = some (Value.int k q)) :
    ∀ is : List Nat, (∀ j ∈ is, j < a.length) → (∀ j ∈ is, j < b.length) → (Op.eqItems (d + 1) e 1 xs ys is).run P w = .ok (is.all fun j => a[j]? == b[j]?) w
  | [], _, _ => by simp [Op.eqItems]
  | j :: is, ha, hb => by
    have ja : j < a.length := ha j (by simp)
    have jb : j < b.length := hb j (by simp)
    have h1 := hx j _ (List.getElem?_eq_getElem ja)
    have h2 := hy j _ (List.getElem?_eq_getElem jb)
    have p1 : (part e xs (j * 1)).run P w = .ok (.int k a[j]) w := by simp [part, isAgg, run_underlying he, h1]
    have p2 : (part e ys (j * 1)).run P w = .ok (.int k b[j]) w := by simp [part, isAgg, run_underlying he, h2]
    have ih := run_eqItems_int d he hx hy is (fun i hi => ha i (by simp [hi])) (fun i hi => hb i (by simp [hi]))
    simp only [Op.eqItems, Sem.run_bind, p1, p2, Result.andThen_ok, run_equalIn_int w d e k k' _ _ he]
    rw [List.all_cons, List.getElem?_eq_getElem ja, List.getElem?_eq_getElem jb]
    by_cases hq : a[j] = b[j]
    · have e1 : (a[j] == b[j]) = true := by simp [hq]
      have e2 : (some a[j] == some b[j]) = true := by simp [hq]
      rw [e1, e2]
      simpa using ih
    · have e1 : (a[j] == b[j]) = false := by simp [hq]
      have e2 : (some a[j] == some b[j]) = false := by simp [hq]
      rw [e1, e2]
      simp
theorem all_range_eq {n : Nat} {a b : List Int} (ha : a.length = n) (hb : b.length = n) : ((List.range n).all fun j => a[j]? == b[j]?) = (a == b) := by
  rw [Bool.eq_iff_iff]
  simp only [List.all_eq_true, List.mem_range, beq_iff_eq]
  constructor
  · intro h
    apply List.ext_getElem?
    intro i
    by_cases hi : i < n
    · exact h i hi
    · rw [List.getElem?_eq_none (by omega), List.getElem?_eq_none (by omega)]
  · rintro rfl _ _
    rfl
include hT
theorem opBin_ok {op : BinOp} {t : Nat} {x y : Operand} {lx ly : LV} {vx vy : Value} (hx : Rep F w m lx vx) (hy : Rep F w m ly vy) (h : opBin E op t lx ly = some (u', bs)) :
    bs = [] ∧ ∃ v, ((do eqGuard op t x y vx vy; binOp op t vx vy : Sem Value)).run P w = .ok v w ∧ Rep F w m u' v := by
  unfold opBin at h
  split at h
  · rename_i a b
    cases hx; cases hy
    split at h
    · rename_i _ _ _ _ hti
      obtain ⟨ii, d', hii, hd, htd, _, _, _, _⟩ := tiOf_spec (hT _ _ hti)
      have hdb : d' = .bool := by cases d' <;> simp [tdOf] at htd; rfl
      subst hdb
      obtain ⟨h1, rfl⟩ := just_ok h
      refine ⟨rfl, ?_⟩
      cases op <;> simp only [eqB, Option.some.injEq, reduceCtorEq] at h1
      · subst h1
        exact ⟨_, by simp only [Sem.run_bind, eqGuard_bool, Result.andThen_ok, binOp, run_equal_bool w _ _ _ hd]; rfl, .v _ _ rfl⟩
      · subst h1
        exact ⟨_, by simp only [Sem.run_bind, eqGuard_bool, Result.andThen_ok, binOp, run_equal_bool w _ _ _ hd]; rfl, .v _ _ rfl⟩
    · cases h
  · rename_i k a k' b
    split at h
    case h_2 => cases h
    rename_i n e _ _ _ _ hti
    split at h
    case h_2 => cases h
    rename_i ki _ _ _ hte
    split at h
    case isFalse => cases h
    rename_i hc
    obtain ⟨rfl, hla, hlb⟩ := hc
    obtain ⟨h1, rfl⟩ := just_ok h
    refine ⟨rfl, ?_⟩
    obtain ⟨i1, d1, hi1, hd1, htd1, _, _, _, _⟩ := tiOf_spec (hT _ _ hti)
    obtain ⟨i2, d2, hi2, hd2, htd2, _, _, hag, _⟩ := tiOf_spec (hT _ _ hte)
    have hdb := td_int htd2
    subst hdb
    obtain ⟨rfl, i3, hi3, h31⟩ := td_arr htd1
    cases hx with
    | agg _ _ xs hxl hxr => cases hy with
      | agg _ _ ys hyl hyr =>
        have hx' : ∀ (j : Nat) (q : Int), a[j]? = some q → xs[j]? = some (Value.int k q) := fun j q hq => flat_cell hxl hxr hq
        have hy' : ∀ (j : Nat) (q : Int), b[j]? = some q → ys[j]? = some (Value.int k q) := fun j q hq => flat_cell hyl hyr hq
        have hrun : (Op.equalIn 10000 t (.agg xs) (.agg ys)).run P w = .ok (a == b) w := by
          rw [run_equalIn_array w 9999 xs ys hd1 hi3, show P.cellsOf e = 1 by simp [Program.cellsOf, hi3, h31]]
          rw [run_eqItems_int 9998 hd2 hx' hy' (List.range n) (fun j hj => by simp at hj; omega) (fun j hj => by simp at hj; omega)]
          rw [all_range_eq (by omega) (by omega)]
        have hg : P.eqGuardType P.depth t = false := by
          rw [show P.depth = 2 * (P.types.size + Made.depth) + 1 + 1 from rfl]
          unfold Program.eqGuardType
          simp only [hd1]
          unfold Program.eqGuardType
          simp only [hd2]
        cases op <;> simp only [eqL, Option.some.injEq, reduceCtorEq] at h1
        · subst h1
          exact ⟨_, by simp only [Sem.run_bind, run_eqGuard_agg w _ _ _ _ _ _ hg, Result.andThen_ok, run_eql_struct, hrun], .v _ _ rfl⟩
        · subst h1
          exact ⟨_, by simp only [Sem.run_bind, run_eqGuard_agg w _ _ _ _ _ _ hg, Result.andThen_ok, run_neq_struct, hrun], .v _ _ rfl⟩
  · obtain ⟨h1, rfl⟩ := just_ok h
    exact ⟨rfl, binV_ok hx hy h1⟩

omit hT in
/-- What a slice shows. -/
theorem shown_ok {base : Nat → Prop} {β : Nat → Option Blk} (hB : ∀ b k, β b = some k → BlkOk F base w m b k) {z n : Nat} {u : LV} {v : Value} {y : Cont} (hr : Rep F w m u v) (h : shown β z u = some (y, n)) :
    ∃ a c f, v = .slice a n c ∧ y.vals.length = n * z ∧ (a = none → n = 0 ∧ c = 0) ∧ (y.vals = [] ∨ ∃ g o, a = some ⟨g, o, none⟩ ∧ Cells F w m y g o f) := by
  unfold shown at h
  split at h
  · cases h; cases hr
    exact ⟨none, 0, fun _ => undef, rfl, by simp [Cont.vals], fun _ => ⟨rfl, rfl⟩, .inl rfl⟩
  · rename_i z' b off n' c
    split at h
    · rename_i hz
      subst hz
      split at h
      · rename_i k hk
        rcases hq : k.x.cut off (n' * z) with _ | y'
        · rw [hq] at h; cases h
        · rw [hq] at h
          cases h
          obtain ⟨y1, y2⟩ := Cont.cut_vals hq
          have ylen : y.vals.length = n * z := by rw [y2]; simp; omega
          cases hr with
          | sl _ _ _ _ _ _ g s ad c' hm ha hn hkk hs hx =>
            obtain ⟨cs, b1, b2, b3, b4⟩ := blk_cells (hB _ _ hk) hm
            refine ⟨some ad, c', fun i => cs.getD (off + i) undef, rfl, ylen, (fun h => by cases h), ?_⟩
            rcases ha with rfl | ⟨rfl, _, _⟩
            · refine .inr ⟨g, off, rfl, fun i hi => ?_, fun i u hu => ?_⟩
              · have := b4.1 (off + i) (by omega)
                rwa [Nat.zero_add] at this
              · rw [y2, List.getElem?_take] at hu
                split at hu
                · rw [List.getElem?_drop] at hu; exact b4.2 _ _ hu
                · cases hu
            · exact .inl (List.eq_nil_of_length_eq_zero (by rw [ylen]; simp))
          | slNil _ _ _ _ hm hkk =>
            exact ⟨none, 0, fun _ => undef, rfl, ylen, fun _ => ⟨rfl, rfl⟩, .inl (List.eq_nil_of_length_eq_zero (by rw [ylen]; simp))⟩
      · cases h
    · cases h
  · rename_i z' n' c x
    split at h
    · rename_i hz
      subst hz
      cases h
      cases hr with
      | im _ _ _ _ _ ad c' f hl hn hk ha hm hrr =>
        refine ⟨ad, c', f, rfl, hl, ha, ?_⟩
        rcases hm with hm | ⟨g, o, h1, h2, h3⟩
        · exact .inl hm
        · exact .inr ⟨g, o, h1, h3, fun i u hu => (hrr i u hu).noMap_up m⟩
    · cases h
  · cases h

theorem convV_ok {base : Nat → Prop} {β : Nat → Option Blk} (hB : ∀ b k, β b = some k → BlkOk F base w m b k) {src dst : Nat} {u : LV} {v : Value} (hr : Rep F w m u v) (h : convV E β src dst u = some u') :
    ∃ v', (convert src dst v).run P w = .ok v' w ∧ Rep F w m u' v' := by
  unfold convV at h
  split at h
  · rename_i ti k _ _ _ _ k' n hts htd
    cases h
    obtain ⟨i1, d1, _, hd1, _, _, _, _, _⟩ := tiOf_spec (hT _ _ hts)
    obtain ⟨i2, d2, _, hd2, ht2, _, _, _, _⟩ := tiOf_spec (hT _ _ htd)
    have := td_int ht2
    subst this
    cases hr
    exact ⟨_, by simp only [convert, Sem.run_bind, run_underlying hd1, run_underlying hd2, Result.andThen_ok, Conv.intToInt]; rfl, .v _ _ rfl⟩
  · rename_i e z _ _ _ _ _ _ _ _ hts htd
    obtain ⟨i1, d1, _, hd1, ht1, _, _, _, _⟩ := tiOf_spec (hT _ _ hts)
    obtain ⟨i2, d2, _, hd2, ht2, _, _, _, _⟩ := tiOf_spec (hT _ _ htd)
    have := td_str ht2
    subst this
    obtain ⟨rfl, j, hj, hjs⟩ := td_slice ht1
    split at h
    · rename_i _ _ _ _ l n hte hsh
      obtain ⟨i3, d3, _, hd3, ht3, _, _, _, _⟩ := tiOf_spec (hT _ _ hte)
      have := td_int ht3
      subst this
      obtain ⟨a, c, f, rfl, hlen, ha, hcell⟩ := shown_ok hB hr hsh
      split at h
      · rename_i hok
        cases h
        simp only [Bool.and_eq_true, beq_iff_eq] at hok
        refine ⟨_, ?_, .str _ _⟩
        rcases hcell with hnil | ⟨g, o, rfl, h1, h2⟩
        · have hl0 : l = [] := by simpa [Cont.vals] using hnil
          subst hl0
          have hn0 : n = 0 := by have := hok.2; simpa using this.symm
          subst hn0
          rw [run_convert_bytes_string w src dst e _ _ c hd1 hd3 hd2]
          rcases a with _ | ad
          · simp [Conv.bytesToString, strOfNums]; rfl
          · simp [Conv.bytesToString, strOfNums, loadCells]; rfl
        · refine run_convert_bytes_arg w src e hd1 hd3 g o n c l hok.2 (fun i hi => ?_) dst hd2
          have hi' : i < (Cont.flat IntKind.u8 l).vals.length := by simp [Cont.vals]; omega
          rw [h1 i hi']
          obtain ⟨u, hu⟩ := getL_of hi'
          have hrep := h2 i u hu
          obtain ⟨q, rfl⟩ := flat_leaf hu
          simp only [Cont.vals, List.getElem?_map] at hu
          have hil : i < l.length := by omega
          rw [List.getElem?_eq_getElem hil] at hu
          simp at hu
          generalize f i = fv at hrep ⊢
          cases hrep
          rw [List.getD_eq_getElem?_getD, List.getElem?_eq_getElem hil]
          simp [hu]
      · cases h
    · rename_i _ _ _ _ n hte hsh
      obtain ⟨i3, d3, _, hd3, ht3, _, _, _, _⟩ := tiOf_spec (hT _ _ hte)
      have := td_int ht3
      subst this
      cases h
      obtain ⟨a, c, f, rfl, hlen, ha, hcell⟩ := shown_ok hB hr hsh
      have hn0 : n = 0 := by simpa [Cont.vals] using hlen.symm
      subst hn0
      refine ⟨_, ?_, .str _ _⟩
      rw [run_convert_bytes_string w src dst e _ _ c hd1 hd3 hd2]
      rcases a with _ | ad
      · simp [Conv.bytesToString, strOfNums]; rfl
      · simp [Conv.bytesToString, strOfNums, loadCells]; rfl
    · cases h
  · rename_i _ _ _ _ _ _ _ _ l hts htd
    cases h
    obtain ⟨i1, d1, _, hd1, ht1, _, _, _, _⟩ := tiOf_spec (hT _ _ hts)
    obtain ⟨i2, d2, _, hd2, ht2, _, _, _, _⟩ := tiOf_spec (hT _ _ htd)
    have := td_str ht2
    subst this
    have := td_str ht1
    subst this
    cases hr
    exact ⟨_, by simp only [convert, Sem.run_bind, run_underlying hd1, run_underlying hd2, Result.andThen_ok]; rfl, .str _ _⟩
  · cases h
end
end Go.Proofs.YtdeigmjbcbjgeaaGreatDoor

/-
  The machine of plain values: its states, calls, and each operation that writes nothing.
-/
namespace Go.Proofs.YtdeigmjbcbjgeaaGreatDoor
open Go.RowKit

/-- One result of a call: in block gb, if it goes over to the caller. -/
def RCok (F : Nat → Prop) (base : Nat) (w : World) (r : RC) (v : Value) (gb : Option Loc) : Prop :=
  match r with
  | .val u => Rep F w noMap u v ∧ gb = none
  | .own z n e x => x.vals.length = n * z ∧ ((n = 0 ∧ v = .slice none 0 0 ∧ gb = none) ∨
      ∃ (g c : Nat) (cs : Array Value), gb = some ⟨g, cs.size⟩ ∧ v = .slice (some ⟨g, 0, none⟩) n c ∧ n ≤ c ∧ c ≤ 9223372036854775807 ∧ base ≤ g ∧ ¬ F g ∧ w.heap[g]? = some (.cells cs e (0, 0)) ∧ cs.size = c * z ∧ ∀ (i : Nat) (u : LV), x.vals[i]? = some u → Rep F w noMap u (cs.getD i undef))
  | .optr e x => ∃ (g : Nat) (cs : Array Value), gb = some ⟨g, cs.size⟩ ∧ v = .pointer (some ⟨g, 0, none⟩) ∧ base ≤ g ∧ ¬ F g ∧ w.heap[g]? = some (.cells cs e (0, 0)) ∧ x.vals.length = cs.size ∧ ∀ (i : Nat) (u : LV), x.vals[i]? = some u → Rep F w noMap u (cs.getD i undef)
def ResOk (F : Nat → Prop) (base : Nat) (w : World) (r : LRes) (v : Value) : Prop :=
  match r with
  | .one r => ∃ gb, RCok F base w r v gb
  | .many l => ∃ (vs : Array Value) (gbs : Nat → Option Loc), v = .tuple vs ∧ vs.size = l.length ∧ (∀ (i : Nat) (r : RC), l[i]? = some r → RCok F base w r (vs.getD i undef) (gbs i)) ∧ ∀ i j l l', i ≠ j → gbs i = some l → gbs j = some l' → l.g ≠ l'.g
/-- The package-level tables hold what they are said to hold, and stay. -/
def GlobOk (A : Nat → Prop) (w : World) : Prop := ∀ g x, globL g = some x → Rep A w noMap (.imp x) (.pointer (some ⟨g, 0, none⟩))
theorem GlobOk.mono {A F : Nat → Prop} {w w' : World} (h : GlobOk A w) (hF : ∀ g, A g → F g) (hw : ∀ g, A g → w'.heap[g]? = w.heap[g]?) : GlobOk F w' := fun g x hx => (h g x hx).mono hF hw noMap (fun _ _ h => h)
/-- A call with arguments that stay as they are. -/
def CallOk (P : Program) (f : Nat) (ds : List LV) (r : LRes) : Prop :=
  ∀ (w : World) (A : Nat → Prop) (args : Array Value), args.size = ds.length → (∀ g, A g → g < w.heap.size) → (∀ (i : Nat) (u : LV), ds[i]? = some u → Rep A w noMap u (args.getD i undef)) → GlobOk A w →
    Calls P f args w fun e w' => ∃ v F', e = .returned v ∧ Keeps (fun _ => False) w w' ∧ (∀ g, A g → F' g) ∧ (∀ g, F' g → g < w'.heap.size ∧ (A g ∨ w.heap.size ≤ g)) ∧ ResOk F' w.heap.size w' r v
/-- Blocks that are lent. -/
def LentOk (F : Nat → Prop) (w : World) (m : Map) (ls : List (Nat × Blk)) : Prop :=
  ∀ b k, findB ls b = some k → b % 8 = 7 ∧ k.spare = false ∧ ∃ g s cs, m b = some (some ⟨g, s⟩) ∧ ¬ F g ∧ w.heap[g]? = some (.cells cs k.e (0, 0)) ∧ cs.size = s ∧ k.x.vals.length = s ∧
    ∀ (i : Nat) (u : LV), k.x.vals[i]? = some u → Rep F w noMap u (cs.getD i undef)
/-- A call to which blocks are lent. -/
def CallW (P : Program) (f : Nat) (ds : List LV) (ls : List (Nat × Blk)) (r : LRes) (ls' : List (Nat × Blk)) : Prop :=
  ∀ (w : World) (A : Nat → Prop) (m : Map) (args : Array Value), args.size = ds.length → (∀ g, A g → g < w.heap.size) → (∀ (i : Nat) (u : LV), ds[i]? = some u → Rep A w m u (args.getD i undef)) →
    LentOk A w m ls → (∀ b, findB ls b = none → m b = none) → (∀ b b' l l', b ≠ b' → m b = some (some l) → m b' = some (some l') → l.g ≠ l'.g) → GlobOk A w →
    Calls P f args w fun e w' => ∃ v F', e = .returned v ∧ Keeps (fun g => ∃ b s, m b = some (some ⟨g, s⟩)) w w' ∧ (∀ g, A g → F' g) ∧ (∀ g, F' g → g < w'.heap.size ∧ (A g ∨ w.heap.size ≤ g)) ∧ ResOk F' w.heap.size w' r v ∧
      LentOk F' w' m ls' ∧ ∀ b k, findB ls b = some k → ∃ k', findB ls' b = some k'
/-- A call of a function without a body, that the model stands in for: plain values, and a tuple of plain values. -/
def Ext (P : Program) (f : Nat) (ds : List LV) (r : LRes) : Prop :=
  ∃ xs ys : List Value, ds = xs.map LV.v ∧ r = .many (ys.map fun y => .val (.v y)) ∧ (∀ y ∈ ys, plain y = true) ∧ ∀ w, (callFunc f xs.toArray).run P w = .ok (.value (.tuple ys.toArray)) w
structure EnvOk (P : Program) (E : Env) : Prop where
  T : ∀ t i, E.T t = some i → tiOf P t = some i
  orc : ∀ f ds r, E.orc f ds = some r → ((∃ fn, P.funcs[f]? = some fn ∧ fn.name ≠ "runtime.NumGoroutine" ∧ fn.body.isSome = true) ∧ CallOk P f ds r) ∨ Ext P f ds r
  orw : ∀ f ds ls r ls', E.orw f ds ls = some (r, ls') → (∃ fn, P.funcs[f]? = some fn ∧ fn.name ≠ "runtime.NumGoroutine" ∧ fn.body.isSome = true) ∧ CallW P f ds ls r ls'

theorem noOrw_ok {P : Program} : ∀ f ds ls r ls', noOrw f ds ls = some (r, ls') → (∃ fn, P.funcs[f]? = some fn ∧ fn.name ≠ "runtime.NumGoroutine" ∧ fn.body.isSome = true) ∧ CallW P f ds ls r ls' := by
  intro f ds ls r ls' h
  cases h
/-- A call's beginning: its world; the blocks that are lent to it (the place of each, by its number). -/
structure Fr where
  w : World
  lend : Nat → Option Loc
  mod : ∀ b l, lend b = some l → b % 8 = 7
def Fr.L (f : Fr) (g : Nat) : Prop := ∃ b l, f.lend b = some l ∧ l.g = g
def Fr.own (f : Fr) (g : Nat) : Prop := f.w.heap.size ≤ g ∨ f.L g
/-- Nothing is lent. -/
def frame (w : World) : Fr := ⟨w, fun _ => none, fun _ _ h => by cases h⟩
theorem Fr.free (f : Fr) {b : Nat} (h : b % 8 ≠ 7) : f.lend b = none := by
  rcases hq : f.lend b with _ | g
  · rfl
  · exact absurd (f.mod b g hq) h
structure SR (A : Nat → Prop) (w0 : Fr) (n : Nat) (m : Map) (F : Nat → Prop) (ρ : Nat → LV) (β : Nat → Option Blk) (a : Act) (w : World) : Prop where
  size : a.tmps.size = n
  slots : ∀ t, Rep F w m (ρ t) (a.tmps.getD t undef)
  blks : ∀ b k, β b = some k → BlkOk F w0.own w m b k
  sep : ∀ b b' k k' l l', β b = some k → β b' = some k' → b ≠ b' → m b = some (some l) → m b' = some (some l') → l.g ≠ l'.g
  dfr : a.defers = []
  keeps : Keeps w0.L w0.w w
  flt : ∀ g, F g → g < w.heap.size
  sub : ∀ g, F g → A g ∨ w0.own g
  sup : ∀ g, A g → F g
  dom : ∀ b, β b = none → m b = none
  lent : ∀ b l k, w0.lend b = some l → β b = some k → k.spare = false ∧ m b = some (some l)
  glob : (∀ g, A g → g < w0.w.heap.size ∧ ¬ w0.L g) ∧ GlobOk A w0.w
theorem SR.globs {A : Nat → Prop} {w0 : Fr} {n : Nat} {m : Map} {F : Nat → Prop} {ρ : Nat → LV} {β : Nat → Option Blk} {a : Act} {w : World} (S : SR A w0 n m F ρ β a w) : GlobOk F w :=
  S.glob.2.mono S.sup fun g hg => S.keeps.block g (S.glob.1 g hg).1 (S.glob.1 g hg).2

def updR (n : Nat) (ρ : Nat → LV) (dst : Option Nat) (u : LV) : Nat → LV :=
  match dst with
  | some d => fun t => if t = d ∧ d < n then u else ρ t
  | none => ρ
def updBs (β : Nat → Option Blk) : List (Nat × Blk) → Nat → Option Blk
  | [] => β
  | p :: bs => updBs (fun b => if p.1 = b then some p.2 else β b) bs
def updBO (dst : Option Nat) (β : Nat → Option Blk) (bs : List (Nat × Blk)) : Nat → Option Blk := updBs β (if dst.isSome then bs else [])

theorem updBs_cases : ∀ (bs : List (Nat × Blk)) (β : Nat → Option Blk) (b : Nat) (k : Blk), updBs β bs b = some k → (b, k) ∈ bs ∨ (β b = some k ∧ ∀ p ∈ bs, p.1 ≠ b)
  | [], β, b, k, h => .inr ⟨h, by simp⟩
  | p :: bs, β, b, k, h => by
    rcases updBs_cases bs _ b k h with h | ⟨h, h2⟩
    · exact .inl (List.mem_cons_of_mem _ h)
    · split at h
      · rename_i e
        cases h
        exact .inl (by rw [← e]; exact List.mem_cons_self ..)
      · rename_i e
        exact .inr ⟨h, fun q hq => by rcases List.mem_cons.1 hq with rfl | hq; exact e; exact h2 q hq⟩

theorem updBs_none : ∀ (bs : List (Nat × Blk)) (β : Nat → Option Blk) (b : Nat), updBs β bs b = none → β b = none ∧ ∀ p ∈ bs, p.1 ≠ b
  | [], β, b, h => ⟨h, by simp⟩
  | p :: bs, β, b, h => by
    obtain ⟨h1, h2⟩ := updBs_none bs _ b h
    split at h1
    · cases h1
    · rename_i e
      exact ⟨h1, fun q hq => by rcases List.mem_cons.1 hq with rfl | hq; exact e; exact h2 q hq⟩

section
variable {P : Program} {E : Env} {A : Nat → Prop} {w0 : Fr} {n : Nat} {m : Map} {F : Nat → Prop} {ρ : Nat → LV} {β : Nat → Option Blk} {a : Act} {w : World}

theorem getD_set (cs : Array Value) (d t : Nat) (v : Value) : (cs.setIfInBounds d v).getD t undef = if t = d ∧ d < cs.size then v else cs.getD t undef := by
  simp only [Array.getD_eq_getD_getElem?]
  by_cases h : t = d
  · subst h
    by_cases hd : t < cs.size
    · simp [hd]
    · simp [hd]
  · rw [Array.getElem?_setIfInBounds_ne (fun e => h e.symm)]
    simp [h]
theorem SR.put (S : SR A w0 n m F ρ β a w) (dst : Option Nat) {u : LV} {v : Value} (h : Rep F w m u v) : SR A w0 n m F (updR n ρ dst u) β (a.put dst v) w := by
  rcases dst with _ | d
  · exact S
  · refine { S with size := ?_, slots := fun t => ?_, dfr := S.dfr }
    · show (a.tmps.setIfInBounds d v).size = n
      simp [S.size]
    · show Rep F w m _ ((a.tmps.setIfInBounds d v).getD t undef)
      rw [getD_set, S.size]
      unfold updR
      simp only
      split
      · exact h
      · exact S.slots t
theorem Keeps.heap {w w' : World} (h : Keeps (fun _ => False) w w') {g : Nat} (hg : g < w.heap.size) : w'.heap[g]? = w.heap[g]? := h.block g hg (fun h => h)
theorem BlkOk.up {F F' : Nat → Prop} {base : Nat → Prop} {w w' : World} {m m' : Map} {b : Nat} {k : Blk} (h : BlkOk F base w m b k) (hm : ∀ b l, m b = some l → m' b = some l) (hk : Keeps (fun _ => False) w w')
    (hF : ∀ g, F g → F' g) (hF' : ∀ g, F' g → F g ∨ w.heap.size ≤ g) (hlt : ∀ g, F g → g < w.heap.size) : BlkOk F' base w' m' b k := by
  rcases h with ⟨h1, h2, h3⟩ | ⟨g, s, cs, h1, h2, h3, h4, h5, h6, h7, h8⟩
  · exact .inl ⟨hm _ _ h1, h2, h3⟩
  · have hg := (Array.getElem?_eq_some_iff.1 h4).1
    refine .inr ⟨g, s, cs, hm _ _ h1, fun hf => ?_, h3, by rw [hk.heap hg]; exact h4, h5, h6, h7, fun i u hu => (h8 i u hu).mono hF (fun g hg => hk.heap (hlt g hg)) _ hm⟩
    rcases hF' g hf with hf | hf
    · exact h2 hf
    · omega
theorem SR.old (S : SR A w0 n m F ρ β a w) {b : Nat} {k : Blk} {l : Loc} (hb : β b = some k) (hl : m b = some (some l)) : l.g < w.heap.size ∧ ¬ F l.g ∧ w0.own l.g := by
  rcases S.blks b k hb with ⟨h1, _⟩ | ⟨g, s, cs, h1, h2, h3, h4, _⟩
  · rw [hl] at h1; cases h1
  · rw [hl] at h1; cases h1
    exact ⟨(Array.getElem?_eq_some_iff.1 h4).1, h2, h3⟩
/-- New blocks. -/
theorem SR.add (S : SR A w0 n m F ρ β a w) {m' : Map} {F' : Nat → Prop} {w' : World} {bs : List (Nat × Blk)} (hm : ∀ b l, m b = some l → m' b = some l) (hk : Keeps (fun _ => False) w w')
    (hF : ∀ g, F g → F' g) (hF' : ∀ g, F' g → F g ∨ w.heap.size ≤ g) (hlt : ∀ g, F' g → g < w'.heap.size)
    (hnew : ∀ p ∈ bs, BlkOk F' w0.own w' m' p.1 p.2 ∧ ∀ l, m' p.1 = some (some l) → ∀ b k l', β b = some k → m b = some (some l') → l'.g ≠ l.g)
    (hsep : ∀ p ∈ bs, ∀ q ∈ bs, p.1 ≠ q.1 → ∀ l l', m' p.1 = some (some l) → m' q.1 = some (some l') → l.g ≠ l'.g) (hdom : ∀ b, m' b ≠ m b → ∃ p ∈ bs, p.1 = b) (hid : ∀ p ∈ bs, w0.lend p.1 = none) : SR A w0 n m' F' ρ (updBs β bs) a w' := by
  have hold : ∀ b k l, β b = some k → m' b = some (some l) → m b = some (some l) := by
    intro b k l hb hl
    rcases S.blks b k hb with ⟨h1, _⟩ | ⟨g, s, cs, h1, _⟩
    · rw [hm _ _ h1] at hl; cases hl
    · rw [hm _ _ h1] at hl
      cases hl
      exact h1
  refine ⟨S.size, fun t => (S.slots t).mono hF (fun g hg => hk.heap (S.flt g hg)) _ hm, fun b k hb => ?_, fun b b' k k' l l' hb hb' hne hl hl' => ?_, S.dfr, S.keeps.trans (hk.mono fun _ _ h => h.elim), hlt, fun g hg => ?_, fun g hg => hF g (S.sup g hg), fun b hb => ?_, fun b g k hl hb => ?_, S.glob⟩
  · rcases updBs_cases bs β b k hb with h | ⟨h, _⟩
    · exact (hnew _ h).1
    · exact (S.blks b k h).up hm hk hF hF' S.flt
  · rcases updBs_cases bs β b k hb with h | ⟨h, _⟩ <;> rcases updBs_cases bs β b' k' hb' with h' | ⟨h', _⟩
    · exact hsep _ h _ h' hne l l' hl hl'
    · exact fun e => (hnew _ h).2 l hl _ _ _ h' (hold _ _ _ h' hl') e.symm
    · exact (hnew _ h').2 l' hl' _ _ _ h (hold _ _ _ h hl)
    · exact S.sep b b' k k' l l' h h' hne (hold _ _ _ h hl) (hold _ _ _ h' hl')
  · rcases hF' g hg with h | h
    · exact S.sub g h
    · exact .inr (.inl (Nat.le_trans S.keeps.size h))
  · obtain ⟨h1, h2⟩ := updBs_none bs β b hb
    rcases Classical.em (m' b = m b) with h | h
    · rw [h]; exact S.dom b h1
    · obtain ⟨p, hp, e⟩ := hdom b h
      exact absurd e (h2 p hp)
  · rcases updBs_cases bs β b k hb with h | ⟨h, _⟩
    · have := hid _ h
      rw [hl] at this
      cases this
    · obtain ⟨h1, h2⟩ := S.lent b g k hl h
      exact ⟨h1, hm _ _ h2⟩
theorem SR.world (S : SR A w0 n m F ρ β a w) {w' : World} (hk : Keeps (fun _ => False) w w') : SR A w0 n m F ρ β a w' :=
  S.add (bs := []) (fun _ _ h => h) hk (fun _ h => h) (fun _ h => .inl h) (fun g h => Nat.lt_of_lt_of_le (S.flt g h) hk.size) (by simp) (by simp) (fun b h => absurd rfl h) (by simp)
theorem evalO_ok (hs : ∀ t, Rep F w m (ρ t) (a.tmps.getD t undef)) (hG : GlobOk F w) {x : Operand} {u : LV} (h : evalO ρ x = some u) : Rep F w m u (a.eval x) := by
  cases x with
  | tmp t =>
    simp only [evalO] at h
    split at h
    · cases h
    · cases h; exact hs t
  | const v => exact lvOf_rep h
  | global g =>
    simp only [evalO, Option.map_eq_some_iff] at h
    obtain ⟨y, hy, rfl⟩ := h
    exact (hG g y hy).noMap_up _
  | func f => cases h; exact .v _ _ rfl

/-- What stays while a call lasts. -/
def FP (F : Nat → Prop) (β : Nat → Option Blk) (m : Map) (g : Nat) : Prop := F g ∨ ∃ b k l, β b = some k ∧ m b = some (some l) ∧ l.g = g
theorem shut_rep {F F' : Nat → Prop} {u : LV} {v : Value} (h : Rep F w m u v) (hF : ∀ g, F g → F' g) {D : Nat} (hu : u.shut D = true) : Rep F' w noMap u v :=
  (h.shut noMap D hu).mono hF (fun _ _ => rfl) _ (fun _ _ h => h)
theorem optMap_rep {D : Nat} {l l' : List LV} (ih : ∀ (u d : LV) (v : Value), Rep F w m u v → expo β D u = some d → Rep (FP F β m) w noMap d v) (h : optMap (expo β D) l = some l') {f : Nat → Value}
    (hr : ∀ (i : Nat) (u : LV), l[i]? = some u → Rep F w m u (f i)) : l'.length = l.length ∧ ∀ (i : Nat) (u : LV), l'[i]? = some u → Rep (FP F β m) w noMap u (f i) := by
  obtain ⟨h1, h2⟩ := optMap_spec h
  refine ⟨h1, fun i u hu => ?_⟩
  obtain ⟨x, hx, hd⟩ := h2 i u hu
  exact ih _ _ _ (hr i x hx) hd
theorem expo_ok {base : Nat → Prop} (hB : ∀ b k, β b = some k → BlkOk F base w m b k) : ∀ (D : Nat) (u d : LV) (v : Value), Rep F w m u v → expo β D u = some d → Rep (FP F β m) w noMap d v := by
  intro D
  induction D with
  | zero =>
    intro u d v hr h
    cases u with
    | agg x =>
      cases x with
      | flat k l => simp only [expo] at h; cases h; exact shut_rep (D := 0) hr (fun _ h => .inl h) rfl
      | gen l => simp [expo] at h
    | v x => simp only [expo] at h; cases h; exact shut_rep (D := 0) hr (fun _ h => .inl h) rfl
    | str x => simp only [expo] at h; cases h; exact shut_rep (D := 0) hr (fun _ h => .inl h) rfl
    | imp x => simp only [expo] at h; cases h; exact shut_rep (D := 0) hr (fun _ h => .inl h) rfl
    | im z n c x => simp only [expo] at h; cases h; exact shut_rep (D := 0) hr (fun _ h => .inl h) rfl
    | _ => simp [expo] at h
  | succ D ih =>
    intro u d v hr h
    have hflat : ∀ {k : IntKind} {l : List Int} {f : Nat → Value}, (∀ (i : Nat) (u : LV), (Cont.flat k l).vals[i]? = some u → Rep F w m u (f i)) → ∀ (i : Nat) (u : LV), (Cont.flat k l).vals[i]? = some u → Rep (FP F β m) w noMap u (f i) := by
      intro k l f hf i u hu
      have := hf i u hu
      obtain ⟨q, rfl⟩ := flat_leaf hu
      exact this.pure _ _ _ 0 rfl
    cases u with
    | agg x =>
      cases x with
      | flat k l => simp only [expo] at h; cases h; exact shut_rep (D := 0) hr (fun _ h => .inl h) rfl
      | gen l =>
        simp only [expo] at h
        rcases hq : optMap (expo β D) l with _ | l'
        · rw [hq] at h; cases h
        · rw [hq] at h
          cases h
          cases hr with
          | agg _ _ cs hl hrr =>
            obtain ⟨h1, h2⟩ := optMap_rep ih hq (f := fun i => cs.getD i undef) hrr
            exact .agg _ _ _ (by rw [hl]; exact h1.symm) h2
    | v x => simp only [expo] at h; cases h; exact shut_rep (D := 0) hr (fun _ h => .inl h) rfl
    | str x => simp only [expo] at h; cases h; exact shut_rep (D := 0) hr (fun _ h => .inl h) rfl
    | imp x => simp only [expo] at h; cases h; exact shut_rep (D := 0) hr (fun _ h => .inl h) rfl
    | im z n c x => simp only [expo] at h; cases h; exact shut_rep (D := 0) hr (fun _ h => .inl h) rfl
    | poison => simp [expo] at h
    | fn f l => simp [expo] at h
    | tup l =>
      simp only [expo] at h
      rcases hq : optMap (expo β D) l with _ | l'
      · rw [hq] at h; cases h
      · rw [hq] at h
        cases h
        cases hr with
        | tup _ _ vs hl hrr =>
          obtain ⟨h1, h2⟩ := optMap_rep ih hq (f := fun i => vs.getD i undef) hrr
          exact .tup _ _ _ (by rw [hl]; exact h1.symm) h2
    | iface t u =>
      simp only [expo] at h
      rcases hq : expo β D u with _ | u'
      · rw [hq] at h; cases h
      · rw [hq] at h
        cases h
        cases hr with
        | iface _ _ _ v hrr => exact .iface _ _ _ _ (ih _ _ _ hrr hq)
    | ptr b off =>
      simp only [expo] at h
      split at h
      · rename_i k hk
        cases hr with
        | ptr _ _ _ g s hm =>
          obtain ⟨cs, b1, b2, b3, b4⟩ := blk_cells (hB _ _ hk) hm
          have hFP : FP F β m g := .inr ⟨b, k, _, hk, hm, rfl⟩
          rcases hq : k.x.cut off (k.x.len - off) with _ | y
          · rw [hq] at h; cases h
          · rw [hq] at h
            obtain ⟨y1, y2⟩ := Cont.cut_vals hq
            have yc : (∀ i, i < y.vals.length → w.cell? ⟨g, off + i, none⟩ = some (cs.getD (off + i) undef)) ∧ ∀ (i : Nat) (u : LV), y.vals[i]? = some u → Rep F w m u (cs.getD (off + i) undef) := by
              refine ⟨fun i hi => ?_, fun i u hu => ?_⟩
              · have := b4.1 (off + i) (by rw [y2] at hi; simp at hi; omega)
                rwa [Nat.zero_add] at this
              · rw [y2, List.getElem?_take] at hu
                split at hu
                · rw [List.getElem?_drop] at hu; exact b4.2 _ _ hu
                · cases hu
            rcases y with ⟨kk, l⟩ | l
            · cases h
              exact .imp _ _ _ _ (fun i => cs.getD (off + i) undef) hFP yc.1 (hflat yc.2)
            · simp only at h
              rcases hq2 : optMap (expo β D) l with _ | l'
              · rw [hq2] at h; cases h
              · rw [hq2] at h
                cases h
                obtain ⟨h1, h2⟩ := optMap_rep ih hq2 (f := fun i => cs.getD (off + i) undef) yc.2
                exact .imp _ _ _ _ (fun i => cs.getD (off + i) undef) hFP (fun i hi => yc.1 i (by rw [← show l'.length = (Cont.gen l).vals.length from h1]; exact hi)) h2
      · cases h
    | sl z b off n c =>
      simp only [expo] at h
      split at h
      · rename_i k hk
        rcases hq : k.x.cut off (n * z) with _ | y
        · rw [hq] at h; cases h
        · rw [hq] at h
          obtain ⟨y1, y2⟩ := Cont.cut_vals hq
          have ylen : y.vals.length = n * z := by rw [y2]; simp; omega
          have ys : ∃ (a' : Option Addr) (c' : Nat) (f : Nat → Value), v = .slice a' n c' ∧ n ≤ c' ∧ (∀ k, c = some k → c' = k) ∧ (a' = none → n = 0 ∧ c' = 0) ∧
              (y.vals = [] ∨ ∃ g o, a' = some ⟨g, o, none⟩ ∧ FP F β m g ∧ ∀ i, i < y.vals.length → w.cell? ⟨g, o + i, none⟩ = some (f i)) ∧ (∀ (i : Nat) (u : LV), y.vals[i]? = some u → Rep F w m u (f i)) := by
            cases hr with
            | sl _ _ _ _ _ _ g s ad c' hm ha hn hkk hs hx =>
              obtain ⟨cs, b1, b2, b3, b4⟩ := blk_cells (hB _ _ hk) hm
              refine ⟨some ad, c', fun i => cs.getD (off + i) undef, rfl, hn, hkk, (fun h => by cases h), ?_, fun i u hu => ?_⟩
              · rcases ha with rfl | ⟨rfl, _, _⟩
                · refine .inr ⟨g, off, rfl, .inr ⟨b, k, _, hk, hm, rfl⟩, fun i hi => ?_⟩
                  have := b4.1 (off + i) (by omega)
                  rwa [Nat.zero_add] at this
                · exact .inl (List.eq_nil_of_length_eq_zero (by rw [ylen]; simp))
              · rw [y2, List.getElem?_take] at hu
                split at hu
                · rw [List.getElem?_drop] at hu; exact b4.2 _ _ hu
                · cases hu
            | slNil _ _ _ _ hm hkk =>
              have y0 : y.vals = [] := List.eq_nil_of_length_eq_zero (by rw [ylen]; simp)
              exact ⟨none, 0, fun _ => undef, rfl, Nat.le_refl _, fun k hk => (hkk k hk).symm, fun _ => ⟨rfl, rfl⟩, .inl y0, fun i u hu => by rw [y0] at hu; simp at hu⟩
          obtain ⟨a', c', f, rfl, e1, e2, e3, e4, e5⟩ := ys
          rcases y with ⟨kk, l⟩ | l
          · cases h
            exact .im _ _ _ _ _ _ _ f ylen e1 e2 e3 e4 (hflat e5)
          · simp only at h
            rcases hq2 : optMap (expo β D) l with _ | l'
            · rw [hq2] at h; cases h
            · rw [hq2] at h
              cases h
              obtain ⟨h1, h2⟩ := optMap_rep ih hq2 e5
              have hl1 : (Cont.gen l').vals.length = (Cont.gen l).vals.length := h1
              refine .im _ _ _ _ _ _ _ f (by rw [hl1]; exact ylen) e1 e2 e3 ?_ h2
              rcases e4 with e4 | ⟨g, o, x1, x2, x3⟩
              · exact .inl (List.eq_nil_of_length_eq_zero (by rw [hl1, e4]; rfl))
              · exact .inr ⟨g, o, x1, x2, fun i hi => x3 i (by rw [← hl1]; exact hi)⟩
      · cases h
end
end Go.Proofs.YtdeigmjbcbjgeaaGreatDoor

/-
  The machine of plain values: what calls give; each operation that writes nothing, in the program's walk.
-/
namespace Go.Proofs.YtdeigmjbcbjgeaaGreatDoor
open Go.RowKit

section
variable {P : Program} {E : Env} {A : Nat → Prop} {w0 : Fr} {n : Nat} {m : Map} {F : Nat → Prop} {ρ : Nat → LV} {β : Nat → Option Blk} {a : Act} {w : World}

theorem outAll_val : ∀ (l : List RC) (id : Nat), (outAll id l).1.length = l.length ∧ ∀ (i : Nat) (r : RC), l[i]? = some r → (outAll id l).1[i]? = some (r.out (id + i)).1
  | [], id => by simp [outAll]
  | r :: l, id => by
    obtain ⟨h1, h2⟩ := outAll_val l (id + 1)
    refine ⟨by simp [outAll, h1], fun i r' h => ?_⟩
    cases i with
    | zero => simp at h; subst h; simp [outAll]
    | succ i =>
      simp only [outAll, List.getElem?_cons_succ] at h ⊢
      rw [h2 i r' h, show id + 1 + i = id + (i + 1) by omega]
theorem out_blk (r : RC) (id : Nat) : (r.out id).2 = match r.blk with | some k => [(id, k)] | none => [] := by cases r <;> rfl
theorem outAll_own : ∀ (l : List RC) (id : Nat) (i : Nat) (r : RC) (k : Blk), l[i]? = some r → r.blk = some k → (id + i, k) ∈ (outAll id l).2
  | [], _, _, _, _, h, _ => by simp at h
  | r :: l, id, 0, r', k, h, hk => by simp at h; subst h; simp [outAll, out_blk, hk]
  | r :: l, id, i + 1, r', k, h, hk => by
    have := outAll_own l (id + 1) i r' k (by simpa using h) hk
    rw [show id + 1 + i = id + (i + 1) by omega] at this
    simp only [outAll, List.mem_append]
    exact .inr this
theorem outAll_blk : ∀ (l : List RC) (id : Nat) (p : Nat × Blk), p ∈ (outAll id l).2 → ∃ i r k, l[i]? = some r ∧ r.blk = some k ∧ p = (id + i, k)
  | [], id, p, h => by simp [outAll] at h
  | r :: l, id, p, h => by
    simp only [outAll, List.mem_append] at h
    rcases h with h | h
    · rw [out_blk] at h
      split at h
      · rename_i k hk
        simp at h
        exact ⟨0, r, k, rfl, hk, h⟩
      · simp at h
    · obtain ⟨i, r', k, h1, h2, h3⟩ := outAll_blk l (id + 1) p h
      exact ⟨i + 1, r', k, by simpa using h1, h2, by rw [h3, show id + 1 + i = id + (i + 1) by omega]⟩

/-- The places of a call's results. -/
theorem results_map {F' : Nat → Prop} {base : Nat} {w' : World} {own : Nat → Prop} (hown : ∀ g, base ≤ g → own g) (m : Map) (id0 : Nat) (l : List RC) (vs : Nat → Value) (gbs : Nat → Option Loc) (hfree : ∀ i, i < l.length → m (id0 + i) = none)
    (hr : ∀ (i : Nat) (r : RC), l[i]? = some r → RCok F' base w' r (vs i) (gbs i)) (hd : ∀ i j l l', i ≠ j → gbs i = some l → gbs j = some l' → l.g ≠ l'.g) :
    ∃ m' : Map, (∀ b l', m b = some l' → m' b = some l') ∧ (∀ (i : Nat) (r : RC), l[i]? = some r → Rep F' w' m' (r.out (id0 + i)).1 (vs i)) ∧
      (∀ p ∈ (outAll id0 l).2, BlkOk F' own w' m' p.1 p.2 ∧ ∀ l', m' p.1 = some (some l') → base ≤ l'.g) ∧
      (∀ p ∈ (outAll id0 l).2, ∀ q ∈ (outAll id0 l).2, p.1 ≠ q.1 → ∀ l l', m' p.1 = some (some l) → m' q.1 = some (some l') → l.g ≠ l'.g) ∧ ∀ b, m' b ≠ m b → ∃ p ∈ (outAll id0 l).2, p.1 = b := by
  let m' : Map := fun b => if id0 ≤ b then (match (l[b - id0]?).bind RC.blk with | some _ => some (gbs (b - id0)) | none => m b) else m b
  have hm'own : ∀ i r k, l[i]? = some r → r.blk = some k → m' (id0 + i) = some (gbs i) := by
    intro i r k h hk
    show (if id0 ≤ id0 + i then (match (l[id0 + i - id0]?).bind RC.blk with | some _ => some (gbs (id0 + i - id0)) | none => m (id0 + i)) else m (id0 + i)) = _
    rw [if_pos (by omega), show id0 + i - id0 = i by omega, h, Option.bind_some, hk]
  have hext : ∀ b l', m b = some l' → m' b = some l' := by
    intro b l' hb
    show (if id0 ≤ b then (match (l[b - id0]?).bind RC.blk with | some _ => some (gbs (b - id0)) | none => m b) else m b) = _
    split
    · rename_i hle
      split
      · rename_i k h
        rcases hq : l[b - id0]? with _ | r
        · rw [hq] at h; cases h
        · have := hfree (b - id0) (lt_of_get hq)
          rw [show id0 + (b - id0) = b by omega, hb] at this
          cases this
      · exact hb
    · exact hb
  refine ⟨m', hext, fun i r hi => ?_, fun p hp => ?_, fun p hp q hq hne l1 l2 h1 h2 => ?_, fun b hb => ?_⟩
  · have h := hr i r hi
    cases r with
    | val u => exact h.1.noMap_up m'
    | own z k e x =>
      obtain ⟨h1, h2⟩ := h
      have hmm := hm'own i _ _ hi rfl
      rcases h2 with ⟨rfl, hv, hg⟩ | ⟨g, c, cs, hg, hv, h3, hcx, h4, h5, h6, h7, h8⟩
      · rw [hv]
        exact .slNil _ _ _ _ (by rw [hmm, hg]) (fun k hk => by cases hk)
      · rw [hv]
        exact .sl _ _ _ _ _ _ g cs.size _ _ (by rw [hmm, hg]) (.inl rfl) h3 (fun k hk => by cases hk) (fun _ => by rw [h7]; omega) hcx
    | optr e x =>
      obtain ⟨g, cs, hg, hv, _⟩ := h
      have hmm := hm'own i _ _ hi rfl
      rw [hv]
      exact .ptr _ _ _ g cs.size (by rw [hmm, hg])
  · obtain ⟨i, r, k, h1, hk, rfl⟩ := outAll_blk l id0 p hp
    have hmm := hm'own i r k h1 hk
    have h := hr i r h1
    cases r with
    | val u => cases hk
    | own z n e x =>
      cases hk
      obtain ⟨r1, r2⟩ := h
      rcases r2 with ⟨rfl, hv, hg⟩ | ⟨g, c, cs, hg, hv, h3, hcx, h4, h5, h6, h7, h8⟩
      · refine ⟨.inl ⟨by rw [hmm, hg], List.eq_nil_of_length_eq_zero (by rw [r1]; simp), rfl⟩, fun l' hl => ?_⟩
        simp only at hl
        rw [hmm, hg] at hl; cases hl
      · refine ⟨.inr ⟨g, cs.size, cs, by rw [hmm, hg], h5, hown g h4, h6, rfl, (fun h => by cases h), ?_, fun i u hu => (h8 i u hu).noMap_up m'⟩, fun l' hl => ?_⟩
        · show x.vals.length ≤ cs.size
          rw [r1, h7]; exact Nat.mul_le_mul_right _ h3
        · simp only at hl
          rw [hmm, hg] at hl
          cases hl
          exact h4
    | optr e x =>
      cases hk
      obtain ⟨g, cs, hg, hv, h4, h5, h6, h7, h8⟩ := h
      refine ⟨.inr ⟨g, cs.size, cs, by rw [hmm, hg], h5, hown g h4, h6, rfl, fun _ => h7, Nat.le_of_eq h7, fun i u hu => (h8 i u hu).noMap_up m'⟩, fun l' hl => ?_⟩
      simp only at hl
      rw [hmm, hg] at hl
      cases hl
      exact h4
  · obtain ⟨i, r, k, e1, ek, rfl⟩ := outAll_blk l id0 p hp
    obtain ⟨j, r', k', e2, ek', rfl⟩ := outAll_blk l id0 q hq
    simp only at h1 h2 hne
    rw [hm'own i r k e1 ek] at h1
    rw [hm'own j r' k' e2 ek'] at h2
    exact hd i j _ _ (by omega) (Option.some.inj h1) (Option.some.inj h2)
  · have hb' : (if id0 ≤ b then (match (l[b - id0]?).bind RC.blk with | some _ => some (gbs (b - id0)) | none => m b) else m b) ≠ m b := hb
    split at hb'
    · rename_i hle
      split at hb'
      · rename_i k h
        rcases hq : l[b - id0]? with _ | r
        · rw [hq] at h; cases h
        · rw [hq] at h
          refine ⟨_, outAll_own l id0 (b - id0) r k hq h, ?_⟩
          show id0 + (b - id0) = b
          omega
      · exact absurd rfl hb'
    · exact absurd rfl hb'

/-- What a call gives, taken into the caller's memory. -/
theorem SR.results (S : SR A w0 n m F ρ β a w) {F' : Nat → Prop} {w' : World} (hk : Keeps (fun _ => False) w w') (hF : ∀ g, F g → F' g) (hF' : ∀ g, F' g → F g ∨ w.heap.size ≤ g) (hlt : ∀ g, F' g → g < w'.heap.size)
    (id0 : Nat) (l : List RC) (vs : Nat → Value) (gbs : Nat → Option Loc) (hfree : ∀ i, i < l.length → β (id0 + i) = none)
    (hr : ∀ (i : Nat) (r : RC), l[i]? = some r → RCok F' w.heap.size w' r (vs i) (gbs i)) (hd : ∀ i j l l', i ≠ j → gbs i = some l → gbs j = some l' → l.g ≠ l'.g) (hid : ∀ i, i < l.length → w0.lend (id0 + i) = none) :
    ∃ m' : Map, SR A w0 n m' F' ρ (updBs β (outAll id0 l).2) a w' ∧ ∀ (i : Nat) (r : RC), l[i]? = some r → Rep F' w' m' (r.out (id0 + i)).1 (vs i) := by
  obtain ⟨m', e1, e2, e3, e4, e5⟩ := results_map (own := w0.own) (fun g hg => .inl (Nat.le_trans S.keeps.size hg)) m id0 l vs gbs (fun i hi => S.dom _ (hfree i hi)) hr hd
  refine ⟨m', S.add e1 hk hF hF' hlt (fun p hp => ⟨(e3 p hp).1, fun l hl b k l' hb hl' e => ?_⟩) e4 e5 (fun p hp => ?_), e2⟩
  · have h1 := (e3 p hp).2 l hl
    have h2 := (S.old hb hl').1
    omega
  · obtain ⟨i, r, k, h1, _, rfl⟩ := outAll_blk l id0 p hp
    exact hid i (lt_of_get h1)
theorem expo_shut : ∀ (D D' : Nat) (u d : LV), u.shut D' = true → expo β D u = some d → d = u := by
  intro D
  induction D with
  | zero =>
    intro D' u d hs h
    cases u with
    | agg x => cases x <;> simp [expo] at h; exact h.symm
    | _ => first
      | (simp [expo] at h; done)
      | (simp [expo] at h; exact h.symm)
  | succ D ih =>
    intro D' u d hs h
    have hl : ∀ (E' : Nat) (l l' : List LV), l.all (LV.shut E') = true → optMap (expo β D) l = some l' → l' = l := by
      intro E' l l' ha ho
      obtain ⟨h1, h2⟩ := optMap_spec ho
      refine List.ext_getElem? fun i => ?_
      by_cases hi : i < l'.length
      · obtain ⟨y, hy⟩ : ∃ y, l'[i]? = some y := ⟨_, List.getElem?_eq_getElem hi⟩
        obtain ⟨x, hx, hd⟩ := h2 i y hy
        rw [hy, hx, ih E' x y (all_true ha hx) hd]
      · rw [List.getElem?_eq_none (by omega), List.getElem?_eq_none (by omega)]
    cases u with
    | agg x =>
      cases x with
      | flat k l => simp [expo] at h; exact h.symm
      | gen l =>
        cases D' with
        | zero => simp [LV.shut] at hs
        | succ D' =>
          simp only [expo] at h
          rcases hq : optMap (expo β D) l with _ | l'
          · rw [hq] at h; cases h
          · rw [hq] at h; cases h; rw [hl D' l l' (by simpa [LV.shut] using hs) hq]
    | tup l =>
      cases D' with
      | zero => simp [LV.shut] at hs
      | succ D' =>
        simp only [expo] at h
        rcases hq : optMap (expo β D) l with _ | l'
        · rw [hq] at h; cases h
        · rw [hq] at h; cases h; rw [hl D' l l' (by simpa [LV.shut] using hs) hq]
    | iface t u =>
      cases D' with
      | zero => simp [LV.shut] at hs
      | succ D' =>
        simp only [expo] at h
        rcases hq : expo β D u with _ | u'
        · rw [hq] at h; cases h
        · rw [hq] at h; cases h; rw [ih D' u u' (by simpa [LV.shut] using hs) hq]
    | ptr b off => cases D' <;> simp [LV.shut] at hs
    | sl z b off n c => cases D' <;> simp [LV.shut] at hs
    | _ => first
      | (simp [expo] at h; done)
      | (simp [expo] at h; exact h.symm)

theorem RCok.pure {F' : Nat → Prop} {base : Nat} {r : RC} {v : Value} {gb : Option Loc} (h : RCok F' base w r v gb) (hp : r.pure = true) {F : Nat → Prop} (hF : ∀ g, base ≤ g → ¬ F g) : RCok F base w r v gb := by
  cases r with
  | val u => exact ⟨h.1.pure _ _ _ 4 (by simpa [RC.pure] using hp), h.2⟩
  | own z n e x =>
    refine ⟨h.1, ?_⟩
    rcases h.2 with h2 | ⟨g, c, cs, h2, h3, h4, hcx, h5, h6, h7, h8, h9⟩
    · exact .inl h2
    · refine .inr ⟨g, c, cs, h2, h3, h4, hcx, h5, hF g h5, h7, h8, fun i u hu => ?_⟩
      cases x with
      | flat k l =>
        have := h9 i u hu
        obtain ⟨q, rfl⟩ := flat_leaf hu
        exact this.pure _ _ _ 0 rfl
      | gen l => exact (h9 i u hu).pure _ _ _ 4 (all_true (l := l) (by simpa [RC.pure] using hp) hu)
  | optr e x =>
    obtain ⟨g, cs, h2, h3, h5, h6, h7, h8, h9⟩ := h
    refine ⟨g, cs, h2, h3, h5, hF g h5, h7, h8, fun i u hu => ?_⟩
    cases x with
    | flat k l =>
      have := h9 i u hu
      obtain ⟨q, rfl⟩ := flat_leaf hu
      exact this.pure _ _ _ 0 rfl
    | gen l => exact (h9 i u hu).pure _ _ _ 4 (all_true (l := l) (by simpa [RC.pure] using hp) hu)

/-- A call, as its caller sees it. -/
theorem opCall_pre (S : SR A w0 n m F ρ β a w) {f : Nat} {args ds : List LV} {vs : Array Value} {r : LRes} (hsz : vs.size = args.length)
    (hargs : ∀ (i : Nat) (u : LV), args[i]? = some u → Rep F w m u (vs.getD i undef)) (hds : optMap (expo β expoD) args = some ds) (hcall : CallOk P f ds r) (hc : (r.pure || args.all (LV.shut 6)) = true) :
    Calls P f vs w fun e w' => ∃ v F', e = .returned v ∧ Keeps (fun _ => False) w w' ∧ (∀ g, F g → F' g) ∧ (∀ g, F' g → F g ∨ w.heap.size ≤ g) ∧ (∀ g, F' g → g < w'.heap.size) ∧ ResOk F' w.heap.size w' r v := by
  obtain ⟨o1, o2⟩ := optMap_spec hds
  by_cases hshut : args.all (LV.shut 6) = true
  · refine (hcall w F vs (by rw [hsz, o1]) S.flt (fun i d hd => ?_) S.globs).mono ?_
    · obtain ⟨x, hx, hxd⟩ := o2 i d hd
      have hxs := all_true hshut hx
      rw [expo_shut _ _ _ _ hxs hxd]
      exact shut_rep (hargs i x hx) (fun _ h => h) hxs
    · rintro e w' ⟨v, F', rfl, hk, h1, h2, h3⟩
      exact ⟨v, F', rfl, hk, h1, fun g hg => (h2 g hg).2, fun g hg => (h2 g hg).1, h3⟩
  · have hpure : r.pure = true := by
      rcases hp : r.pure with _ | _
      · simp [hp] at hc; exact absurd (by simpa using hc) hshut
      · rfl
    refine (hcall w (FP F β m) vs (by rw [hsz, o1]) (fun g hg => ?_) (fun i d hd => ?_) (S.globs.mono (fun _ h => .inl h) fun _ _ => rfl)).mono ?_
    · rcases hg with hg | ⟨b, k, l, h1, h2, rfl⟩
      · exact S.flt g hg
      · obtain ⟨cs, q1, _⟩ := blk_cells (S.blks b k h1) (g := l.g) (s := l.s) h2
        exact (Array.getElem?_eq_some_iff.1 q1).1
    · obtain ⟨x, hx, hxd⟩ := o2 i d hd
      exact expo_ok S.blks _ _ _ _ (hargs i x hx) hxd
    · rintro e w' ⟨v, F', rfl, hk, h1, h2, h3⟩
      have hnew : ∀ g, w.heap.size ≤ g → ¬ F g := fun g hg hf => by have := S.flt g hf; omega
      refine ⟨v, F, rfl, hk, fun _ h => h, fun g hg => .inl hg, fun g hg => Nat.lt_of_lt_of_le (S.flt g hg) hk.size, ?_⟩
      cases r with
      | one r =>
        obtain ⟨gb, hgb⟩ := h3
        exact ⟨gb, hgb.pure (by simpa [LRes.pure] using hpure) hnew⟩
      | many l =>
        obtain ⟨ws, gbs, e1, e2, e3, e4⟩ := h3
        refine ⟨ws, gbs, e1, e2, fun i r hi => (e3 i r hi).pure ?_ hnew, e4⟩
        have hp : l.all RC.pure = true := hpure
        exact List.all_eq_true.1 hp r (List.mem_of_getElem? hi)

theorem opCall_of {β : Nat → Option Blk} {d f : Nat} {args : List LV} {u : LV} {bs : List (Nat × Blk)} (h : opCall E β d f args = some (u, bs)) :
    ∃ ds r, optMap (expo β expoD) args = some ds ∧ E.orc f ds = some r ∧ (r.pure || args.all (LV.shut 6)) = true ∧ r.out d = some (u, bs) ∧ E.wk f = false := by
  unfold opCall at h
  split at h
  · cases h
  rename_i hw
  split at h
  · rename_i ds hds
    split at h
    · rename_i r hr
      split at h
      · rename_i hc; exact ⟨ds, r, hds, hr, hc, h, hw⟩
      · cases h
    · cases h
  · cases h

theorem opCall_ok (S : SR A w0 n m F ρ β a w) {d f : Nat} {args ds : List LV} {r : LRes} {vs : Array Value} {u : LV} {bs : List (Nat × Blk)} (hsz : vs.size = args.length)
    (hargs : ∀ (i : Nat) (u : LV), args[i]? = some u → Rep F w m u (vs.getD i undef)) (hfree : ∀ k, k < 8 → β (8 * d + k) = none) (hds : optMap (expo β expoD) args = some ds) (hcall : CallOk P f ds r) (hc : (r.pure || args.all (LV.shut 6)) = true) (h : r.out d = some (u, bs)) :
    Calls P f vs w fun e w' => ∃ v m' F', e = .returned v ∧ SR A w0 n m' F' ρ (updBs β bs) a w' ∧ Rep F' w' m' u v := by
  refine (opCall_pre S hsz hargs hds hcall hc).mono ?_
  rintro e w' ⟨v, F', rfl, hk, hF, hF', hlt, hres⟩
  cases r with
  | one r =>
    obtain ⟨gb, hgb⟩ := hres
    obtain ⟨m', h1, h3⟩ := S.results hk hF hF' hlt (8 * d) [r] (fun _ => v) (fun i => if i = 0 then gb else none) (fun i hi => hfree i (by simp at hi; omega)) (fun i r' hi => by
      cases i with
      | zero => simp at hi; subst hi; simpa using hgb
      | succ i => simp at hi) (fun i j l l' hne hi hj => by
        split at hi
        · split at hj
          · omega
          · cases hj
        · cases hi) (fun i hi => w0.free (by simp at hi; omega))
    have hu : (u, bs) = r.out (8 * d) := by simpa [LRes.out] using h.symm
    have hb : (outAll (8 * d) [r]).2 = bs := by simp [outAll, ← hu]
    rw [hb] at h1
    refine ⟨v, m', F', rfl, h1, ?_⟩
    have := h3 0 r rfl
    rw [Nat.add_zero, ← hu] at this
    exact this
  | many l =>
    obtain ⟨ws, gbs, rfl, hws, hrc, hdist⟩ := hres
    simp only [LRes.out] at h
    split at h
    · rename_i hl8
      cases h
      obtain ⟨m', h1, h3⟩ := S.results hk hF hF' hlt (8 * d) l (fun i => ws.getD i undef) gbs (fun i hi => hfree i (by omega)) hrc hdist (fun i hi => w0.free (by omega))
      refine ⟨_, m', F', rfl, h1, ?_⟩
      obtain ⟨p1, p2⟩ := outAll_val l (8 * d)
      refine .tup _ _ _ (by rw [p1, hws]) (fun i u hu => ?_)
      have hi : i < l.length := by rw [← p1]; exact lt_of_get hu
      obtain ⟨r, hr⟩ : ∃ r, l[i]? = some r := ⟨_, List.getElem?_eq_getElem hi⟩
      rw [p2 i r hr] at hu
      cases hu
      exact h3 i r hr
    · cases h
end
end Go.Proofs.YtdeigmjbcbjgeaaGreatDoor

/-
  The machine of plain values: each operation that writes nothing, in the program's walk.
-/
namespace Go.Proofs.YtdeigmjbcbjgeaaGreatDoor
open Go.RowKit

section
variable {P : Program} {E : Env} {A : Nat → Prop} {w0 : Fr} {n : Nat} {m : Map} {F : Nat → Prop} {ρ : Nat → LV} {β : Nat → Option Blk} {a : Act} {w : World}

/-- What is known behind an operation. -/
def VPost (A : Nat → Prop) (w0 : Fr) (n : Nat) (ρ : Nat → LV) (β : Nat → Option Blk) (o : Oper) (u : LV) (bs : List (Nat × Blk)) (a' : Act) (w' : World) : Prop :=
  ∃ m' F', SR A w0 n m' F' (updR n ρ o.dst u) (updBO o.dst β bs) a' w'

theorem wp_value {o : Oper} {v : Value} {w' : World} {K : Act → World → Prop} {Q : Exit → Act → World → Prop} (h : (execOp a.eval o).run P w = .ok (.value v) w') (hK : K (a.put o.dst v) w') : o.wp P a w K Q := by
  unfold Oper.wp
  rw [h]
  exact hK
theorem run_v {s : Sem Value} {v : Value} {w' : World} (h : s.run P w = .ok v w') : (do pure (Next.value (← s)) : Sem Next).run P w = .ok (.value v) w' := by
  simp [h]
theorem fin_val (S : SR A w0 n m F ρ β a w) {o : Oper} {u : LV} {v : Value} {bs : List (Nat × Blk)} {Q : Exit → Act → World → Prop} (hbs : bs = []) (h : (execOp a.eval o).run P w = .ok (.value v) w) (hr : Rep F w m u v) :
    o.wp P a w (VPost A w0 n ρ β o u bs) Q := by
  subst hbs
  refine wp_value h ⟨m, F, ?_⟩
  have : updBO o.dst β [] = β := by unfold updBO; split <;> rfl
  rw [this]
  exact S.put o.dst hr
theorem expo_v {β : Nat → Option Blk} {D : Nat} {u : LV} {x : Value} (h : expo β D u = some (.v x)) : u = .v x := by
  unfold expo at h
  split at h
  case h_1 => cases h; rfl
  all_goals first
    | (cases h; done)
    | (split at h
       · split at h
         · cases h
         · simp at h
         · cases h
       · cases h)
    | (simp at h; done)
theorem outAll_vals : ∀ (l : List Value) (d : Nat), outAll d (l.map fun y => .val (.v y)) = (l.map LV.v, [])
  | [], _ => rfl
  | y :: l, d => by simp only [List.map_cons, outAll, outAll_vals l, RC.out]; rfl
/-- A call of a function that the model stands in for. -/
theorem ext_wp (S : SR A w0 n m F ρ β a w) {o : Oper} {f : Nat} {args : Array Operand} {ts : Array TypeId} {xs ds : List LV} {r : LRes} {u : LV} {bs : List (Nat × Blk)} {d : Nat} {Q : Exit → Act → World → Prop}
    (hop : o.op = .call { callee := .value (.func f), args := args, argTypes := ts }) (hl : xs.length = args.size)
    (hargs : ∀ (i : Nat) (u : LV), xs[i]? = some u → Rep F w m u ((args.map a.eval).getD i undef)) (hds : optMap (expo β expoD) xs = some ds) (hext : Ext P f ds r) (hout : r.out d = some (u, bs)) :
    o.wp P a w (VPost A w0 n ρ β o u bs) Q := by
  obtain ⟨ps, ys, rfl, rfl, hp, hrun⟩ := hext
  obtain ⟨o1, o2⟩ := optMap_spec hds
  have hv : args.map a.eval = ps.toArray := by
    apply Array.ext
    · simp at o1; simp [o1, ← hl]
    · intro i h1 h2
      have hi : i < ps.length := by simpa using h2
      obtain ⟨x, hx, hxd⟩ := o2 i (LV.v ps[i]) (by simp [hi])
      have := hargs i x hx
      rw [expo_v hxd] at this
      generalize hq : (args.map a.eval).getD i undef = q at this
      cases this
      rw [Array.getD_eq_getD_getElem?, Array.getElem?_eq_getElem h1] at hq
      simpa using hq
  simp only [LRes.out, outAll_vals] at hout
  split at hout
  case isFalse => cases hout
  cases hout
  refine fin_val S rfl (v := .tuple ys.toArray) ?_ (.tup _ _ _ (by simp) fun i u hu => ?_)
  · have := hrun w
    rw [← hv] at this
    simp [execOp, hop, resolve, Act.eval, Deferred.ofValue, invoke] at this ⊢
    exact this
  · obtain ⟨y, hy, rfl⟩ := List.mem_map.1 (List.mem_of_getElem? hu)
    rw [List.getElem?_map, Option.map_eq_some_iff] at hu
    obtain ⟨z, hz, e⟩ := hu
    cases e
    simp only [Array.getD_eq_getD_getElem?, List.getElem?_toArray, hz]
    exact .v _ _ (hp _ hy)
theorem keeps_alloc (w : World) (o : Obj) : Keeps (fun _ => False) w (w.alloc o) := (Keeps.refl _ w).alloc o
theorem fin_new (S : SR A w0 n m F ρ β a w) {o : Oper} {u : LV} {v : Value} {bs : List (Nat × Blk)} {Q : Exit → Act → World → Prop} {x : Cont} {cs : Array Value} {e : Nat} (hm : makes o.op = true)
    (hfree : makes o.op = true → ∀ d, o.dst = some d → ∀ k, k < 8 → β (8 * d + k) = none) (hbs : bs = [(8 * o.dst.getD 0, ⟨x, e, false⟩)]) (h : (execOp a.eval o).run P w = .ok (.value v) (w.alloc (.cells cs e)))
    (hx : RepC F w m x cs) (hv : ∀ m' : Map, m' (8 * o.dst.getD 0) = some (some ⟨w.heap.size, cs.size⟩) → Rep F (w.alloc (.cells cs e)) m' u v) : o.wp P a w (VPost A w0 n ρ β o u bs) Q := by
  subst hbs
  refine wp_value h ?_
  rcases hd : o.dst with _ | d
  · refine ⟨m, F, ?_⟩
    rw [hd]
    exact S.world (keeps_alloc _ _)
  · have h0 : m (8 * d) = none := S.dom _ (by have := hfree hm d hd 0 (by omega); simpa using this)
    have hext := Map.add_ext (l := some ⟨w.heap.size, cs.size⟩) h0
    refine ⟨m.add (8 * d) (some ⟨w.heap.size, cs.size⟩), F, ?_⟩
    · have hS := S.add (m' := m.add (8 * d) (some ⟨w.heap.size, cs.size⟩)) (F' := F) (w' := w.alloc (.cells cs e)) (bs := [(8 * d, ⟨x, e, false⟩)]) hext (keeps_alloc _ _) (fun _ h => h) (fun _ h => .inl h)
        (fun g hg => by have := S.flt g hg; rw [World.size_alloc]; omega) (fun p hp => by
          simp at hp
          subst hp
          refine ⟨.inr ⟨w.heap.size, cs.size, cs, Map.add_same _ _ _, fun hf => by have := S.flt _ hf; omega, .inl S.keeps.size, heap_alloc_new w _, rfl, fun _ => hx.1.symm, Nat.le_of_eq hx.1.symm, fun i u hu => ?_⟩, fun l hl => ?_⟩
          · exact (hx.2 i u hu).mono (fun _ h => h) (fun g hg => (keeps_alloc w _).heap (S.flt g hg)) _ hext
          · simp only [Map.add_same, Option.some.injEq] at hl
            subst hl
            exact fun b k l' hb hl' e => by have := (S.old hb hl').1; rw [e] at this; simp only at this; omega) (fun p hp q hq hne => by simp at hp hq; subst hp; subst hq; exact absurd rfl hne) (fun b hb => ⟨_, List.mem_singleton.2 rfl, by
          rcases Classical.em (b = 8 * d) with e | e
          · exact e.symm
          · exact absurd (by simp [Map.add, e]) hb⟩) (fun p hp => by simp at hp; subst hp; exact w0.free (by simp))
      rw [hd] at hv
      have := hS.put o.dst (hv _ (Map.add_same _ _ _))
      rw [hd] at this ⊢
      exact this

theorem opers_rep (hs : ∀ t, Rep F w m (ρ t) (a.tmps.getD t undef)) (hG : GlobOk F w) {l : List Operand} {xs : List LV} (h : optMap (evalO ρ) l = some xs) : xs.length = l.length ∧ ∀ (i : Nat) (u : LV) (p : Operand), xs[i]? = some u → l[i]? = some p → Rep F w m u (a.eval p) := by
  obtain ⟨h1, h2⟩ := optMap_spec h
  refine ⟨h1, fun i u p hu hp => ?_⟩
  obtain ⟨q, hq, he⟩ := h2 i u hu
  rw [hp] at hq
  cases hq
  exact evalO_ok hs hG he

theorem with1_of {xs : List LV} {f : LV → Out} {r : LV × List (Nat × Blk)} (h : with1 xs f = some r) : ∃ x, xs = [x] ∧ f x = some r := by
  unfold with1 at h
  split at h
  · exact ⟨_, rfl, h⟩
  · cases h
theorem with2_of {xs : List LV} {f : LV → LV → Out} {r : LV × List (Nat × Blk)} (h : with2 xs f = some r) : ∃ x y, xs = [x, y] ∧ f x y = some r := by
  unfold with2 at h
  split at h
  · exact ⟨_, _, rfl, h⟩
  · cases h

theorem vopX_ok (hE : EnvOk P E) (S : SR A w0 n m F ρ β a w) {o : Oper} {u : LV} {bs : List (Nat × Blk)} {Q : Exit → Act → World → Prop}
    (hfree : makes o.op = true → ∀ d, o.dst = some d → ∀ k, k < 8 → β (8 * d + k) = none) {xs : List LV} (hxs : optMap (evalO ρ) (opers o.op) = some xs) (h : vopX E β (o.dst.getD 0) o.op xs = some (u, bs)) :
    o.wp P a w (VPost A w0 n ρ β o u bs) Q := by
  obtain ⟨hl, hr⟩ := opers_rep S.slots S.globs hxs
  have hB := S.blks
  cases hop : o.op with
  | move x =>
    rw [hop] at h hr
    obtain ⟨x', rfl, he⟩ := with1_of h
    cases he
    exact fin_val S rfl (v := a.eval x) (by simp [execOp, hop]) (hr 0 _ x rfl rfl)
  | assign x =>
    rw [hop] at h hr
    obtain ⟨x', rfl, he⟩ := with1_of h
    cases he
    exact fin_val S rfl (v := a.eval x) (by simp [execOp, hop]) (hr 0 _ x rfl rfl)
  | alloc e =>
    rw [hop] at h
    obtain ⟨x, cs, rfl, rfl, hx, hrun⟩ := opAlloc_ok hE.T (F := F) (w := w) (m := m) h
    exact fin_new S (by rw [hop]; rfl) hfree rfl (by simp only [execOp, hop]; exact run_v hrun) hx (fun m' hm' => .ptr _ _ _ _ _ hm')
  | box e x =>
    rw [hop] at h hr
    obtain ⟨x', rfl, he⟩ := with1_of h
    obtain ⟨y, cs, rfl, rfl, hx, hrun⟩ := opBox_ok (P := P) (hr 0 _ x rfl rfl) he
    exact fin_new S (by rw [hop]; rfl) hfree rfl (by simp only [execOp, hop]; exact run_v hrun) hx (fun m' hm' => .ptr _ _ _ _ _ hm')
  | build t ps =>
    rw [hop] at h hr hl
    obtain ⟨hb, v', hrun, hv⟩ := opBuild_ok hE.T (a := a) (ps := ps) (by simpa [opers] using hl) (fun i u p hu hp => hr i u p.2 hu (by simp [opers, hp])) h
    exact fin_val S hb (by simp only [execOp, hop]; exact run_v hrun) hv
  | buildSlice t len ps =>
    rw [hop] at h hr hl
    obtain ⟨x, cs, e, s, rfl, rfl, hlx, hx, hrun⟩ := opBuildSlice_ok hE.T (a := a) (ps := ps) (by simpa [opers] using hl) (fun i u p hu hp => hr i u p.2 hu (by simp [opers, hp])) h
    exact fin_new S (by rw [hop]; rfl) hfree rfl (by simp only [execOp, hop]; exact run_v hrun) hx (fun m' hm' => .sl _ _ _ _ _ _ _ _ _ _ hm' (.inl rfl) (Nat.le_refl _) (fun k hk => by cases hk; rfl) (fun hc => by cases hc) hlx)
  | load t x =>
    rw [hop] at h hr
    obtain ⟨x', rfl, he⟩ := with1_of h
    obtain ⟨hb, v', hrun, hv⟩ := opLoad_ok hE.T hB (hr 0 _ x rfl rfl) he
    exact fin_val S hb (by simp only [execOp, hop]; exact run_v hrun) hv
  | nilCheck x =>
    rw [hop] at h hr
    obtain ⟨x', rfl, he⟩ := with1_of h
    obtain ⟨hb, ⟨ad, hv⟩, hrep⟩ := opNil_ok (hr 0 _ x rfl rfl) he
    exact fin_val S hb (v := a.eval x) (by simp only [execOp, hop, hv]; rfl) hrep
  | sliceToArrayPointer t x =>
    rw [hop] at h hr
    obtain ⟨x', rfl, he⟩ := with1_of h
    obtain ⟨hb, v', hrun, hv⟩ := opToArr_ok hE.T (hr 0 _ x rfl rfl) he
    exact fin_val S hb (by simp only [execOp, hop]; exact run_v hrun) hv
  | binOp op t x y ty =>
    rw [hop] at h hr
    obtain ⟨x', y', rfl, he⟩ := with2_of h
    obtain ⟨hb, v', hrun, hv⟩ := opBin_ok hE.T (x := x) (y := y) (hr 0 _ x rfl rfl) (hr 1 _ y rfl rfl) he
    exact fin_val S hb (by simp only [execOp, hop]; exact run_v hrun) hv
  | unOp op t x =>
    rw [hop] at h hr
    obtain ⟨x', rfl, he⟩ := with1_of h
    obtain ⟨he, hb⟩ := just_ok he
    obtain ⟨v', hrun, hv⟩ := unV_ok (P := P) (hr 0 _ x rfl rfl) he
    exact fin_val S hb (by simp only [execOp, hop]; exact run_v hrun) hv
  | convert src dst x =>
    rw [hop] at h hr
    obtain ⟨x', rfl, he⟩ := with1_of h
    obtain ⟨he, hb⟩ := just_ok he
    obtain ⟨v', hrun, hv⟩ := convV_ok hE.T hB (hr 0 _ x rfl rfl) he
    exact fin_val S hb (by simp only [execOp, hop]; exact run_v hrun) hv
  | makeSlice t l c =>
    rw [hop] at h hr
    obtain ⟨x', y', rfl, he⟩ := with2_of h
    obtain ⟨x, cs, e, s, k, q, rfl, rfl, hkq, hqx, hx, hrun⟩ := opMakeSlice_ok hE.T (hr 0 _ l rfl rfl) (hr 1 _ c rfl rfl) he
    exact fin_new S (by rw [hop]; rfl) hfree rfl (by simp only [execOp, hop]; exact run_v hrun) hx (fun m' hm' => .sl _ _ _ _ _ _ _ _ _ _ hm' (.inl rfl) hkq (fun k hk => by cases hk; rfl) (fun hc => by cases hc) hqx)
  | slice t x lo hi mx =>
    rw [hop] at h hr hl
    simp only [vopX] at h
    split at h
    · rename_i x' is
      obtain ⟨hb, v', hrun, hv⟩ := opSlice_ok hE.T (a := a) (lo := lo) (hi := hi) (mx := mx) (hr 0 _ x rfl rfl) (by simpa [opers] using hl) (fun i u p hu hp => hr (i + 1) u p (by simpa using hu) (by simpa [opers] using hp)) h
      exact fin_val S hb (by simp only [execOp, hop]; exact run_v hrun) hv
    · cases h
  | fieldAddr s x f =>
    rw [hop] at h hr
    obtain ⟨x', rfl, he⟩ := with1_of h
    obtain ⟨hb, v', hrun, hv⟩ := opFieldAddr_ok hE.T (hr 0 _ x rfl rfl) he
    exact fin_val S hb (by simp only [execOp, hop]; exact run_v hrun) hv
  | field s x f =>
    rw [hop] at h hr
    obtain ⟨x', rfl, he⟩ := with1_of h
    obtain ⟨hb, v', hrun, hv⟩ := opField_ok hE.T (hr 0 _ x rfl rfl) he
    exact fin_val S hb (by simp only [execOp, hop]; exact run_v hrun) hv
  | indexAddr t x i =>
    rw [hop] at h hr
    obtain ⟨x', y', rfl, he⟩ := with2_of h
    obtain ⟨hb, v', hrun, hv⟩ := opIndexAddr_ok hE.T (hr 0 _ x rfl rfl) (hr 1 _ i rfl rfl) he
    exact fin_val S hb (by simp only [execOp, hop]; exact run_v hrun) hv
  | index t x i =>
    rw [hop] at h hr
    obtain ⟨x', y', rfl, he⟩ := with2_of h
    obtain ⟨hb, v', hrun, hv⟩ := opIndex_ok hE.T (hr 0 _ x rfl rfl) (hr 1 _ i rfl rfl) he
    exact fin_val S hb (by simp only [execOp, hop]; exact run_v hrun) hv
  | extract x i =>
    rw [hop] at h hr
    obtain ⟨x', rfl, he⟩ := with1_of h
    obtain ⟨hb, v', hrun, hv⟩ := opExtract_ok (P := P) (hr 0 _ x rfl rfl) he
    exact fin_val S hb (by simp only [execOp, hop]; exact run_v hrun) hv
  | call c =>
    rw [hop] at h hr hl
    obtain ⟨callee, args, ts⟩ := c
    simp only [vopX, callX] at h
    split at h
    · rename_i f
      have hop' : o.op = .call { callee := .value (.func f), args := args, argTypes := ts } := hop
      have hl' : xs.tail.length = args.size := by simp [opers] at hl; simp [hl]
      have hargs : ∀ (i : Nat) (u : LV), xs.tail[i]? = some u → Rep F w m u ((args.map a.eval).getD i undef) := by
        intro i u hu
        have hi : i < args.size := by rw [← hl']; exact lt_of_get hu
        have := hr (i + 1) u args[i] (by simpa [List.getElem?_tail] using hu) (by simp [opers, hi])
        simpa [Array.getD_eq_getD_getElem?, hi] using this
      obtain ⟨ds, r, hds, hor, hc, hout, _⟩ := opCall_of h
      rcases hE.orc f ds r hor with ⟨⟨fn, q1, q2, q3⟩, hcall⟩ | hext
      case inr => exact ext_wp S hop' hl' hargs hds hext hout
      have hrun : (execOp a.eval o).run P w = .ok (.enter f (args.map a.eval)) w := by
        have hbn : ¬ fn.body = none := fun hb => by simp [hb] at q3
        simp [execOp, hop', resolve, Act.eval, Deferred.ofValue, invoke, callFunc, q1, q2, hbn]
      unfold Oper.wp
      rw [hrun, Oper.upon_enter]
      rcases hd : o.dst with _ | d
      · refine (opCall_pre S (by simp [hl']) hargs hds hcall hc).mono ?_
        rintro e w' ⟨v, F', rfl, hk, _⟩
        refine ⟨m, F, ?_⟩
        rw [hd]
        exact S.world hk
      · rw [hd] at h
        have hout' : r.out d = some (u, bs) := by rw [hd] at hout; exact hout
        refine (opCall_ok S (d := d) (by simp [hl']) hargs (hfree (by rw [hop']; rfl) d hd) hds hcall hc hout').mono ?_
        rintro e w' ⟨v, m', F', rfl, h1, h2⟩
        refine ⟨m', F', ?_⟩
        have := h1.put o.dst h2
        rw [hd] at this ⊢
        exact this
    · rename_i hop2
      split at h
      · rename_i x t hts
        have hts' : ts = #[t] := by rw [← Array.toArray_toList (xs := ts), hts]
        subst hts'
        have hop' : o.op = .call { callee := .builtin .len, args := args, argTypes := #[t] } := hop
        have hl1 : args.size = 1 := by simpa [opers] using hl.symm
        have hr0 := hr 0 x args[0] rfl (by simp [opers, hl1])
        obtain ⟨hb, v', hrun, hv⟩ := opLen_ok hE.T (P := P) (ty := o.type) hr0 h
        refine fin_val S hb ?_ hv
        have hargs : args.map a.eval = #[a.eval args[0]] := by
          apply Array.ext
          · simp [hl1]
          · intro i h1 h2
            have : i = 0 := by simp at h2; exact h2
            subst this
            simp
        simp only [execOp, hop', resolve, invoke, builtin, hargs, Sem.run_bind, Sem.run_pure, Result.andThen_ok, hrun]
      · cases h
    · unfold opMin at h
      split at h
      · rename_i k x k' y
        cases h
        have hop' : o.op = .call { callee := .builtin .min, args := args, argTypes := ts } := hop
        have hl1 : args.size = 2 := by simpa [opers] using hl.symm
        have hr0 := hr 0 _ args[0] rfl (by simp [opers, hl1])
        have hr1 := hr 1 _ args[1] rfl (by simp [opers, hl1])
        have hargs : args.map a.eval = #[a.eval args[0], a.eval args[1]] := by
          apply Array.ext
          · simp [hl1]
          · intro i h1 h2
            have : i = 0 ∨ i = 1 := by simp at h2; omega
            rcases this with rfl | rfl <;> simp
        generalize a.eval args[0] = v0 at hr0 hargs
        generalize a.eval args[1] = v1 at hr1 hargs
        cases hr0
        cases hr1
        exact fin_val S rfl (v := .int k (if y < x then y else x)) (by simp only [execOp, hop', resolve, invoke, builtin, hargs, Sem.run_bind, Sem.run_pure, Result.andThen_ok, run_min_int2]) (.v _ _ rfl)
      · cases h
    · cases h
  | makeFunc fn first caps =>
    rw [hop] at h hl hr
    cases fn with
    | func f =>
      simp only [vopX] at h
      split at h
      case isFalse => cases h
      rename_i hf
      cases h
      have hfe : first = #[] := by simpa using hf
      subst hfe
      have ho : opers (.makeFunc (.func f) #[] caps) = caps.toList := by simp [opers, Op.operands]
      rw [ho] at hl hr
      have hl' : xs.length = caps.size := by simpa using hl
      refine fin_val S rfl (v := .func (.func f) #[] (caps.map a.eval)) (by simp [execOp, hop, Instr.makeFunc]) (.fn _ _ _ _ (by simp [hl']) fun i u hu => ?_)
      have hi : i < caps.size := by rw [← hl']; exact lt_of_get hu
      have := hr i u caps[i] hu (by simp [hi])
      simpa [Array.getD_eq_getD_getElem?, hi] using this
    | _ => simp [vopX] at h
  | _ => rw [hop] at h; simp [vopX] at h

theorem vop_ok (hE : EnvOk P E) (S : SR A w0 n m F ρ β a w) {o : Oper} {u : LV} {bs : List (Nat × Blk)} {Q : Exit → Act → World → Prop}
    (hfree : makes o.op = true → ∀ d, o.dst = some d → ∀ k, k < 8 → β (8 * d + k) = none) (h : vop E ρ β (o.dst.getD 0) o.op = some (u, bs)) : o.wp P a w (VPost A w0 n ρ β o u bs) Q := by
  unfold vop at h
  split at h
  · rename_i c x y hop
    split at h
    · rename_i hc
      rcases hq : evalO ρ x with _ | u'
      · rw [hq] at h; cases h
      · rw [hq] at h
        cases h
        have hcv := evalO_ok S.slots S.globs hc
        refine fin_val S rfl (v := a.eval x) ?_ (evalO_ok S.slots S.globs hq)
        generalize hce : a.eval c = vc at hcv
        cases hcv
        simp [execOp, hop, hce, asBool]
    · rename_i hc
      rcases hq : evalO ρ y with _ | u'
      · rw [hq] at h; cases h
      · rw [hq] at h
        cases h
        have hcv := evalO_ok S.slots S.globs hc
        refine fin_val S rfl (v := a.eval y) ?_ (evalO_ok S.slots S.globs hq)
        generalize hce : a.eval c = vc at hcv
        cases hcv
        simp [execOp, hop, hce, asBool]
    · cases h
  · split at h
    · rename_i xs hxs
      exact vopX_ok hE S hfree hxs h
    · cases h
end
end Go.Proofs.YtdeigmjbcbjgeaaGreatDoor
