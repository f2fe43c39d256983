/-
  Rows of ints cut, and new ones; append of several at once.
-/
import Derived.Test.YtkennahakodfnaaBase
import Derived.Maps.AppendAt
namespace Go.Proofs.Ytkennahakodfnaa
open Go.RowKit

def wordsOf (k : IntKind) (l : List Int) : Array Value := (l.map (Value.int k)).toArray
theorem wordsOf_get (k : IntKind) (l : List Int) (i : Nat) (h : i < l.length) : (wordsOf k l)[i]? = some (.int k (l.getD i 0)) := by
  simp [wordsOf, List.getElem?_eq_getElem h, List.getD_eq_getElem?_getD]
theorem wordsOf_size (k : IntKind) (l : List Int) : (wordsOf k l).size = l.length := by simp [wordsOf]
theorem wordsOf_set (k : IntKind) (l : List Int) (i : Nat) (x : Int) : (wordsOf k l).setIfInBounds i (.int k x) = wordsOf k (l.set i x) := by
  apply Array.ext'
  simp [wordsOf, List.map_set]

/-- A row of the call's own, looked at: where it lies, and that its capacity holds it. -/
theorem OwnI.look {k : IntKind} {t base : Nat} {w : World} {v : Value} {l : List Int} (h : OwnI k t base w v l) (hl : 0 < l.length) :
    ∃ g c, v = .slice (some ⟨g, 0, none⟩) l.length c ∧ base ≤ g ∧ g < w.heap.size ∧ l.length ≤ c ∧ c ≤ 9223372036854775807 ∧ ∀ j, j < l.length → w.cell? ⟨g, j, none⟩ = some (.int k (l.getD j 0)) := by
  obtain ⟨h1, h2, h3⟩ := h
  rcases h1.2 with ⟨_, hn⟩ | ⟨g, cap, cur, rfl, hb, hg, hnc, hcm, hcs, htake⟩
  · omega
  · refine ⟨g, cap, rfl, hb, (Array.getElem?_eq_some_iff.1 hg).1, hnc, by simpa [maxLen] using hcm, fun j hj => ?_⟩
    have hx := h1.cells (g := g) rfl j (.int k (l.getD j 0)) (by
      rw [List.getElem?_map, List.getElem?_eq_getElem hj, List.getD_eq_getElem?_getD, List.getElem?_eq_getElem hj]; rfl)
    rw [add_block_none, Nat.zero_add] at hx
    exact hx

theorem OwnI.free {k : IntKind} {t base : Nat} {w : World} {l : List Int} {g n c : Nat} (h : OwnI k t base w (.slice (some ⟨g, 0, none⟩) n c) l) (j : Nat) : w.frozen? ⟨g, j, none⟩ = false := by
  rcases h.1.2 with ⟨h1, _⟩ | ⟨g', cap, cur, h1, _, hg, _⟩
  · cases h1
  · injection h1 with h1 _ _
    injection h1 with h1
    injection h1 with h1
    subst h1
    exact frozen_of_row w g j cur t hg

/-- A row one of whose cells is stored into. -/
theorem RowAt.set {F : Nat → Prop} {k : IntKind} {w : World} {g : Nat} {l : List Int} (h : ∀ x, x ∈ l → (Lit.int k x).wf = true) (hg : g < w.heap.size) (hf : F g) (hm : l.length ≤ 9223372036854775807)
    (hc : ∀ j, j < l.length → w.cell? ⟨g, j, none⟩ = some (.int k (l.getD j 0))) (i : Nat) (y : Int) (hy : (Lit.int k y).wf = true) (hi : i < l.length) :
    RowAt F k (w.setCell ⟨g, i, none⟩ (.int k y)) (some ⟨g, 0, none⟩) (l.set i y) := by
  refine ⟨by simpa using hm, fun x hx => ?_, .inr ⟨g, 0, rfl, hf, by simpa [World.setCell] using hg, fun j hj => ?_⟩⟩
  · rcases List.mem_or_eq_of_mem_set hx with hx | rfl
    · exact h x hx
    · exact hy
  · have hj' : j < l.length := by simpa using hj
    rw [Nat.zero_add]
    by_cases hij : i = j
    · subst hij
      obtain ⟨v, hv⟩ : ∃ v, w.cell? ⟨g, i, none⟩ = some v := ⟨_, hc i hi⟩
      rw [World.cell?_setCell_same w ⟨g, i, none⟩ (.int k y) hv]
      simp [List.getD_eq_getElem?_getD, hi]
    · rw [World.cell?_setCell_other w ⟨g, i, none⟩ ⟨g, j, none⟩ _ (fun e => hij (by injection e)), hc j hj']
      simp [List.getD_eq_getElem?_getD, hij]

theorem OwnI.opened {k : IntKind} {t base : Nat} {w : World} {v : Value} {l : List Int} (h : OwnI k t base w v l) : ∃ a c, v = .slice a l.length c ∧ CapOk a c l.length ∧ RowAt (base ≤ ·) k w a l := by
  obtain ⟨a, c, rfl, hr⟩ := h.row
  refine ⟨a, c, rfl, ⟨fun ha => ?_, ?_⟩, hr⟩
  · subst ha
    rcases h.1.2 with ⟨h1, _⟩ | ⟨g, cap, cur, h1, _⟩
    · injection h1
    · injection h1 with h1; cases h1
  · rcases h.1.2 with ⟨_, hn⟩ | ⟨g, cap, cur, h1, _, _, hnc, _⟩
    · omega
    · injection h1 with _ _ h1
      omega

theorem getD_drop_take (l : List Int) (i n j : Nat) (hj : j < n) : ((l.drop i).take n).getD j 0 = l.getD (i + j) 0 := by
  simp [List.getD_eq_getElem?_getD, hj, List.getElem?_drop]

/-- A cut of a row. -/
theorem RowAt.cut {F : Nat → Prop} {k : IntKind} {w : World} {g off : Nat} {l : List Int} (h : ∀ x, x ∈ l → (Lit.int k x).wf = true) (hg : g < w.heap.size) (hf : F g)
    (hc : ∀ j, j < l.length → w.cell? ⟨g, off + j, none⟩ = some (.int k (l.getD j 0))) (i n : Nat) (hn : i + n ≤ l.length) (hm : n ≤ 9223372036854775807) :
    RowAt F k w (some ⟨g, off + i, none⟩) ((l.drop i).take n) := by
  refine ⟨by simp; omega, fun x hx => h x (List.mem_of_mem_drop (List.mem_of_mem_take hx)), .inr ⟨g, off + i, rfl, hf, hg, fun j hj => ?_⟩⟩
  have hj' : j < n := by simp at hj; omega
  rw [getD_drop_take l i n j hj', Nat.add_assoc]
  exact hc (i + j) (by omega)

/-- A row that the statement has just laid. -/
theorem RowAt.new (k : IntKind) (w : World) (e : TypeId) (l : List Int) (h : ∀ x, x ∈ l → (Lit.int k x).wf = true) (hm : l.length ≤ 9223372036854775807) (fr : Nat × Nat := (0, 0)) :
    RowAt (fun _ => True) k (w.alloc (.cells (wordsOf k l) e fr)) (some ⟨w.heap.size, 0, none⟩) l := by
  refine ⟨hm, h, .inr ⟨w.heap.size, 0, rfl, trivial, by rw [World.size_alloc]; omega, fun j hj => ?_⟩⟩
  rw [Nat.zero_add, cell_of_row (w.alloc (.cells (wordsOf k l) e fr)) w.heap.size j _ e fr (heap_alloc_new w _), wordsOf_get k l j hj]

/-- append(v, x, y, ..): several ints more in a row of the call's own. -/
theorem wpList_pushes {P : Program} {w2 : World} {ops : Array Oper} {rest : List Oper} {o : Oper} {a : Act} {Q : Exit → Act → World → Prop} (hgd : o.guard = none) (s x : Operand) (t : TypeId)
    (ho : o.op = .call { callee := .builtin .append, args := #[s, x], argTypes := #[t, t] }) (k : IntKind)
    (base : Nat) (e : TypeId) (i : TypeInfo) (bytes : Nat) (ht : P.underlying t = some (.slice e)) (hi : P.info? e = some i) (hz : i.zero = some (.int k 0))
    (hsize : i.size = 1) (hby : i.bytes = bytes) (v : Value) (l : List Int) (m : List Int) (hs : a.eval s = v) (hown : OwnI k e base w2 v l)
    (hx : a.eval x = .slice (some ⟨w2.heap.size, 0, none⟩) m.length m.length) (hwf : ∀ y, y ∈ m → (Lit.int k y).wf = true) (hlen : l.length + m.length ≤ 17592186044416) (hb8 : bytes ≤ 8) (hbase : base ≤ w2.heap.size) (cs : Array Value) (hcs : cs = wordsOf k m)
    (h : ∀ v' w', OwnI k e base w' v' (l ++ m) → Keeps (fun g => v.ownBlock = some g) w2 w' → wpList P ops Q rest (a.put o.dst v') w') :
    wpList P ops Q (o :: rest) a (w2.alloc (.cells cs e)) := by
  subst hcs
  exact wpList_pour hgd s x t ho k base e i bytes ht hi hz hsize hby v l hs (hown.keeps ((Keeps.refl (fun _ => False) w2).alloc _) (fun _ _ h => h)) (some ⟨w2.heap.size, 0, none⟩) m.length m hx (fun h => by cases h) (fun _ => True)
    (RowAt.new k w2 e m hwf (by omega)) hlen hb8 (by rw [World.size_alloc]; omega) fun v' w' h1 h2 => h v' w' h1 (((Keeps.refl (fun g => v.ownBlock = some g) w2).alloc _).trans h2)

theorem OwnI.lower {k : IntKind} {t base base' : Nat} {w : World} {v : Value} {l : List Int} (h : OwnI k t base w v l) (hb : base' ≤ base) : OwnI k t base' w v l := by
  obtain ⟨⟨h1, h2⟩, h3⟩ := h
  refine ⟨⟨h1, ?_⟩, h3⟩
  rcases h2 with h2 | ⟨g, cap, cur, hv, hg, rest⟩
  · exact .inl h2
  · exact .inr ⟨g, cap, cur, hv, Nat.le_trans hb hg, rest⟩

/-- append(v, m...), and in which block the row then lies. -/
theorem wpList_pour_at {P : Program} {w : World} {ops : Array Oper} {rest : List Oper} {o : Oper} {a : Act} {Q : Exit → Act → World → Prop} (hgd : o.guard = none) (s x : Operand) (t : TypeId)
    (ho : o.op = .call { callee := .builtin .append, args := #[s, x], argTypes := #[t, t] }) (k : IntKind)
    (base : Nat) (e : TypeId) (i : TypeInfo) (bytes : Nat) (ht : P.underlying t = some (.slice e)) (hi : P.info? e = some i) (hz : i.zero = some (.int k 0))
    (hsize : i.size = 1) (hby : i.bytes = bytes) (v : Value) (l : List Int) (hs : a.eval s = v) (hown : OwnI k e base w v l)
    (ad : Addr) (c : Nat) (m : List Int) (hx : a.eval x = .slice (some ad) m.length c) (F : Nat → Prop) (hrow : RowAt F k w (some ad) m)
    (hlen : l.length + m.length ≤ 17592186044416) (hb8 : bytes ≤ 8) (hbase : base ≤ w.heap.size)
    (h : ∀ v' w', OwnI k e base w' v' (l ++ m) → Keeps (fun g => v.ownBlock = some g) w w' → (v'.ownBlock = v.ownBlock ∨ v'.ownBlock = some w.heap.size) → wpList P ops Q rest (a.put o.dst v') w') :
    wpList P ops Q (o :: rest) a w := by
  have hb : (l.length + m.length) * bytes ≤ 140737488355328 := Nat.le_trans (Nat.mul_le_mul_left _ hb8) (by omega)
  refine wpList_append_own_at _ hgd s x t ho base e i (.int k 0) 1 bytes ht hi hz hsize hby rfl (by decide) v l.length (l.map (Value.int k)) hs hown.1 ad m.length c (m.map (Value.int k)) hx (by simp) ?_ ?_
    (by unfold maxLen; omega) hb hbase ?_
  · intro j u hj
    rcases hrow.2.2 with h0 | ⟨g, off, h0, _, _, hcell⟩
    · subst h0; simp at hj
    · injection h0 with h0
      subst h0
      rw [add_block_none]
      rw [List.getElem?_map] at hj
      rcases hq : m[j]? with _ | y
      · simp [hq] at hj
      · simp [hq] at hj
        have hlt : j < m.length := (List.getElem?_eq_some_iff.1 hq).1
        rw [hcell j hlt, ← hj]
        simp [List.getD_eq_getElem?_getD, hq]
  · intro u hu
    obtain ⟨y, _, rfl⟩ := List.mem_map.1 hu
    rfl
  · intro v' w' h1 h2 _ h4
    refine h v' w' ⟨by simpa using h1, fun z hz => ?_, by simp; omega⟩ (Keeps.grown (Keeps.refl _ w) h2 (fun g hg _ => hg)) h4
    rcases List.mem_append.1 hz with hz | hz
    · exact hown.2.1 z hz
    · exact hrow.2.1 z hz

/-- append(v, y), and in which block the row then lies. -/
theorem wpList_push_at {P : Program} {w2 : World} {ops : Array Oper} {rest : List Oper} {o : Oper} {a : Act} {Q : Exit → Act → World → Prop} (hgd : o.guard = none) (s x : Operand) (t : TypeId)
    (ho : o.op = .call { callee := .builtin .append, args := #[s, x], argTypes := #[t, t] }) (k : IntKind)
    (base : Nat) (e : TypeId) (i : TypeInfo) (bytes : Nat) (ht : P.underlying t = some (.slice e)) (hi : P.info? e = some i) (hz : i.zero = some (.int k 0))
    (hsize : i.size = 1) (hby : i.bytes = bytes) (v : Value) (l : List Int) (y : Int) (hs : a.eval s = v) (hown : OwnI k e base w2 v l)
    (hx : a.eval x = .slice (some ⟨w2.heap.size, 0, none⟩) 1 1) (hwf : (Lit.int k y).wf = true) (hlen : l.length + 1 ≤ 17592186044416) (hb8 : bytes ≤ 8) (hbase : base ≤ w2.heap.size)
    (h : ∀ v' w', OwnI k e base w' v' (l ++ [y]) → Keeps (fun g => v.ownBlock = some g) w2 w' → (v'.ownBlock = v.ownBlock ∨ ∃ g, v'.ownBlock = some g ∧ w2.heap.size ≤ g) → wpList P ops Q rest (a.put o.dst v') w') :
    wpList P ops Q (o :: rest) a (w2.alloc (.cells #[.int k y] e)) :=
  wpList_pour_at hgd s x t ho k base e i bytes ht hi hz hsize hby v l hs (hown.keeps ((Keeps.refl (fun _ => False) w2).alloc _) (fun _ _ h => h)) ⟨w2.heap.size, 0, none⟩ 1 [y] hx (fun _ => True)
    (RowAt.new k w2 e [y] (fun z hz => by simp at hz; subst hz; exact hwf) (by simp)) (by simpa using hlen) hb8 (by rw [World.size_alloc]; omega)
    fun v' w' h1 h2 h3 => h v' w' h1 (((Keeps.refl (fun g => v.ownBlock = some g) w2).alloc _).trans h2) (h3.imp id fun h => ⟨_, h, by rw [World.size_alloc]; omega⟩)
end Go.Proofs.Ytkennahakodfnaa
