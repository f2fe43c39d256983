import Derived.WalkKit
import Derived.WalkSpells
import Derived.WalkLawsBesides
import Derived.Deep.Draws
import Derived.Laws.AppendOwnNone
import Derived.Laws.Tables
namespace Go.Proofs.YtdeigmjbcbjgeaaGreatDoor
open Go.RowKit
theorem hid {p : Prop} (h : p) : Hid p := h
theorem emod_of_tmod_neg (v n : Int) (hn : 1 ≤ n) (h : v.tmod n < 0) : v.tmod n + n = v % n := by
 have h1 := Int.emod_def v n
 have h2 := Int.tmod_def v n
 rcases Int.lt_or_le v 0 with hv | hv
 ·have hd : v.tmod n = -((-v) % n) := by
   have := Int.neg_tmod (-v) n
   rw [Int.neg_neg] at this
   rw [this, Int.tmod_eq_emod_of_nonneg (by omega)]
  have e1 := Int.emod_nonneg (-v) (show n ≠ 0 by omega)
  have e2 := Int.emod_lt_of_pos (-v) (show 0 < n by omega)
  have e3 : (v % n) = n - (-v) % n := by
   have : v = (n - (-v) % n) + n * (-((-v) / n) - 1) := by
    have := Int.mul_ediv_add_emod (-v) n
    rw [Int.mul_sub, Int.mul_neg]; omega
   rw [this, Int.add_mul_emod_self_left]
   rw [Int.emod_eq_of_lt (by omega) (by omega)]
   have := Int.mul_ediv_add_emod (-v) n
   congr 1
   rw [Int.neg_add, Int.mul_sub, Int.mul_neg]
   rw [show -(n - -v % n) + -(-(n * (-v / n)) - n * 1) = -v by omega]
  omega
 ·rw [Int.tmod_eq_emod_of_nonneg hv] at h
  have := Int.emod_nonneg v (show n ≠ 0 by omega)
  omega
theorem emod_of_tmod_nonneg (v n : Int) (hn : 1 ≤ n) (h : ¬ v.tmod n < 0) : v.tmod n = v % n := by
 rcases Int.lt_or_le v 0 with hv | hv
 ·have hd : v.tmod n = -((-v) % n) := by
   have := Int.neg_tmod (-v) n
   rw [Int.neg_neg] at this
   rw [this, Int.tmod_eq_emod_of_nonneg (by omega)]
  have e1 := Int.emod_nonneg (-v) (show n ≠ 0 by omega)
  have e0 : (-v) % n = 0 := by omega
  have : v % n = 0 := by
   have hdvd : n ∣ -v := Int.dvd_of_emod_eq_zero e0
   exact Int.emod_eq_zero_of_dvd ((Int.dvd_neg).1 hdvd)
  omega
 ·exact Int.tmod_eq_emod_of_nonneg hv
theorem tmod_bounds (v n : Int) (hn : 1 ≤ n) : -n ≤ v.tmod n ∧ v.tmod n < n := by
 by_cases h : v.tmod n < 0
 ·have := emod_of_tmod_neg v n hn h
  have e1 := Int.emod_nonneg v (show n ≠ 0 by omega)
  omega
 ·have := emod_of_tmod_nonneg v n hn h
  have e2 := Int.emod_lt_of_pos v (show 0 < n by omega)
  omega
def CapOk (a : Option Addr) (c n : Nat) : Prop := (a = none → c = 0) ∧ n ≤ c
structure Keeps (S : Nat → Prop) (w w' : World) : Prop where
 os : w'.os = w.os
 tape : w'.tape = w.tape
 output : w'.output = w.output
 size : w.heap.size ≤ w'.heap.size
 block : ∀ k, k < w.heap.size → ¬ S k → w'.heap[k]? = w.heap[k]?
theorem Keeps.refl (S : Nat → Prop) (w : World) : Keeps S w w := ⟨rfl, rfl, rfl, Nat.le_refl _, fun _ _ _ => rfl⟩
theorem Keeps.trans {S : Nat → Prop} {a b c : World} (h : Keeps S a b) (k : Keeps S b c) : Keeps S a c :=
 ⟨k.os.trans h.os, k.tape.trans h.tape, k.output.trans h.output, Nat.le_trans h.size k.size,
  fun i hi hs => (k.block i (Nat.lt_of_lt_of_le hi h.size) hs).trans (h.block i hi hs)⟩
theorem Keeps.step {S T : Nat → Prop} {a b c : World} (h : Keeps S a b) (k : Keeps T b c) (ht : ∀ i, i < a.heap.size → T i → S i) : Keeps S a c :=
 ⟨k.os.trans h.os, k.tape.trans h.tape, k.output.trans h.output, Nat.le_trans h.size k.size,
  fun i hi hs => (k.block i (Nat.lt_of_lt_of_le hi h.size) (fun t => hs (ht i hi t))).trans (h.block i hi hs)⟩
theorem Keeps.drew {S : Nat → Prop} {a w : World} (h : Keeps S a w) : Keeps S a w.drew := ⟨h.os, h.tape, h.output, h.size, h.block⟩
theorem Keeps.drewN {S : Nat → Prop} {a w : World} (h : Keeps S a w) (n : Nat) : Keeps S a (w.drewN n) := ⟨h.os, h.tape, h.output, h.size, h.block⟩
theorem Keeps.alloc {S : Nat → Prop} {a w : World} (h : Keeps S a w) (o : Obj) : Keeps S a (w.alloc o) :=
 ⟨h.os, h.tape, h.output, Nat.le_trans h.size (by simp), fun i hi hs => (Below.heap_alloc w o i (Nat.lt_of_lt_of_le hi h.size)).trans (h.block i hi hs)⟩
theorem Keeps.setCell {S : Nat → Prop} {a w : World} (h : Keeps S a w) (p : Addr) (u : Value) (hp : p.block < a.heap.size → S p.block) : Keeps S a (w.setCell p u) :=
 ⟨h.os, h.tape, h.output, by simpa [World.setCell] using h.size, fun i hi hs => by
  rw [Below.heap_setCell w p u i (fun e => hs (e ▸ hp (e ▸ hi)))]; exact h.block i hi hs⟩
theorem Keeps.setRow {S : Nat → Prop} {a w : World} (h : Keeps S a w) (g : Nat) (cs : Array Value) (hp : g < a.heap.size → S g) : Keeps S a (w.setRow g cs) :=
 ⟨h.os, h.tape, h.output, by rw [setRow_size]; exact h.size, fun i hi hs => by rw [setRow_other w g i cs (fun e => hs (e ▸ hp (e ▸ hi)))]; exact h.block i hi hs⟩
theorem Keeps.grown {S : Nat → Prop} {a w w' : World} {row : Option Nat} (h : Keeps S a w) (hg : w.grownBy w' row) (hr : ∀ k, row = some k → k < a.heap.size → S k) : Keeps S a w' :=
 ⟨hg.os.trans h.os, hg.tape.trans h.tape, hg.output.trans h.output, Nat.le_trans h.size hg.size,
  fun i hi hs => (hg.block i (Nat.lt_of_lt_of_le hi h.size) (fun e => hs (hr i e.symm hi))).trans (h.block i hi hs)⟩
theorem Keeps.cell {S : Nat → Prop} {w w' : World} (h : Keeps S w w') {p : Addr} (hp : p.block < w.heap.size) (hs : ¬ S p.block) : w'.cell? p = w.cell? p :=
 World.cell?_of_block (w := w) (h.block p.block hp hs)
theorem Keeps.frozen {S : Nat → Prop} {w w' : World} (h : Keeps S w w') {p : Addr} (hp : p.block < w.heap.size) (hs : ¬ S p.block) : w'.frozen? p = w.frozen? p :=
 World.frozen?_of_block (w := w) (h.block p.block hp hs)
theorem Keeps.below {S : Nat → Prop} {w w' : World} (h : Keeps S w w') (hs : ∀ i, i < w.heap.size → ¬ S i) : Below w.heap.size w w' :=
 ⟨h.os, h.tape, h.output, h.size, fun k hk => h.block k hk (hs k hk)⟩
theorem Keeps.mono {S T : Nat → Prop} {w w' : World} (h : Keeps S w w') (hs : ∀ i, i < w.heap.size → S i → T i) : Keeps T w w' :=
 ⟨h.os, h.tape, h.output, h.size, fun k hk hn => h.block k hk (fun s => hn (hs k hk s))⟩
def RowAt (F : Nat → Prop) (k : IntKind) (w : World) (a : Option Addr) (l : List Int) : Prop :=
 l.length ≤ 9223372036854775807 ∧ (∀ x, x ∈ l → (Lit.int k x).wf = true) ∧
 (l = [] ∨ ∃ g off, a = some ⟨g, off, none⟩ ∧ F g ∧ g < w.heap.size ∧ ∀ j, j < l.length → w.cell? ⟨g, off + j, none⟩ = some (.int k (l.getD j 0)))
theorem wf_u8 {x : Int} (h : (Lit.int .u8 x).wf = true) : 0 ≤ x ∧ x ≤ 255 := by simpa [Lit.wf, IntKind.min, IntKind.max, IntKind.signed, IntKind.bits] using h
theorem wf_u8_mk {x : Int} (h : 0 ≤ x) (h' : x ≤ 255) : (Lit.int .u8 x).wf = true := by simpa [Lit.wf, IntKind.min, IntKind.max, IntKind.signed, IntKind.bits] using ⟨h, h'⟩
theorem RowAt.mem {F : Nat → Prop} {k : IntKind} {w : World} {a : Option Addr} {l : List Int} (h : RowAt F k w a l) {j : Nat} (hj : j < l.length) : (Lit.int k (l.getD j 0)).wf = true :=
 h.2.1 _ (by rw [List.getD_eq_getElem?_getD, List.getElem?_eq_getElem hj]; simp)
theorem RowAt.keeps {F S : Nat → Prop} {k : IntKind} {w w' : World} {a : Option Addr} {l : List Int} (h : RowAt F k w a l) (kp : Keeps S w w') (hs : ∀ i, F i → ¬ S i) : RowAt F k w' a l := by
 obtain ⟨h1, h2, h3⟩ := h
 refine ⟨h1, h2, ?_⟩
 rcases h3 with h3 | ⟨g, off, ha, hf, hg, hc⟩
 ·exact .inl h3
 ·exact .inr ⟨g, off, ha, hf, Nat.lt_of_lt_of_le hg kp.size, fun j hj => by rw [kp.cell hg (hs g hf)]; exact hc j hj⟩
theorem RowAt.mono {F G : Nat → Prop} {k : IntKind} {w : World} {a : Option Addr} {l : List Int} (h : RowAt F k w a l) (hs : ∀ i, i < w.heap.size → F i → G i) : RowAt G k w a l := by
 obtain ⟨h1, h2, h3⟩ := h
 refine ⟨h1, h2, ?_⟩
 rcases h3 with h3 | ⟨g, off, ha, hf, hg, hc⟩
 ·exact .inl h3
 ·exact .inr ⟨g, off, ha, hs g hg hf, hg, hc⟩
def OwnI (k : IntKind) (t base : Nat) (w : World) (v : Value) (l : List Int) : Prop :=
 w.ownsRow base t 1 v l.length (l.map (Value.int k)) ∧ (∀ x, x ∈ l → (Lit.int k x).wf = true) ∧ l.length ≤ 9223372036854775807
theorem OwnI.row {k : IntKind} {t base : Nat} {w : World} {v : Value} {l : List Int} (h : OwnI k t base w v l) :
  ∃ a c, v = .slice a l.length c ∧ RowAt (base ≤ ·) k w a l := by
 obtain ⟨h1, h2, h3⟩ := h
 rcases h1.2 with ⟨rfl, hn⟩ | ⟨g, cap, cur, rfl, hb, hg, hnc, _, hcs, htake⟩
 ·refine ⟨none, 0, by rw [hn], h3, h2, .inl (List.eq_nil_of_length_eq_zero hn)⟩
 ·refine ⟨_, _, rfl, h3, h2, .inr ⟨g, 0, rfl, hb, (Array.getElem?_eq_some_iff.1 hg).1, fun j hj => ?_⟩⟩
  have hx := h1.cells (g := g) rfl j (.int k (l.getD j 0)) (by
   rw [List.getElem?_map, List.getElem?_eq_getElem hj, List.getD_eq_getElem?_getD, List.getElem?_eq_getElem hj]; rfl)
  have hadd : (⟨g, 0, none⟩ : Addr).add j = ⟨g, 0 + j, none⟩ := by unfold Addr.add; split <;> simp_all
  rw [hadd] at hx
  exact hx
theorem OwnI.nil (k : IntKind) (t base : Nat) (w : World) : OwnI k t base w (.slice none 0 0) [] := ⟨World.ownsRow_nil _ _ _ _, by simp, by simp⟩
theorem OwnI.keeps {k : IntKind} {t base : Nat} {S : Nat → Prop} {w w' : World} {v : Value} {l : List Int} (h : OwnI k t base w v l) (kp : Keeps S w w') (hs : ∀ g, v.ownBlock = some g → ¬ S g) : OwnI k t base w' v l := by
 obtain ⟨h1, h2, h3⟩ := h
 refine ⟨⟨h1.1, ?_⟩, h2, h3⟩
 rcases h1.2 with hn | ⟨g, cap, cur, rfl, hb, hg, rest⟩
 ·exact .inl hn
 ·refine .inr ⟨g, cap, cur, rfl, hb, ?_, rest⟩
  rw [kp.block g (Array.getElem?_eq_some_iff.1 hg).1 (hs g rfl)]
  exact hg
theorem OwnI.base {k : IntKind} {t base : Nat} {w : World} {v : Value} {l : List Int} (h : OwnI k t base w v l) : ∀ g, v.ownBlock = some g → base ≤ g ∧ g < w.heap.size := h.1.lt
theorem wpList_push {P : Program} {w2 : World} {ops : Array Oper} {rest : List Oper} {o : Oper} {a : Act} {Q : Exit → Act → World → Prop} (hgd : o.guard = none) (s x : Operand) (t : TypeId)
  (ho : o.op = .call { callee := .builtin .append, args := #[s, x], argTypes := #[t, t] }) (k : IntKind)
  (base : Nat) (e : TypeId) (i : TypeInfo) (bytes : Nat) (ht : P.underlying t = some (.slice e)) (hi : P.info? e = some i) (hz : i.zero = some (.int k 0))
  (hsize : i.size = 1) (hby : i.bytes = bytes) (v : Value) (l : List Int) (y : Int) (hs : a.eval s = v) (hown : OwnI k e base w2 v l)
  (hx : a.eval x = .slice (some ⟨w2.heap.size, 0, none⟩) 1 1) (hwf : (Lit.int k y).wf = true) (hlen : l.length + 1 ≤ 17592186044416) (hb8 : bytes ≤ 8) (hbase : base ≤ w2.heap.size)
  (h : ∀ v' w', OwnI k e base w' v' (l ++ [y]) → Keeps (fun g => v.ownBlock = some g) w2 w' → v' ≠ .slice none 0 0 → wpList P ops Q rest (a.put o.dst v') w') :
  wpList P ops Q (o :: rest) a (w2.alloc (.cells #[.int k y] e)) := by
 have hb : (l.length + 1) * bytes ≤ 140737488355328 := Nat.le_trans (Nat.mul_le_mul_left _ hb8) (by omega)
 refine wpList_append_own _ hgd s x t ho base e i (.int k 0) 1 bytes ht hi hz hsize hby rfl (by decide) v l.length (l.map (Value.int k)) hs (hown.1.alloc _) ⟨w2.heap.size, 0, none⟩ 1 1 [.int k y] hx rfl ?_ ?_
  (by unfold maxLen; omega) hb (by simp; omega) ?_
 ·intro j u hj
  match j, hj with
  | 0, hj => simp at hj; subst hj; simp [Addr.add]
 ·intro u hu; simp at hu; subst hu; rfl
 ·intro v' w' h1 h2 h3
  refine h v' w' ⟨by simpa using h1, fun z hz => ?_, by simp; omega⟩ ?_ (by simp at h3; exact h3)
  ·rcases List.mem_append.1 hz with hz | hz
   ·exact hown.2.1 z hz
   ·simp at hz; subst hz; exact hwf
  ·exact Keeps.grown ((Keeps.refl _ w2).alloc _) h2 (fun g hg _ => hg)
theorem add_block_none (g off j : Nat) : (⟨g, off, none⟩ : Addr).add j = ⟨g, off + j, none⟩ := by unfold Addr.add; split <;> simp_all
theorem wpList_pour {P : Program} {w : World} {ops : Array Oper} {rest : List Oper} {o : Oper} {a : Act} {Q : Exit → Act → World → Prop} (hgd : o.guard = none) (s x : Operand) (t : TypeId)
  (ho : o.op = .call { callee := .builtin .append, args := #[s, x], argTypes := #[t, t] }) (k : IntKind)
  (base : Nat) (e : TypeId) (i : TypeInfo) (bytes : Nat) (ht : P.underlying t = some (.slice e)) (hi : P.info? e = some i) (hz : i.zero = some (.int k 0))
  (hsize : i.size = 1) (hby : i.bytes = bytes) (v : Value) (l : List Int) (hs : a.eval s = v) (hown : OwnI k e base w v l)
  (A : Option Addr) (c : Nat) (m : List Int) (hx : a.eval x = .slice A m.length c) (hc : A = none → c = 0) (F : Nat → Prop) (hrow : RowAt F k w A m)
  (hlen : l.length + m.length ≤ 17592186044416) (hb8 : bytes ≤ 8) (hbase : base ≤ w.heap.size)
  (h : ∀ v' w', OwnI k e base w' v' (l ++ m) → Keeps (fun g => v.ownBlock = some g) w w' → wpList P ops Q rest (a.put o.dst v') w') :
  wpList P ops Q (o :: rest) a w := by
 have hb : (l.length + m.length) * bytes ≤ 140737488355328 := Nat.le_trans (Nat.mul_le_mul_left _ hb8) (by omega)
 rcases A with _ | ad
 ·have hm : m = [] := by
   rcases hrow.2.2 with h0 | ⟨_, _, h0, _⟩
   ·exact h0
   ·cases h0
  subst hm
  refine wpList_append_own_none hgd s x t ho base e i 1 ht (by rw [hi]) v l.length (l.map (Value.int k)) hs hown.1 (by rw [hx, hc rfl]; rfl) ?_
  exact h v w (by simpa using hown) (Keeps.refl _ _)
 ·refine wpList_append_own _ hgd s x t ho base e i (.int k 0) 1 bytes ht hi hz hsize hby rfl (by decide) v l.length (l.map (Value.int k)) hs hown.1 ad m.length c (m.map (Value.int k)) hx (by simp) ?_ ?_
   (by unfold maxLen; omega) hb hbase ?_
  ·intro j u hj
   rcases hrow.2.2 with h0 | ⟨g, off, h0, _, _, hcell⟩
   ·subst h0; simp at hj
   ·injection h0 with h0
    subst h0
    rw [add_block_none]
    rw [List.getElem?_map] at hj
    rcases hq : m[j]? with _ | y
    ·simp [hq] at hj
    ·simp [hq] at hj
     have hlt : j < m.length := (List.getElem?_eq_some_iff.1 hq).1
     rw [hcell j hlt, ← hj]
     simp [List.getD_eq_getElem?_getD, hq]
  ·intro u hu
   obtain ⟨y, _, rfl⟩ := List.mem_map.1 hu
   rfl
  ·intro v' w' h1 h2 h3
   refine h v' w' ⟨by simpa using h1, fun z hz => ?_, by simp; omega⟩ (Keeps.grown (Keeps.refl _ w) h2 (fun g hg _ => hg))
   rcases List.mem_append.1 hz with hz | hz
   ·exact hown.2.1 z hz
   ·exact hrow.2.1 z hz
end Go.Proofs.YtdeigmjbcbjgeaaGreatDoor
