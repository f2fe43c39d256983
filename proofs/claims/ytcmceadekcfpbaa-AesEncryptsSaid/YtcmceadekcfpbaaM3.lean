/-
  The machine of plain values: how its values stand for the program's.
-/
import Derived.Test.YtcmceadekcfpbaaM2
namespace Go.Proofs.Ytcmceadekcfpbaa
open Go.RowKit

/-! cells -/
theorem Cont.len_vals (x : Cont) : x.len = x.vals.length := by cases x <;> simp [Cont.len, Cont.vals]
theorem Cont.at_vals {x : Cont} {i : Nat} {u : LV} (h : x.at? i = some u) : x.vals[i]? = some u := by
  cases x with
  | flat k l =>
    simp only [Cont.at?] at h
    split at h
    · rename_i hi
      simp only [Cont.vals, List.getElem?_map, List.getElem?_eq_getElem hi, Option.map_some]
      rw [← h, List.getD_eq_getElem?_getD, List.getElem?_eq_getElem hi]
      rfl
    · cases h
  | gen l => exact h
theorem Cont.cut_vals {x y : Cont} {o n : Nat} (h : x.cut o n = some y) : o + n ≤ x.vals.length ∧ y.vals = (x.vals.drop o).take n := by
  unfold Cont.cut at h
  split at h
  · rename_i hc
    obtain ⟨rfl, rfl⟩ := hc
    cases h
    rw [Cont.len_vals]
    simp
  · split at h
    · rename_i hc
      rw [Cont.len_vals] at hc
      refine ⟨hc, ?_⟩
      cases h
      cases x <;> simp [Cont.vals, List.map_take, List.map_drop]
    · cases h
theorem Cont.put_vals {x y : Cont} {i : Nat} {u : LV} (h : x.put i u = some y) : i < x.vals.length ∧ y.vals = x.vals.set i u := by
  cases x with
  | flat k l =>
    simp only [Cont.put] at h
    split at h
    · split at h
      · rename_i hc
        obtain ⟨rfl, hc⟩ := hc
        cases h
        simp [Cont.vals, hc, List.map_set]
      · cases h
    · cases h
  | gen l =>
    simp only [Cont.put] at h
    split at h
    · rename_i hc; cases h; exact ⟨hc, rfl⟩
    · cases h
theorem Cont.lay_vals {x y z : Cont} {o : Nat} (h : x.lay o y = some z) : o + y.vals.length ≤ x.vals.length ∧ z.vals = x.vals.take o ++ y.vals ++ x.vals.drop (o + y.vals.length) := by
  unfold Cont.lay at h
  split at h
  · rename_i hc
    rw [Cont.len_vals, Cont.len_vals] at hc
    refine ⟨hc, ?_⟩
    split at h
    · split at h
      · rename_i hk; subst hk; cases h; simp [Cont.vals, List.map_take, List.map_drop]
      · cases h
    · cases h; simp [Cont.vals, Cont.len_vals]
    · cases h
  · cases h
theorem Cont.app_vals (x y : Cont) : (x.app y).vals = x.vals ++ y.vals := by
  unfold Cont.app
  split
  · split
    · rename_i h; subst h; simp [Cont.vals]
    · simp [Cont.vals]
  · simp [Cont.vals]
  · simp [Cont.vals]
  · simp [Cont.vals]
theorem flatOf_vals : ∀ (l : List LV) (k : IntKind) (m : List Int), flatOf l = some (k, m) → m.map (fun n => LV.v (.int k n)) = l
  | [], k, m, h => by simp [flatOf] at h
  | u :: rest, k, m, h => by
    simp only [flatOf] at h
    split at h
    · split at h
      · cases h; rfl
      · split at h
        · rename_i h2
          split at h
          · rename_i hk; subst hk; cases h
            simp only [List.map_cons, flatOf_vals _ _ _ h2]
          · cases h
        · cases h
    · cases h
theorem mkCont_vals (l : List LV) : (mkCont l).vals = l := by
  unfold mkCont
  split
  · rename_i k m h; exact flatOf_vals _ _ _ h
  · rfl
theorem Cont.loose_vals (x : Cont) : x.loose.vals = x.vals := by cases x <;> rfl
theorem Cont.tight_vals (x : Cont) : x.tight.vals = x.vals := by cases x <;> simp [Cont.tight, mkCont_vals]; rfl
theorem repCont_vals (n : Nat) (x : Cont) : (repCont n x).vals = (List.replicate n x.vals).flatten := by
  cases x <;> simp [repCont, Cont.vals, List.map_flatten]
theorem layOne_vals {x y z : Cont} {o : Nat} (h : layOne x o y = some z) : o + y.vals.length ≤ x.vals.length ∧ z.vals = x.vals.take o ++ y.vals ++ x.vals.drop (o + y.vals.length) := by
  unfold layOne at h
  split at h
  · rename_i k n
    obtain ⟨h1, h2⟩ := Cont.put_vals h
    refine ⟨h1, ?_⟩
    rw [h2, List.set_eq_take_append_cons_drop, if_pos h1]
    simp [Cont.vals]
  · rename_i u
    obtain ⟨h1, h2⟩ := Cont.put_vals h
    refine ⟨h1, ?_⟩
    rw [h2, List.set_eq_take_append_cons_drop, if_pos h1]
    simp [Cont.vals]
  · exact Cont.lay_vals h

theorem optMap_spec {α β : Type} {f : α → Option β} : ∀ {l : List α} {r : List β}, optMap f l = some r → r.length = l.length ∧ ∀ (i : Nat) (y : β), r[i]? = some y → ∃ x, l[i]? = some x ∧ f x = some y
  | [], r, h => by simp [optMap] at h; subst h; simp
  | a :: l, r, h => by
    unfold optMap at h
    split at h
    · rename_i y l' h1 h2
      cases h
      obtain ⟨h3, h4⟩ := optMap_spec h2
      refine ⟨by simp [h3], fun i y' hi => ?_⟩
      cases i with
      | zero => simp at hi; subst hi; exact ⟨a, rfl, h1⟩
      | succ i => simp at hi; simpa using h4 i y' hi
    · cases h

/-! values -/
structure Loc where
  g : Nat
  s : Nat
abbrev Map := Nat → Option (Option Loc)
def noMap : Map := fun _ => none

/-- The value u stands for v: blocks of the call's own lie where m says; what stays lies in blocks of which F holds. -/
inductive Rep (F : Nat → Prop) (w : World) : Map → LV → Value → Prop
  | poison (m : Map) (v : Value) : Rep F w m .poison v
  | v (m : Map) (x : Value) (h : plain x = true) : Rep F w m (.v x) x
  | str (m : Map) (l : List Int) : Rep F w m (.str l) (.string (strOfNums l))
  | ptr (m : Map) (b off g s : Nat) (h : m b = some (some ⟨g, s⟩)) : Rep F w m (.ptr b off) (.pointer (some ⟨g, off, none⟩))
  | imp (m : Map) (x : Cont) (g o : Nat) (f : Nat → Value) (hF : F g) (hc : ∀ i, i < x.vals.length → w.cell? ⟨g, o + i, none⟩ = some (f i))
      (hr : ∀ i u, x.vals[i]? = some u → Rep F w noMap u (f i)) : Rep F w m (.imp x) (.pointer (some ⟨g, o, none⟩))
  | sl (m : Map) (z b off n : Nat) (c : Option Nat) (g s : Nat) (a : Addr) (c' : Nat) (h : m b = some (some ⟨g, s⟩)) (ha : a = ⟨g, off, none⟩ ∨ n = 0 ∧ 0 < off ∧ c' = 0)
      (hn : n ≤ c') (hk : ∀ k, c = some k → c' = k) (hs : c = none → off + c' * z = s) (hx : c' ≤ 9223372036854775807) : Rep F w m (.sl z b off n c) (.slice (some a) n c')
  | slNil (m : Map) (z b : Nat) (c : Option Nat) (h : m b = some none) (hk : ∀ k, c = some k → k = 0) : Rep F w m (.sl z b 0 0 c) (.slice none 0 0)
  | im (m : Map) (z n : Nat) (c : Option Nat) (x : Cont) (a : Option Addr) (c' : Nat) (f : Nat → Value) (hl : x.vals.length = n * z) (hn : n ≤ c') (hk : ∀ k, c = some k → c' = k)
      (ha : a = none → n = 0 ∧ c' = 0) (hm : x.vals = [] ∨ ∃ g o, a = some ⟨g, o, none⟩ ∧ F g ∧ ∀ i, i < x.vals.length → w.cell? ⟨g, o + i, none⟩ = some (f i))
      (hr : ∀ i u, x.vals[i]? = some u → Rep F w noMap u (f i)) : Rep F w m (.im z n c x) (.slice a n c')
  | agg (m : Map) (x : Cont) (cs : Array Value) (hl : cs.size = x.vals.length) (hr : ∀ i u, x.vals[i]? = some u → Rep F w m u (cs.getD i undef)) : Rep F w m (.agg x) (.agg cs)
  | tup (m : Map) (l : List LV) (vs : Array Value) (hl : vs.size = l.length) (hr : ∀ i u, l[i]? = some u → Rep F w m u (vs.getD i undef)) : Rep F w m (.tup l) (.tuple vs)
  | iface (m : Map) (t : Nat) (u : LV) (v : Value) (h : Rep F w m u v) : Rep F w m (.iface t u) (.iface t v)

theorem Rep.mono {F F' : Nat → Prop} {w w' : World} {m : Map} {u : LV} {v : Value} (h : Rep F w m u v) (hF : ∀ g, F g → F' g) (hw : ∀ g, F g → w'.heap[g]? = w.heap[g]?) :
    ∀ m' : Map, (∀ b l, m b = some l → m' b = some l) → Rep F' w' m' u v := by
  induction h with
  | poison m v => exact fun _ _ => .poison _ _
  | v m x h => exact fun _ _ => .v _ _ h
  | str m l => exact fun _ _ => .str _ _
  | ptr m b off g s h => exact fun m' hm => .ptr _ _ _ _ _ (hm _ _ h)
  | imp m x g o f h1 hc hr ih => exact fun m' _ => .imp _ _ _ _ f (hF _ h1) (fun i hi => by rw [World.cell?_of_block (w := w) (hw g h1)]; exact hc i hi) (fun i u hu => ih i u hu _ (fun _ _ h => h))
  | sl m z b off n c g s a c' h ha hn hk hs hx => exact fun m' hm => .sl _ _ _ _ _ _ _ _ _ _ (hm _ _ h) ha hn hk hs hx
  | slNil m z b c h hk => exact fun m' hm => .slNil _ _ _ _ (hm _ _ h) hk
  | im m z n c x a c' f hl hn hk ha hm hr ih =>
    refine fun m' _ => .im _ _ _ _ _ _ _ f hl hn hk ha ?_ (fun i u hu => ih i u hu _ (fun _ _ h => h))
    rcases hm with hm | ⟨g, o, h1, h2, h3⟩
    · exact .inl hm
    · exact .inr ⟨g, o, h1, hF _ h2, fun i hi => by rw [World.cell?_of_block (w := w) (hw g h2)]; exact h3 i hi⟩
  | agg m x cs hl hr ih => exact fun m' hm => .agg _ _ _ hl (fun i u hu => ih i u hu _ hm)
  | tup m l vs hl hr ih => exact fun m' hm => .tup _ _ _ hl (fun i u hu => ih i u hu _ hm)
  | iface m t u v h ih => exact fun m' hm => .iface _ _ _ _ (ih _ hm)

def Map.del (m : Map) (B : Nat) : Map := fun b => if b = B then none else m b
def Map.add (m : Map) (B : Nat) (l : Option Loc) : Map := fun b => if b = B then some l else m b
theorem Map.add_same (m : Map) (B : Nat) (l : Option Loc) : m.add B l B = some l := by simp [Map.add]
theorem Map.add_ext {m : Map} {B : Nat} {l : Option Loc} (h : m B = none) : ∀ b l', m b = some l' → m.add B l b = some l' := by
  intro b l' hb
  unfold Map.add
  split
  · rename_i e; subst e; rw [h] at hb; cases hb
  · exact hb
theorem Map.del_at (m : Map) (B : Nat) : m.del B B = none := by simp [Map.del]

theorem all_false {p : LV → Bool} {l : List LV} (h : l.any p = false) {i : Nat} {u : LV} (hi : l[i]? = some u) : p u = false := by
  rcases hp : p u with _ | _
  · rfl
  · exact absurd (List.any_eq_true.2 ⟨u, List.mem_of_getElem? hi, hp⟩) (by rw [h]; simp)
theorem all_true {p : LV → Bool} {l : List LV} (h : l.all p = true) {i : Nat} {u : LV} (hi : l[i]? = some u) : p u = true :=
  List.all_eq_true.1 h u (List.mem_of_getElem? hi)

/-- What bears no address of block B stands for the same without B. -/
theorem Rep.del {F : Nat → Prop} {w : World} {m : Map} {u : LV} {v : Value} (h : Rep F w m u v) (B : Nat) : ∀ D, u.ment B D = false → Rep F w (m.del B) u v := by
  induction h with
  | poison m v => exact fun _ _ => .poison _ _
  | v m x h => exact fun _ _ => .v _ _ h
  | str m l => exact fun _ _ => .str _ _
  | ptr m b off g s h =>
    intro D hD
    have hb : b ≠ B := by cases D <;> simpa [LV.ment] using hD
    exact .ptr _ _ _ g s (by simp [Map.del, hb, h])
  | imp m x g o f h1 hc hr ih => exact fun _ _ => .imp _ _ _ _ f h1 hc hr
  | sl m z b off n c g s a c' h ha hn hk hs hx =>
    intro D hD
    have hb : b ≠ B := by cases D <;> simpa [LV.ment] using hD
    exact .sl _ _ _ _ _ _ g s _ _ (by simp [Map.del, hb, h]) ha hn hk hs hx
  | slNil m z b c h hk =>
    intro D hD
    have hb : b ≠ B := by cases D <;> simpa [LV.ment] using hD
    exact .slNil _ _ _ _ (by simp [Map.del, hb, h]) hk
  | im m z n c x a c' f hl hn hk ha hm hr ih => exact fun _ _ => .im _ _ _ _ _ _ _ f hl hn hk ha hm hr
  | agg m x cs hl hr ih =>
    intro D hD
    refine .agg _ _ _ hl (fun i u hu => ?_)
    cases x with
    | flat k l =>
      refine ih i u hu 0 ?_
      simp only [Cont.vals, List.getElem?_map] at hu
      rcases hq : l[i]? with _ | n
      · simp [hq] at hu
      · simp [hq] at hu; subst hu; rfl
    | gen l =>
      cases D with
      | zero => simp [LV.ment] at hD
      | succ D => exact ih i u hu D (all_false (l := l) (by simpa [LV.ment] using hD) hu)
  | tup m l vs hl hr ih =>
    intro D hD
    cases D with
    | zero => simp [LV.ment] at hD
    | succ D => exact .tup _ _ _ hl (fun i u hu => ih i u hu D (all_false (by simpa [LV.ment] using hD) hu))
  | iface m t u v h ih =>
    intro D hD
    cases D with
    | zero => simp [LV.ment] at hD
    | succ D => exact .iface _ _ _ _ (ih D (by simpa [LV.ment] using hD))
theorem Rep.lose {F : Nat → Prop} {w : World} {m : Map} {u : LV} {v : Value} (h : Rep F w m u v) (B : Nat) : Rep F w (m.del B) (u.lose B) v := by
  unfold LV.lose
  split
  · exact .poison _ _
  · rename_i hm; exact h.del B _ (by simpa using hm)
/-- What bears no address of the call's own stands for the same without a map. -/
theorem Rep.shut {F : Nat → Prop} {w : World} {m : Map} {u : LV} {v : Value} (h : Rep F w m u v) (m' : Map) : ∀ D, u.shut D = true → Rep F w m' u v := by
  induction h with
  | poison m v => exact fun _ _ => .poison _ _
  | v m x h => exact fun _ _ => .v _ _ h
  | str m l => exact fun _ _ => .str _ _
  | ptr m b off g s h => intro D hD; cases D <;> simp [LV.shut] at hD
  | imp m x g o f h1 hc hr ih => exact fun _ _ => .imp _ _ _ _ f h1 hc hr
  | sl m z b off n c g s a c' h ha hn hk hs hx => intro D hD; cases D <;> simp [LV.shut] at hD
  | slNil m z b c h hk => intro D hD; cases D <;> simp [LV.shut] at hD
  | im m z n c x a c' f hl hn hk ha hm hr ih => exact fun _ _ => .im _ _ _ _ _ _ _ f hl hn hk ha hm hr
  | agg m x cs hl hr ih =>
    intro D hD
    refine .agg _ _ _ hl (fun i u hu => ?_)
    cases x with
    | flat k l =>
      refine ih i u hu 0 ?_
      simp only [Cont.vals, List.getElem?_map] at hu
      rcases hq : l[i]? with _ | n
      · simp [hq] at hu
      · simp [hq] at hu; subst hu; rfl
    | gen l =>
      cases D with
      | zero => simp [LV.shut] at hD
      | succ D => exact ih i u hu D (all_true (l := l) (by simpa [LV.shut] using hD) hu)
  | tup m l vs hl hr ih =>
    intro D hD
    cases D with
    | zero => simp [LV.shut] at hD
    | succ D => exact .tup _ _ _ hl (fun i u hu => ih i u hu D (all_true (by simpa [LV.shut] using hD) hu))
  | iface m t u v h ih =>
    intro D hD
    cases D with
    | zero => simp [LV.shut] at hD
    | succ D => exact .iface _ _ _ _ (ih D (by simpa [LV.shut] using hD))
/-- What bears no address stands for the same whatever stays. -/
theorem Rep.pure {F : Nat → Prop} {w : World} {m : Map} {u : LV} {v : Value} (h : Rep F w m u v) (F' : Nat → Prop) (w' : World) (m' : Map) : ∀ D, u.pure D = true → Rep F' w' m' u v := by
  induction h with
  | poison m v => exact fun _ _ => .poison _ _
  | v m x h => exact fun _ _ => .v _ _ h
  | str m l => exact fun _ _ => .str _ _
  | ptr m b off g s h => intro D hD; cases D <;> simp [LV.pure] at hD
  | imp m x g o f h1 hc hr ih => intro D hD; cases D <;> simp [LV.pure] at hD
  | sl m z b off n c g s a c' h ha hn hk hs hx => intro D hD; cases D <;> simp [LV.pure] at hD
  | slNil m z b c h hk => intro D hD; cases D <;> simp [LV.pure] at hD
  | im m z n c x a c' f hl hn hk ha hm hr ih => intro D hD; cases D <;> simp [LV.pure] at hD
  | agg m x cs hl hr ih =>
    intro D hD
    refine .agg _ _ _ hl (fun i u hu => ?_)
    cases x with
    | flat k l =>
      refine ih i u hu 0 ?_
      simp only [Cont.vals, List.getElem?_map] at hu
      rcases hq : l[i]? with _ | n
      · simp [hq] at hu
      · simp [hq] at hu; subst hu; rfl
    | gen l =>
      cases D with
      | zero => simp [LV.pure] at hD
      | succ D => exact ih i u hu D (all_true (l := l) (by simpa [LV.pure] using hD) hu)
  | tup m l vs hl hr ih =>
    intro D hD
    cases D with
    | zero => simp [LV.pure] at hD
    | succ D => exact .tup _ _ _ hl (fun i u hu => ih i u hu D (all_true (by simpa [LV.pure] using hD) hu))
  | iface m t u v h ih =>
    intro D hD
    cases D with
    | zero => simp [LV.pure] at hD
    | succ D => exact .iface _ _ _ _ (ih D (by simpa [LV.pure] using hD))

theorem strOfNums_bytes (s : ByteArray) : strOfNums (s.data.toList.map fun b => (b.toNat : Int)) = s := by
  unfold strOfNums
  rw [List.map_map]
  have : (List.map ((fun n : Int => UInt8.ofNat n.toNat) ∘ fun b : UInt8 => (b.toNat : Int)) s.data.toList) = s.data.toList := by
    conv => rhs; rw [← List.map_id s.data.toList]
    apply List.map_congr_left
    intro b _
    simp
  rw [this]
theorem lvOf_rep {F : Nat → Prop} {w : World} {m : Map} {x : Value} {u : LV} (h : lvOf x = some u) : Rep F w m u x := by
  unfold lvOf at h
  split at h
  · rename_i s
    cases h
    conv => rhs; rw [← strOfNums_bytes s]
    exact .str _ _
  · split at h
    · rename_i hp; cases h; exact .v _ _ hp
    · cases h

theorem Rep.one {F : Nat → Prop} {w : World} {m : Map} {u : LV} {v : Value} (h : Rep F w m u v) (hl : u.leaf = true) : v.oneCell' = true := by
  cases h <;> first
    | rfl
    | (simp [LV.leaf] at hl; done)
    | (rename_i h; cases v <;> first | rfl | (simp [plain] at h; done))
theorem cells_cases {u : LV} {y : Cont} (h : u.cells = some y) : (u = .agg y ∧ y.leaves = true) ∨ (u.leaf = true ∧ y.vals = [u]) := by
  cases u with
  | agg x =>
    simp only [LV.cells] at h
    split at h
    · rename_i hl; cases h; exact .inl ⟨rfl, hl⟩
    · cases h
  | v x =>
    refine .inr ⟨rfl, ?_⟩
    cases x <;> simp only [LV.cells, LV.leaf, if_true, Option.some.injEq] at h <;> subst h <;> rfl
  | poison => simp [LV.cells, LV.leaf] at h
  | tup l => simp [LV.cells, LV.leaf] at h
  | _ =>
    refine .inr ⟨rfl, ?_⟩
    simp only [LV.cells, LV.leaf, if_true, Option.some.injEq] at h
    subst h; rfl
theorem flat_leaf {k : IntKind} {l : List Int} {i : Nat} {u : LV} (hu : (Cont.flat k l).vals[i]? = some u) : ∃ n, u = .v (.int k n) := by
  simp only [Cont.vals, List.getElem?_map] at hu
  rcases hq : l[i]? with _ | n
  · simp [hq] at hu
  · simp [hq] at hu; exact ⟨n, hu.symm⟩
theorem leaves_leaf {x : Cont} (h : x.leaves = true) {i : Nat} {u : LV} (hu : x.vals[i]? = some u) : u.leaf = true := by
  cases x with
  | flat k l => obtain ⟨n, rfl⟩ := flat_leaf hu; rfl
  | gen l => exact all_true (l := l) (by simpa [Cont.leaves] using h) hu
theorem cells_rep {F : Nat → Prop} {w : World} {m : Map} {u : LV} {v : Value} {y : Cont} (h : Rep F w m u v) (hy : u.cells = some y) :
    v.cells.size = y.vals.length ∧ (∀ (i : Nat) (u' : LV), y.vals[i]? = some u' → Rep F w m u' (v.cells.getD i undef)) ∧ (∀ (i : Nat) (u' : LV), y.vals[i]? = some u' → u'.leaf = true) := by
  rcases cells_cases hy with ⟨rfl, hl⟩ | ⟨hlf, hv⟩
  · cases h with
    | agg _ _ cs hl' hr => exact ⟨hl', hr, fun i u' hu => leaves_leaf hl hu⟩
  · have h1 := h.one hlf
    have hc : v.cells = #[v] := by cases v <;> first | rfl | (simp [Value.oneCell'] at h1; done)
    rw [hc, hv]
    refine ⟨rfl, fun i u' hu => ?_, fun i u' hu => ?_⟩
    · rcases i with _ | i
      · simp at hu; subst hu; exact h
      · simp at hu
    · rcases i with _ | i
      · simp at hu; subst hu; exact hlf
      · simp at hu
end Go.Proofs.Ytcmceadekcfpbaa
