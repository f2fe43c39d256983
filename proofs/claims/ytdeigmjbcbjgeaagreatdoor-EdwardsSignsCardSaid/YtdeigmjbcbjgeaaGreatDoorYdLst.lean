/-
  Plain lists of numbers: changed place by place; blocks of sixteen; bytes.
-/
import Derived.Laws.BitsAllLaws
import Derived.Test.YtdeigmjbcbjgeaaGreatDoorYdMQ
namespace Go.Proofs.YtdeigmjbcbjgeaaGreatDoor
open Go.RowKit

abbrev x8 (a b : Int) : Int := bits .xor .u8 a b



theorem g_lt {l : List Int} {i : Nat} (h : i < l.length) : l[i]? = some (g l i) := by simp [g, List.getD_eq_getElem?_getD, h]
theorem ext_g {a b : List Int} (h : a.length = b.length) (hg : ∀ i, i < a.length → g a i = g b i) : a = b := by
  apply List.ext_getElem?
  intro i
  by_cases hi : i < a.length
  · rw [g_lt hi, g_lt (by omega), hg i hi]
  · rw [List.getElem?_eq_none (by omega), List.getElem?_eq_none (by omega)]
theorem g_map {f : Nat → Int} {n i : Nat} (h : i < n) : g ((List.range n).map f) i = f i := by simp [g, List.getD_eq_getElem?_getD, h]

/-- Below i as f says, from there on as l. -/
def upd (f : Nat → Int) (l : List Int) (i : Nat) : List Int := (List.range l.length).map fun j => if j < i then f j else g l j
theorem upd_len (f : Nat → Int) (l : List Int) (i : Nat) : (upd f l i).length = l.length := by simp [upd]
theorem g_upd {f : Nat → Int} {l : List Int} {i j : Nat} (h : j < l.length) : g (upd f l i) j = if j < i then f j else g l j := g_map h
theorem upd_zero (f : Nat → Int) (l : List Int) : upd f l 0 = l := ext_g (upd_len _ _ _) fun i hi => by rw [g_upd (by rwa [upd_len] at hi)]; simp
theorem upd_all (f : Nat → Int) (l : List Int) {n : Nat} (h : l.length = n) : upd f l n = (List.range n).map f := by
  subst h
  exact ext_g (by simp [upd]) fun i hi => by
    rw [upd_len] at hi
    rw [g_upd hi, if_pos hi, g_map hi]
theorem g_set {l : List Int} {i j : Nat} {x : Int} (h : i < l.length) : g (l.set i x) j = if j = i then x else g l j := by
  simp only [g, List.getD_eq_getElem?_getD, List.getElem?_set]
  by_cases e : i = j
  · subst e; simp [h]
  · rw [if_neg e, if_neg (fun h => e h.symm)]
theorem upd_set (f : Nat → Int) (l : List Int) {i : Nat} (h : i < l.length) : (upd f l i).set i (f i) = upd f l (i + 1) :=
  ext_g (by simp [upd]) fun j hj => by
    have hj' : j < l.length := by simpa [upd] using hj
    rw [g_set (by rw [upd_len]; exact h), g_upd hj', g_upd hj']
    by_cases e : j = i
    · subst e; simp
    · rw [if_neg e]
      by_cases h2 : j < i
      · rw [if_pos h2, if_pos (by omega)]
      · rw [if_neg h2, if_neg (by omega)]

/-! bytes -/
def By (l : List Int) : Prop := ∀ x ∈ l, 0 ≤ x ∧ x < 256
theorem By.g {l : List Int} (h : By l) (i : Nat) : 0 ≤ g l i ∧ g l i < 256 := by
  by_cases hi : i < l.length
  · exact h _ (List.mem_of_getElem? (g_lt hi))
  · simp [Go.Proofs.YtdeigmjbcbjgeaaGreatDoor.g, List.getD_eq_getElem?_getD, List.getElem?_eq_none (Nat.not_lt.1 hi)]
theorem By.map {f : Nat → Int} {n : Nat} (h : ∀ i, i < n → 0 ≤ f i ∧ f i < 256) : By ((List.range n).map f) := by
  intro x hx
  obtain ⟨i, hi, rfl⟩ := List.mem_map.1 hx
  exact h i (List.mem_range.1 hi)
theorem By.ok {l : List Int} (h : By l) : byteOk l = true := byteOk_iff.2 h
theorem x8_byte {a b : Int} (ha : 0 ≤ a ∧ a < 256) (hb : 0 ≤ b ∧ b < 256) : 0 ≤ x8 a b ∧ x8 a b < 256 := by
  have e := u8_xor a b ha.1 ha.2 hb.1 hb.2
  have h := Nat.xor_lt_two_pow (x := a.toNat) (y := b.toNat) (n := 8) (by omega) (by omega)
  unfold x8
  rw [e]
  omega
theorem w8_byte (a : Int) : 0 ≤ IntKind.u8.wrap a ∧ IntKind.u8.wrap a < 256 := by
  simp [IntKind.wrap, IntKind.signed, IntKind.bits]
  omega

/-! blocks of sixteen -/
theorem By.append {a b : List Int} (ha : By a) (hb : By b) : By (a ++ b) := by
  intro x hx
  rcases List.mem_append.1 hx with h | h
  · exact ha x h
  · exact hb x h
end Go.Proofs.YtdeigmjbcbjgeaaGreatDoor

/-
  The machine of plain values, for proofs: more answers.
-/
namespace Go.Proofs.YtdeigmjbcbjgeaaGreatDoor
open Go.RowKit

theorem tmod_nat (a b : Nat) : (a : Int).tmod b = ((a % b : Nat) : Int) := by
  rw [Int.tmod_eq_emod_of_nonneg (by omega)]; rfl
theorem append_grow {E : Env} {β : Nat → Option Blk} {d t e : Nat} {s : LV} {y : Cont} {b n cnt : Nat} {l m : List Int} {k : IntKind} {a1 a2 a4 by_ : Nat} {g1 g2 : Bool} {o1 : Option Cont} {dd : TD} {zc : Cont}
    (h1 : E.T t = some ⟨.slice e 1, a1, a2, g1, o1⟩) (h2 : E.T e = some ⟨dd, a4, by_, g2, some zc⟩) (hs : shown β 1 s = some (y, cnt)) (hy : y = .flat k m)
    (hb : β b = some ⟨.flat k l, e, true⟩) (hl : l.length = n) (hz : zc.len = 1) (hby : (n + cnt) * by_ ≤ 140737488355328) (hmx : n + cnt ≤ 9223372036854775807) :
    opAppend E β d t (.sl 1 b 0 n none) s = some ⟨some b, none, .sl 1 b 0 (n + cnt) none, [(b, ⟨.flat k (l ++ m), e, true⟩)]⟩ := by
  subst hy
  have hok : appOk 1 1 by_ (n + cnt) zc = true := by simp [appOk, hby, hmx, hz]
  have happ : (Cont.flat k l).app (.flat k m) = .flat k (l ++ m) := by simp [Cont.app]
  simp only [opAppend, h1, hs, Cont.leaves, if_true, appX, h2, hb, hok, Nat.mul_one, happ]
  simp [Cont.free, Cont.len, hl]
theorem expo_sl {β : Nat → Option Blk} {D z b off n : Nat} {c : Option Nat} {kb : Blk} {k : IntKind} {l : List Int} (hb : β b = some kb) (hc : kb.x.cut off (n * z) = some (.flat k l)) : expo β (D + 1) (.sl z b off n c) = some (.im z n c (.flat k l)) := by
  simp only [expo, hb, hc]
theorem append_nil {E : Env} {β : Nat → Option Blk} {d t e : Nat} {s : LV} {y : Cont} {cnt : Nat} {m : List Int} {k : IntKind} {a1 a2 a4 by_ : Nat} {g1 g2 : Bool} {o1 : Option Cont} {dd : TD} {zc : Cont}
    (h1 : E.T t = some ⟨.slice e 1, a1, a2, g1, o1⟩) (h2 : E.T e = some ⟨dd, a4, by_, g2, some zc⟩) (hs : shown β 1 s = some (y, cnt)) (hy : y = .flat k m) (hn : newB β d = none) (hz : zc.len = 1) (hby : cnt * by_ ≤ 140737488355328) (hmx : cnt ≤ 9223372036854775807) :
    opAppend E β d t (.v (.slice none 0 0)) s = some ⟨none, none, .sl 1 (8 * d) 0 cnt none, [(8 * d, ⟨.flat k m, e, true⟩)]⟩ := by
  subst hy
  have hok : appOk 1 1 by_ cnt zc = true := by simp [appOk, hby, hmx, hz]
  simp only [opAppend, h1, hs, Cont.leaves, if_true, appX, h2, hok, hn]
  simp
theorem shown_sl {β : Nat → Option Blk} {z b off n : Nat} {c : Option Nat} {kb : Blk} {y : Cont} (hb : β b = some kb) (hc : kb.x.cut off (n * z) = some y) : shown β z (.sl z b off n c) = some (y, n) := by
  simp only [shown, hb, hc, if_true]
  rfl
theorem map_succ (f : Nat → Int) (i : Nat) : (List.range (i + 1)).map f = (List.range i).map f ++ [f i] := by simp [List.range_succ]
theorem u64_nn (x : Int) : 0 ≤ IntKind.u64.wrap x := by
  simp [IntKind.wrap, IntKind.signed, IntKind.bits]
  omega
end Go.Proofs.YtdeigmjbcbjgeaaGreatDoor

/-
  The machine of plain values, for proofs: short names; appends; results that may be nil.
-/
namespace Go.Proofs.YtdeigmjbcbjgeaaGreatDoor
open Go.RowKit

abbrev iv (k : IntKind) (n : Int) : LV := .v (.int k n)
abbrev ret1 (u : LV) : LRes := .one (.val u)
abbrev nilV : LV := .v (.slice none 0 0)
theorem byteAll {l : List Int} (h : byteOk l = true) : By l := byteOk_iff.1 h
theorem lay_flat {k : IntKind} {l m : List Int} {o : Nat} (h : o + m.length ≤ l.length) (h2 : m.length ≠ 1) : layOne (.flat k l) o (.flat k m) = some (.flat k (l.take o ++ m ++ l.drop (o + m.length))) := by
  unfold layOne
  split
  · rename_i e; cases e; simp at h2
  · rename_i e; cases e
  · simp [Cont.lay, Cont.len, h]
theorem at_drop_g {k : IntKind} {l : List Int} {o : Nat} (h : o < l.length) : (Cont.flat k (l.drop o)).at? 0 = some (.v (.int k (g l o))) := at_drop (o := o) (i := 0) h
end Go.Proofs.YtdeigmjbcbjgeaaGreatDoor
/-
  The machine of plain values: a slice's room, nil arguments, slices of slices that are shown.
-/
namespace Go.Proofs.YtdeigmjbcbjgeaaGreatDoor
open Go.RowKit

/-- What is known of a slice's room goes without saying. -/
theorem CallOk.cap {P : Program} {f : Nat} {ds : List LV} {r : LRes} {z n : Nat} {c : Option Nat} {x : Cont} (i : Nat) (hi : ds[i]? = some (.im z n c x)) (h : n ≤ c.getD n → CallOk P f ds r) : CallOk P f ds r := by
  intro w A args hsz hA hrep hG
  by_cases hc : n ≤ c.getD n
  · exact h hc w A args hsz hA hrep hG
  · have h1 := hrep i _ hi
    exfalso
    generalize args.getD i undef = v at h1
    cases h1 with
    | im _ _ _ _ _ a c' f hl hn hk ha hm hr =>
      rcases c with _ | k
      · exact hc (Nat.le_refl _)
      · have := hk k rfl
        exact hc (by simp; omega)
theorem expo_g {β : Nat → Option Blk} {D z b off n : Nat} {c : Option Nat} {kb : Blk} {l l' : List LV} (hb : β b = some kb) (hc : kb.x.cut off (n * z) = some (.gen l)) (hl : optMap (expo β D) l = some l') : expo β (D + 1) (.sl z b off n c) = some (.im z n c (.gen l')) := by
  simp only [expo, hb, hc, hl, Option.map]
theorem om2 {α γ : Type} {f : α → Option γ} {a b : α} {x y : γ} (h1 : f a = some x) (h2 : f b = some y) : optMap f [a, b] = some [x, y] := by simp [optMap, h1, h2]
theorem om3 {α γ : Type} {f : α → Option γ} {a b c : α} {x y z : γ} (h1 : f a = some x) (h2 : f b = some y) (h3 : f c = some z) : optMap f [a, b, c] = some [x, y, z] := by simp [optMap, h1, h2, h3]
end Go.Proofs.YtdeigmjbcbjgeaaGreatDoor
