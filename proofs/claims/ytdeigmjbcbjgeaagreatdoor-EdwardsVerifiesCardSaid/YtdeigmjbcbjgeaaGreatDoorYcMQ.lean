import Derived.Test.YtdeigmjbcbjgeaaGreatDoorYcMP
namespace Go.Proofs.YtdeigmjbcbjgeaaGreatDoor
open Go.RowKit
theorem at_flat {k : IntKind} {l : List Int} {i : Nat} (h : i < l.length) : (Cont.flat k l).at? i = some (.v (.int k (l.getD i 0))) := by simp [Cont.at?, h]
def g (l : List Int) (i : Nat) : Int := l.getD i 0
theorem at_g {k : IntKind} {l : List Int} {i : Nat} (h : i < l.length) : (Cont.flat k l).at? i = some (.v (.int k (g l i))) := at_flat h
theorem put_flat {k : IntKind} {l : List Int} {i : Nat} {n : Int} (h : i < l.length) : layOne (.flat k l) i (.flat k [n]) = some (.flat k (l.set i n)) := by simp [layOne, Cont.put, h]
theorem inI_of {i : Int} {n : Nat} (h : 0 ≤ i ∧ i < n) : inI i n = true := by simpa [inI] using h
theorem cut_all {k : IntKind} {l : List Int} {n : Nat} (h : l.length = n) : (Cont.flat k l).cut 0 n = some (.flat k l) := by simp [Cont.cut, Cont.len, h]
theorem cut_flat {k : IntKind} {l : List Int} {o n : Nat} (h : o + n ≤ l.length) : (Cont.flat k l).cut o n = some (.flat k ((l.drop o).take n)) := by
 unfold Cont.cut
 split
 ·rename_i hc
  obtain ⟨rfl, rfl⟩ := hc
  simp [Cont.len]
 ·simp [Cont.len, h]
theorem cut_rest {k : IntKind} {l : List Int} {o : Nat} (h : o ≤ l.length) : (Cont.flat k l).cut o ((Cont.flat k l).len - o) = some (.flat k (l.drop o)) := by
 rw [cut_flat (by simp [Cont.len]; omega)]
 have : (l.drop o).take ((Cont.flat k l).len - o) = l.drop o := by
  apply List.take_of_length_le
  simp [Cont.len]
 rw [this]
theorem cut_take {k : IntKind} {l : List Int} {n : Nat} (h : n ≤ l.length) : (Cont.flat k l).cut 0 n = some (.flat k (l.take n)) := by
 rw [cut_flat (by omega)]; simp
theorem at_drop {k : IntKind} {l : List Int} {o i : Nat} (h : o + i < l.length) : (Cont.flat k (l.drop o)).at? i = some (.v (.int k (l.getD (o + i) 0))) := by
 rw [at_flat (by simp; omega)]
 simp [List.getD_eq_getElem?_getD]
theorem lay_all {k : IntKind} {l m : List Int} (h : l.length = m.length) (h2 : m.length ≠ 1) : layOne (.flat k l) 0 (.flat k m) = some (.flat k m) := by
 unfold layOne
 split
 ·rename_i e; cases e; simp at h2
 ·rename_i e; cases e
 ·simp [Cont.lay, Cont.len, h]
theorem wrap64 {x : Int} (h : -9223372036854775808 ≤ x ∧ x < 9223372036854775808) : IntKind.i64.wrap x = x := by
 simp [IntKind.wrap, IntKind.signed, IntKind.bits]
 omega
theorem byteOk_iff {l : List Int} : byteOk l = true ↔ ∀ x ∈ l, 0 ≤ x ∧ x < 256 := by simp [byteOk]
theorem conv_own {E : Env} {β : Nat → Option Blk} {src dst e z : Nat} {z' b off n : Nat} {c : Option Nat} {k : Blk} {l : List Int} {a1 a2 a4 a5 a7 a8 : Nat} {g1 g2 g3 : Bool} {o1 o2 o3 : Option Cont}
  (h1 : E.T src = some ⟨.slice e z, a1, a2, g1, o1⟩) (h2 : E.T dst = some ⟨.str, a4, a5, g2, o2⟩) (h3 : E.T e = some ⟨.int .u8, a7, a8, g3, o3⟩)
  (hz : z' = 1) (hb : β b = some k) (hx : k.x = .flat .u8 l) (hc : off + n ≤ l.length) (hl : ∀ x ∈ l, 0 ≤ x ∧ x < 256) : convV E β src dst (.sl z' b off n c) = some (.str ((l.drop off).take n)) := by
 have hcut : k.x.cut off (n * 1) = some (.flat .u8 ((l.drop off).take n)) := by rw [hx, Nat.mul_one]; exact cut_flat hc
 have hb2 : byteOk ((l.drop off).take n) = true := byteOk_iff.2 fun x hx => hl x (List.mem_of_mem_drop (List.mem_of_mem_take hx))
 have hlen : ((l.drop off).take n).length = n := by simp; omega
 subst hz
 simp only [convV, h1, h2, h3, shown, hb, hcut, if_true, Option.map_some, hb2, hlen]
 simp
theorem conv_im {E : Env} {β : Nat → Option Blk} {src dst e z : Nat} {n : Nat} {c : Option Nat} {l : List Int} {a1 a2 a4 a5 a7 a8 : Nat} {g1 g2 g3 : Bool} {o1 o2 o3 : Option Cont}
  (h1 : E.T src = some ⟨.slice e z, a1, a2, g1, o1⟩) (h2 : E.T dst = some ⟨.str, a4, a5, g2, o2⟩) (h3 : E.T e = some ⟨.int .u8, a7, a8, g3, o3⟩)
  (hc : l.length = n) (hl : ∀ x ∈ l, 0 ≤ x ∧ x < 256) : convV E β src dst (.im 1 n c (.flat .u8 l)) = some (.str l) := by
 have hb2 : byteOk l = true := byteOk_iff.2 hl
 simp only [convV, h1, h2, h3, shown, if_true, hb2, hc]
 simp
theorem str_eql {a b : List Int} (ha : ∀ x ∈ a, 0 ≤ x ∧ x < 256) (hb : ∀ x ∈ b, 0 ≤ x ∧ x < 256) : binV .eql (.str a) (.str b) = some (.v (.bool (a == b))) := by
 simp [binV, byteOk_iff.2 ha, byteOk_iff.2 hb]
theorem len_flat {k : IntKind} {l : List Int} {n : Nat} (h : l.length = n) : (Cont.flat k l).len = n := h
theorem apart_uv (β : Nat → Option Blk) (u : LV) (x : Value) : apartR β [u, .v x] = true := by
 have h : ownedB β (.v x) = none := rfl
 simp only [apartR, List.length_cons, List.length_nil, List.all_eq_true, List.mem_range]
 intro i hi j hj
 have hi' : i = 0 ∨ i = 1 := by omega
 have hj' : j = 0 ∨ j = 1 := by omega
 rcases hi' with rfl | rfl <;> rcases hj' with rfl | rfl <;> simp [h] <;> cases ownedB β u <;> simp
theorem resSlot_own {β β' : Nat → Option Blk} {z b n e : Nat} {c : Option Nat} {j : IntKind} {l : List Int} {s : Bool} (hb : β b = some ⟨.flat j l, e, s⟩) (hn : n * z ≤ l.length) (hc : c = none ∨ (s = false ∧ c.map (· * z) = some l.length)) (h7 : b % 8 ≠ 7 := by decide) :
  resSlot β β' (.sl z b 0 n c) = some (.own z n e (.flat j (l.take (n * z)))) := by
 have ho : ownedB β (.sl z b 0 n c) = some b := by
  simp only [ownedB, hb, Cont.len]
  exact if_pos ⟨⟨hn, hc⟩, h7⟩
 simp only [resSlot, ho, hb, cut_take hn]
def There (w : World) (g : Nat) : Prop := g < w.heap.size
theorem rep_row {w : World} {k : IntKind} {a : Option Addr} {c : Nat} {l : List Int} (h : CapOk a c l.length) (hr : RowAt (fun _ => True) k w a l) : Rep (There w) w noMap (.im 1 l.length none (.flat k l)) (.slice a l.length c) := by
 obtain ⟨h1, h2⟩ := h
 obtain ⟨_, _, h3⟩ := hr
 refine .im _ _ _ _ _ _ _ (fun i => .int k (l.getD i 0)) (by simp [Cont.vals]) h2 (fun k hk => by cases hk) (fun ha => ?_) ?_ (fun i u hu => ?_)
 ·have := h1 ha; exact ⟨by omega, this⟩
 ·rcases h3 with h3 | ⟨b, off, rfl, _, hb, hc⟩
  ·exact .inl (by rw [h3]; rfl)
  ·exact .inr ⟨b, off, rfl, hb, fun i hi => hc i (by simpa [Cont.vals] using hi)⟩
 ·simp only [Cont.vals, List.getElem?_map] at hu
  rcases hq : l[i]? with _ | x
  ·simp [hq] at hu
  ·simp [hq] at hu
   subst hu
   simp only [List.getD_eq_getElem?_getD, hq]
   exact .v _ _ rfl
theorem rep_v {A : Nat → Prop} {w : World} {x : Value} (h : plain x = true) : Rep A w noMap (.v x) x := .v _ _ h
end Go.Proofs.YtdeigmjbcbjgeaaGreatDoor
