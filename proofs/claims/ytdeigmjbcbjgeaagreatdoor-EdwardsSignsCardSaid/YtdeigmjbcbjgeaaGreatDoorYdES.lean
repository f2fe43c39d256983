/-
  A function of bytes that was walked by hand, as the machine calls it; the answer's Sum512.
-/
import Derived.Test.YtdeigmjbcbjgeaaGreatDoorYdCat
import Derived.Test.YtdeigmjbcbjgeaaGreatDoorYdRefBlk
namespace Go.Proofs.YtdeigmjbcbjgeaaGreatDoor
open Go.RowKit

/-- What a function of bytes that gives new bytes is known to do. -/
def BytesFn (f M : Nat) (spec : List Int → List Int) : Prop := ∀ (a : Option Addr) (c : Nat) (b : List Int) (w : World), b.length ≤ M → CapOk a c b.length → RowAt (fun _ => True) .u8 w a b →
  Calls Tryz.prog f #[.slice a b.length c] w fun e w' => ∃ v, e = .returned v ∧ OwnI .u8 5 w.heap.size w' v (spec b) ∧ Keeps (fun _ => False) w w'
theorem bytesFn_call {f M : Nat} {spec : List Int → List Int} (hf : BytesFn f M spec) (hM : M ≤ 1000000000) (n : Nat) (c : Option Nat) (l : List Int) (hn : l.length = n) (hb : By l) (hl : n ≤ M) : CallOk Tryz.prog f [.im 1 n c (.flat .u8 l)] (.one (.own 1 (spec l).length 5 (.flat .u8 (spec l)))) := by
  subst hn
  intro w A args hsz hA hrep _
  have h0 := hrep 0 _ rfl
  obtain ⟨v0, rfl⟩ : ∃ v0, args = #[v0] := by
    have hsz : args.size = 1 := hsz
    refine ⟨args[0], ?_⟩
    apply Array.ext
    · simp [hsz]
    · intro i h1 h2
      have : i = 0 := by simp at h2; omega
      subst this
      rfl
  simp only [Array.getD_eq_getD_getElem?, List.getElem?_toArray, List.getElem?_cons_zero, Option.getD_some] at h0
  cases h0 with
  | im _ _ _ _ _ a c' f hl' hn' hk' ha hm hr =>
    have hrow : RowAt (fun _ => True) .u8 w a l := by
      refine ⟨by omega, fun x hx => wf_u8_mk (hb x hx).1 (by have := (hb x hx).2; omega), ?_⟩
      rcases hm with hm | ⟨g, o, h1, h2, h3⟩
      · exact .inl (by simpa [Cont.vals] using hm)
      · refine .inr ⟨g, o, h1, trivial, hA g h2, fun j hj => ?_⟩
        rw [h3 j (by simpa [Cont.vals] using hj)]
        have := hr j (.v (.int .u8 (l.getD j 0))) (by simp [Cont.vals, List.getElem?_eq_getElem hj, List.getD_eq_getElem?_getD])
        generalize f j = x at this
        cases this
        rfl
    refine (hf a c' l w hl ⟨fun h => (ha h).2, by simpa using hn'⟩ hrow).mono ?_
    rintro e w' ⟨v, rfl, ho, hk⟩
    exact ⟨v, A, rfl, hk, fun _ h => h, fun g hg => ⟨Nat.lt_of_lt_of_le (hA g hg) hk.size, .inl hg⟩, own_rc ho hA⟩
theorem rSum512_fn : BytesFn 32 1000000000 sha512 := fun a c b w hb hc hr => refSum512_any a c b w hb hc.1 hr
end Go.Proofs.YtdeigmjbcbjgeaaGreatDoor
