import Derived.BigQuiet
import Derived.StillTailTactics
import Derived.Test.YtdeigmjbcbjgeaaGreatDoorYcBase
namespace Go.Proofs.YtdeigmjbcbjgeaaGreatDoor
open Go.RowKit
theorem still_of_quiet {P : Program} {o : Oper} {a : Act} {W : World} {K K' : Act → Prop} (hk : ∀ a, K a → K' a) (h : o.quiet P a (fun w' => w' = W) K) : o.still P a W K' := by
 obtain ⟨v, h1, h2⟩ := h
 have h3 := h1 W rfl
 unfold Oper.quietAt at h3
 unfold Oper.still
 revert h3
 generalize (execOp a.eval o).run P W = r
 intro h3
 unfold Oper.quietUpon at h3
 unfold Oper.stillUpon
 split at h3
 ·obtain ⟨rfl, rfl⟩ := h3; exact ⟨rfl, hk _ h2⟩
 ·obtain ⟨rfl, rfl⟩ := h3; exact ⟨rfl, hk _ h2⟩
 ·obtain ⟨rfl, h4⟩ := h3; exact ⟨rfl, v, h4, hk _ h2⟩
 ·exact h3.elim
theorem wpStill_of_quiet {P : Program} {ops : Array Oper} {W : World} {Q : Act → Prop} : ∀ (l : List Oper) (a : Act), wpQuiet P ops (fun w' => w' = W) Q l a → wpStill P ops W Q l a
 | [], _, h => h
 | o :: rest, a, h => by
  unfold wpQuiet at h
  unfold wpStill
  split at h
  ·rename_i hw; rw [if_pos hw]; exact still_of_quiet (fun a ha => wpStill_of_quiet rest a ha) h
  ·rename_i hw; rw [if_neg hw]; exact wpStill_of_quiet rest _ h
theorem wp_region_tail {P : Program} {id : Nat} {Q : Exit → Act → World → Prop} {a : Act} {w : World} {l : List Oper} (n : Nat) (hm : P.follows .mixedOrders = true) (hB : Region.lexTailB .any l.toArray n = true)
  (l1 l2 : List Oper) (h1 : l.take n = l1) (h2 : l.drop n = l2)
  (h : wpQuiet P l.toArray (fun w' => w' = w.drew) (fun a' => wpList P l.toArray Q l2 a' w.drew) l1 a) : (Code.region id l.toArray true).wp P Q a w := by
 subst h1; subst h2
 exact wp_region_still_tail n hm hB (wpStill_of_quiet _ _ h)
end Go.Proofs.YtdeigmjbcbjgeaaGreatDoor
