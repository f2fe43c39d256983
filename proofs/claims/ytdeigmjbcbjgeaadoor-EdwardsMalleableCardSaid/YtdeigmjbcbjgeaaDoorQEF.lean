/-
  Layer 10: the answer's secret, Public.
-/
import Derived.Test.YtdeigmjbcbjgeaaDoorQFB
import Derived.Test.YtdeigmjbcbjgeaaDoorQES
namespace Go.Proofs.YtdeigmjbcbjgeaaDoor
open Go.RowKit

theorem sh_len (b : List Int) : (sha512 b).length = 64 := by rw [sha512, outs64_len]
theorem byteAt_byte (x : Int) (k : Nat) : 0 ≤ byteAt x k ∧ byteAt x k < 256 := by
  unfold byteAt
  omega
theorem outs_by (l : List Int) : ∀ i, By (outs64 l i)
  | 0 => fun x hx => by simp [outs64] at hx
  | i + 1 => by
    rw [outs64]
    exact (outs_by l i).append (By.map fun j _ => byteAt_byte _ _)
theorem sh_by (b : List Int) : By (sha512 b) := outs_by _ _
theorem resSlot_tail {β β' : Nat → Option Blk} {b e e' : Nat} {s s' : Bool} {c : Option Nat} {h p : List Int} (_ : β b = some ⟨.flat .u8 h, e, s⟩) (hb' : β' b = some ⟨.flat .u8 h, e', s'⟩) (hc : (Cont.flat .u8 h).cut 32 (32 * 1) = some (.flat .u8 p)) : resSlot β β' (.sl 1 b 32 32 c) = some (.val (.im 1 32 c (.flat .u8 p))) := by
  have ho : ownedB β (.sl 1 b 32 32 c) = none := by
    unfold ownedB
    rfl
  simp only [resSlot, ho]
  rw [show expo β' expoD (.sl 1 b 32 32 c) = some (.im 1 32 c (.flat .u8 p)) from expo_sl hb' hc]
/-- The secret number, and the prefix. -/
def secN (s : List Int) : Nat := clampN (nb ((sha512 s).take 32))
def secP (s : List Int) : List Int := (sha512 s).drop 32
theorem secP_len (s : List Int) : (secP s).length = 32 := by rw [secP, List.length_drop, sh_len]
end Go.Proofs.YtdeigmjbcbjgeaaDoor
