/-
  The machine of plain values: a region in a round of a range over a function.
-/
import Derived.Test.YtgkccfjjjamhoaaMP
import Derived.RangeFuncCalls
import Derived.OrdersIn
import Derived.TacticsIn
namespace Go.Proofs.Ytgkccfjjjamhoaa
open Go.RowKit

section
variable {P : Program} {E : Env} {A : Nat → Prop} {w0 : Fr} {a : Act} {w : World}
theorem runR_any (hE : EnvOk P E) {ops : Array Oper} {st st' : St} (S : SRs A w0 st a w) (h : runR E ops.toList true st = some st') :
    wpAny P .any ops (fun e a' w' => e = .normal ∧ SRs A w0 st' a' w') ops.size (Array.replicate ops.size false) a { w with drawn := w.drawn + 1 } := by
  unfold runR at h
  simp only [if_true] at h
  split at h
  · rename_i hreg
    rw [readyK_eq] at h
    split at h
    · rename_i st1 hst1
      obtain ⟨t1, t2⟩ := tailAt_spec (deps ops.toList []) ops.toList.length
      have := wpAny_ok (P := P) (A := A) (w0 := w0) (a := a) (w := { w with drawn := w.drawn + 1 }) hE t1 hreg t2 hst1 h (ready_ok S.drew) (Q := fun e a' w' => e = .normal ∧ SRs A w0 st' a' w') (fun _ _ h => ⟨rfl, h⟩)
      simpa using this
    · cases h
  · cases h
theorem oper_round {o : Oper} (ho : ∀ c, o.op ≠ .defer c) {l n : Nat} {next : Act → World → Prop} {Q : Exit → Act → World → Prop} (h : o.wp P a w next Q) : o.wpIn (Fence.wide.inRound l) n P a w next Q := by
  refine ⟨fun _ _ => trivial, ?_⟩
  show o.uponIn _ n P a next Q ((o.semAt (some l) a.eval).run P w)
  rw [Oper.semAt_some l _ _ ho]
  unfold Oper.wp at h
  generalize (execOp a.eval o).run P w = r at h ⊢
  have hd : (Fence.wide.inRound l).depth.isSome = true → 1 ≤ n := fun h => by simp [Fence.wide] at h
  cases r with
  | ok x w' =>
    cases x with
    | value v => exact h
    | skip => exact h
    | defer d => exact h
    | enter f args => exact ⟨hd, CallsIn.inRound l (callsIn_wide.2 h)⟩
    | row r args => exact ⟨hd, fun c cs _ => let ⟨v, w', q, s⟩ := h c cs; ⟨v, w', q, stepsIn_wide.2 s⟩⟩
    | _ => exact h.elim
  | halt x w' => cases x <;> exact h
theorem wpOp_round {ops : Array Oper} (ho : ∀ (i : Nat) (o : Oper), ops[i]? = some o → ∀ c, o.op ≠ .defer c) {l n i : Nat} {K : Act → World → Prop} {Q : Exit → Act → World → Prop} (hQ : ¬ LetsOut Q) (h : wpOp P ops Q i K a w) : wpOpIn (Fence.wide.inRound l) n P ops Q i K a w := by
  unfold wpOp at h
  unfold wpOpIn
  split at h
  · rename_i hi; simp only [hi]; exact h
  · rename_i o hi
    simp only [hi]
    split at h
    · rename_i hw
      rw [if_pos hw]
      rcases h with h | h
      · exact oper_round (ho i o hi) h
      · exact absurd h.2 hQ
    · rename_i hw
      rw [if_neg hw]
      exact ⟨fun _ _ => trivial, h⟩
theorem wpAny_round {md : Region.Mode} {ops : Array Oper} (ho : ∀ (i : Nat) (o : Oper), ops[i]? = some o → ∀ c, o.op ≠ .defer c) {l n : Nat} {Q : Exit → Act → World → Prop} (hQ : ¬ LetsOut Q) :
    ∀ (fuel : Nat) (listed : Array Bool) (a : Act) (w : World), wpAny P md ops Q fuel listed a w → wpAnyIn (Fence.wide.inRound l) n P md ops Q fuel listed a w
  | 0, _, _, _, h => h
  | fuel + 1, _, _, _, h => ⟨h.1, fun i hi => wpOpIn_mono (fun _ _ h => wpAny_round ho hQ fuel _ _ _ h) (wpOp_round ho hQ (h.2 i hi))⟩
theorem regionIn_ok (hm : P.follows .mixedOrders = true) (hE : EnvOk P E) {id l n : Nat} {ops : Array Oper} (ho : ∀ (i : Nat) (o : Oper), ops[i]? = some o → ∀ c, o.op ≠ .defer c) {st : St} {K : St → Prop} (S : SRs A w0 st a w) (h : execR E ops.toList true st K) :
    (Code.region id ops true).wpIn (Fence.wide.inRound l) n P (fun e a' w' => e = .normal ∧ ∃ st', SRs A w0 st' a' w' ∧ K st') a w := by
  obtain ⟨st', h1, h⟩ := execR_of h
  have h2 := runR_any hE S h1
  refine wpIn_mono (wpIn_region_any hm (wpAny_round ho (fun hq => ?_) _ _ _ _ h2)) ?_
  · obtain ⟨a, w, hq⟩ := hq
    cases hq.1
  · rintro e a' w' ⟨rfl, S'⟩
    exact ⟨rfl, st', S', h⟩
end
end Go.Proofs.Ytgkccfjjjamhoaa
