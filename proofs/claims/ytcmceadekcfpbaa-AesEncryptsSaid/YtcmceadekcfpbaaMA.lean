/-
  The machine of plain values: what calls give; each operation that writes nothing, in the program's walk.
-/
import Derived.Test.YtcmceadekcfpbaaM9
namespace Go.Proofs.Ytcmceadekcfpbaa
open Go.RowKit

section
variable {P : Program} {E : Env} {A : Nat → Prop} {w0 : World} {n : Nat} {m : Map} {F : Nat → Prop} {ρ : Nat → LV} {β : Nat → Option Blk} {a : Act} {w : World}

theorem outAll_val : ∀ (l : List RC) (id : Nat), (outAll id l).1.length = l.length ∧ ∀ (i : Nat) (r : RC), l[i]? = some r → (outAll id l).1[i]? = some (r.out (id + i)).1
  | [], id => by simp [outAll]
  | r :: l, id => by
    obtain ⟨h1, h2⟩ := outAll_val l (id + 1)
    refine ⟨by simp [outAll, h1], fun i r' h => ?_⟩
    cases i with
    | zero => simp at h; subst h; simp [outAll]
    | succ i =>
      simp only [outAll, List.getElem?_cons_succ] at h ⊢
      rw [h2 i r' h, show id + 1 + i = id + (i + 1) by omega]
theorem outAll_own : ∀ (l : List RC) (id : Nat) (i z n e : Nat) (x : Cont), l[i]? = some (.own z n e x) → (id + i, ⟨x, e, true⟩) ∈ (outAll id l).2
  | [], _, _, _, _, _, _, h => by simp at h
  | r :: l, id, 0, z, n, e, x, h => by simp at h; subst h; simp [outAll, RC.out]
  | r :: l, id, i + 1, z, n, e, x, h => by
    have := outAll_own l (id + 1) i z n e x (by simpa using h)
    rw [show id + 1 + i = id + (i + 1) by omega] at this
    simp only [outAll, List.mem_append]
    exact .inr this
theorem outAll_blk : ∀ (l : List RC) (id : Nat) (p : Nat × Blk), p ∈ (outAll id l).2 → ∃ i z n e x, l[i]? = some (.own z n e x) ∧ p = (id + i, ⟨x, e, true⟩)
  | [], id, p, h => by simp [outAll] at h
  | r :: l, id, p, h => by
    simp only [outAll, List.mem_append] at h
    rcases h with h | h
    · cases r with
      | val u => simp [RC.out] at h
      | own z n e x => simp [RC.out] at h; exact ⟨0, z, n, e, x, rfl, h⟩
    · obtain ⟨i, z, n, e, x, h1, h2⟩ := outAll_blk l (id + 1) p h
      exact ⟨i + 1, z, n, e, x, by simpa using h1, by rw [h2, show id + 1 + i = id + (i + 1) by omega]⟩

/-- What a call gives, taken into the caller's memory. -/
theorem SR.results (S : SR A w0 n m F ρ β a w) {F' : Nat → Prop} {w' : World} (hk : Keeps (fun _ => False) w w') (hF : ∀ g, F g → F' g) (hF' : ∀ g, F' g → F g ∨ w.heap.size ≤ g) (hlt : ∀ g, F' g → g < w'.heap.size)
    (id0 : Nat) (l : List RC) (vs : Nat → Value) (gbs : Nat → Option Loc) (hfree : ∀ i, i < l.length → β (id0 + i) = none)
    (hr : ∀ (i : Nat) (r : RC), l[i]? = some r → RCok F' w.heap.size w' r (vs i) (gbs i)) (hd : ∀ i j l l', i ≠ j → gbs i = some l → gbs j = some l' → l.g ≠ l'.g) :
    ∃ m' : Map, SR A w0 n m' F' ρ (updBs β (outAll id0 l).2) a w' ∧ ∀ (i : Nat) (r : RC), l[i]? = some r → Rep F' w' m' (r.out (id0 + i)).1 (vs i) := by
  let m' : Map := fun b => if id0 ≤ b then (match l[b - id0]? with | some (.own _ _ _ _) => some (gbs (b - id0)) | _ => m b) else m b
  have hm'own : ∀ i z k e x, l[i]? = some (.own z k e x) → m' (id0 + i) = some (gbs i) := by
    intro i z k e x h
    show (if id0 ≤ id0 + i then (match l[id0 + i - id0]? with | some (.own _ _ _ _) => some (gbs (id0 + i - id0)) | _ => m (id0 + i)) else m (id0 + i)) = _
    rw [if_pos (by omega), show id0 + i - id0 = i by omega, h]
  have hext : ∀ b l', m b = some l' → m' b = some l' := by
    intro b l' hb
    show (if id0 ≤ b then (match l[b - id0]? with | some (.own _ _ _ _) => some (gbs (b - id0)) | _ => m b) else m b) = _
    split
    · rename_i hle
      split
      · rename_i h
        have := S.dom _ (hfree (b - id0) (lt_of_get h))
        rw [show id0 + (b - id0) = b by omega, hb] at this
        cases this
      · exact hb
    · exact hb
  have hrep : ∀ (i : Nat) (r : RC), l[i]? = some r → Rep F' w' m' (r.out (id0 + i)).1 (vs i) := by
    intro i r hi
    have h := hr i r hi
    cases r with
    | val u => exact h.1.noMap_up m'
    | own z k e x =>
      obtain ⟨h1, h2⟩ := h
      have hmm := hm'own i z k e x hi
      rcases h2 with ⟨rfl, hv, hg⟩ | ⟨g, c, cs, hg, hv, h3, hcx, h4, h5, h6, h7, h8⟩
      · rw [hv]
        exact .slNil _ _ _ _ (by rw [hmm, hg]) (fun k hk => by cases hk)
      · rw [hv]
        exact .sl _ _ _ _ _ _ g cs.size _ _ (by rw [hmm, hg]) (.inl rfl) h3 (fun k hk => by cases hk) (fun _ => by rw [h7]; omega) hcx
  refine ⟨m', S.add hext hk hF hF' hlt (fun p hp => ?_) (fun p hp q hq hne l1 l2 h1 h2 => ?_) (fun b hb => ?_), hrep⟩
  · obtain ⟨i, z, k, e, x, h1, rfl⟩ := outAll_blk l id0 p hp
    have hmm := hm'own i z k e x h1
    obtain ⟨r1, r2⟩ := hr i _ h1
    rcases r2 with ⟨rfl, hv, hg⟩ | ⟨g, c, cs, hg, hv, h3, hcx, h4, h5, h6, h7, h8⟩
    · refine ⟨.inl ⟨by rw [hmm, hg], List.eq_nil_of_length_eq_zero (by rw [r1]; simp), rfl⟩, fun l' hl => ?_⟩
      simp only at hl
      rw [hmm, hg] at hl; cases hl
    · refine ⟨.inr ⟨g, cs.size, cs, by rw [hmm, hg], h5, Nat.le_trans S.keeps.size h4, h6, rfl, (fun h => by cases h), ?_, fun i u hu => (h8 i u hu).noMap_up m'⟩, fun l' hl => ?_⟩
      · show x.vals.length ≤ cs.size
        rw [r1, h7]; exact Nat.mul_le_mul_right _ h3
      · simp only at hl
        rw [hmm, hg] at hl
        cases hl
        exact fun b k l' hb hl' e => by have := (S.old hb hl').1; rw [e] at this; simp only at this; omega
  · obtain ⟨i, z, k, e, x, e1, rfl⟩ := outAll_blk l id0 p hp
    obtain ⟨j, z', k', e', x', e2, rfl⟩ := outAll_blk l id0 q hq
    simp only at h1 h2 hne
    rw [hm'own i z k e x e1] at h1
    rw [hm'own j z' k' e' x' e2] at h2
    exact hd i j _ _ (by omega) (Option.some.inj h1) (Option.some.inj h2)
  · have hb' : (if id0 ≤ b then (match l[b - id0]? with | some (.own _ _ _ _) => some (gbs (b - id0)) | _ => m b) else m b) ≠ m b := hb
    split at hb'
    · rename_i hle
      split at hb'
      · rename_i z k e x h
        refine ⟨_, outAll_own l id0 (b - id0) z k e x h, ?_⟩
        show id0 + (b - id0) = b
        omega
      · exact absurd rfl hb'
    · exact absurd rfl hb'

theorem expo_shut : ∀ (D D' : Nat) (u d : LV), u.shut D' = true → expo β D u = some d → d = u := by
  intro D
  induction D with
  | zero =>
    intro D' u d hs h
    cases u with
    | agg x => cases x <;> simp [expo] at h; exact h.symm
    | _ => first
      | (simp [expo] at h; done)
      | (simp [expo] at h; exact h.symm)
  | succ D ih =>
    intro D' u d hs h
    have hl : ∀ (E' : Nat) (l l' : List LV), l.all (LV.shut E') = true → optMap (expo β D) l = some l' → l' = l := by
      intro E' l l' ha ho
      obtain ⟨h1, h2⟩ := optMap_spec ho
      refine List.ext_getElem? fun i => ?_
      by_cases hi : i < l'.length
      · obtain ⟨y, hy⟩ : ∃ y, l'[i]? = some y := ⟨_, List.getElem?_eq_getElem hi⟩
        obtain ⟨x, hx, hd⟩ := h2 i y hy
        rw [hy, hx, ih E' x y (all_true ha hx) hd]
      · rw [List.getElem?_eq_none (by omega), List.getElem?_eq_none (by omega)]
    cases u with
    | agg x =>
      cases x with
      | flat k l => simp [expo] at h; exact h.symm
      | gen l =>
        cases D' with
        | zero => simp [LV.shut] at hs
        | succ D' =>
          simp only [expo] at h
          rcases hq : optMap (expo β D) l with _ | l'
          · rw [hq] at h; cases h
          · rw [hq] at h; cases h; rw [hl D' l l' (by simpa [LV.shut] using hs) hq]
    | tup l =>
      cases D' with
      | zero => simp [LV.shut] at hs
      | succ D' =>
        simp only [expo] at h
        rcases hq : optMap (expo β D) l with _ | l'
        · rw [hq] at h; cases h
        · rw [hq] at h; cases h; rw [hl D' l l' (by simpa [LV.shut] using hs) hq]
    | iface t u =>
      cases D' with
      | zero => simp [LV.shut] at hs
      | succ D' =>
        simp only [expo] at h
        rcases hq : expo β D u with _ | u'
        · rw [hq] at h; cases h
        · rw [hq] at h; cases h; rw [ih D' u u' (by simpa [LV.shut] using hs) hq]
    | ptr b off => cases D' <;> simp [LV.shut] at hs
    | sl z b off n c => cases D' <;> simp [LV.shut] at hs
    | _ => first
      | (simp [expo] at h; done)
      | (simp [expo] at h; exact h.symm)

theorem RCok.pure {F' : Nat → Prop} {base : Nat} {r : RC} {v : Value} {gb : Option Loc} (h : RCok F' base w r v gb) (hp : r.pure = true) {F : Nat → Prop} (hF : ∀ g, base ≤ g → ¬ F g) : RCok F base w r v gb := by
  cases r with
  | val u => exact ⟨h.1.pure _ _ _ 4 (by simpa [RC.pure] using hp), h.2⟩
  | own z n e x =>
    refine ⟨h.1, ?_⟩
    rcases h.2 with h2 | ⟨g, c, cs, h2, h3, h4, hcx, h5, h6, h7, h8, h9⟩
    · exact .inl h2
    · refine .inr ⟨g, c, cs, h2, h3, h4, hcx, h5, hF g h5, h7, h8, fun i u hu => ?_⟩
      cases x with
      | flat k l =>
        have := h9 i u hu
        obtain ⟨q, rfl⟩ := flat_leaf hu
        exact this.pure _ _ _ 0 rfl
      | gen l => exact (h9 i u hu).pure _ _ _ 4 (all_true (l := l) (by simpa [RC.pure] using hp) hu)

/-- A call, as its caller sees it. -/
theorem opCall_pre (hE : EnvOk P E) (S : SR A w0 n m F ρ β a w) {f : Nat} {args ds : List LV} {vs : Array Value} {r : LRes} (hsz : vs.size = args.length)
    (hargs : ∀ (i : Nat) (u : LV), args[i]? = some u → Rep F w m u (vs.getD i undef)) (hds : optMap (expo β expoD) args = some ds) (hr : E.orc f ds = some r) (hc : (r.pure || args.all (LV.shut 6)) = true) :
    Calls P f vs w fun e w' => ∃ v F', e = .returned v ∧ Keeps (fun _ => False) w w' ∧ (∀ g, F g → F' g) ∧ (∀ g, F' g → F g ∨ w.heap.size ≤ g) ∧ (∀ g, F' g → g < w'.heap.size) ∧ ResOk F' w.heap.size w' r v := by
  obtain ⟨o1, o2⟩ := optMap_spec hds
  have hcall := (hE.orc f ds r hr).2
  by_cases hshut : args.all (LV.shut 6) = true
  · refine (hcall w F vs (by rw [hsz, o1]) S.flt (fun i d hd => ?_)).mono ?_
    · obtain ⟨x, hx, hxd⟩ := o2 i d hd
      have hxs := all_true hshut hx
      rw [expo_shut _ _ _ _ hxs hxd]
      exact shut_rep (hargs i x hx) (fun _ h => h) hxs
    · rintro e w' ⟨v, F', rfl, hk, h1, h2, h3⟩
      exact ⟨v, F', rfl, hk, h1, fun g hg => (h2 g hg).2, fun g hg => (h2 g hg).1, h3⟩
  · have hpure : r.pure = true := by
      rcases hp : r.pure with _ | _
      · simp [hp] at hc; exact absurd (by simpa using hc) hshut
      · rfl
    refine (hcall w (FP F β m) vs (by rw [hsz, o1]) (fun g hg => ?_) (fun i d hd => ?_)).mono ?_
    · rcases hg with hg | ⟨b, k, l, h1, h2, rfl⟩
      · exact S.flt g hg
      · obtain ⟨cs, q1, _⟩ := blk_cells (S.blks b k h1) (g := l.g) (s := l.s) h2
        exact (Array.getElem?_eq_some_iff.1 q1).1
    · obtain ⟨x, hx, hxd⟩ := o2 i d hd
      exact expo_ok S.blks _ _ _ _ (hargs i x hx) hxd
    · rintro e w' ⟨v, F', rfl, hk, h1, h2, h3⟩
      have hnew : ∀ g, w.heap.size ≤ g → ¬ F g := fun g hg hf => by have := S.flt g hf; omega
      refine ⟨v, F, rfl, hk, fun _ h => h, fun g hg => .inl hg, fun g hg => Nat.lt_of_lt_of_le (S.flt g hg) hk.size, ?_⟩
      cases r with
      | one r =>
        obtain ⟨gb, hgb⟩ := h3
        exact ⟨gb, hgb.pure (by simpa [LRes.pure] using hpure) hnew⟩
      | many l =>
        obtain ⟨ws, gbs, e1, e2, e3, e4⟩ := h3
        refine ⟨ws, gbs, e1, e2, fun i r hi => (e3 i r hi).pure ?_ hnew, e4⟩
        have hp : l.all RC.pure = true := hpure
        exact List.all_eq_true.1 hp r (List.mem_of_getElem? hi)

theorem opCall_of {β : Nat → Option Blk} {d f : Nat} {args : List LV} {u : LV} {bs : List (Nat × Blk)} (h : opCall E β d f args = some (u, bs)) :
    ∃ ds r, optMap (expo β expoD) args = some ds ∧ E.orc f ds = some r ∧ (r.pure || args.all (LV.shut 6)) = true ∧ r.out d = some (u, bs) := by
  unfold opCall at h
  split at h
  · rename_i ds hds
    split at h
    · rename_i r hr
      split at h
      · rename_i hc; exact ⟨ds, r, hds, hr, hc, h⟩
      · cases h
    · cases h
  · cases h

theorem opCall_ok (hE : EnvOk P E) (S : SR A w0 n m F ρ β a w) {d f : Nat} {args : List LV} {vs : Array Value} {u : LV} {bs : List (Nat × Blk)} (hsz : vs.size = args.length)
    (hargs : ∀ (i : Nat) (u : LV), args[i]? = some u → Rep F w m u (vs.getD i undef)) (hfree : ∀ k, k < 8 → β (8 * d + k) = none) (h : opCall E β d f args = some (u, bs)) :
    Calls P f vs w fun e w' => ∃ v m' F', e = .returned v ∧ SR A w0 n m' F' ρ (updBs β bs) a w' ∧ Rep F' w' m' u v := by
  obtain ⟨ds, r, hds, hr, hc, h⟩ := opCall_of h
  refine (opCall_pre hE S hsz hargs hds hr hc).mono ?_
  rintro e w' ⟨v, F', rfl, hk, hF, hF', hlt, hres⟩
  cases r with
  | one r =>
    obtain ⟨gb, hgb⟩ := hres
    obtain ⟨m', h1, h3⟩ := S.results hk hF hF' hlt (8 * d) [r] (fun _ => v) (fun i => if i = 0 then gb else none) (fun i hi => hfree i (by simp at hi; omega)) (fun i r' hi => by
      cases i with
      | zero => simp at hi; subst hi; simpa using hgb
      | succ i => simp at hi) (fun i j l l' hne hi hj => by
        split at hi
        · split at hj
          · omega
          · cases hj
        · cases hi)
    have hu : (u, bs) = r.out (8 * d) := by simpa [LRes.out] using h.symm
    have hb : (outAll (8 * d) [r]).2 = bs := by simp [outAll, ← hu]
    rw [hb] at h1
    refine ⟨v, m', F', rfl, h1, ?_⟩
    have := h3 0 r rfl
    rw [Nat.add_zero, ← hu] at this
    exact this
  | many l =>
    obtain ⟨ws, gbs, rfl, hws, hrc, hdist⟩ := hres
    simp only [LRes.out] at h
    split at h
    · rename_i hl8
      cases h
      obtain ⟨m', h1, h3⟩ := S.results hk hF hF' hlt (8 * d) l (fun i => ws.getD i undef) gbs (fun i hi => hfree i (by omega)) hrc hdist
      refine ⟨_, m', F', rfl, h1, ?_⟩
      obtain ⟨p1, p2⟩ := outAll_val l (8 * d)
      refine .tup _ _ _ (by rw [p1, hws]) (fun i u hu => ?_)
      have hi : i < l.length := by rw [← p1]; exact lt_of_get hu
      obtain ⟨r, hr⟩ : ∃ r, l[i]? = some r := ⟨_, List.getElem?_eq_getElem hi⟩
      rw [p2 i r hr] at hu
      cases hu
      exact h3 i r hr
    · cases h
end
end Go.Proofs.Ytcmceadekcfpbaa
