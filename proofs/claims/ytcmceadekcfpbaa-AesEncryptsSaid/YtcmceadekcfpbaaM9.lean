/-
  The machine of plain values: its states, calls, and each operation that writes nothing.
-/
import Derived.Test.YtcmceadekcfpbaaM8
namespace Go.Proofs.Ytcmceadekcfpbaa
open Go.RowKit

/-- One result of a call: in block gb, if it goes over to the caller. -/
def RCok (F : Nat → Prop) (base : Nat) (w : World) (r : RC) (v : Value) (gb : Option Loc) : Prop :=
  match r with
  | .val u => Rep F w noMap u v ∧ gb = none
  | .own z n e x => x.vals.length = n * z ∧ ((n = 0 ∧ v = .slice none 0 0 ∧ gb = none) ∨
      ∃ (g c : Nat) (cs : Array Value), gb = some ⟨g, cs.size⟩ ∧ v = .slice (some ⟨g, 0, none⟩) n c ∧ n ≤ c ∧ c ≤ 9223372036854775807 ∧ base ≤ g ∧ ¬ F g ∧ w.heap[g]? = some (.cells cs e (0, 0)) ∧ cs.size = c * z ∧ ∀ (i : Nat) (u : LV), x.vals[i]? = some u → Rep F w noMap u (cs.getD i undef))
def ResOk (F : Nat → Prop) (base : Nat) (w : World) (r : LRes) (v : Value) : Prop :=
  match r with
  | .one r => ∃ gb, RCok F base w r v gb
  | .many l => ∃ (vs : Array Value) (gbs : Nat → Option Loc), v = .tuple vs ∧ vs.size = l.length ∧ (∀ (i : Nat) (r : RC), l[i]? = some r → RCok F base w r (vs.getD i undef) (gbs i)) ∧ ∀ i j l l', i ≠ j → gbs i = some l → gbs j = some l' → l.g ≠ l'.g
/-- A call with arguments that stay as they are. -/
def CallOk (P : Program) (f : Nat) (ds : List LV) (r : LRes) : Prop :=
  ∀ (w : World) (A : Nat → Prop) (args : Array Value), args.size = ds.length → (∀ g, A g → g < w.heap.size) → (∀ (i : Nat) (u : LV), ds[i]? = some u → Rep A w noMap u (args.getD i undef)) →
    Calls P f args w fun e w' => ∃ v F', e = .returned v ∧ Keeps (fun _ => False) w w' ∧ (∀ g, A g → F' g) ∧ (∀ g, F' g → g < w'.heap.size ∧ (A g ∨ w.heap.size ≤ g)) ∧ ResOk F' w.heap.size w' r v
structure EnvOk (P : Program) (E : Env) : Prop where
  T : ∀ t i, E.T t = some i → tiOf P t = some i
  orc : ∀ f ds r, E.orc f ds = some r → (∃ fn, P.funcs[f]? = some fn ∧ fn.name ≠ "runtime.NumGoroutine" ∧ fn.body.isSome = true) ∧ CallOk P f ds r

structure SR (A : Nat → Prop) (w0 : World) (n : Nat) (m : Map) (F : Nat → Prop) (ρ : Nat → LV) (β : Nat → Option Blk) (a : Act) (w : World) : Prop where
  size : a.tmps.size = n
  slots : ∀ t, Rep F w m (ρ t) (a.tmps.getD t undef)
  blks : ∀ b k, β b = some k → BlkOk F w0.heap.size w m b k
  sep : ∀ b b' k k' l l', β b = some k → β b' = some k' → b ≠ b' → m b = some (some l) → m b' = some (some l') → l.g ≠ l'.g
  dfr : a.defers = []
  keeps : Keeps (fun _ => False) w0 w
  flt : ∀ g, F g → g < w.heap.size
  sub : ∀ g, F g → A g ∨ w0.heap.size ≤ g
  sup : ∀ g, A g → F g
  dom : ∀ b, β b = none → m b = none

def updR (n : Nat) (ρ : Nat → LV) (dst : Option Nat) (u : LV) : Nat → LV :=
  match dst with
  | some d => fun t => if t = d ∧ d < n then u else ρ t
  | none => ρ
def updBs (β : Nat → Option Blk) : List (Nat × Blk) → Nat → Option Blk
  | [] => β
  | p :: bs => updBs (fun b => if p.1 = b then some p.2 else β b) bs
def updBO (dst : Option Nat) (β : Nat → Option Blk) (bs : List (Nat × Blk)) : Nat → Option Blk := updBs β (if dst.isSome then bs else [])

theorem updBs_cases : ∀ (bs : List (Nat × Blk)) (β : Nat → Option Blk) (b : Nat) (k : Blk), updBs β bs b = some k → (b, k) ∈ bs ∨ (β b = some k ∧ ∀ p ∈ bs, p.1 ≠ b)
  | [], β, b, k, h => .inr ⟨h, by simp⟩
  | p :: bs, β, b, k, h => by
    rcases updBs_cases bs _ b k h with h | ⟨h, h2⟩
    · exact .inl (List.mem_cons_of_mem _ h)
    · split at h
      · rename_i e
        cases h
        exact .inl (by rw [← e]; exact List.mem_cons_self ..)
      · rename_i e
        exact .inr ⟨h, fun q hq => by rcases List.mem_cons.1 hq with rfl | hq; exact e; exact h2 q hq⟩

theorem updBs_none : ∀ (bs : List (Nat × Blk)) (β : Nat → Option Blk) (b : Nat), updBs β bs b = none → β b = none ∧ ∀ p ∈ bs, p.1 ≠ b
  | [], β, b, h => ⟨h, by simp⟩
  | p :: bs, β, b, h => by
    obtain ⟨h1, h2⟩ := updBs_none bs _ b h
    split at h1
    · cases h1
    · rename_i e
      exact ⟨h1, fun q hq => by rcases List.mem_cons.1 hq with rfl | hq; exact e; exact h2 q hq⟩

section
variable {P : Program} {E : Env} {A : Nat → Prop} {w0 : World} {n : Nat} {m : Map} {F : Nat → Prop} {ρ : Nat → LV} {β : Nat → Option Blk} {a : Act} {w : World}

theorem getD_set (cs : Array Value) (d t : Nat) (v : Value) : (cs.setIfInBounds d v).getD t undef = if t = d ∧ d < cs.size then v else cs.getD t undef := by
  simp only [Array.getD_eq_getD_getElem?]
  by_cases h : t = d
  · subst h
    by_cases hd : t < cs.size
    · simp [hd]
    · simp [hd]
  · rw [Array.getElem?_setIfInBounds_ne (fun e => h e.symm)]
    simp [h]
theorem SR.put (S : SR A w0 n m F ρ β a w) (dst : Option Nat) {u : LV} {v : Value} (h : Rep F w m u v) : SR A w0 n m F (updR n ρ dst u) β (a.put dst v) w := by
  rcases dst with _ | d
  · exact S
  · refine { S with size := ?_, slots := fun t => ?_, dfr := S.dfr }
    · show (a.tmps.setIfInBounds d v).size = n
      simp [S.size]
    · show Rep F w m _ ((a.tmps.setIfInBounds d v).getD t undef)
      rw [getD_set, S.size]
      unfold updR
      simp only
      split
      · exact h
      · exact S.slots t
theorem Keeps.heap {w w' : World} (h : Keeps (fun _ => False) w w') {g : Nat} (hg : g < w.heap.size) : w'.heap[g]? = w.heap[g]? := h.block g hg (fun h => h)
theorem BlkOk.up {F F' : Nat → Prop} {base : Nat} {w w' : World} {m m' : Map} {b : Nat} {k : Blk} (h : BlkOk F base w m b k) (hm : ∀ b l, m b = some l → m' b = some l) (hk : Keeps (fun _ => False) w w')
    (hF : ∀ g, F g → F' g) (hF' : ∀ g, F' g → F g ∨ w.heap.size ≤ g) (hlt : ∀ g, F g → g < w.heap.size) : BlkOk F' base w' m' b k := by
  rcases h with ⟨h1, h2, h3⟩ | ⟨g, s, cs, h1, h2, h3, h4, h5, h6, h7, h8⟩
  · exact .inl ⟨hm _ _ h1, h2, h3⟩
  · have hg := (Array.getElem?_eq_some_iff.1 h4).1
    refine .inr ⟨g, s, cs, hm _ _ h1, fun hf => ?_, h3, by rw [hk.heap hg]; exact h4, h5, h6, h7, fun i u hu => (h8 i u hu).mono hF (fun g hg => hk.heap (hlt g hg)) _ hm⟩
    rcases hF' g hf with hf | hf
    · exact h2 hf
    · omega
theorem SR.old (S : SR A w0 n m F ρ β a w) {b : Nat} {k : Blk} {l : Loc} (hb : β b = some k) (hl : m b = some (some l)) : l.g < w.heap.size ∧ ¬ F l.g ∧ w0.heap.size ≤ l.g := by
  rcases S.blks b k hb with ⟨h1, _⟩ | ⟨g, s, cs, h1, h2, h3, h4, _⟩
  · rw [hl] at h1; cases h1
  · rw [hl] at h1; cases h1
    exact ⟨(Array.getElem?_eq_some_iff.1 h4).1, h2, h3⟩
/-- New blocks. -/
theorem SR.add (S : SR A w0 n m F ρ β a w) {m' : Map} {F' : Nat → Prop} {w' : World} {bs : List (Nat × Blk)} (hm : ∀ b l, m b = some l → m' b = some l) (hk : Keeps (fun _ => False) w w')
    (hF : ∀ g, F g → F' g) (hF' : ∀ g, F' g → F g ∨ w.heap.size ≤ g) (hlt : ∀ g, F' g → g < w'.heap.size)
    (hnew : ∀ p ∈ bs, BlkOk F' w0.heap.size w' m' p.1 p.2 ∧ ∀ l, m' p.1 = some (some l) → ∀ b k l', β b = some k → m b = some (some l') → l'.g ≠ l.g)
    (hsep : ∀ p ∈ bs, ∀ q ∈ bs, p.1 ≠ q.1 → ∀ l l', m' p.1 = some (some l) → m' q.1 = some (some l') → l.g ≠ l'.g) (hdom : ∀ b, m' b ≠ m b → ∃ p ∈ bs, p.1 = b) : SR A w0 n m' F' ρ (updBs β bs) a w' := by
  have hold : ∀ b k l, β b = some k → m' b = some (some l) → m b = some (some l) := by
    intro b k l hb hl
    rcases S.blks b k hb with ⟨h1, _⟩ | ⟨g, s, cs, h1, _⟩
    · rw [hm _ _ h1] at hl; cases hl
    · rw [hm _ _ h1] at hl
      cases hl
      exact h1
  refine ⟨S.size, fun t => (S.slots t).mono hF (fun g hg => hk.heap (S.flt g hg)) _ hm, fun b k hb => ?_, fun b b' k k' l l' hb hb' hne hl hl' => ?_, S.dfr, S.keeps.trans hk, hlt, fun g hg => ?_, fun g hg => hF g (S.sup g hg), fun b hb => ?_⟩
  · rcases updBs_cases bs β b k hb with h | ⟨h, _⟩
    · exact (hnew _ h).1
    · exact (S.blks b k h).up hm hk hF hF' S.flt
  · rcases updBs_cases bs β b k hb with h | ⟨h, _⟩ <;> rcases updBs_cases bs β b' k' hb' with h' | ⟨h', _⟩
    · exact hsep _ h _ h' hne l l' hl hl'
    · exact fun e => (hnew _ h).2 l hl _ _ _ h' (hold _ _ _ h' hl') e.symm
    · exact (hnew _ h').2 l' hl' _ _ _ h (hold _ _ _ h hl)
    · exact S.sep b b' k k' l l' h h' hne (hold _ _ _ h hl) (hold _ _ _ h' hl')
  · rcases hF' g hg with h | h
    · exact S.sub g h
    · exact .inr (Nat.le_trans S.keeps.size h)
  · obtain ⟨h1, h2⟩ := updBs_none bs β b hb
    rcases Classical.em (m' b = m b) with h | h
    · rw [h]; exact S.dom b h1
    · obtain ⟨p, hp, e⟩ := hdom b h
      exact absurd e (h2 p hp)
theorem SR.world (S : SR A w0 n m F ρ β a w) {w' : World} (hk : Keeps (fun _ => False) w w') : SR A w0 n m F ρ β a w' :=
  S.add (bs := []) (fun _ _ h => h) hk (fun _ h => h) (fun _ h => .inl h) (fun g h => Nat.lt_of_lt_of_le (S.flt g h) hk.size) (by simp) (by simp) (fun b h => absurd rfl h)
theorem evalO_ok (hs : ∀ t, Rep F w m (ρ t) (a.tmps.getD t undef)) {x : Operand} {u : LV} (h : evalO ρ x = some u) : Rep F w m u (a.eval x) := by
  cases x with
  | tmp t =>
    simp only [evalO] at h
    split at h
    · cases h
    · cases h; exact hs t
  | const v => exact lvOf_rep h
  | global g => cases h
  | func f => cases h; exact .v _ _ rfl

/-- What stays while a call lasts. -/
def FP (F : Nat → Prop) (β : Nat → Option Blk) (m : Map) (g : Nat) : Prop := F g ∨ ∃ b k l, β b = some k ∧ m b = some (some l) ∧ l.g = g
theorem shut_rep {F F' : Nat → Prop} {u : LV} {v : Value} (h : Rep F w m u v) (hF : ∀ g, F g → F' g) {D : Nat} (hu : u.shut D = true) : Rep F' w noMap u v :=
  (h.shut noMap D hu).mono hF (fun _ _ => rfl) _ (fun _ _ h => h)
theorem optMap_rep {D : Nat} {l l' : List LV} (ih : ∀ (u d : LV) (v : Value), Rep F w m u v → expo β D u = some d → Rep (FP F β m) w noMap d v) (h : optMap (expo β D) l = some l') {f : Nat → Value}
    (hr : ∀ (i : Nat) (u : LV), l[i]? = some u → Rep F w m u (f i)) : l'.length = l.length ∧ ∀ (i : Nat) (u : LV), l'[i]? = some u → Rep (FP F β m) w noMap u (f i) := by
  obtain ⟨h1, h2⟩ := optMap_spec h
  refine ⟨h1, fun i u hu => ?_⟩
  obtain ⟨x, hx, hd⟩ := h2 i u hu
  exact ih _ _ _ (hr i x hx) hd
theorem expo_ok {base : Nat} (hB : ∀ b k, β b = some k → BlkOk F base w m b k) : ∀ (D : Nat) (u d : LV) (v : Value), Rep F w m u v → expo β D u = some d → Rep (FP F β m) w noMap d v := by
  intro D
  induction D with
  | zero =>
    intro u d v hr h
    cases u with
    | agg x =>
      cases x with
      | flat k l => simp only [expo] at h; cases h; exact shut_rep (D := 0) hr (fun _ h => .inl h) rfl
      | gen l => simp [expo] at h
    | v x => simp only [expo] at h; cases h; exact shut_rep (D := 0) hr (fun _ h => .inl h) rfl
    | str x => simp only [expo] at h; cases h; exact shut_rep (D := 0) hr (fun _ h => .inl h) rfl
    | imp x => simp only [expo] at h; cases h; exact shut_rep (D := 0) hr (fun _ h => .inl h) rfl
    | im z n c x => simp only [expo] at h; cases h; exact shut_rep (D := 0) hr (fun _ h => .inl h) rfl
    | _ => simp [expo] at h
  | succ D ih =>
    intro u d v hr h
    have hflat : ∀ {k : IntKind} {l : List Int} {f : Nat → Value}, (∀ (i : Nat) (u : LV), (Cont.flat k l).vals[i]? = some u → Rep F w m u (f i)) → ∀ (i : Nat) (u : LV), (Cont.flat k l).vals[i]? = some u → Rep (FP F β m) w noMap u (f i) := by
      intro k l f hf i u hu
      have := hf i u hu
      obtain ⟨q, rfl⟩ := flat_leaf hu
      exact this.pure _ _ _ 0 rfl
    cases u with
    | agg x =>
      cases x with
      | flat k l => simp only [expo] at h; cases h; exact shut_rep (D := 0) hr (fun _ h => .inl h) rfl
      | gen l =>
        simp only [expo] at h
        rcases hq : optMap (expo β D) l with _ | l'
        · rw [hq] at h; cases h
        · rw [hq] at h
          cases h
          cases hr with
          | agg _ _ cs hl hrr =>
            obtain ⟨h1, h2⟩ := optMap_rep ih hq (f := fun i => cs.getD i undef) hrr
            exact .agg _ _ _ (by rw [hl]; exact h1.symm) h2
    | v x => simp only [expo] at h; cases h; exact shut_rep (D := 0) hr (fun _ h => .inl h) rfl
    | str x => simp only [expo] at h; cases h; exact shut_rep (D := 0) hr (fun _ h => .inl h) rfl
    | imp x => simp only [expo] at h; cases h; exact shut_rep (D := 0) hr (fun _ h => .inl h) rfl
    | im z n c x => simp only [expo] at h; cases h; exact shut_rep (D := 0) hr (fun _ h => .inl h) rfl
    | poison => simp [expo] at h
    | tup l =>
      simp only [expo] at h
      rcases hq : optMap (expo β D) l with _ | l'
      · rw [hq] at h; cases h
      · rw [hq] at h
        cases h
        cases hr with
        | tup _ _ vs hl hrr =>
          obtain ⟨h1, h2⟩ := optMap_rep ih hq (f := fun i => vs.getD i undef) hrr
          exact .tup _ _ _ (by rw [hl]; exact h1.symm) h2
    | iface t u =>
      simp only [expo] at h
      rcases hq : expo β D u with _ | u'
      · rw [hq] at h; cases h
      · rw [hq] at h
        cases h
        cases hr with
        | iface _ _ _ v hrr => exact .iface _ _ _ _ (ih _ _ _ hrr hq)
    | ptr b off =>
      simp only [expo] at h
      split at h
      · rename_i k hk
        cases hr with
        | ptr _ _ _ g s hm =>
          obtain ⟨cs, b1, b2, b3, b4⟩ := blk_cells (hB _ _ hk) hm
          have hFP : FP F β m g := .inr ⟨b, k, _, hk, hm, rfl⟩
          rcases hq : k.x.cut off (k.x.len - off) with _ | y
          · rw [hq] at h; cases h
          · rw [hq] at h
            obtain ⟨y1, y2⟩ := Cont.cut_vals hq
            have yc : (∀ i, i < y.vals.length → w.cell? ⟨g, off + i, none⟩ = some (cs.getD (off + i) undef)) ∧ ∀ (i : Nat) (u : LV), y.vals[i]? = some u → Rep F w m u (cs.getD (off + i) undef) := by
              refine ⟨fun i hi => ?_, fun i u hu => ?_⟩
              · have := b4.1 (off + i) (by rw [y2] at hi; simp at hi; omega)
                rwa [Nat.zero_add] at this
              · rw [y2, List.getElem?_take] at hu
                split at hu
                · rw [List.getElem?_drop] at hu; exact b4.2 _ _ hu
                · cases hu
            rcases y with ⟨kk, l⟩ | l
            · cases h
              exact .imp _ _ _ _ (fun i => cs.getD (off + i) undef) hFP yc.1 (hflat yc.2)
            · simp only at h
              rcases hq2 : optMap (expo β D) l with _ | l'
              · rw [hq2] at h; cases h
              · rw [hq2] at h
                cases h
                obtain ⟨h1, h2⟩ := optMap_rep ih hq2 (f := fun i => cs.getD (off + i) undef) yc.2
                exact .imp _ _ _ _ (fun i => cs.getD (off + i) undef) hFP (fun i hi => yc.1 i (by rw [← show l'.length = (Cont.gen l).vals.length from h1]; exact hi)) h2
      · cases h
    | sl z b off n c =>
      simp only [expo] at h
      split at h
      · rename_i k hk
        rcases hq : k.x.cut off (n * z) with _ | y
        · rw [hq] at h; cases h
        · rw [hq] at h
          obtain ⟨y1, y2⟩ := Cont.cut_vals hq
          have ylen : y.vals.length = n * z := by rw [y2]; simp; omega
          have ys : ∃ (a' : Option Addr) (c' : Nat) (f : Nat → Value), v = .slice a' n c' ∧ n ≤ c' ∧ (∀ k, c = some k → c' = k) ∧ (a' = none → n = 0 ∧ c' = 0) ∧
              (y.vals = [] ∨ ∃ g o, a' = some ⟨g, o, none⟩ ∧ FP F β m g ∧ ∀ i, i < y.vals.length → w.cell? ⟨g, o + i, none⟩ = some (f i)) ∧ (∀ (i : Nat) (u : LV), y.vals[i]? = some u → Rep F w m u (f i)) := by
            cases hr with
            | sl _ _ _ _ _ _ g s ad c' hm ha hn hkk hs hx =>
              obtain ⟨cs, b1, b2, b3, b4⟩ := blk_cells (hB _ _ hk) hm
              refine ⟨some ad, c', fun i => cs.getD (off + i) undef, rfl, hn, hkk, (fun h => by cases h), ?_, fun i u hu => ?_⟩
              · rcases ha with rfl | ⟨rfl, _, _⟩
                · refine .inr ⟨g, off, rfl, .inr ⟨b, k, _, hk, hm, rfl⟩, fun i hi => ?_⟩
                  have := b4.1 (off + i) (by omega)
                  rwa [Nat.zero_add] at this
                · exact .inl (List.eq_nil_of_length_eq_zero (by rw [ylen]; simp))
              · rw [y2, List.getElem?_take] at hu
                split at hu
                · rw [List.getElem?_drop] at hu; exact b4.2 _ _ hu
                · cases hu
            | slNil _ _ _ _ hm hkk =>
              have y0 : y.vals = [] := List.eq_nil_of_length_eq_zero (by rw [ylen]; simp)
              exact ⟨none, 0, fun _ => undef, rfl, Nat.le_refl _, fun k hk => (hkk k hk).symm, fun _ => ⟨rfl, rfl⟩, .inl y0, fun i u hu => by rw [y0] at hu; simp at hu⟩
          obtain ⟨a', c', f, rfl, e1, e2, e3, e4, e5⟩ := ys
          rcases y with ⟨kk, l⟩ | l
          · cases h
            exact .im _ _ _ _ _ _ _ f ylen e1 e2 e3 e4 (hflat e5)
          · simp only at h
            rcases hq2 : optMap (expo β D) l with _ | l'
            · rw [hq2] at h; cases h
            · rw [hq2] at h
              cases h
              obtain ⟨h1, h2⟩ := optMap_rep ih hq2 e5
              have hl1 : (Cont.gen l').vals.length = (Cont.gen l).vals.length := h1
              refine .im _ _ _ _ _ _ _ f (by rw [hl1]; exact ylen) e1 e2 e3 ?_ h2
              rcases e4 with e4 | ⟨g, o, x1, x2, x3⟩
              · exact .inl (List.eq_nil_of_length_eq_zero (by rw [hl1, e4]; rfl))
              · exact .inr ⟨g, o, x1, x2, fun i hi => x3 i (by rw [← hl1]; exact hi)⟩
      · cases h
end
end Go.Proofs.Ytcmceadekcfpbaa
