/-
  Layer 7, the program: one piece after the other into the authentication value (mark's function literal).
-/
import Derived.Test.YtgkccfjjjamhoaaChk
import Derived.Test.YtgkccfjjjamhoaaA7S
import Derived.Test.YtgkccfjjjamhoaaMV
namespace Go.Proofs.Ytgkccfjjjamhoaa
open Go.RowKit Go.Shelf

attribute [local go_sem] Oper.semAt_some

/-- The bytes l lie in memory, in a block of B. -/
def RowIm (W : World) (B : Nat → Prop) (v : Value) (l : List Int) : Prop :=
  ∃ g o c, v = .slice (some ⟨g, o, none⟩) l.length c ∧ l.length ≤ c ∧ B g ∧ g < W.heap.size ∧ ∀ j, j < l.length → W.cell? ⟨g, o + j, none⟩ = some (.int .u8 (l.getD j 0))
theorem RowIm.keeps {W W' : World} {B S : Nat → Prop} {v : Value} {l : List Int} (h : RowIm W B v l) (hk : Keeps S W W') (hs : ∀ g, B g → ¬ S g) : RowIm W' B v l := by
  obtain ⟨g, o, c, h1, h2, h4, h5, h6⟩ := h
  exact ⟨g, o, c, h1, h2, h4, Nat.lt_of_lt_of_le h5 hk.size, fun j hj => (hk.cell (p := ⟨g, o + j, none⟩) h5 (hs g h4)).trans (h6 j hj)⟩
theorem RowIm.drewN {W : World} {B : Nat → Prop} {v : Value} {l : List Int} (h : RowIm W B v l) (k : Nat) : RowIm (W.drewN k) B v l := h
theorem RowIm.mono {W : World} {B B' : Nat → Prop} {v : Value} {l : List Int} (h : RowIm W B v l) (hb : ∀ g, B g → B' g) : RowIm W B' v l := by
  obtain ⟨g, o, c, h1, h2, h4, h5, h6⟩ := h
  exact ⟨g, o, c, h1, h2, hb g h4, h5, h6⟩
theorem RowIm.rep {W : World} {B : Nat → Prop} {v : Value} {l : List Int} (h : RowIm W B v l) (n : Nat) (hn : l.length = n) (F : Nat → Prop) (hF : ∀ g, B g → F g) : Rep F W noMap (.im 1 n none (.flat .u8 l)) v := by
  obtain ⟨g, o, c, rfl, h2, h4, h5, h6⟩ := h
  subst hn
  refine .im _ _ _ _ _ _ _ (fun j => .int .u8 (l.getD j 0)) (by simp [Cont.vals]) h2 (fun k hk => by cases hk) (fun h => by cases h) (.inr ⟨g, o, rfl, hF g h4, fun i hi => h6 i (by simpa [Cont.vals] using hi)⟩) (fun i u hu => ?_)
  have hi : i < l.length := by simpa [Cont.vals] using lt_of_get hu
  have hu' : u = .v (.int .u8 (l.getD i 0)) := by
    simp only [Cont.vals, List.getElem?_map, List.getElem?_eq_getElem hi, Option.map_some, Option.some.injEq] at hu
    rw [← hu, List.getD_eq_getElem?_getD, List.getElem?_eq_getElem hi]; rfl
  subst hu'
  exact .v _ _ rfl
theorem row_of_rep {W : World} {F : Nat → Prop} {m : Map} {v : Value} {l : List Int} {n : Nat} {c : Option Nat} (h : Rep F W m (.im 1 n c (.flat .u8 l)) v) (hn : 0 < n) (hF : ∀ g, F g → g < W.heap.size) : l.length = n ∧ ∃ g o c', v = .slice (some ⟨g, o, none⟩) n c' ∧ n ≤ c' ∧ F g ∧ g < W.heap.size ∧ ∀ j, j < n → W.cell? ⟨g, o + j, none⟩ = some (.int .u8 (l.getD j 0)) := by
  cases h with
  | im _ _ _ _ _ a c' f hl' hn' hk' ha hm hr =>
    have hl : l.length = n := by simpa [Cont.vals] using hl'
    refine ⟨hl, ?_⟩
    rcases hm with hm | ⟨g, o, h1, h2, h3⟩
    · simp [Cont.vals] at hm
      subst hm
      simp at hl
      omega
    · refine ⟨g, o, c', by rw [h1], hn', h2, hF g h2, fun j hj => ?_⟩
      rw [h3 j (by simpa [Cont.vals, hl] using hj)]
      have := hr j (.v (.int .u8 (l.getD j 0))) (by simp [Cont.vals, hl, hj, List.getD_eq_getElem?_getD])
      generalize f j = x at this
      cases this
      rfl
theorem own_row {F : Nat → Prop} {base n e : Nat} {W : World} {v : Value} {gb : Option Loc} {l : List Int} (h : RCok F base W (.own 1 n e (.flat .u8 l)) v gb) (hn : 0 < n) : l.length = n ∧ RowIm W (base ≤ ·) v l := by
  obtain ⟨h1, h2⟩ := h
  have hl : l.length = n := by simpa [Cont.vals] using h1
  refine ⟨hl, ?_⟩
  rcases h2 with ⟨h, _⟩ | ⟨g, c, cs, q1, q2, q3, q4, q5, q6, q7, q8, q9⟩
  · omega
  · refine ⟨g, 0, c, by rw [q2, hl], by omega, q5, (Array.getElem?_eq_some_iff.1 q7).1, fun j hj => ?_⟩
    have := q9 j (.v (.int .u8 (l.getD j 0))) (by simp [Cont.vals, hj, List.getD_eq_getElem?_getD])
    rw [Nat.zero_add, cell_of_row W g j cs e (0, 0) q7]
    have hj' : j < cs.size := by omega
    rw [Array.getD_eq_getD_getElem?, Array.getElem?_eq_getElem hj'] at this
    rw [Array.getElem?_eq_getElem hj']
    simp only [Option.getD_some] at this
    generalize cs[j] = x at this
    cases this
    rfl
/-- Two arguments that are rows. -/
theorem two_rep {W : World} {B1 B2 : Nat → Prop} {va vb : Value} {a b : List Int} (ha : RowIm W B1 va a) (hb : RowIm W B2 vb b) (n m : Nat) (hn : a.length = n) (hm : b.length = m) :
    ∀ (i : Nat) (u : LV), [LV.im 1 n none (.flat .u8 a), LV.im 1 m none (.flat .u8 b)][i]? = some u → Rep (fun g => g < W.heap.size ∧ (B1 g ∨ B2 g)) W noMap u (#[va, vb].getD i undef) := by
  intro i u hu
  have ha' : RowIm W (fun g => g < W.heap.size ∧ (B1 g ∨ B2 g)) va a := by
    obtain ⟨g, o, c, h1, h2, h4, h5, h6⟩ := ha
    exact ⟨g, o, c, h1, h2, ⟨h5, .inl h4⟩, h5, h6⟩
  have hb' : RowIm W (fun g => g < W.heap.size ∧ (B1 g ∨ B2 g)) vb b := by
    obtain ⟨g, o, c, h1, h2, h4, h5, h6⟩ := hb
    exact ⟨g, o, c, h1, h2, ⟨h5, .inr h4⟩, h5, h6⟩
  rcases i with _ | _ | i
  · cases hu; exact ha'.rep n hn _ (fun _ h => h)
  · cases hu; exact hb'.rep m hm _ (fun _ h => h)
  · cases hu
theorem plus_pl (W : World) {B1 B2 : Nat → Prop} {va vb : Value} {a b : List Int} (ha : RowIm W B1 va a) (hb : RowIm W B2 vb b) (hab : By a) (hbb : By b) (h0 : 0 < a.length ∧ a.length ≤ 100000) (h1 : b.length ≤ 100000) :
    Calls Try.prog 40 #[va, vb] W fun e W' => ∃ v, e = .returned v ∧ Keeps (fun _ => False) W W' ∧ RowIm W' (W.heap.size ≤ ·) v (pluP a b) := by
  refine (execF_ok follows_ok EP7_ok Try.func40 (pplus_exec _ _ none none a b rfl rfl hab hbb h0.2 h1) W _ #[va, vb] rfl (fun g hg => hg.1) (two_rep ha hb _ _ rfl rfl)).mono ?_
  rintro e W' ⟨v, F', rfl, hk, _, _, gb, hr⟩
  exact ⟨v, rfl, hk, (own_row hr h0.1).2⟩
theorem enc_pl (W : World) {B1 B2 : Nat → Prop} {va vb : Value} {a b : List Int} (ha : RowIm W B1 va a) (hb : RowIm W B2 vb b) (hab : By a) (hbb : By b) (h0 : a.length = 16) (h1 : b.length = 16) :
    Calls Try.prog 44 #[va, vb] W fun e W' => ∃ v, e = .returned v ∧ Keeps (fun _ => False) W W' ∧ RowIm W' (W.heap.size ≤ ·) v (encS a b 10) := by
  refine (execF_ok follows_ok EP7_ok Try.func44 (pencrypt_exec none none a b h0 h1 hab hbb) W _ #[va, vb] rfl (fun g hg => hg.1) (two_rep ha hb _ _ h0 h1)).mono ?_
  rintro e W' ⟨v, F', rfl, hk, _, _, gb, hr⟩
  exact ⟨v, rfl, hk, (own_row hr (by omega)).2⟩

/-! the chain -/
def ckL (b : List Int) (k : Nat) : List Int := (b.drop (16 * k)).take 16
def chl (key b X : List Int) (ks : List Nat) : List Int := ks.foldl (fun Y k => encS key (pluP Y (ckL b k)) 10) X
theorem chl_snoc (key b X : List Int) (ks : List Nat) (k : Nat) : chl key b X (ks ++ [k]) = encS key (pluP (chl key b X ks) (ckL b k)) 10 := by simp [chl]
theorem chl_len (key b X : List Int) (hX : X.length = 16) (ks : List Nat) : (chl key b X ks).length = 16 := by
  rcases List.eq_nil_or_concat ks with rfl | ⟨l, k, rfl⟩
  · exact hX
  · rw [List.concat_eq_append, chl_snoc]; exact encS_len _ _ _
theorem chl_by0 {key b : List Int} (hk : By key) (hb : By b) : ∀ (ks : List Nat) (Y : List Int), By Y → By (chl key b Y ks)
  | [], _, h => h
  | _ :: ks, _, h => chl_by0 hk hb ks _ (encS_by hk (pluP_by h ((hb.drop _).take _)) 10)

theorem chunk_in (n : Nat) (a : Option Addr) (len cap : Nat) (w : World) :
    CallsIn Fence.wide n Try.prog 43 #[.slice a len cap, .int .i64 16] w fun e w' =>
      e = .returned (.func (.func 56) #[] #[.pointer (some ⟨w.heap.size, 0, none⟩), .pointer (some ⟨w.heap.size + 1, 0, none⟩)]) ∧ w' = (w.alloc (.cells #[.slice a len cap] 22)).alloc (.cells #[.int .i64 16] 3) := by
  refine callsIn_of_wp Try.func43 rfl trivial ?_ rfl
  simp only [Try.ntmps43, List.size_toArray, List.length_cons, List.length_nil, Nat.reduceAdd, Nat.reduceSub, Array.replicate_succ, Array.replicate_zero, List.push_toArray, List.append_toArray, List.nil_append, List.cons_append]
  gi_wp2
  go_ret
  exact ⟨rfl, rfl⟩
theorem chunk_stops (n : Nat) (hn : 1 ≤ n) (gs gn n0 gx b off len cap : Nat) (a : Option Addr) (ha : 0 < len → a = some ⟨b, off, none⟩) (hcap : len ≤ cap) (hlen : len ≤ 1000000) (h1 : gs < n0 ∧ gs ≠ gx) (h2 : gn < n0 ∧ gn ≠ gx) (w : World) (hw : n0 ≤ w.heap.size)
    (hs : w.cell? ⟨gs, 0, none⟩ = some (.slice a len cap)) (hc : w.cell? ⟨gn, 0, none⟩ = some (.int .i64 16)) :
    SeqStopsK Fence.wide n Try.prog 56 #[.pointer (some ⟨gs, 0, none⟩), .pointer (some ⟨gn, 0, none⟩)] (ckV b off len) (KpX n0 gx) (fun ys => ckN ys = List.range ((len + 15) / 16)) (fun _ => True) ((len + 15) / 16) w := by
  intro l J Jx W hW hJ hJx hY h0
  exact chunk1_in n hn l gs gn n0 gx b off len cap a ha hcap hlen h1 h2 J Jx (fun pre W m h => hJ pre W _ none h ⟨rfl, rfl, rfl, Nat.le_refl _, fun _ _ _ => rfl⟩ (fun r e => by cases e)) hY W ((hW.cell (p := ⟨gs, 0, none⟩) (by show gs < _; omega)).trans hs) ((hW.cell (p := ⟨gn, 0, none⟩) (by show gn < _; omega)).trans hc) h0

/-- What lies in memory behind so many rounds. -/
def MkI (W0 : World) (gx : Nat) (Bx : Nat → Prop) (key b X : List Int) (n0 : Nat) {len : Nat} (pre : List (Ck len)) (W : World) : Prop :=
  (∃ vx, W.heap[gx]? = some (.cells #[vx] 22 (0, 0)) ∧ RowIm W (fun g => (Bx g ∨ W0.heap.size ≤ g) ∧ g ≠ gx) vx (chl key b X (ckN pre))) ∧ Keeps (· = gx) W0 W ∧ n0 ≤ W.heap.size
theorem MkI_own {W0 : World} {gx : Nat} {Bx : Nat → Prop} {key b X : List Int} {n0 len B : Nat} (hB : W0.heap.size ≤ B) : OwnFrom B (MkI W0 gx Bx key b X n0 (len := len)) := by
  rintro s W W' row ⟨⟨vx, h1, g, o, c, h2, h3, h5, h6, h7⟩, h8, h9⟩ hg hr
  have hr' : ∀ r, row = some r → ∃ o : Obj, W.heap[r]? = some o ∧ o.isCells = false := fun r e => (hr r e).2
  refine ⟨⟨vx, ?_, g, o, c, h2, h3, h5, Nat.lt_of_lt_of_le h6 hg.size, fun j hj => cell_kept (h7 j hj) hg hr'⟩, h8.grown hg (fun k e hk => by have := (hr k e).1; omega), Nat.le_trans h9 hg.size⟩
  rw [hg.block gx (Array.getElem?_eq_some_iff.1 h1).1 (fun e => ?_)]
  · exact h1
  · obtain ⟨o, ho, hc⟩ := hr' gx e.symm
    rw [h1] at ho
    cases ho
    cases hc

/-- The place of mark's box of the authentication value, among the lent blocks. -/
def xFr (W : World) (gx : Nat) : Fr := ⟨W, fun b => if b = 23 then some ⟨gx, 1⟩ else none, fun b l h => by
  split at h
  · rename_i e; subst e; rfl
  · cases h⟩
theorem xFr_L {W : World} {gx g : Nat} : (xFr W gx).L g ↔ g = gx := by
  constructor
  · rintro ⟨b, l, h, rfl⟩
    simp only [xFr] at h
    split at h
    · cases h; rfl
    · cases h
  · rintro rfl
    exact ⟨23, ⟨g, 1⟩, rfl, rfl⟩
def xMap (gx : Nat) : Map := fun b => if b = 23 then some (some ⟨gx, 1⟩) else none
noncomputable def xOps : Array Oper := match Try.f42.body with
  | some (.seq _ (.block _ (.rangeFunc _ _ _ (.block _ (.region _ ops _))))) => ops
  | _ => #[]
def notDefer (o : Oper) : Bool := match o.op with
  | .defer _ => false
  | _ => true
theorem xOps_plain : xOps.toList.all notDefer = true := by kernel_rfl
set_option maxRecDepth 100000 in
set_option maxHeartbeats 8000000 in
theorem mark1_body (l n : Nat) (W : World) (gk gx : Nat) (vk vx pv : Value) (key Y p : List Int) (hgk : W.heap[gk]? = some (.cells #[vk] 22 (0, 0))) (hgx : W.heap[gx]? = some (.cells #[vx] 22 (0, 0))) (hne : gk ≠ gx)
    (hkr : RowIm W (· ≠ gx) vk key) (hxr : RowIm W (· ≠ gx) vx Y) (hP : RowIm W (· ≠ gx) pv p) (hk16 : key.length = 16) (hkb : By key) (hYl : Y.length = 16) (hYb : By Y) (hpl : p.length ≤ 16) (hpb : By p)
    (ts : Array Value) (hsz : ts.size = 13) (h1 : ts.getD 1 undef = .pointer (some ⟨gk, 0, none⟩)) (h2 : ts.getD 2 undef = .pointer (some ⟨gx, 0, none⟩)) (h4 : ts.getD 4 undef = pv) :
    (Code.region 2 xOps true).wpIn (Fence.wide.inRound l) n Try.prog (fun e _ W' => e = .normal ∧ Keeps (· = gx) W W' ∧ ∃ vx', W'.heap[gx]? = some (.cells #[vx'] 22 (0, 0)) ∧ RowIm W' (fun g => W.heap.size ≤ g ∧ g ≠ gx) vx' (encS key (pluP Y p) 10)) { tmps := ts, defers := [] } W := by
  have lk := (Array.getElem?_eq_some_iff.1 hgk).1
  have S : SRs (fun g => g < W.heap.size ∧ g ≠ gx) (xFr W gx) ⟨[.poison, .imp (.gen [.im 1 16 none (.flat .u8 key)]), .ptr 23 0, .poison, .im 1 p.length none (.flat .u8 p), .poison, .poison, .poison, .poison, .poison, .poison, .poison, .poison], [(23, ⟨.gen [.im 1 16 none (.flat .u8 Y)], 22, false⟩)]⟩ { tmps := ts, defers := [] } W := by
    have hin : ∀ {v : Value} {q : List Int}, RowIm W (· ≠ gx) v q → RowIm W (fun g => g < W.heap.size ∧ g ≠ gx) v q := by
      rintro v q ⟨g, o, c, q1, q2, q4, q5, q6⟩
      exact ⟨g, o, c, q1, q2, ⟨q5, q4⟩, q5, q6⟩
    have hblk : ∀ (b : Nat) (k : Blk), St.blk ⟨[.poison, .imp (.gen [.im 1 16 none (.flat .u8 key)]), .ptr 23 0, .poison, .im 1 p.length none (.flat .u8 p), .poison, .poison, .poison, .poison, .poison, .poison, .poison, .poison], [(23, ⟨.gen [.im 1 16 none (.flat .u8 Y)], 22, false⟩)]⟩ b = some k → b = 23 ∧ k = ⟨.gen [.im 1 16 none (.flat .u8 Y)], 22, false⟩ := by
      intro b k hk
      simp only [St.blk, findB] at hk
      split at hk
      · rename_i e; cases hk; exact ⟨e.symm, rfl⟩
      · cases hk
    refine ⟨xMap gx, fun g => g < W.heap.size ∧ g ≠ gx, hsz, fun t => ?_, fun b k hk => ?_, fun b b' k k' l l' hb hb' hnb => ?_, rfl, Keeps.refl _ _, fun g hg => hg.1, fun g hg => .inl hg, fun g hg => hg, fun b hb => ?_, fun b l k hl hk => ?_⟩
    · show Rep _ W (xMap gx) ([.poison, .imp (.gen [.im 1 16 none (.flat .u8 key)]), .ptr 23 0, .poison, .im 1 p.length none (.flat .u8 p), .poison, .poison, .poison, .poison, .poison, .poison, .poison, .poison].getD t .poison) (ts.getD t undef)
      rcases t with _ | _ | _ | _ | _ | _ | _ | _ | _ | _ | _ | _ | _ | t
      · exact .poison _ _
      · show Rep _ W (xMap gx) (.imp (.gen [.im 1 16 none (.flat .u8 key)])) (ts.getD 1 undef)
        rw [h1]
        refine .imp _ _ gk 0 (fun _ => vk) ⟨lk, hne⟩ (fun i hi => ?_) (fun i u hu => ?_)
        · have : i = 0 := by simpa [Cont.vals] using hi
          subst this
          rw [cell_of_row W gk 0 _ _ _ hgk]; rfl
        · rcases i with _ | i
          · cases hu; exact (hin hkr).rep 16 hk16 _ (fun _ h => h)
          · cases hu
      · show Rep _ W (xMap gx) (.ptr 23 0) (ts.getD 2 undef)
        rw [h2]
        exact .ptr _ _ _ gx 1 rfl
      · exact .poison _ _
      · show Rep _ W (xMap gx) (.im 1 p.length none (.flat .u8 p)) (ts.getD 4 undef)
        rw [h4]
        have := (hin hP).rep p.length rfl _ (fun _ h => h)
        exact this.noMap_up _
      all_goals exact .poison _ _
    · obtain ⟨rfl, rfl⟩ := hblk b k hk
      refine .inr ⟨gx, 1, #[vx], rfl, fun h => h.2 rfl, .inr (xFr_L.2 rfl), hgx, rfl, fun _ => rfl, Nat.le_refl _, fun i u hu => ?_⟩
      rcases i with _ | i
      · cases hu
        have := (hin hxr).rep 16 hYl _ (fun _ h => h)
        exact this.noMap_up _
      · cases hu
    · obtain ⟨rfl, _⟩ := hblk b k hb
      obtain ⟨rfl, _⟩ := hblk b' k' hb'
      exact absurd rfl hnb
    · simp only [xMap]
      split
      · rename_i e; subst e; cases hb
      · rfl
    · obtain ⟨rfl, rfl⟩ := hblk b k hk
      simp only [xFr] at hl
      cases hl
      exact ⟨rfl, rfl⟩
  have oP := fun c c2 => bPlus 16 p.length c c2 Y p hYl rfl hYb hpb (by omega) (by omega)
  have hql : (pluP Y p).length = 16 := by rw [pluP_len, hYl]
  have hqb := pluP_by hYb hpb
  obtain ⟨Q, hQ⟩ : ∃ Q, Q = pluP Y p := ⟨_, rfl⟩
  rw [← hQ] at oP hql hqb ⊢
  have hcQ : (Cont.flat .u8 Q).cut 0 (16 * 1) = some (.flat .u8 Q) := cut_all hql
  have oE := fun c c2 => bEnc c c2 key Q hk16 hql hkb hqb
  refine wpIn_mono (regionIn_ok follows_ok EB7_ok (K := fun st' => st'.blks = [(23, ⟨.gen [.sl 1 96 0 16 none], 22, false⟩), (88, ⟨.flat .u8 Q, 5, true⟩), (96, ⟨.flat .u8 (encS key Q 10), 54, true⟩)]) ?ho S ?ex) ?_
  case ho =>
    intro i o hi c e
    have := List.all_eq_true.1 xOps_plain o (List.mem_of_getElem? (by simpa using hi))
    unfold notDefer at this
    rw [e] at this
    cases this
  case ex =>
    ((conv => whnf); repeat ((first | refine ⟨_, oP _ _, ?_⟩ | refine ⟨_, oE _ _, ?_⟩ | refine ⟨_, expo_sl rfl hcQ, ?_⟩ | refine ⟨_, rfl, ?_⟩ | refine ⟨by decide, ?_⟩ | refine ⟨rfl, ?_⟩ | refine ⟨fun _ => ?_, fun h => absurd h (by decide)⟩ | refine ⟨fun h => absurd h (by decide), fun _ => ?_⟩ | refine ⟨inI_of (by omega), ?_⟩ | refine ⟨⟨rfl, inI_of (by omega)⟩, ?_⟩ | refine ⟨⟨rfl, by decide⟩, ?_⟩ | (apply Exists.intro; refine ⟨?_, ?_⟩; ((try simp only); (try simp only [Nat.zero_add]); (try simp only [Nat.mul_one]); (try simp only [Int.toNat_natCast]); exact at_g (by omega))) | (apply Exists.intro; refine ⟨?_, ?_⟩; ((try simp only); (try simp only [Nat.zero_add]); (try simp only [Nat.mul_one]); (try simp only [Int.toNat_natCast]); exact put_flat (by omega))) | refine ⟨_, cut_all (by omega), ?_⟩ | refine ⟨_, lay_all (by omega) (by omega), ?_⟩ | refine ⟨_, lay_all (by (try simp only); (try simp only [List.length_replicate]); (try simp only [List.length_cons]); (try simp only [List.length_nil]); omega) (by omega), ?_⟩ | refine ⟨by omega, ?_⟩ | refine ⟨len_flat (by omega), ?_⟩ | refine ⟨apart_uv _ _ _, ?_⟩ | refine ⟨_, resSlot_own rfl (by omega) (by first | exact .inl rfl | exact .inr ⟨rfl, rfl⟩), ?_⟩ | refine ⟨(by kernel_rfl : regB _ = true), ?_⟩ | refine ⟨⟨rfl, inI_of (by omega), by decide⟩, ?_⟩ | (apply Exists.intro; refine ⟨?_, ?_⟩; ((try simp only); (try simp only [Nat.zero_add]); (try simp only [Nat.mul_one]); (try simp only [Int.toNat_natCast]); exact at_drop_g (by omega))) | (apply Exists.intro; refine ⟨?_, ?_⟩; ((try simp only); (try simp only [Nat.zero_add]); (try simp only [Nat.mul_one]); (try simp only [Int.toNat_natCast]); exact cut_rest (by omega)))); conv => whnf))
    all_goals rfl
  · rintro e a' W' ⟨rfl, st', ⟨m', F', S'⟩, hst⟩
    have hb23 : st'.blk 23 = some ⟨.gen [.sl 1 96 0 16 none], 22, false⟩ := by rw [St.blk, hst]; rfl
    have hb96 : st'.blk 96 = some ⟨.flat .u8 (encS key Q 10), 54, true⟩ := by rw [St.blk, hst]; rfl
    have hRl := encS_len key Q 10
    obtain ⟨_, hm23⟩ := S'.lent 23 ⟨gx, 1⟩ _ rfl hb23
    refine ⟨rfl, S'.keeps.mono fun g _ hg => xFr_L.1 hg, ?_⟩
    rcases S'.blks 23 _ hb23 with ⟨q1, _⟩ | ⟨g, s, cs, q1, _, _, q4, q5, _, _, q8⟩
    · rw [hm23] at q1; cases q1
    rw [hm23] at q1
    cases q1
    obtain ⟨v, rfl⟩ : ∃ v, cs = #[v] := by
      refine ⟨cs[0], ?_⟩
      apply Array.ext
      · simp [q5]
      · intro i h1 h2
        have : i = 0 := by simp at h2; omega
        subst this
        rfl
    refine ⟨v, q4, ?_⟩
    have hv := q8 0 _ rfl
    have hv : Rep F' W' m' (.sl 1 96 0 16 none) v := hv
    cases hv with
    | sl _ _ _ _ _ _ g2 s2 a2 c' hm96 ha hn hkk hss hx =>
      have ha2 : a2 = ⟨g2, 0, none⟩ := by rcases ha with h | ⟨h, _⟩; exact h; cases h
      subst ha2
      have hgg : g2 ≠ gx := fun e => S'.sep 96 23 _ _ _ _ hb96 hb23 (by decide) hm96 hm23 e
      rcases S'.blks 96 _ hb96 with ⟨r1, _⟩ | ⟨g3, s3, cs3, r1, _, r3, r4, r5, _, r7, r8⟩
      · rw [hm96] at r1; cases r1
      rw [hm96] at r1
      cases r1
      refine ⟨g2, 0, c', by rw [hRl], by omega, ⟨?_, hgg⟩, (Array.getElem?_eq_some_iff.1 r4).1, fun j hj => ?_⟩
      · rcases r3 with r3 | r3
        · exact r3
        · exact absurd (xFr_L.1 r3) hgg
      · have hj2 : j < cs3.size := by
          have : (encS key Q 10).length ≤ s2 := by simpa [Cont.vals] using r7
          omega
        have := r8 j (.v (.int .u8 ((encS key Q 10).getD j 0))) (by simp [Cont.vals, hj, List.getD_eq_getElem?_getD])
        rw [Nat.zero_add, cell_of_row W' g2 j cs3 _ (0, 0) r4]
        rw [Array.getD_eq_getD_getElem?, Array.getElem?_eq_getElem hj2] at this
        rw [Array.getElem?_eq_getElem hj2]
        simp only [Option.getD_some] at this
        generalize cs3[j] = x at this
        cases this
        rfl
set_option maxRecDepth 100000 in
set_option maxHeartbeats 8000000 in
theorem mark1_pl (W0 : World) (gk gx b0 off cap : Nat) (a : Option Addr) (Bk Bx : Nat → Prop) (vk vx : Value) (key b X : List Int) (ha : 0 < b.length → a = some ⟨b0, off, none⟩) (hcap : b.length ≤ cap) (hlen : b.length ≤ 1000000)
    (hb0 : 0 < b.length → b0 < W0.heap.size ∧ b0 ≠ gx ∧ ∀ j, j < b.length → W0.cell? ⟨b0, off + j, none⟩ = some (.int .u8 (b.getD j 0)))
    (hgk : W0.heap[gk]? = some (.cells #[vk] 22 (0, 0))) (hgx : W0.heap[gx]? = some (.cells #[vx] 22 (0, 0))) (hne : gk ≠ gx) (hkr : RowIm W0 (fun g => Bk g ∧ g ≠ gx) vk key) (hxr : RowIm W0 (fun g => Bx g ∧ g ≠ gx) vx X)
    (hk16 : key.length = 16) (hkb : By key) (hX16 : X.length = 16) (hXb : By X) (hbb : By b) :
    Calls Try.prog 42 #[.slice a b.length cap, .pointer (some ⟨gk, 0, none⟩), .pointer (some ⟨gx, 0, none⟩)] W0 fun e W' => e = .returned (.tuple #[]) ∧ Keeps (· = gx) W0 W' ∧
      ∃ vx', W'.heap[gx]? = some (.cells #[vx'] 22 (0, 0)) ∧ RowIm W' (fun g => (Bx g ∨ W0.heap.size ≤ g) ∧ g ≠ gx) vx' (chl key b X (List.range ((b.length + 15) / 16))) := by
  have lk := (Array.getElem?_eq_some_iff.1 hgk).1
  have lx := (Array.getElem?_eq_some_iff.1 hgx).1
  refine (callsIn_wide (n := 6)).1 ?_
  refine callsIn_of_wp_marks Try.func42 rfl trivial ?_ rfl
  simp only [Try.ntmps42, List.size_toArray, List.length_cons, List.length_nil, Nat.reduceAdd, Nat.reduceSub, Array.replicate_succ, Array.replicate_zero, List.push_toArray, List.append_toArray, List.nil_append, List.cons_append]
  gi_wp2_with (refine ⟨trivial, ?_⟩; gi_at_call 43; refine (chunk_in 5 _ _ _ _).mono ?_; rintro e w' ⟨rfl, rfl⟩)
  have k00 : Keeps (fun _ => False) W0 ((W0.alloc (.cells #[.slice a b.length cap] 22)).alloc (.cells #[.int .i64 16] 3)) := ((Keeps.refl _ W0).alloc _).alloc _
  have k0 := k00.mono (T := (· = gx)) (fun _ _ h => h.elim)
  have hbs := Boxed.new W0 22 (.slice a b.length cap)
  have hbn := Boxed.new (W0.alloc (.cells #[.slice a b.length cap] 22)) 3 (.int .i64 16)
  rw [World.size_alloc] at hbn
  have hsz : ((W0.alloc (.cells #[.slice a b.length cap] 22)).alloc (.cells #[.int .i64 16] 3)).heap.size = W0.heap.size + 2 := by rw [World.size_alloc, World.size_alloc]
  refine wpIn_rangeFunc_ownG (F := Fence.wide) (n := 6) rfl (by omega) (gf := 56) (lb := #[.pointer (some ⟨W0.heap.size, 0, none⟩), .pointer (some ⟨W0.heap.size + 1, 0, none⟩)]) rfl trivial (enters_of Try.func56 (by kernel_rfl) rfl)
    (chunk_stops 5 (by omega) W0.heap.size (W0.heap.size + 1) (W0.heap.size + 2) gx b0 off b.length cap a ha hcap hlen (by omega) (by omega) _ (by rw [hsz]; exact Nat.le_refl _) (hbs.alloc _).cell hbn.cell)
    (fun h k => h.trans k) ?hKb (Below.refl _ _) (fun _ => rfl) (MkI W0 gx Bx key b X (W0.heap.size + 2)) (fun _ _ _ => False) (MkI_own (by rw [hsz]; omega)) (fun _ _ _ _ _ hs _ _ => hs) ?h0
    (fun x => { tmps := #[.slice a b.length cap, .pointer (some ⟨gk, 0, none⟩), .pointer (some ⟨gx, 0, none⟩), undef, .slice (some ⟨b0, off + 16 * x.1, none⟩) (min 16 (b.length - 16 * x.1)) (min 16 (b.length - 16 * x.1)), .slice a b.length cap,
        .func (.func 56) #[] #[.pointer (some ⟨W0.heap.size, 0, none⟩), .pointer (some ⟨W0.heap.size + 1, 0, none⟩)], .slice (some ⟨b0, off + 16 * x.1, none⟩) (min 16 (b.length - 16 * x.1)) (min 16 (b.length - 16 * x.1)), undef, undef, undef, undef, undef], defers := [] })
    ?assign ?body ?done ?stop
  case hKb =>
    intro W l o o' hl h _ _
    exact ⟨by simp, fun g hg _ => World.putObj_heap_other (by omega)⟩
  case h0 =>
    exact ⟨⟨vx, by rw [k00.block gx lx (fun h => h)]; exact hgx, (hxr.keeps k00 (fun _ _ h => h)).mono (fun g h => ⟨.inl h.1, h.2⟩)⟩, k0, by rw [hsz]; exact Nat.le_refl _⟩
  case assign =>
    intro l x W K hK
    simp only [ckV]
    gi_wp2
    exact hK
  case body =>
    rintro l pre x W ⟨⟨vx1, h1, h2⟩, h3, h4⟩ hpre
    have hx := x.2
    have hpos : 0 < b.length := by omega
    obtain ⟨hb1, hb2, hb3⟩ := hb0 hpos
    have hYl := chl_len key b X hX16 (ckN pre)
    have hYb := chl_by0 hkb hbb (ckN pre) X hXb
    have hsn := chl_snoc key b X (ckN pre) x.1
    have hsn2 := ckN_snoc pre x
    obtain ⟨Y, hY⟩ : ∃ Y, Y = chl key b X (ckN pre) := ⟨_, rfl⟩
    rw [← hY] at h2 hYl hYb hsn
    have hpl : (ckL b x.1).length = min 16 (b.length - 16 * x.1) := by simp [ckL]
    have hpb : By (ckL b x.1) := (hbb.drop _).take _
    have hP : RowIm W (fun g => g ≠ gx) (.slice (some ⟨b0, off + 16 * x.1, none⟩) (min 16 (b.length - 16 * x.1)) (min 16 (b.length - 16 * x.1))) (ckL b x.1) := by
      refine ⟨b0, off + 16 * x.1, min 16 (b.length - 16 * x.1), by rw [hpl], by omega, hb2, Nat.lt_of_lt_of_le hb1 h3.size, fun j hj => ?_⟩
      rw [hpl] at hj
      rw [Nat.add_assoc, h3.cell (p := ⟨b0, off + (16 * x.1 + j), none⟩) hb1 hb2, hb3 _ (by omega)]
      congr 2
      simp [ckL, List.getD_eq_getElem?_getD, show j < 16 by omega]
    have hKr := hkr.keeps h3 (fun g hg e => hg.2 e)
    have hgkW : W.heap[gk]? = some (.cells #[vk] 22 (0, 0)) := (h3.block gk lk hne).trans hgk
    have hbody := mark1_body l 4 W gk gx vk vx1 (.slice (some ⟨b0, off + 16 * x.1, none⟩) (min 16 (b.length - 16 * x.1)) (min 16 (b.length - 16 * x.1))) key Y (ckL b x.1) hgkW h1 hne (hKr.mono fun _ h => h.2) (h2.mono fun _ h => h.2) hP hk16 hkb hYl hYb (by rw [hpl]; omega) hpb
      #[.slice a b.length cap, .pointer (some ⟨gk, 0, none⟩), .pointer (some ⟨gx, 0, none⟩), undef, .slice (some ⟨b0, off + 16 * x.1, none⟩) (min 16 (b.length - 16 * x.1)) (min 16 (b.length - 16 * x.1)), .slice a b.length cap,
        .func (.func 56) #[] #[.pointer (some ⟨W0.heap.size, 0, none⟩), .pointer (some ⟨W0.heap.size + 1, 0, none⟩)], .slice (some ⟨b0, off + 16 * x.1, none⟩) (min 16 (b.length - 16 * x.1)) (min 16 (b.length - 16 * x.1)), undef, undef, undef, undef, undef] rfl rfl rfl rfl
    refine wpIn_block (wpIn_mono hbody ?_)
    rintro e a' W' ⟨rfl, hk, vx2, hx2, hr2⟩
    show KeepsFrom _ _ _ ∧ KpX _ _ _ _ ∧ MkI _ _ _ _ _ _ _ _ _
    refine ⟨⟨hk.size, fun k o _ ho hc => (hk.block k (Array.getElem?_eq_some_iff.1 ho).1 (fun e => ?_)).trans ho⟩, ⟨hk.size, fun g hg hgx => hk.block g (by omega) hgx⟩, ⟨vx2, hx2, ?_⟩, h3.trans hk, Nat.le_trans h4 hk.size⟩
    · subst e
      rw [h1] at ho
      cases ho
      cases hc
    · rw [hsn2, hsn]
      exact hr2.mono fun g hg => ⟨.inr (Nat.le_trans h3.size hg.1), hg.2⟩
  case done =>
    rintro D ys W hD hys hI hK
    have hI2 := (MkI_own (W0 := W0) (gx := gx) (Bx := Bx) (key := key) (b := b) (X := X) (n0 := W0.heap.size + 2) (len := b.length) (B := W0.heap.size) (Nat.le_refl _)).putObj (.deferred none) hI (by rw [hsz] at hD; omega) hK rfl
    gi_wp2
    refine ⟨by simp, .inl ⟨_, _, rfl, run_takeDeferred hK, ?_⟩⟩
    obtain ⟨⟨vx2, q1, q2⟩, q3, _⟩ := hI2
    rw [hys] at q2
    refine ⟨_, results_none rfl _ _ _, rfl, q3, vx2, q1, q2⟩
  case stop =>
    rintro D c pre W _ _ h _
    exact h.elim
end Go.Proofs.Ytgkccfjjjamhoaa
