/-
  coresecmake.Spoilt: the case in which a byte is put in (its region draws its order and appends thrice).
-/
import Derived.Test.YtgkccfjjjamhoaaSpo
namespace Go.Proofs.Ytgkccfjjjamhoaa
open Go.RowKit

theorem RowAt.take0 {F : Nat → Prop} {k : IntKind} {w : World} {g : Nat} {l : List Int} (h : ∀ x, x ∈ l → (Lit.int k x).wf = true) (hg : g < w.heap.size) (hf : F g)
    (hc : ∀ j, j < l.length → w.cell? ⟨g, j, none⟩ = some (.int k (l.getD j 0))) (i n : Nat) (hn : i + n ≤ l.length) (hm : n ≤ 9223372036854775807) :
    RowAt F k w (some ⟨g, i, none⟩) ((l.drop i).take n) := by
  have h0 := RowAt.cut (F := F) (k := k) (w := w) (g := g) (off := 0) (l := l) h hg hf (fun j hj => by rw [Nat.zero_add]; exact hc j hj) i n hn hm
  rwa [Nat.zero_add] at h0
namespace Rel2
set_option maxHeartbeats 4000000 in
set_option maxRecDepth 100000 in
theorem spoilt_two (a : Option Addr) (c : Nat) (n : Nat) (b : List Int) (i y : Int) (w : World) (hn : b.length = n) (hb0 : n ≠ 0) (hm : n ≤ 100000) (h2 : IntKind.i64.wrap (y.tdiv 256) % 4 = 2) (hc : CapOk a c n) (hr : RowAt (fun _ => True) .u8 w a b) :
    Calls Try.prog 21 #[.slice a n c, .int .i64 i, .int .i64 y] w fun e w' => ∃ v, e = .returned v ∧ OwnI .u8 5 w.heap.size w' v (b.take (i % n).toNat ++ [IntKind.u8.wrap y] ++ b.drop (i % n).toNat) ∧ Keeps (fun _ => False) w w' := by
  obtain ⟨i0, hi, hz0, hz1, hz2⟩ := info_parts info_u8c
  have hz8 : i0.bytes ≤ 8 := by omega
  have hn0 := Int.emod_nonneg i (show (n : Int) ≠ 0 by omega)
  have hn1 := Int.emod_lt_of_pos i (show (0 : Int) < n by omega)
  obtain ⟨k, hk⟩ : ∃ k : Nat, i % (n : Int) = (k : Int) := ⟨(i % (n : Int)).toNat, by omega⟩
  have hkn : k < n := by omega
  have hkt : (i % (n : Int)).toNat = k := by omega
  rw [hkt]
  have HM1 := hid (show ∀ W, Calls Try.prog 13 #[.int .i64 i, .int .i64 n] W fun e w' => e = .returned (.int .i64 k) ∧ W = w' from fun W => by rw [← hk]; exact Mod_any i n W (by omega) (by omega))
  have HM2 := hid (show ∀ W, Calls Try.prog 13 #[.int .i64 (RowKit.wrap64 (y.tdiv 256)), .int .i64 4] W fun e w' => e = .returned (.int .i64 2) ∧ W = w' from fun W => by rw [← IntWalk.i64_left, ← h2]; exact Mod_any _ 4 W (by omega) (by omega))
  obtain ⟨T1, hT1⟩ : ∃ T1, T1 = b.take k := ⟨_, rfl⟩
  obtain ⟨T2, hT2⟩ : ∃ T2, T2 = b.drop k := ⟨_, rfl⟩
  rw [← hT1, ← hT2]
  have hl1 : k = T1.length := by rw [hT1, List.length_take]; omega
  have hl2 : T2.length = n - k := by rw [hT2, List.length_drop, hn]
  have HT1 := hid hT1
  have HT2 := hid hT2
  have HW := hid (show ∀ x, x ∈ [IntKind.u8.wrap y] → (Lit.int .u8 x).wf = true from fun x hx => by simp at hx; subst hx; have := w8_byte y; exact wf_u8_mk (by omega) (by omega))
  have HT1m := hid (show T1.length ≤ 17592186044416 by omega)
  have HT1n := hid (show T1.length + [IntKind.u8.wrap y].length ≤ 17592186044416 by simp; omega)
  have HT2n := hid (show (T1 ++ [IntKind.u8.wrap y]).length + T2.length ≤ 17592186044416 by simp; omega)
  clear hk h2 hkt hT1 hT2 hn0 hn1
  go_enter Try.func21, Try.ntmps21
  go_wp2_with (at_builtin; (refine wpList_pour rfl _ _ 22 rfl .u8 w.heap.size 5 i0 1 Try.underlying22 hi hz0 hz1 hz2 (.slice none 0 0) [] rfl (OwnI.nil _ _ _ _) a c b (by rw [hn]; rfl) hc.1 (fun _ => True) hr (by simp; omega) (by omega) (Nat.le_refl _) ?_))
  intro v2 w2 hown2 hk2
  have k2 : Keeps (fun _ => False) w w2 := hk2.mono (fun i _ h => by simp [Value.ownBlock] at h)
  have hwf := hown2.2.1
  obtain ⟨gp, cp, rfl, hgb, hgl, hcap, hcm, hcell⟩ := hown2.look (by omega)
  rw [hn] at hcap ⊢
  have HRT := hid (show RowAt (fun _ => True) .u8 w2 (some ⟨gp, 0, none⟩) T1 from by
    have h0 := RowAt.take0 (F := fun _ => True) hwf hgl trivial hcell 0 k (by omega) (by omega)
    rwa [List.drop_zero, ← HT1.out] at h0)
  have HRD := hid (show RowAt (fun _ => True) .u8 w2 (some ⟨gp, k, none⟩) T2 from by
    have h0 := RowAt.take0 (F := fun _ => True) hwf hgl trivial hcell k (n - k) (by omega) (by omega)
    rwa [List.take_of_length_le (by rw [List.length_drop]; omega), ← HT2.out] at h0)
  have HCUT := hid (show (T1.length : Int) ≤ (cp : Int) by omega)
  have HCUT2 := hid (show (T1.length : Int) ≤ (n : Int) by omega)
  have HCUT3 := hid (show ¬ cp = T1.length by omega)
  have HCUT4 := hid (show n - T1.length = T2.length by omega)
  clear hk2 hown2 hwf hcell HT1 HT2
  subst hl1
  have hq : ((n : Int) == 0) = false := by simp; omega
  go_wp2_with fail
  refine (HM1.out _).mono ?_
  rintro e w' ⟨rfl, rfl⟩
  go_wp2_with fail
  refine (HM2.out _).mono ?_
  rintro e w' ⟨rfl, rfl⟩
  go_wp2_with fail
  rename_i K hK
  refine wp_region_relV 59 (by kernel_rfl) rfl (by kernel_rfl)
    [Is (.slice (some ⟨gp, 0, none⟩) n cp), Is (.int .i64 (T1.length : Int)), Is (.slice (some ⟨gp, 0, none⟩) T1.length cp), OwnG 3 .u8 5 w.heap.size T1, Is (.int .i64 y), Is (.int .u8 (IntKind.u8.wrap y)), RowIs .u8 [IntKind.u8.wrap y], OwnG 7 .u8 5 w.heap.size (T1 ++ [IntKind.u8.wrap y]), Is (.slice (some ⟨gp, 0, none⟩) n cp), Is (.int .i64 (T1.length : Int)), Is (.slice (some ⟨gp, T1.length, none⟩) T2.length (cp - T1.length)), OwnG 11 .u8 5 w.heap.size (T1 ++ [IntKind.u8.wrap y] ++ T2), OwnG 11 .u8 5 w.heap.size (T1 ++ [IntKind.u8.wrap y] ++ T2)]
    ⟨Is.lasts _, Is.lasts _, Is.lasts _, OwnG.lasts _ _ _ _ _, Is.lasts _, Is.lasts _, RowIs.lasts _ _, OwnG.lasts _ _ _ _ _, Is.lasts _, Is.lasts _, Is.lasts _, OwnG.lasts _ _ _ _ _, OwnG.lasts _ _ _ _ _, trivial⟩ (fun j => if j = 3 then 7 else if j = 7 then 11 else 1000000)
    ⟨?_, ?_, ?_, ?_, ?_, ?_, ?_, ?_, ?_, ?_, ?_, ?_, ?_, trivial⟩ ?_
  · intro γ A W M hM H
    have e7 : (A.tmps[7]?).getD undef = (.slice (some ⟨gp, 0, none⟩) n cp) := H.slot' 7 rfl
    exact st_val H.st rfl (v := (.slice (some ⟨gp, 0, none⟩) n cp)) (by simp [go_sem, e7]) rfl
  · intro γ A W M hM H
    have e8 : (A.tmps[8]?).getD undef = (.int .i64 (T1.length : Int)) := H.slot' 8 rfl
    exact st_val H.st rfl (v := (.int .i64 (T1.length : Int))) (by simp [go_sem, e8]) rfl
  · intro γ A W M hM H
    have e46 : (A.tmps[46]?).getD undef = (.slice (some ⟨gp, 0, none⟩) n cp) := H.has 0 46 rfl rfl
    have e47 : (A.tmps[47]?).getD undef = (.int .i64 (T1.length : Int)) := H.has 1 47 rfl rfl
    exact st_val H.st rfl (v := (.slice (some ⟨gp, 0, none⟩) T1.length cp)) (by simp [go_sem, e46, e47, HCUT.out]) rfl
  · intro γ A W M hM H
    have e48 : (A.tmps[48]?).getD undef = (.slice (some ⟨gp, 0, none⟩) T1.length cp) := H.has 2 48 rfl rfl
    obtain ⟨v, γ', w', hrn, hgo, hg, hD, hv⟩ := run_begin (P := Try.prog) H.st 3 22 22 5 i0 .u8 Try.underlying22 hi hz0 hz1 hz8 w.heap.size (Nat.le_trans k2.size H.more.size) (some ⟨gp, 0, none⟩) cp T1 (fun h => by cases h) (HRT.out.keeps H.more (fun _ _ h => h)) HT1m.out
    exact st_run rfl (exec_append (.const (.slice none 0 0)) (.tmp 48) _ _ rfl _ _ _ rfl (by rw [← e48]; simp [Act.eval]) hrn) hgo hg (fun j h => .inl (by rwa [hD] at h)) hv
  · intro γ A W M hM H
    have e2 : (A.tmps[2]?).getD undef = (.int .i64 y) := H.slot' 2 rfl
    exact st_val H.st rfl (v := (.int .i64 y)) (by simp [go_sem, e2]) rfl
  · intro γ A W M hM H
    have e50 : (A.tmps[50]?).getD undef = (.int .i64 y) := H.has 4 50 rfl rfl
    exact st_val H.st rfl (v := (.int .u8 (IntKind.u8.wrap y))) (by simp [go_sem, e50]) rfl
  · intro γ A W M hM H
    have e51 : (A.tmps[51]?).getD undef = (.int .u8 (IntKind.u8.wrap y)) := H.has 5 51 rfl rfl
    obtain ⟨h1, h2, h3⟩ := row_new H.st .u8 5 [IntKind.u8.wrap y] HW.out (by simp)
    exact st_run rfl (by simp [go_sem, e51]; rfl) h2 h3 (fun j h => .inl h) h1
  · intro γ A W M hM H
    rcases H.has 3 49 rfl rfl with hd | ⟨hown, hex⟩
    · exact absurd (H.con 3 hd) hM
    obtain ⟨a52, c52, e52, hc52, hr52⟩ := H.has 6 52 rfl rfl
    obtain ⟨v, γ', w', hrn, hgo, hg, hD, _, hv⟩ := run_more (P := Try.prog) H.st 3 7 22 22 5 i0 .u8 Try.underlying22 hi hz0 hz1 hz8 w.heap.size (Nat.le_trans k2.size H.more.size) _ T1 hown hex a52 c52 [IntKind.u8.wrap y] hc52.1 hr52 HT1n.out
    exact st_run rfl (exec_append (.tmp 49) (.tmp 52) _ _ rfl _ _ _ (by simp [Act.eval]) (by rw [← e52]; simp [Act.eval]) hrn) hgo hg (fun j h => (hD j h).imp id (fun e => by subst e; rfl)) hv
  · intro γ A W M hM H
    have e7 : (A.tmps[7]?).getD undef = (.slice (some ⟨gp, 0, none⟩) n cp) := H.slot' 7 rfl
    exact st_val H.st rfl (v := (.slice (some ⟨gp, 0, none⟩) n cp)) (by simp [go_sem, e7]) rfl
  · intro γ A W M hM H
    have e8 : (A.tmps[8]?).getD undef = (.int .i64 (T1.length : Int)) := H.slot' 8 rfl
    exact st_val H.st rfl (v := (.int .i64 (T1.length : Int))) (by simp [go_sem, e8]) rfl
  · intro γ A W M hM H
    have e54 : (A.tmps[54]?).getD undef = (.slice (some ⟨gp, 0, none⟩) n cp) := H.has 8 54 rfl rfl
    have e55 : (A.tmps[55]?).getD undef = (.int .i64 (T1.length : Int)) := H.has 9 55 rfl rfl
    exact st_val H.st rfl (v := (.slice (some ⟨gp, T1.length, none⟩) T2.length (cp - T1.length))) (by simp [go_sem, e54, e55, HCUT2.out, HCUT3.out, HCUT4.out]) rfl
  · intro γ A W M hM H
    rcases H.has 7 53 rfl rfl with hd | ⟨hown, hex⟩
    · exact absurd (H.con 7 hd) hM
    have e56 : (A.tmps[56]?).getD undef = (.slice (some ⟨gp, T1.length, none⟩) T2.length (cp - T1.length)) := H.has 10 56 rfl rfl
    obtain ⟨v, γ', w', hrn, hgo, hg, hD, _, hv⟩ := run_more (P := Try.prog) H.st 7 11 22 22 5 i0 .u8 Try.underlying22 hi hz0 hz1 hz8 w.heap.size (Nat.le_trans k2.size H.more.size) _ (T1 ++ [IntKind.u8.wrap y]) hown hex (some ⟨gp, T1.length, none⟩) (cp - T1.length) T2 (fun h => by cases h) (HRD.out.keeps H.more (fun _ _ h => h)) HT2n.out
    exact st_run rfl (exec_append (.tmp 53) (.tmp 56) _ _ rfl _ _ _ (by simp [Act.eval]) (by rw [← e56]; simp [Act.eval]) hrn) hgo hg (fun j h => (hD j h).imp id (fun e => by subst e; rfl)) hv
  · intro γ A W M hM H
    exact st_val H.st rfl (v := (A.tmps[57]?).getD undef) (by simp [go_sem]) (H.has 11 57 rfl rfl)
  · intro γ M' A W H
    rcases H.has 12 6 rfl trivial with hd | ⟨hown, _⟩
    · exact absurd (H.mlt _ (H.con 11 hd)) (by show ¬ (1000000 < 13); omega)
    refine hK A W (wp_ret ?_)
    simp only [Exit.inBlock, Exit.then]
    refine bodyPost_ret (v := (A.tmps[6]?).getD undef) ?_ H.dfr ⟨_, rfl, hown, Keeps.trans k2 H.more⟩
    rw [results_tmp rfl, Array.getD_eq_getD_getElem?]
end Rel2
theorem spoilt_call (n : Nat) (c : Option Nat) (b : List Int) (i y : Int) (hn : b.length = n) (hb : By b) (hm : n ≤ 100000) :
    CallOk Try.prog 21 [.im 1 n c (.flat .u8 b), .v (.int .i64 i), .v (.int .i64 y)] (.one (.own 1 (spoP b i y).length 5 (.flat .u8 (spoP b i y)))) := by
  by_cases h2 : n = 0 ∨ IntKind.i64.wrap (y.tdiv 256) % 4 ≠ 2
  · exact execF_ok follows_ok ESp_ok Try.func21 (spoilt_exec n c b i y hn hm h2)
  have h0 : n ≠ 0 := fun h => h2 (.inl h)
  have h2 : IntKind.i64.wrap (y.tdiv 256) % 4 = 2 := by
    rcases Int.decEq (IntKind.i64.wrap (y.tdiv 256) % 4) 2 with h | h
    · exact absurd (.inr h) h2
    · exact h
  intro w A args hsz hA hrep
  have h1 := hrep 0 _ rfl
  have h3 := hrep 1 _ rfl
  have h4 := hrep 2 _ rfl
  obtain ⟨v0, v1, v2, rfl⟩ : ∃ v0 v1 v2, args = #[v0, v1, v2] := by
    have hsz : args.size = 3 := hsz
    refine ⟨args[0], args[1], args[2], ?_⟩
    apply Array.ext
    · simp [hsz]
    · intro i h1 h2
      have : i = 0 ∨ i = 1 ∨ i = 2 := by simp at h2; omega
      rcases this with rfl | rfl | rfl <;> rfl
  simp only [Array.getD_eq_getD_getElem?, List.getElem?_toArray, List.getElem?_cons_zero, List.getElem?_cons_succ, Option.getD_some] at h1 h3 h4
  cases h3
  cases h4
  cases h1 with
  | im _ _ _ _ _ a c' f hl' hn' hk' ha hm' hr =>
    have hrow : RowAt (fun _ => True) .u8 w a b := by
      refine ⟨by omega, fun x hx => wf_u8_mk (hb x hx).1 (by have := (hb x hx).2; omega), ?_⟩
      rcases hm' with hm' | ⟨g, o, h1, h2, h3⟩
      · exact .inl (by simpa [Cont.vals] using hm')
      · refine .inr ⟨g, o, h1, trivial, hA g h2, fun j hj => ?_⟩
        rw [h3 j (by simpa [Cont.vals] using hj)]
        have := hr j (.v (.int .u8 (b.getD j 0))) (by simp [Cont.vals, List.getElem?_eq_getElem hj, List.getD_eq_getElem?_getD])
        generalize f j = x at this
        cases this
        rfl
    refine (Rel2.spoilt_two a c' n b i y w hn h0 hm h2 ⟨fun h => (ha h).2, hn'⟩ hrow).mono ?_
    rintro e w' ⟨v, rfl, ho, hk⟩
    have e1 : b.take (i % n).toNat ++ [IntKind.u8.wrap y] ++ b.drop (i % n).toNat = spoP b i y := by
      rw [spoP, hn, if_neg h0, if_neg (by omega), if_neg (by omega), if_pos h2]
    rw [e1] at ho
    exact ⟨v, A, rfl, hk, fun _ h => h, fun g hg => ⟨Nat.lt_of_lt_of_le (hA g hg) hk.size, .inl hg⟩, own_rc ho hA⟩
end Go.Proofs.Ytgkccfjjjamhoaa
