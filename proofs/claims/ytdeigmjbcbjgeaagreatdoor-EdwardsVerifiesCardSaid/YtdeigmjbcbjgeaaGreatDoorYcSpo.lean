import Derived.Test.YtdeigmjbcbjgeaaGreatDoorYcCat
import Derived.Test.YtdeigmjbcbjgeaaGreatDoorYcMkP
import Derived.Test.YtdeigmjbcbjgeaaGreatDoorYcMkS
import Derived.Test.YtdeigmjbcbjgeaaGreatDoorYcRel2
namespace Go.Proofs.YtdeigmjbcbjgeaaGreatDoor
open Go.RowKit
def spoP (b : List Int) (i y : Int) : List Int :=
 if b.length = 0 then [IntKind.u8.wrap y] else
 if IntKind.i64.wrap (y.tdiv 256) % 4 = 0 then b.set (i % b.length).toNat (IntKind.u8.wrap y) else
 if IntKind.i64.wrap (y.tdiv 256) % 4 = 1 then b.take (i % b.length).toNat ++ b.drop ((i % b.length).toNat + 1) else
 if IntKind.i64.wrap (y.tdiv 256) % 4 = 2 then b.take (i % b.length).toNat ++ [IntKind.u8.wrap y] ++ b.drop (i % b.length).toNat else b.take (i % b.length).toNat
theorem By.take0 {l : List Int} (h : By l) (n : Nat) : By (l.take n) := fun x hx => h x (List.mem_of_mem_take hx)
theorem By.drop0 {l : List Int} (h : By l) (n : Nat) : By (l.drop n) := fun x hx => h x (List.mem_of_mem_drop hx)
theorem spoP_by {b : List Int} (h : By b) (i y : Int) : By (spoP b i y) := by
 have h1 : By [IntKind.u8.wrap y] := by
  intro x hx
  simp at hx
  subst hx
  exact w8_byte _
 unfold spoP
 split
 ·exact h1
 split
 ·intro x hx
  rcases List.mem_or_eq_of_mem_set hx with hx | rfl
  ·exact h x hx
  ·exact w8_byte _
 split
 ·exact (h.take0 _).append (h.drop0 _)
 split
 ·exact ((h.take0 _).append h1).append (h.drop0 _)
 ·exact h.take0 _
theorem lay_any0 {k : IntKind} {l m : List Int} {o : Nat} (h : o + m.length ≤ l.length) : layOne (.flat k l) o (.flat k m) = some (.flat k (l.take o ++ m ++ l.drop (o + m.length))) := by
 by_cases h2 : m.length = 1
 ·obtain ⟨x, rfl⟩ : ∃ x, m = [x] := by
   cases m with
   | nil => simp at h2
   | cons x m => cases m with
    | nil => exact ⟨x, rfl⟩
    | cons y m => simp at h2
  have : layOne (.flat k l) o (.flat k [x]) = some (.flat k (l.set o x)) := put_flat h
  rw [this, List.set_eq_take_append_cons_drop, if_pos (show o < l.length from h)]
  simp
 ·exact lay_flat h h2
theorem append_inG {E : Env} {β : Nat → Option Blk} {d t e : Nat} {s : LV} {y : Cont} {b n cnt : Nat} {l m : List Int} {k : IntKind} {sp : Bool} {a1 a2 a4 by_ : Nat} {g1 g2 : Bool} {o1 : Option Cont} {dd : TD} {zc : Cont}
  (h1 : E.T t = some ⟨.slice e 1, a1, a2, g1, o1⟩) (h2 : E.T e = some ⟨dd, a4, by_, g2, some zc⟩) (hs : shown β 1 s = some (y, cnt)) (hy : y = .flat k m) (hm : m.length = cnt)
  (hb : β b = some ⟨.flat k l, e, sp⟩) (hl : n + cnt ≤ l.length) (hne : l.length ≠ n) (hz : zc.len = 1) (hby : (n + cnt) * by_ ≤ 140737488355328) (hmx : n + cnt ≤ 9223372036854775807) :
  opAppend E β d t (.sl 1 b 0 n none) s = some ⟨none, none, .sl 1 b 0 (n + cnt) none, [(b, ⟨.flat k (l.take n ++ m ++ l.drop (n + cnt)), e, sp⟩)]⟩ := by
 subst hy hm
 have hlay := lay_any0 (k := k) (l := l) (m := m) (o := n) hl
 have hok : appOk 1 1 by_ (n + m.length) zc = true := by simp [appOk, hby, hmx, hz]
 simp only [opAppend, h1, hs, Cont.leaves, if_true, appX, h2, hb, hok, Nat.mul_one, hlay]
 simp [Cont.len, hne, hl]
theorem slice_to0 {E : Env} {t e z b off n h a1 a2 : Nat} {g1 : Bool} {o1 : Option Cont} (h1 : E.T t = some ⟨.slice e z, a1, a2, g1, o1⟩) {x : Int} (hx : x = (h : Int)) (hn : h ≤ n) :
  opSlice E t false true false (.sl z b off n none) [.v (.int .i64 x)] = some (.sl z b off h none, []) := by
 subst hx
 have hb : bounds [(h : Int)] false true false n ((none : Option Nat).getD n) = some (0, h, n) := by
  unfold bounds
  rw [if_pos (by simp [lowI, highI, restI, maxI]; omega)]
  simp [lowI, highI, restI, maxI]
 have hp : optMap pickInt [.v (.int .i64 (h : Int))] = some [(h : Int)] := rfl
 simp only [opSlice, h1, hp, if_true, hb]
 simp
theorem slice_from0 {E : Env} {t e z b off n l a1 a2 : Nat} {g1 : Bool} {o1 : Option Cont} (h1 : E.T t = some ⟨.slice e z, a1, a2, g1, o1⟩) {x : Int} (hx : x = (l : Int)) (hn : l ≤ n) :
  opSlice E t true false false (.sl z b off n none) [.v (.int .i64 x)] = some (.sl z b (off + l * z) (n - l) none, []) := by
 subst hx
 have hb : bounds [(l : Int)] true false false n ((none : Option Nat).getD n) = some (l, n, n) := by
  unfold bounds
  rw [if_pos (by simp [lowI, highI, maxI]; omega)]
  simp [lowI, highI, maxI]
 have hp : optMap pickInt [.v (.int .i64 (l : Int))] = some [(l : Int)] := rfl
 simp only [opSlice, h1, hp, if_true, hb]
 simp
def orcSp (f : Nat) (ds : List LV) : Option LRes :=
 match f with
 | 23 => match ds with
  | [.v (.int .i64 v), .v (.int .i64 n)] => if 0 < n ∧ n < 9223372036854775808 then some (ret1 (.v (.int .i64 (v % n)))) else none
  | _ => none
 | _ => none
theorem orcSp_ok : Known Tryz.prog orcSp := by
 intro f ds r h
 unfold orcSp at h
 split at h
 ·split at h
  ·split at h
   ·rename_i hc
    cases h
    exact .inl ⟨⟨_, Tryz.func23, name_ne _ (by kernel_rfl), rfl⟩, mod_call _ _ hc.1 hc.2⟩
   ·cases h
  ·cases h
 ·cases h
def ESp : Env := ⟨tyL, orcSp, false, noWk, noOrw⟩
theorem ESp_ok : EnvOk Tryz.prog ESp := ⟨tyL_ok, orcSp_ok, noOrw_ok⟩
theorem spMod (v n r : Int) (hn : 0 < n ∧ n < 9223372036854775808) (hr : v % n = r) : ESp.orc 23 [.v (.int .i64 v), .v (.int .i64 n)] = some (ret1 (.v (.int .i64 r))) := by
 subst hr
 exact if_pos hn
set_option maxRecDepth 100000 in
set_option maxHeartbeats 4000000 in
theorem spoilt_exec (n : Nat) (c : Option Nat) (b : List Int) (i y : Int) (hn : b.length = n) (hm : n ≤ 100000) (h2 : n = 0 ∨ IntKind.i64.wrap (y.tdiv 256) % 4 ≠ 2) :
  execF ESp Tryz.f28 [.im 1 n c (.flat .u8 b), iv .i64 i, iv .i64 y] (.one (.own 1 (spoP b i y).length 5 (.flat .u8 (spoP b i y)))) := by
 have hsh : ∀ β : Nat → Option Blk, shown β 1 (.im 1 n c (.flat .u8 b)) = some (.flat .u8 b, n) := fun β => rfl
 unfold spoP
 rw [hn]
 by_cases h0 : n = 0
 ·rw [if_pos h0]
  have q0 : ((n : Int) == 0) = true := by simp [h0]
  ((conv => whnf); repeat ((first | refine ⟨fun _ => ?_, fun h => absurd ((q0).symm.trans h) (by decide)⟩ | refine ⟨fun h => absurd ((q0).symm.trans h) (by decide), fun _ => ?_⟩ | refine ⟨_, append_nil rfl rfl (hsh _) rfl rfl rfl (by omega) (by omega), ?_⟩ | refine ⟨_, rfl, ?_⟩ | refine ⟨rfl, ?_⟩); conv => whnf))
  rfl
 have h2 : IntKind.i64.wrap (y.tdiv 256) % 4 ≠ 2 := h2.resolve_left h0
 rw [if_neg h0]
 have q0 : ((n : Int) == 0) = false := by simp [h0]
 have hn0 := Int.emod_nonneg i (show (n : Int) ≠ 0 by omega)
 have hn1 := Int.emod_lt_of_pos i (show (0 : Int) < n by omega)
 obtain ⟨k, hk⟩ : ∃ k : Nat, i % (n : Int) = (k : Int) := ⟨(i % (n : Int)).toNat, by omega⟩
 have hkn : k < n := by omega
 have hkt : (i % (n : Int)).toNat = k := by omega
 rw [hkt]
 have o1 := spMod i n k (by omega) hk
 obtain ⟨M, hM⟩ : ∃ M, M = IntKind.i64.wrap (y.tdiv 256) % 4 := ⟨_, rfl⟩
 rw [← hM] at h2 ⊢
 have o2 := spMod (IntKind.i64.wrap (y.tdiv 256)) 4 M (by decide) hM.symm
 have hMr : M = 0 ∨ M = 1 ∨ M = 3 := by omega
 clear hM
 rcases hMr with rfl | rfl | rfl
 ·rw [if_pos rfl]
  have hsl : (b.set k (IntKind.u8.wrap y)).length = n := by rw [List.length_set, hn]
  have htk : (b.set k (IntKind.u8.wrap y)).take (n * 1) = b.set k (IntKind.u8.wrap y) := List.take_of_length_le (by omega)
  ((conv => whnf); repeat ((first | refine ⟨fun _ => ?_, fun h => absurd ((q0).symm.trans h) (by decide)⟩ | refine ⟨fun h => absurd ((q0).symm.trans h) (by decide), fun _ => ?_⟩ | refine ⟨_, append_nil rfl rfl (hsh _) rfl rfl rfl (by omega) (by omega), ?_⟩ | refine ⟨_, o1, ?_⟩ | refine ⟨_, o2, ?_⟩ | refine ⟨_, rfl, ?_⟩ | refine ⟨by decide, ?_⟩ | refine ⟨rfl, ?_⟩ | refine ⟨fun _ => ?_, fun h => absurd h (by decide)⟩ | refine ⟨⟨rfl, inI_of (by omega)⟩, ?_⟩ | (apply Exists.intro; refine ⟨?_, ?_⟩; ((try simp only); (try simp only [Nat.zero_add]); (try simp only [Nat.mul_one]); (try simp only [Int.toNat_natCast]); first | exact at_g (by omega) | exact put_flat (by omega))) | refine ⟨_, resSlot_own rfl (by omega) (by first | exact .inl rfl | exact .inr ⟨rfl, rfl⟩), ?_⟩); conv => whnf))
  rw [htk, hsl]
  rfl
 ·rw [if_neg (by decide), if_pos rfl]
  have ew : IntKind.i64.wrap ((k : Int) + 1) = ((k + 1 : Nat) : Int) := by rw [wrap64 (by omega)]; omega
  have hdl : (b.drop (k + 1)).length = n - (k + 1) := by simp; omega
  have hcd : (Cont.flat .u8 b).cut (0 + (k + 1) * 1) ((n - (k + 1)) * 1) = some (.flat .u8 (b.drop (k + 1))) := by
   rw [Nat.zero_add, Nat.mul_one, Nat.mul_one, cut_flat (by omega), List.take_of_length_le (by omega)]
  have hrl : (b.take k ++ b.drop (k + 1)).length = k + (n - (k + 1)) := by simp; omega
  have htk : (b.take k ++ b.drop (k + 1) ++ b.drop (k + (n - (k + 1)))).take ((k + (n - (k + 1))) * 1) = b.take k ++ b.drop (k + 1) := by
   rw [Nat.mul_one, List.take_append_of_le_length (by omega), List.take_of_length_le (by omega)]
  have htl : (b.take k ++ b.drop (k + 1) ++ b.drop (k + (n - (k + 1)))).length = n := by simp; omega
  ((conv => whnf); repeat ((first | refine ⟨fun _ => ?_, fun h => absurd ((q0).symm.trans h) (by decide)⟩ | refine ⟨fun h => absurd ((q0).symm.trans h) (by decide), fun _ => ?_⟩ | refine ⟨_, append_nil rfl rfl (hsh _) rfl rfl rfl (by omega) (by omega), ?_⟩ | refine ⟨_, o1, ?_⟩ | refine ⟨_, o2, ?_⟩ | refine ⟨_, slice_to0 rfl rfl (by omega), ?_⟩ | refine ⟨_, slice_from0 rfl ew (by omega), ?_⟩ | refine ⟨_, append_inG rfl rfl (shown_sl rfl hcd) rfl hdl rfl (by omega) (by omega) rfl (by omega) (by omega), ?_⟩ | refine ⟨_, rfl, ?_⟩ | refine ⟨by decide, ?_⟩ | refine ⟨rfl, ?_⟩ | refine ⟨fun _ => ?_, fun h => absurd h (by decide)⟩ | refine ⟨fun h => absurd h (by decide), fun _ => ?_⟩ | refine ⟨_, resSlot_own rfl (by omega) (by first | exact .inl rfl | exact .inr ⟨rfl, rfl⟩), ?_⟩); conv => whnf))
  rw [htk, hrl]
  rfl
 ·rw [if_neg (by decide), if_neg (by decide), if_neg (by decide)]
  have hrl : (b.take k).length = k := by simp; omega
  ((conv => whnf); repeat ((first | refine ⟨fun _ => ?_, fun h => absurd ((q0).symm.trans h) (by decide)⟩ | refine ⟨fun h => absurd ((q0).symm.trans h) (by decide), fun _ => ?_⟩ | refine ⟨_, append_nil rfl rfl (hsh _) rfl rfl rfl (by omega) (by omega), ?_⟩ | refine ⟨_, o1, ?_⟩ | refine ⟨_, o2, ?_⟩ | refine ⟨_, slice_to0 rfl rfl (by omega), ?_⟩ | refine ⟨_, rfl, ?_⟩ | refine ⟨by decide, ?_⟩ | refine ⟨rfl, ?_⟩ | refine ⟨fun h => absurd h (by decide), fun _ => ?_⟩ | refine ⟨_, resSlot_own rfl (by omega) (by first | exact .inl rfl | exact .inr ⟨rfl, rfl⟩), ?_⟩); conv => whnf))
  rw [Nat.mul_one, hrl]
  rfl
end Go.Proofs.YtdeigmjbcbjgeaaGreatDoor
namespace Go.Proofs.YtdeigmjbcbjgeaaGreatDoor
open Go.RowKit
theorem RowAt.take0 {F : Nat → Prop} {k : IntKind} {w : World} {g : Nat} {l : List Int} (h : ∀ x, x ∈ l → (Lit.int k x).wf = true) (hg : g < w.heap.size) (hf : F g)
  (hc : ∀ j, j < l.length → w.cell? ⟨g, j, none⟩ = some (.int k (l.getD j 0))) (i n : Nat) (hn : i + n ≤ l.length) (hm : n ≤ 9223372036854775807) :
  RowAt F k w (some ⟨g, i, none⟩) ((l.drop i).take n) := by
 have h0 := RowAt.cut (F := F) (k := k) (w := w) (g := g) (off := 0) (l := l) h hg hf (fun j hj => by rw [Nat.zero_add]; exact hc j hj) i n hn hm
 rwa [Nat.zero_add] at h0
namespace Rel2
set_option maxHeartbeats 4000000 in
set_option maxRecDepth 100000 in
theorem spoilt_two (a : Option Addr) (c : Nat) (n : Nat) (b : List Int) (i y : Int) (w : World) (hn : b.length = n) (hb0 : n ≠ 0) (hm : n ≤ 100000) (h2 : IntKind.i64.wrap (y.tdiv 256) % 4 = 2) (hc : CapOk a c n) (hr : RowAt (fun _ => True) .u8 w a b) :
  Calls Tryz.prog 28 #[.slice a n c, .int .i64 i, .int .i64 y] w fun e w' => ∃ v, e = .returned v ∧ OwnI .u8 5 w.heap.size w' v (b.take (i % n).toNat ++ [IntKind.u8.wrap y] ++ b.drop (i % n).toNat) ∧ Keeps (fun _ => False) w w' := by
 obtain ⟨i0, hi, hz0, hz1, hz2⟩ := info_parts info_u8c
 have hz8 : i0.bytes ≤ 8 := by omega
 have hn0 := Int.emod_nonneg i (show (n : Int) ≠ 0 by omega)
 have hn1 := Int.emod_lt_of_pos i (show (0 : Int) < n by omega)
 obtain ⟨k, hk⟩ : ∃ k : Nat, i % (n : Int) = (k : Int) := ⟨(i % (n : Int)).toNat, by omega⟩
 have hkn : k < n := by omega
 have hkt : (i % (n : Int)).toNat = k := by omega
 rw [hkt]
 have HM1 := hid (show ∀ W, Calls Tryz.prog 23 #[.int .i64 i, .int .i64 n] W fun e w' => e = .returned (.int .i64 k) ∧ W = w' from fun W => by rw [← hk]; exact Mod_any i n W (by omega) (by omega))
 have HM2 := hid (show ∀ W, Calls Tryz.prog 23 #[.int .i64 (RowKit.wrap64 (y.tdiv 256)), .int .i64 4] W fun e w' => e = .returned (.int .i64 2) ∧ W = w' from fun W => by rw [← IntWalk.i64_left, ← h2]; exact Mod_any _ 4 W (by omega) (by omega))
 obtain ⟨T1, hT1⟩ : ∃ T1, T1 = b.take k := ⟨_, rfl⟩
 obtain ⟨T2, hT2⟩ : ∃ T2, T2 = b.drop k := ⟨_, rfl⟩
 rw [← hT1, ← hT2]
 have hl1 : k = T1.length := by rw [hT1, List.length_take]; omega
 have hl2 : T2.length = n - k := by rw [hT2, List.length_drop, hn]
 have HT1 := hid hT1
 have HT2 := hid hT2
 have HW := hid (show ∀ x, x ∈ [IntKind.u8.wrap y] → (Lit.int .u8 x).wf = true from fun x hx => by simp at hx; subst hx; have := w8_byte y; exact wf_u8_mk (by omega) (by omega))
 have HT1m := hid (show T1.length ≤ 17592186044416 by omega)
 have HT1n := hid (show T1.length + [IntKind.u8.wrap y].length ≤ 17592186044416 by simp; omega)
 have HT2n := hid (show (T1 ++ [IntKind.u8.wrap y]).length + T2.length ≤ 17592186044416 by simp; omega)
 clear hk h2 hkt hT1 hT2 hn0 hn1
 go_enter Tryz.func28, Tryz.ntmps28
 go_wp2_with (at_builtin; (refine wpList_pour rfl _ _ 33 rfl .u8 w.heap.size 5 i0 1 Tryz.underlying33 hi hz0 hz1 hz2 (.slice none 0 0) [] rfl (OwnI.nil _ _ _ _) a c b (by rw [hn]; rfl) hc.1 (fun _ => True) hr (by simp; omega) (by omega) (Nat.le_refl _) ?_))
 intro v2 w2 hown2 hk2
 have k2 : Keeps (fun _ => False) w w2 := hk2.mono (fun i _ h => by simp [Value.ownBlock] at h)
 have hwf := hown2.2.1
 obtain ⟨gp, cp, rfl, hgb, hgl, hcap, hcm, hcell⟩ := hown2.look (by omega)
 rw [hn] at hcap ⊢
 have HRT := hid (show RowAt (fun _ => True) .u8 w2 (some ⟨gp, 0, none⟩) T1 from by
  have h0 := RowAt.take0 (F := fun _ => True) hwf hgl trivial hcell 0 k (by omega) (by omega)
  rwa [List.drop_zero, ← HT1.out] at h0)
 have HRD := hid (show RowAt (fun _ => True) .u8 w2 (some ⟨gp, k, none⟩) T2 from by
  have h0 := RowAt.take0 (F := fun _ => True) hwf hgl trivial hcell k (n - k) (by omega) (by omega)
  rwa [List.take_of_length_le (by rw [List.length_drop]; omega), ← HT2.out] at h0)
 have HCUT := hid (show (T1.length : Int) ≤ (cp : Int) by omega)
 have HCUT2 := hid (show (T1.length : Int) ≤ (n : Int) by omega)
 have HCUT3 := hid (show ¬ cp = T1.length by omega)
 have HCUT4 := hid (show n - T1.length = T2.length by omega)
 clear hk2 hown2 hwf hcell HT1 HT2
 subst hl1
 have hq : ((n : Int) == 0) = false := by simp; omega
 go_wp2_with fail
 refine (HM1.out _).mono ?_
 rintro e w' ⟨rfl, rfl⟩
 go_wp2_with fail
 refine (HM2.out _).mono ?_
 rintro e w' ⟨rfl, rfl⟩
 go_wp2_with fail
 rename_i K hK
 refine wp_region_relV 59 (by kernel_rfl) rfl (by kernel_rfl)
  [Is (.slice (some ⟨gp, 0, none⟩) n cp), Is (.int .i64 (T1.length : Int)), Is (.slice (some ⟨gp, 0, none⟩) T1.length cp), OwnG 3 .u8 5 w.heap.size T1, Is (.int .i64 y), Is (.int .u8 (IntKind.u8.wrap y)), RowIs .u8 [IntKind.u8.wrap y], OwnG 7 .u8 5 w.heap.size (T1 ++ [IntKind.u8.wrap y]), Is (.slice (some ⟨gp, 0, none⟩) n cp), Is (.int .i64 (T1.length : Int)), Is (.slice (some ⟨gp, T1.length, none⟩) T2.length (cp - T1.length)), OwnG 11 .u8 5 w.heap.size (T1 ++ [IntKind.u8.wrap y] ++ T2), OwnG 11 .u8 5 w.heap.size (T1 ++ [IntKind.u8.wrap y] ++ T2)]
  ⟨Is.lasts _, Is.lasts _, Is.lasts _, OwnG.lasts _ _ _ _ _, Is.lasts _, Is.lasts _, RowIs.lasts _ _, OwnG.lasts _ _ _ _ _, Is.lasts _, Is.lasts _, Is.lasts _, OwnG.lasts _ _ _ _ _, OwnG.lasts _ _ _ _ _, trivial⟩ (fun j => if j = 3 then 7 else if j = 7 then 11 else 1000000)
  ⟨?_, ?_, ?_, ?_, ?_, ?_, ?_, ?_, ?_, ?_, ?_, ?_, ?_, trivial⟩ ?_
 ·intro γ A W M hM H
  have e7 : (A.tmps[7]?).getD undef = (.slice (some ⟨gp, 0, none⟩) n cp) := H.slot' 7 rfl
  exact st_val H.st rfl (v := (.slice (some ⟨gp, 0, none⟩) n cp)) (by simp [go_sem, e7]) rfl
 ·intro γ A W M hM H
  have e8 : (A.tmps[8]?).getD undef = (.int .i64 (T1.length : Int)) := H.slot' 8 rfl
  exact st_val H.st rfl (v := (.int .i64 (T1.length : Int))) (by simp [go_sem, e8]) rfl
 ·intro γ A W M hM H
  have e46 : (A.tmps[46]?).getD undef = (.slice (some ⟨gp, 0, none⟩) n cp) := H.has 0 46 rfl rfl
  have e47 : (A.tmps[47]?).getD undef = (.int .i64 (T1.length : Int)) := H.has 1 47 rfl rfl
  exact st_val H.st rfl (v := (.slice (some ⟨gp, 0, none⟩) T1.length cp)) (by simp [go_sem, e46, e47, HCUT.out]) rfl
 ·intro γ A W M hM H
  have e48 : (A.tmps[48]?).getD undef = (.slice (some ⟨gp, 0, none⟩) T1.length cp) := H.has 2 48 rfl rfl
  obtain ⟨v, γ', w', hrn, hgo, hg, hD, hv⟩ := run_begin (P := Tryz.prog) H.st 3 33 33 5 i0 .u8 Tryz.underlying33 hi hz0 hz1 hz8 w.heap.size (Nat.le_trans k2.size H.more.size) (some ⟨gp, 0, none⟩) cp T1 (fun h => by cases h) (HRT.out.keeps H.more (fun _ _ h => h)) HT1m.out
  exact st_run rfl (exec_append (.const (.slice none 0 0)) (.tmp 48) _ _ rfl _ _ _ rfl (by rw [← e48]; simp [Act.eval]) hrn) hgo hg (fun j h => .inl (by rwa [hD] at h)) hv
 ·intro γ A W M hM H
  have e2 : (A.tmps[2]?).getD undef = (.int .i64 y) := H.slot' 2 rfl
  exact st_val H.st rfl (v := (.int .i64 y)) (by simp [go_sem, e2]) rfl
 ·intro γ A W M hM H
  have e50 : (A.tmps[50]?).getD undef = (.int .i64 y) := H.has 4 50 rfl rfl
  exact st_val H.st rfl (v := (.int .u8 (IntKind.u8.wrap y))) (by simp [go_sem, e50]) rfl
 ·intro γ A W M hM H
  have e51 : (A.tmps[51]?).getD undef = (.int .u8 (IntKind.u8.wrap y)) := H.has 5 51 rfl rfl
  obtain ⟨h1, h2, h3⟩ := row_new H.st .u8 5 [IntKind.u8.wrap y] HW.out (by simp)
  exact st_run rfl (by simp [go_sem, e51]; rfl) h2 h3 (fun j h => .inl h) h1
 ·intro γ A W M hM H
  rcases H.has 3 49 rfl rfl with hd | ⟨hown, hex⟩
  ·exact absurd (H.con 3 hd) hM
  obtain ⟨a52, c52, e52, hc52, hr52⟩ := H.has 6 52 rfl rfl
  obtain ⟨v, γ', w', hrn, hgo, hg, hD, _, hv⟩ := run_more (P := Tryz.prog) H.st 3 7 33 33 5 i0 .u8 Tryz.underlying33 hi hz0 hz1 hz8 w.heap.size (Nat.le_trans k2.size H.more.size) _ T1 hown hex a52 c52 [IntKind.u8.wrap y] hc52.1 hr52 HT1n.out
  exact st_run rfl (exec_append (.tmp 49) (.tmp 52) _ _ rfl _ _ _ (by simp [Act.eval]) (by rw [← e52]; simp [Act.eval]) hrn) hgo hg (fun j h => (hD j h).imp id (fun e => by subst e; rfl)) hv
 ·intro γ A W M hM H
  have e7 : (A.tmps[7]?).getD undef = (.slice (some ⟨gp, 0, none⟩) n cp) := H.slot' 7 rfl
  exact st_val H.st rfl (v := (.slice (some ⟨gp, 0, none⟩) n cp)) (by simp [go_sem, e7]) rfl
 ·intro γ A W M hM H
  have e8 : (A.tmps[8]?).getD undef = (.int .i64 (T1.length : Int)) := H.slot' 8 rfl
  exact st_val H.st rfl (v := (.int .i64 (T1.length : Int))) (by simp [go_sem, e8]) rfl
 ·intro γ A W M hM H
  have e54 : (A.tmps[54]?).getD undef = (.slice (some ⟨gp, 0, none⟩) n cp) := H.has 8 54 rfl rfl
  have e55 : (A.tmps[55]?).getD undef = (.int .i64 (T1.length : Int)) := H.has 9 55 rfl rfl
  exact st_val H.st rfl (v := (.slice (some ⟨gp, T1.length, none⟩) T2.length (cp - T1.length))) (by simp [go_sem, e54, e55, HCUT2.out, HCUT3.out, HCUT4.out]) rfl
 ·intro γ A W M hM H
  rcases H.has 7 53 rfl rfl with hd | ⟨hown, hex⟩
  ·exact absurd (H.con 7 hd) hM
  have e56 : (A.tmps[56]?).getD undef = (.slice (some ⟨gp, T1.length, none⟩) T2.length (cp - T1.length)) := H.has 10 56 rfl rfl
  obtain ⟨v, γ', w', hrn, hgo, hg, hD, _, hv⟩ := run_more (P := Tryz.prog) H.st 7 11 33 33 5 i0 .u8 Tryz.underlying33 hi hz0 hz1 hz8 w.heap.size (Nat.le_trans k2.size H.more.size) _ (T1 ++ [IntKind.u8.wrap y]) hown hex (some ⟨gp, T1.length, none⟩) (cp - T1.length) T2 (fun h => by cases h) (HRD.out.keeps H.more (fun _ _ h => h)) HT2n.out
  exact st_run rfl (exec_append (.tmp 53) (.tmp 56) _ _ rfl _ _ _ (by simp [Act.eval]) (by rw [← e56]; simp [Act.eval]) hrn) hgo hg (fun j h => (hD j h).imp id (fun e => by subst e; rfl)) hv
 ·intro γ A W M hM H
  exact st_val H.st rfl (v := (A.tmps[57]?).getD undef) (by simp [go_sem]) (H.has 11 57 rfl rfl)
 ·intro γ M' A W H
  rcases H.has 12 6 rfl trivial with hd | ⟨hown, _⟩
  ·exact absurd (H.mlt _ (H.con 11 hd)) (by show ¬ (1000000 < 13); omega)
  refine hK A W (wp_ret ?_)
  simp only [Exit.inBlock, Exit.then]
  refine bodyPost_ret (v := (A.tmps[6]?).getD undef) ?_ H.dfr ⟨_, rfl, hown, Keeps.trans k2 H.more⟩
  rw [results_tmp rfl, Array.getD_eq_getD_getElem?]
end Rel2
theorem spoilt_call (n : Nat) (c : Option Nat) (b : List Int) (i y : Int) (hn : b.length = n) (hb : By b) (hm : n ≤ 100000) :
  CallOk Tryz.prog 28 [.im 1 n c (.flat .u8 b), .v (.int .i64 i), .v (.int .i64 y)] (.one (.own 1 (spoP b i y).length 5 (.flat .u8 (spoP b i y)))) := by
 by_cases h2 : n = 0 ∨ IntKind.i64.wrap (y.tdiv 256) % 4 ≠ 2
 ·exact execF_ok follows_ok ESp_ok Tryz.func28 (spoilt_exec n c b i y hn hm h2)
 have h0 : n ≠ 0 := fun h => h2 (.inl h)
 have h2 : IntKind.i64.wrap (y.tdiv 256) % 4 = 2 := by
  rcases Int.decEq (IntKind.i64.wrap (y.tdiv 256) % 4) 2 with h | h
  ·exact absurd (.inr h) h2
  ·exact h
 intro w A args hsz hA hrep _
 have h1 := hrep 0 _ rfl
 have h3 := hrep 1 _ rfl
 have h4 := hrep 2 _ rfl
 obtain ⟨v0, v1, v2, rfl⟩ : ∃ v0 v1 v2, args = #[v0, v1, v2] := by
  have hsz : args.size = 3 := hsz
  refine ⟨args[0], args[1], args[2], ?_⟩
  apply Array.ext
  ·simp [hsz]
  ·intro i h1 h2
   have : i = 0 ∨ i = 1 ∨ i = 2 := by simp at h2; omega
   rcases this with rfl | rfl | rfl <;> rfl
 simp only [Array.getD_eq_getD_getElem?, List.getElem?_toArray, List.getElem?_cons_zero, List.getElem?_cons_succ, Option.getD_some] at h1 h3 h4
 cases h3
 cases h4
 cases h1 with
 | im _ _ _ _ _ a c' f hl' hn' hk' ha hm' hr =>
  have hrow : RowAt (fun _ => True) .u8 w a b := by
   refine ⟨by omega, fun x hx => wf_u8_mk (hb x hx).1 (by have := (hb x hx).2; omega), ?_⟩
   rcases hm' with hm' | ⟨g, o, h1, h2, h3⟩
   ·exact .inl (by simpa [Cont.vals] using hm')
   ·refine .inr ⟨g, o, h1, trivial, hA g h2, fun j hj => ?_⟩
    rw [h3 j (by simpa [Cont.vals] using hj)]
    have := hr j (.v (.int .u8 (b.getD j 0))) (by simp [Cont.vals, List.getElem?_eq_getElem hj, List.getD_eq_getElem?_getD])
    generalize f j = x at this
    cases this
    rfl
  refine (Rel2.spoilt_two a c' n b i y w hn h0 hm h2 ⟨fun h => (ha h).2, hn'⟩ hrow).mono ?_
  rintro e w' ⟨v, rfl, ho, hk⟩
  have e1 : b.take (i % n).toNat ++ [IntKind.u8.wrap y] ++ b.drop (i % n).toNat = spoP b i y := by
   rw [spoP, hn, if_neg h0, if_neg (by omega), if_neg (by omega), if_pos h2]
  rw [e1] at ho
  exact ⟨v, A, rfl, hk, fun _ h => h, fun g hg => ⟨Nat.lt_of_lt_of_le (hA g hg) hk.size, .inl hg⟩, own_rc ho hA⟩
end Go.Proofs.YtdeigmjbcbjgeaaGreatDoor
