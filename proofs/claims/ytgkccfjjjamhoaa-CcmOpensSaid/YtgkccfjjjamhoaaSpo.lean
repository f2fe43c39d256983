/-
  coresecmake.Spoilt: bytes with one of them changed, removed or put in.
-/
import Derived.Test.YtgkccfjjjamhoaaMkP
import Derived.Test.YtgkccfjjjamhoaaMkS
import Derived.Test.YtgkccfjjjamhoaaCat
import Derived.Test.YtgkccfjjjamhoaaRel2
namespace Go.Proofs.Ytgkccfjjjamhoaa
open Go.RowKit

def spoP (b : List Int) (i y : Int) : List Int :=
  if b.length = 0 then [IntKind.u8.wrap y] else
  if IntKind.i64.wrap (y.tdiv 256) % 4 = 0 then b.set (i % b.length).toNat (IntKind.u8.wrap y) else
  if IntKind.i64.wrap (y.tdiv 256) % 4 = 1 then b.take (i % b.length).toNat ++ b.drop ((i % b.length).toNat + 1) else
  if IntKind.i64.wrap (y.tdiv 256) % 4 = 2 then b.take (i % b.length).toNat ++ [IntKind.u8.wrap y] ++ b.drop (i % b.length).toNat else b.take (i % b.length).toNat
theorem By.take0 {l : List Int} (h : By l) (n : Nat) : By (l.take n) := fun x hx => h x (List.mem_of_mem_take hx)
theorem By.drop0 {l : List Int} (h : By l) (n : Nat) : By (l.drop n) := fun x hx => h x (List.mem_of_mem_drop hx)
theorem spoP_by {b : List Int} (h : By b) (i y : Int) : By (spoP b i y) := by
  have h1 : By [IntKind.u8.wrap y] := by
    intro x hx
    simp at hx
    subst hx
    exact w8_byte _
  unfold spoP
  split
  · exact h1
  split
  · intro x hx
    rcases List.mem_or_eq_of_mem_set hx with hx | rfl
    · exact h x hx
    · exact w8_byte _
  split
  · exact (h.take0 _).append (h.drop0 _)
  split
  · exact ((h.take0 _).append h1).append (h.drop0 _)
  · exact h.take0 _
theorem lay_any0 {k : IntKind} {l m : List Int} {o : Nat} (h : o + m.length ≤ l.length) : layOne (.flat k l) o (.flat k m) = some (.flat k (l.take o ++ m ++ l.drop (o + m.length))) := by
  by_cases h2 : m.length = 1
  · obtain ⟨x, rfl⟩ : ∃ x, m = [x] := by
      cases m with
      | nil => simp at h2
      | cons x m => cases m with
        | nil => exact ⟨x, rfl⟩
        | cons y m => simp at h2
    have : layOne (.flat k l) o (.flat k [x]) = some (.flat k (l.set o x)) := put_flat h
    rw [this, List.set_eq_take_append_cons_drop, if_pos (show o < l.length from h)]
    simp
  · exact lay_flat h h2
/-- append onto the beginning of what is there. -/
theorem append_inG {E : Env} {β : Nat → Option Blk} {d t e : Nat} {s : LV} {y : Cont} {b n cnt : Nat} {l m : List Int} {k : IntKind} {sp : Bool} {a1 a2 a4 by_ : Nat} {g1 g2 : Bool} {o1 : Option Cont} {dd : TD} {zc : Cont}
    (h1 : E.T t = some ⟨.slice e 1, a1, a2, g1, o1⟩) (h2 : E.T e = some ⟨dd, a4, by_, g2, some zc⟩) (hs : shown β 1 s = some (y, cnt)) (hy : y = .flat k m) (hm : m.length = cnt)
    (hb : β b = some ⟨.flat k l, e, sp⟩) (hl : n + cnt ≤ l.length) (hne : l.length ≠ n) (hz : zc.len = 1) (hby : (n + cnt) * by_ ≤ 140737488355328) (hmx : n + cnt ≤ 9223372036854775807) :
    opAppend E β d t (.sl 1 b 0 n none) s = some ⟨none, none, .sl 1 b 0 (n + cnt) none, [(b, ⟨.flat k (l.take n ++ m ++ l.drop (n + cnt)), e, sp⟩)]⟩ := by
  subst hy hm
  have hlay := lay_any0 (k := k) (l := l) (m := m) (o := n) hl
  have hok : appOk 1 1 by_ (n + m.length) zc = true := by simp [appOk, hby, hmx, hz]
  simp only [opAppend, h1, hs, Cont.leaves, if_true, appX, h2, hb, hok, Nat.mul_one, hlay]
  simp [Cont.len, hne, hl]
theorem slice_to0 {E : Env} {t e z b off n h a1 a2 : Nat} {g1 : Bool} {o1 : Option Cont} (h1 : E.T t = some ⟨.slice e z, a1, a2, g1, o1⟩) {x : Int} (hx : x = (h : Int)) (hn : h ≤ n) :
    opSlice E t false true false (.sl z b off n none) [.v (.int .i64 x)] = some (.sl z b off h none, []) := by
  subst hx
  have hb : bounds [(h : Int)] false true false n ((none : Option Nat).getD n) = some (0, h, n) := by
    unfold bounds
    rw [if_pos (by simp [lowI, highI, restI, maxI]; omega)]
    simp [lowI, highI, restI, maxI]
  have hp : optMap pickInt [.v (.int .i64 (h : Int))] = some [(h : Int)] := rfl
  simp only [opSlice, h1, hp, if_true, hb]
  simp
theorem slice_from0 {E : Env} {t e z b off n l a1 a2 : Nat} {g1 : Bool} {o1 : Option Cont} (h1 : E.T t = some ⟨.slice e z, a1, a2, g1, o1⟩) {x : Int} (hx : x = (l : Int)) (hn : l ≤ n) :
    opSlice E t true false false (.sl z b off n none) [.v (.int .i64 x)] = some (.sl z b (off + l * z) (n - l) none, []) := by
  subst hx
  have hb : bounds [(l : Int)] true false false n ((none : Option Nat).getD n) = some (l, n, n) := by
    unfold bounds
    rw [if_pos (by simp [lowI, highI, maxI]; omega)]
    simp [lowI, highI, maxI]
  have hp : optMap pickInt [.v (.int .i64 (l : Int))] = some [(l : Int)] := rfl
  simp only [opSlice, h1, hp, if_true, hb]
  simp
def orcSp (f : Nat) (ds : List LV) : Option LRes :=
  match f with
  | 13 => match ds with
    | [.v (.int .i64 v), .v (.int .i64 n)] => if 0 < n ∧ n < 9223372036854775808 then some (ret1 (.v (.int .i64 (v % n)))) else none
    | _ => none
  | _ => none
theorem orcSp_ok : Known Try.prog orcSp := by
  intro f ds r h
  unfold orcSp at h
  split at h
  · split at h
    · split at h
      · rename_i hc
        cases h
        exact ⟨⟨_, Try.func13, name_ne _ (by kernel_rfl), rfl⟩, mod_call _ _ hc.1 hc.2⟩
      · cases h
    · cases h
  · cases h
def ESp : Env := ⟨tyL, orcSp, false, noWk, noOrw⟩
theorem ESp_ok : EnvOk Try.prog ESp := ⟨tyL_ok, orcSp_ok, noOrw_ok⟩
theorem spMod (v n r : Int) (hn : 0 < n ∧ n < 9223372036854775808) (hr : v % n = r) : ESp.orc 13 [.v (.int .i64 v), .v (.int .i64 n)] = some (ret1 (.v (.int .i64 r))) := by
  subst hr
  exact if_pos hn
set_option maxRecDepth 100000 in
set_option maxHeartbeats 4000000 in
theorem spoilt_exec (n : Nat) (c : Option Nat) (b : List Int) (i y : Int) (hn : b.length = n) (hm : n ≤ 100000) (h2 : n = 0 ∨ IntKind.i64.wrap (y.tdiv 256) % 4 ≠ 2) :
    execF ESp Try.f21 [.im 1 n c (.flat .u8 b), iv .i64 i, iv .i64 y] (.one (.own 1 (spoP b i y).length 5 (.flat .u8 (spoP b i y)))) := by
  have hsh : ∀ β : Nat → Option Blk, shown β 1 (.im 1 n c (.flat .u8 b)) = some (.flat .u8 b, n) := fun β => rfl
  unfold spoP
  rw [hn]
  by_cases h0 : n = 0
  · rw [if_pos h0]
    have q0 : ((n : Int) == 0) = true := by simp [h0]
    ((conv => whnf); repeat ((first | refine ⟨fun _ => ?_, fun h => absurd ((q0).symm.trans h) (by decide)⟩ | refine ⟨fun h => absurd ((q0).symm.trans h) (by decide), fun _ => ?_⟩ | refine ⟨_, append_nil rfl rfl (hsh _) rfl rfl rfl (by omega) (by omega), ?_⟩ | refine ⟨_, rfl, ?_⟩ | refine ⟨by decide, ?_⟩ | refine ⟨rfl, ?_⟩ | refine ⟨fun _ => ?_, fun h => absurd h (by decide)⟩ | refine ⟨fun h => absurd h (by decide), fun _ => ?_⟩ | refine ⟨inI_of (by omega), ?_⟩ | refine ⟨⟨rfl, inI_of (by omega)⟩, ?_⟩ | refine ⟨⟨rfl, by decide⟩, ?_⟩ | (apply Exists.intro; refine ⟨?_, ?_⟩; ((try simp only); (try simp only [Nat.zero_add]); (try simp only [Nat.mul_one]); (try simp only [Int.toNat_natCast]); exact at_g (by omega))) | (apply Exists.intro; refine ⟨?_, ?_⟩; ((try simp only); (try simp only [Nat.zero_add]); (try simp only [Nat.mul_one]); (try simp only [Int.toNat_natCast]); exact put_flat (by omega))) | refine ⟨_, cut_all (by omega), ?_⟩ | refine ⟨_, lay_all (by omega) (by omega), ?_⟩ | refine ⟨_, lay_all (by (try simp only); (try simp only [List.length_replicate]); (try simp only [List.length_cons]); (try simp only [List.length_nil]); omega) (by omega), ?_⟩ | refine ⟨by omega, ?_⟩ | refine ⟨len_flat (by omega), ?_⟩ | refine ⟨apart_uv _ _ _, ?_⟩ | refine ⟨_, resSlot_own rfl (by omega) (by first | exact .inl rfl | exact .inr ⟨rfl, rfl⟩), ?_⟩ | refine ⟨(by kernel_rfl : regB _ = true), ?_⟩ | refine ⟨⟨rfl, inI_of (by omega), by decide⟩, ?_⟩ | (apply Exists.intro; refine ⟨?_, ?_⟩; ((try simp only); (try simp only [Nat.zero_add]); (try simp only [Nat.mul_one]); (try simp only [Int.toNat_natCast]); exact at_drop_g (by omega))) | (apply Exists.intro; refine ⟨?_, ?_⟩; ((try simp only); (try simp only [Nat.zero_add]); (try simp only [Nat.mul_one]); (try simp only [Int.toNat_natCast]); exact cut_rest (by omega)))); conv => whnf))
    rfl
  have h2 : IntKind.i64.wrap (y.tdiv 256) % 4 ≠ 2 := h2.resolve_left h0
  rw [if_neg h0]
  have q0 : ((n : Int) == 0) = false := by simp [h0]
  have hn0 := Int.emod_nonneg i (show (n : Int) ≠ 0 by omega)
  have hn1 := Int.emod_lt_of_pos i (show (0 : Int) < n by omega)
  obtain ⟨k, hk⟩ : ∃ k : Nat, i % (n : Int) = (k : Int) := ⟨(i % (n : Int)).toNat, by omega⟩
  have hkn : k < n := by omega
  have hkt : (i % (n : Int)).toNat = k := by omega
  rw [hkt]
  have o1 := spMod i n k (by omega) hk
  obtain ⟨M, hM⟩ : ∃ M, M = IntKind.i64.wrap (y.tdiv 256) % 4 := ⟨_, rfl⟩
  rw [← hM] at h2 ⊢
  have o2 := spMod (IntKind.i64.wrap (y.tdiv 256)) 4 M (by decide) hM.symm
  have hMr : M = 0 ∨ M = 1 ∨ M = 3 := by omega
  clear hM
  rcases hMr with rfl | rfl | rfl
  · rw [if_pos rfl]
    have hsl : (b.set k (IntKind.u8.wrap y)).length = n := by rw [List.length_set, hn]
    have htk : (b.set k (IntKind.u8.wrap y)).take (n * 1) = b.set k (IntKind.u8.wrap y) := List.take_of_length_le (by omega)
    ((conv => whnf); repeat ((first | refine ⟨fun _ => ?_, fun h => absurd ((q0).symm.trans h) (by decide)⟩ | refine ⟨fun h => absurd ((q0).symm.trans h) (by decide), fun _ => ?_⟩ | refine ⟨_, append_nil rfl rfl (hsh _) rfl rfl rfl (by omega) (by omega), ?_⟩ | refine ⟨_, o1, ?_⟩ | refine ⟨_, o2, ?_⟩ | refine ⟨_, rfl, ?_⟩ | refine ⟨by decide, ?_⟩ | refine ⟨rfl, ?_⟩ | refine ⟨fun _ => ?_, fun h => absurd h (by decide)⟩ | refine ⟨fun h => absurd h (by decide), fun _ => ?_⟩ | refine ⟨inI_of (by omega), ?_⟩ | refine ⟨⟨rfl, inI_of (by omega)⟩, ?_⟩ | refine ⟨⟨rfl, by decide⟩, ?_⟩ | (apply Exists.intro; refine ⟨?_, ?_⟩; ((try simp only); (try simp only [Nat.zero_add]); (try simp only [Nat.mul_one]); (try simp only [Int.toNat_natCast]); exact at_g (by omega))) | (apply Exists.intro; refine ⟨?_, ?_⟩; ((try simp only); (try simp only [Nat.zero_add]); (try simp only [Nat.mul_one]); (try simp only [Int.toNat_natCast]); exact put_flat (by omega))) | refine ⟨_, cut_all (by omega), ?_⟩ | refine ⟨_, lay_all (by omega) (by omega), ?_⟩ | refine ⟨_, lay_all (by (try simp only); (try simp only [List.length_replicate]); (try simp only [List.length_cons]); (try simp only [List.length_nil]); omega) (by omega), ?_⟩ | refine ⟨by omega, ?_⟩ | refine ⟨len_flat (by omega), ?_⟩ | refine ⟨apart_uv _ _ _, ?_⟩ | refine ⟨_, resSlot_own rfl (by omega) (by first | exact .inl rfl | exact .inr ⟨rfl, rfl⟩), ?_⟩ | refine ⟨(by kernel_rfl : regB _ = true), ?_⟩ | refine ⟨⟨rfl, inI_of (by omega), by decide⟩, ?_⟩ | (apply Exists.intro; refine ⟨?_, ?_⟩; ((try simp only); (try simp only [Nat.zero_add]); (try simp only [Nat.mul_one]); (try simp only [Int.toNat_natCast]); exact at_drop_g (by omega))) | (apply Exists.intro; refine ⟨?_, ?_⟩; ((try simp only); (try simp only [Nat.zero_add]); (try simp only [Nat.mul_one]); (try simp only [Int.toNat_natCast]); exact cut_rest (by omega)))); conv => whnf))
    rw [htk, hsl]
    rfl
  · rw [if_neg (by decide), if_pos rfl]
    have ew : IntKind.i64.wrap ((k : Int) + 1) = ((k + 1 : Nat) : Int) := by rw [wrap64 (by omega)]; omega
    have hdl : (b.drop (k + 1)).length = n - (k + 1) := by simp; omega
    have hcd : (Cont.flat .u8 b).cut (0 + (k + 1) * 1) ((n - (k + 1)) * 1) = some (.flat .u8 (b.drop (k + 1))) := by
      rw [Nat.zero_add, Nat.mul_one, Nat.mul_one, cut_flat (by omega), List.take_of_length_le (by omega)]
    have hrl : (b.take k ++ b.drop (k + 1)).length = k + (n - (k + 1)) := by simp; omega
    have htk : (b.take k ++ b.drop (k + 1) ++ b.drop (k + (n - (k + 1)))).take ((k + (n - (k + 1))) * 1) = b.take k ++ b.drop (k + 1) := by
      rw [Nat.mul_one, List.take_append_of_le_length (by omega), List.take_of_length_le (by omega)]
    have htl : (b.take k ++ b.drop (k + 1) ++ b.drop (k + (n - (k + 1)))).length = n := by simp; omega
    ((conv => whnf); repeat ((first | refine ⟨fun _ => ?_, fun h => absurd ((q0).symm.trans h) (by decide)⟩ | refine ⟨fun h => absurd ((q0).symm.trans h) (by decide), fun _ => ?_⟩ | refine ⟨_, append_nil rfl rfl (hsh _) rfl rfl rfl (by omega) (by omega), ?_⟩ | refine ⟨_, o1, ?_⟩ | refine ⟨_, o2, ?_⟩ | refine ⟨_, slice_to0 rfl rfl (by omega), ?_⟩ | refine ⟨_, slice_from0 rfl ew (by omega), ?_⟩ | refine ⟨_, append_inG rfl rfl (shown_sl rfl hcd) rfl hdl rfl (by omega) (by omega) rfl (by omega) (by omega), ?_⟩ | refine ⟨_, rfl, ?_⟩ | refine ⟨by decide, ?_⟩ | refine ⟨rfl, ?_⟩ | refine ⟨fun _ => ?_, fun h => absurd h (by decide)⟩ | refine ⟨fun h => absurd h (by decide), fun _ => ?_⟩ | refine ⟨inI_of (by omega), ?_⟩ | refine ⟨⟨rfl, inI_of (by omega)⟩, ?_⟩ | refine ⟨⟨rfl, by decide⟩, ?_⟩ | (apply Exists.intro; refine ⟨?_, ?_⟩; ((try simp only); (try simp only [Nat.zero_add]); (try simp only [Nat.mul_one]); (try simp only [Int.toNat_natCast]); exact at_g (by omega))) | (apply Exists.intro; refine ⟨?_, ?_⟩; ((try simp only); (try simp only [Nat.zero_add]); (try simp only [Nat.mul_one]); (try simp only [Int.toNat_natCast]); exact put_flat (by omega))) | refine ⟨_, cut_all (by omega), ?_⟩ | refine ⟨_, lay_all (by omega) (by omega), ?_⟩ | refine ⟨_, lay_all (by (try simp only); (try simp only [List.length_replicate]); (try simp only [List.length_cons]); (try simp only [List.length_nil]); omega) (by omega), ?_⟩ | refine ⟨by omega, ?_⟩ | refine ⟨len_flat (by omega), ?_⟩ | refine ⟨apart_uv _ _ _, ?_⟩ | refine ⟨_, resSlot_own rfl (by omega) (by first | exact .inl rfl | exact .inr ⟨rfl, rfl⟩), ?_⟩ | refine ⟨(by kernel_rfl : regB _ = true), ?_⟩ | refine ⟨⟨rfl, inI_of (by omega), by decide⟩, ?_⟩ | (apply Exists.intro; refine ⟨?_, ?_⟩; ((try simp only); (try simp only [Nat.zero_add]); (try simp only [Nat.mul_one]); (try simp only [Int.toNat_natCast]); exact at_drop_g (by omega))) | (apply Exists.intro; refine ⟨?_, ?_⟩; ((try simp only); (try simp only [Nat.zero_add]); (try simp only [Nat.mul_one]); (try simp only [Int.toNat_natCast]); exact cut_rest (by omega)))); conv => whnf))
    rw [htk, hrl]
    rfl
  · rw [if_neg (by decide), if_neg (by decide), if_neg (by decide)]
    have hrl : (b.take k).length = k := by simp; omega
    ((conv => whnf); repeat ((first | refine ⟨fun _ => ?_, fun h => absurd ((q0).symm.trans h) (by decide)⟩ | refine ⟨fun h => absurd ((q0).symm.trans h) (by decide), fun _ => ?_⟩ | refine ⟨_, append_nil rfl rfl (hsh _) rfl rfl rfl (by omega) (by omega), ?_⟩ | refine ⟨_, o1, ?_⟩ | refine ⟨_, o2, ?_⟩ | refine ⟨_, slice_to0 rfl rfl (by omega), ?_⟩ | refine ⟨_, rfl, ?_⟩ | refine ⟨by decide, ?_⟩ | refine ⟨rfl, ?_⟩ | refine ⟨fun _ => ?_, fun h => absurd h (by decide)⟩ | refine ⟨fun h => absurd h (by decide), fun _ => ?_⟩ | refine ⟨inI_of (by omega), ?_⟩ | refine ⟨⟨rfl, inI_of (by omega)⟩, ?_⟩ | refine ⟨⟨rfl, by decide⟩, ?_⟩ | (apply Exists.intro; refine ⟨?_, ?_⟩; ((try simp only); (try simp only [Nat.zero_add]); (try simp only [Nat.mul_one]); (try simp only [Int.toNat_natCast]); exact at_g (by omega))) | (apply Exists.intro; refine ⟨?_, ?_⟩; ((try simp only); (try simp only [Nat.zero_add]); (try simp only [Nat.mul_one]); (try simp only [Int.toNat_natCast]); exact put_flat (by omega))) | refine ⟨_, cut_all (by omega), ?_⟩ | refine ⟨_, lay_all (by omega) (by omega), ?_⟩ | refine ⟨_, lay_all (by (try simp only); (try simp only [List.length_replicate]); (try simp only [List.length_cons]); (try simp only [List.length_nil]); omega) (by omega), ?_⟩ | refine ⟨by omega, ?_⟩ | refine ⟨len_flat (by omega), ?_⟩ | refine ⟨apart_uv _ _ _, ?_⟩ | refine ⟨_, resSlot_own rfl (by omega) (by first | exact .inl rfl | exact .inr ⟨rfl, rfl⟩), ?_⟩ | refine ⟨(by kernel_rfl : regB _ = true), ?_⟩ | refine ⟨⟨rfl, inI_of (by omega), by decide⟩, ?_⟩ | (apply Exists.intro; refine ⟨?_, ?_⟩; ((try simp only); (try simp only [Nat.zero_add]); (try simp only [Nat.mul_one]); (try simp only [Int.toNat_natCast]); exact at_drop_g (by omega))) | (apply Exists.intro; refine ⟨?_, ?_⟩; ((try simp only); (try simp only [Nat.zero_add]); (try simp only [Nat.mul_one]); (try simp only [Int.toNat_natCast]); exact cut_rest (by omega)))); conv => whnf))
    rw [Nat.mul_one, hrl]
    rfl
end Go.Proofs.Ytgkccfjjjamhoaa
