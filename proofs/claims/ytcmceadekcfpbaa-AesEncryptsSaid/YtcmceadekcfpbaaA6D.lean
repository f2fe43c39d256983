/-
  Layer 6: the program's Expand, Encrypt, Decrypt.
-/
import Derived.Test.YtcmceadekcfpbaaA6C
namespace Go.Proofs.Ytcmceadekcfpbaa
open Go.RowKit

theorem unmix_call (a : List Int) (ha : a.length = 16) : CallOk Try.prog 30 [arr8 a] (ret1 (arr8 (mixP (mixP (mixP a))))) := by
  obtain ⟨a0, a1, a2, a3, a4, a5, a6, a7, a8, a9, a10, a11, a12, a13, a14, a15, rfl⟩ := len16 ha
  exact runF_ok follows_ok EB_ok Try.func30 (fuel := 100) (by kernel_rfl)

def orcC (f : Nat) (ds : List LV) : Option LRes :=
  match f with
  | 30 => match ds with
    | [.agg (.flat .u8 a)] => if a.length = 16 then some (ret1 (arr8 (mixP (mixP (mixP a))))) else none
    | _ => none
  | 20 => match ds with
    | [] => some (ret1 (arr8 SB))
    | _ => none
  | 18 => match ds with
    | [.agg (.flat .u8 a), .agg (.flat .u8 t)] => if a.length = 16 ∧ t.length = 256 ∧ byteOk a = true ∧ byteOk t = true then some (ret1 (arr8 (rT a t 10))) else none
    | _ => none
  | _ => orcB f ds
theorem orcC_ok : Known Try.prog orcC := by
  intro f ds r h
  unfold orcC at h
  split at h
  · split at h
    · split at h
      · rename_i hc
        cases h
        exact ⟨⟨_, Try.func30, name_ne _ (by kernel_rfl), rfl⟩, unmix_call _ hc⟩
      · cases h
    · cases h
  · split at h
    · cases h
      exact ⟨⟨_, Try.func20, name_ne _ (by kernel_rfl), rfl⟩, execF_ok follows_ok EB_ok Try.func20 (subs_exec)⟩
    · cases h
  · split at h
    · split at h
      · rename_i hc
        cases h
        exact ⟨⟨_, Try.func18, name_ne _ (by kernel_rfl), rfl⟩, execF_ok follows_ok EB_ok Try.func18 (sched_exec _ _ hc.1 hc.2.1 (byteAll hc.2.2.1) (byteAll hc.2.2.2))⟩
      · cases h
    · cases h
  · exact orcB_ok f ds r h
def EC : Env := ⟨tyL, orcC, false⟩
theorem EC_ok : EnvOk Try.prog EC := ⟨tyL_ok, orcC_ok⟩
theorem oRead (c : Option Nat) {a : List Int} (h : a.length = 16) : orcC 19 [.im 1 16 c (.flat .u8 a)] = some (ret1 (arr8 a)) := if_pos ⟨h, rfl⟩
theorem oSched {a t : List Int} (h1 : a.length = 16) (h2 : t.length = 256) (h3 : By a) (h4 : By t) : orcC 18 [.agg (.flat .u8 a), .agg (.flat .u8 t)] = some (ret1 (arr8 (rT a t 10))) := if_pos ⟨h1, h2, h3.ok, h4.ok⟩
theorem oRepl {a t : List Int} (h1 : a.length = 16) (h2 : t.length = 256) (h3 : By a) : orcC 25 [.agg (.flat .u8 a), .agg (.flat .u8 t)] = some (ret1 (arr8 (replP a t))) := if_pos ⟨h1, h2, h3.ok⟩
theorem oShift {a : List Int} (h1 : a.length = 16) : orcC 24 [.agg (.flat .u8 a)] = some (ret1 (arr8 (shiftP a))) := if_pos h1
theorem oUnshift {a : List Int} (h1 : a.length = 16) : orcC 31 [.agg (.flat .u8 a)] = some (ret1 (arr8 (unshiftP a))) := if_pos h1
theorem oMix {a : List Int} (h1 : a.length = 16) : orcC 26 [.agg (.flat .u8 a)] = some (ret1 (arr8 (mixP a))) := if_pos h1
theorem oUnmix {a : List Int} (h1 : a.length = 16) : orcC 30 [.agg (.flat .u8 a)] = some (ret1 (arr8 (mixP (mixP (mixP a))))) := if_pos h1
theorem oPlus {a b : List Int} (h1 : a.length = 16) (h2 : b.length = 16) : orcC 23 [.agg (.flat .u8 a), .agg (.flat .u8 b)] = some (ret1 (arr8 (plusP a b))) := if_pos ⟨h1, h2⟩
set_option maxRecDepth 100000 in
theorem bk_SB : bk SB 256 = IB := by kernel_rfl
theorem oInv' {t : List Int} (h1 : t.length = 256) (h2 : By t) : orcC 29 [.agg (.flat .u8 t)] = some (ret1 (arr8 (bk t 256))) := if_pos ⟨h1, h2.ok⟩
theorem oInv : orcC 29 [.agg (.flat .u8 SB)] = some (ret1 (arr8 IB)) := by
  have h := oInv' SB_len SB_by
  rw [bk_SB] at h
  exact h

theorem lay16 {l m : List Int} (h : l.length = 16) (h2 : m.length = 16) : layOne (.flat .u8 l) 0 (.flat .u8 m) = some (.flat .u8 m) := lay_all (by omega) (by omega)
theorem len_map {f : Nat → Int} : ((List.range 16).map f).length = 16 := by simp
theorem replP_len (a t : List Int) : (replP a t).length = 16 := len_map
theorem shiftP_len (a : List Int) : (shiftP a).length = 16 := len_map
theorem unshiftP_len (a : List Int) : (unshiftP a).length = 16 := len_map
theorem mixP_len (a : List Int) : (mixP a).length = 16 := len_map
theorem plusP_len (a b : List Int) : (plusP a b).length = 16 := len_map
theorem replP_by {a t : List Int} (ht : By t) : By (replP a t) := By.map fun _ _ => ht.g _
theorem shiftP_by {a : List Int} (h : By a) : By (shiftP a) := By.map fun _ _ => h.g _
theorem unshiftP_by {a : List Int} (h : By a) : By (unshiftP a) := By.map fun _ _ => h.g _
theorem plusP_by {a b : List Int} (h : By a) (h2 : By b) : By (plusP a b) := By.map fun _ _ => x8_byte (h.g _) (h2.g _)
theorem mixP_by {a : List Int} (h : By a) : By (mixP a) := By.map fun _ _ => x8_byte (h.g _) (x8_byte (x8_byte (x8_byte (x8_byte (h.g _) (h.g _)) (h.g _)) (h.g _)) (dbl_byte (x8_byte (h.g _) (h.g _))))

abbrev nilV : LV := .v (.slice none 0 0)
abbrev ret2 (r : RC) (e : Int) : LRes := .many [r, .val (iv .i64 e)]
abbrev no2 (e : Int) : LRes := ret2 (.val nilV) e

/-- append within the room that there is. -/
theorem append_room {E : Env} {β : Nat → Option Blk} {d t e : Nat} {s : LV} {y : Cont} {b n cnt c e' : Nat} {l m : List Int} {k : IntKind} {sp : Bool} {a1 a2 a4 by_ : Nat} {g1 g2 : Bool} {o1 : Option Cont} {dd : TD} {zc : Cont}
    (h1 : E.T t = some ⟨.slice e 1, a1, a2, g1, o1⟩) (h2 : E.T e = some ⟨dd, a4, by_, g2, some zc⟩) (hs : shown β 1 s = some (y, cnt)) (hy : y = .flat k m) (hm : m.length = cnt) (hm1 : cnt ≠ 1)
    (hb : β b = some ⟨.flat k l, e', sp⟩) (he : e' = e) (hc : n + cnt ≤ c) (hl : n + cnt ≤ l.length) (hz : zc.len = 1) (hby : (n + cnt) * by_ ≤ 140737488355328) (hmx : n + cnt ≤ 9223372036854775807) :
    opAppend E β d t (.sl 1 b 0 n (some c)) s = some ⟨none, none, .sl 1 b 0 (n + cnt) (some c), [(b, ⟨.flat k (l.take n ++ m ++ l.drop (n + cnt)), e', sp⟩)]⟩ := by
  subst hy hm he
  have hlay := lay_flat (k := k) (l := l) (m := m) (o := n) hl hm1
  have hok : appOk 1 1 by_ (n + m.length) zc = true := by simp [appOk, hby, hmx, hz]
  simp only [opAppend, h1, hs, Cont.leaves, if_true, appX, h2, hb, hok, Nat.mul_one, hlay]
  simp [hc]

set_option maxRecDepth 100000 in
set_option maxHeartbeats 1600000 in
theorem exp_no (n : Nat) (c : Option Nat) (x : Cont) (hn : n ≠ 16) : execF EC Try.f10 [.im 1 n c x] (no2 1) := by
  have hq : ((n : Int) != 16) = true := by simp; omega
  ((conv => whnf); repeat ((first | refine ⟨fun _ => ?_, fun h => absurd (hq.symm.trans h) (by decide)⟩ | refine ⟨_, rfl, ?_⟩ | refine ⟨by decide, ?_⟩ | refine ⟨rfl, ?_⟩ | refine ⟨fun _ => ?_, fun h => absurd h (by decide)⟩ | refine ⟨fun h => absurd h (by decide), fun _ => ?_⟩ | refine ⟨inI_of (by omega), ?_⟩ | (apply Exists.intro; refine ⟨?_, ?_⟩; ((try simp only [Nat.zero_add, Nat.mul_one, Int.toNat_natCast]); exact at_g (by omega))) | (apply Exists.intro; refine ⟨?_, ?_⟩; ((try simp only [Nat.zero_add, Nat.mul_one, Int.toNat_natCast]); exact put_flat (by omega))) | refine ⟨_, cut_all (by omega), ?_⟩ | refine ⟨_, lay_all (by omega) (by omega), ?_⟩ | refine ⟨_, lay_all (by simp only [List.length_replicate, List.length_cons, List.length_nil]; omega) (by omega), ?_⟩ | refine ⟨by omega, ?_⟩ | refine ⟨len_flat (by omega), ?_⟩ | refine ⟨apart_uv _ _ _, ?_⟩ | refine ⟨_, resSlot_own rfl (by omega) (by first | exact .inl rfl | exact .inr ⟨rfl, rfl⟩), ?_⟩ | refine ⟨(by kernel_rfl : regB _ = true), ?_⟩); conv => whnf))
  rfl
/-- What has been put out after i parts. -/
def eo (key : List Int) (i : Nat) : List Int := flatK (kkP key SB) i ++ List.replicate (176 - 16 * i) 0
section
variable {key : List Int} (hk : key.length = 16)
include hk in
theorem eo_len {i : Nat} (hi : i ≤ 11) : (eo key i).length = 176 := by
  rw [eo, List.length_append, flatK_len (kk_len hk), List.length_replicate]; omega
include hk in
theorem eo_lay {i : Nat} (hi : i < 11) : (eo key i).take (16 * i) ++ kkP key SB i ++ (eo key i).drop (16 * i + 16) = eo key (i + 1) := by
  have hl := flatK_len (f := kkP key SB) (kk_len hk) i
  unfold eo
  rw [List.take_append_of_le_length (by omega), List.take_of_length_le (by omega), flatK_succ]
  congr 1
  rw [List.drop_append, List.drop_of_length_le (by omega), List.nil_append, List.drop_replicate]
  congr 1
  omega
end
set_option maxRecDepth 100000 in
set_option maxHeartbeats 1600000 in
theorem exp_ok (key : List Int) (c : Option Nat) (hk : key.length = 16) (hkb : By key) : execF EC Try.f10 [.im 1 16 c (.flat .u8 key)] (ret2 (.own 1 176 5 (.flat .u8 (flatK (kkP key SB) 11))) 0) := by
  ((conv => whnf); repeat ((first | refine ⟨_, oRead c hk, ?_⟩ | refine ⟨_, oSched hk SB_len hkb SB_by, ?_⟩ | refine ⟨_, rfl, ?_⟩ | refine ⟨by decide, ?_⟩ | refine ⟨rfl, ?_⟩ | refine ⟨fun _ => ?_, fun h => absurd h (by decide)⟩ | refine ⟨fun h => absurd h (by decide), fun _ => ?_⟩ | refine ⟨inI_of (by omega), ?_⟩ | (apply Exists.intro; refine ⟨?_, ?_⟩; ((try simp only [Nat.zero_add, Nat.mul_one, Int.toNat_natCast]); exact at_g (by omega))) | (apply Exists.intro; refine ⟨?_, ?_⟩; ((try simp only [Nat.zero_add, Nat.mul_one, Int.toNat_natCast]); exact put_flat (by omega))) | refine ⟨_, cut_all (by omega), ?_⟩ | refine ⟨_, lay_all (by omega) (by omega), ?_⟩ | refine ⟨_, lay_all (by simp only [List.length_replicate, List.length_cons, List.length_nil]; omega) (by omega), ?_⟩ | refine ⟨by omega, ?_⟩ | refine ⟨len_flat (by omega), ?_⟩ | refine ⟨apart_uv _ _ _, ?_⟩ | refine ⟨_, resSlot_own rfl (by omega) (by first | exact .inl rfl | exact .inr ⟨rfl, rfl⟩), ?_⟩ | refine ⟨(by kernel_rfl : regB _ = true), ?_⟩); conv => whnf))
  refine .inl ⟨fun n st => ∃ i : Nat, n = 11 - i ∧ i ≤ 11 ∧ st = ⟨[.im 1 16 c (.flat .u8 key), .poison, .poison, .poison, .sl 1 80 0 (16 * i) (some 176), .poison, .poison, .poison, .poison, .poison, .poison, .poison, .poison, .poison, arr8 (rT key SB 10), iv .i64 i, .poison, .poison, .poison, .poison, .poison, .poison, .poison],
    [(80, ⟨.flat .u8 (eo key i), 5, false⟩)]⟩,
    ⟨[1, 2, 3, 5, 6, 7, 8, 9, 10, 11, 12, 13, 16, 17, 18, 19, 20, 21, 22], [], 11, 0, rfl, by omega, by kernel_rfl⟩, ?_⟩
  rintro _ _ ⟨i, rfl, hi, rfl⟩
  have hl := eo_len hk hi
  conv => whnf
  refine ⟨fun h => ?_, fun h => ?_⟩
  · have h := of_decide_eq_true h
    obtain ⟨b, hb⟩ : ∃ b, b = kkP key SB i := ⟨_, rfl⟩
    have hbl : b.length = 16 := by rw [hb]; exact kk_len hk i
    have hrl := rT_len (t := SB) hk (Nat.le_refl 10)
    have cutI : (Cont.flat .u8 (rT key SB 10)).cut ((i : Int).toNat * 16) 16 = some (.flat .u8 b) := by
      rw [cut_flat (by omega), show (i : Int).toNat * 16 = 16 * i by omega, rT_cut hk (by omega), hb]
    have e1 : IntKind.i64.wrap ((i : Int) + 1) = ((i + 1 : Nat) : Int) := by rw [wrap64 (by omega)]; omega
    ((conv => whnf); repeat ((first | refine ⟨_, cutI, ?_⟩ | refine ⟨_, append_room (cnt := 16) rfl rfl (by simp only [shown, if_true]; exact congrArg (Option.map fun y => (y, 16)) (cut_all hbl)) rfl hbl (by decide) rfl rfl (by omega) (by omega) rfl (by omega) (by omega), ?_⟩ | refine ⟨_, rfl, ?_⟩ | refine ⟨by decide, ?_⟩ | refine ⟨rfl, ?_⟩ | refine ⟨fun _ => ?_, fun h => absurd h (by decide)⟩ | refine ⟨fun h => absurd h (by decide), fun _ => ?_⟩ | refine ⟨inI_of (by omega), ?_⟩ | (apply Exists.intro; refine ⟨?_, ?_⟩; ((try simp only [Nat.zero_add, Nat.mul_one, Int.toNat_natCast]); exact at_g (by omega))) | (apply Exists.intro; refine ⟨?_, ?_⟩; ((try simp only [Nat.zero_add, Nat.mul_one, Int.toNat_natCast]); exact put_flat (by omega))) | refine ⟨_, cut_all (by omega), ?_⟩ | refine ⟨_, lay_all (by omega) (by omega), ?_⟩ | refine ⟨_, lay_all (by simp only [List.length_replicate, List.length_cons, List.length_nil]; omega) (by omega), ?_⟩ | refine ⟨by omega, ?_⟩ | refine ⟨len_flat (by omega), ?_⟩ | refine ⟨apart_uv _ _ _, ?_⟩ | refine ⟨_, resSlot_own rfl (by omega) (by first | exact .inl rfl | exact .inr ⟨rfl, rfl⟩), ?_⟩ | refine ⟨(by kernel_rfl : regB _ = true), ?_⟩); conv => whnf))
    have e2 : (eo key i).take (16 * i) ++ b ++ (eo key i).drop (16 * i + 16) = eo key (i + 1) := by rw [hb]; exact eo_lay hk (by omega)
    rw [e2]
    refine ⟨[1, 2, 3, 5, 6, 7, 8, 9, 10, 11, 12, 13, 16, 17, 18, 19, 20, 21, 22], [48], _, ?_, i + 1, rfl, by omega, ?_⟩
    · omega
    · rw [← e1]; kernel_rfl
  · have h := of_decide_eq_false h
    have hi' : i = 11 := by omega
    subst hi'
    have hfin : (eo key 11).take (16 * 11 * 1) = flatK (kkP key SB) 11 := by
      have hl2 := flatK_len (f := kkP key SB) (kk_len hk) 11
      rw [eo, List.take_append_of_le_length (by omega), List.take_of_length_le (by omega)]
    obtain ⟨R, hR⟩ : ∃ R, R = eo key 11 := ⟨_, rfl⟩
    rw [← hR] at hl hfin ⊢
    ((conv => whnf); repeat ((first | refine ⟨_, resSlot_own rfl (by omega) (.inr ⟨rfl, congrArg some hl.symm⟩), ?_⟩ | refine ⟨_, rfl, ?_⟩ | refine ⟨by decide, ?_⟩ | refine ⟨rfl, ?_⟩ | refine ⟨fun _ => ?_, fun h => absurd h (by decide)⟩ | refine ⟨fun h => absurd h (by decide), fun _ => ?_⟩ | refine ⟨inI_of (by omega), ?_⟩ | (apply Exists.intro; refine ⟨?_, ?_⟩; ((try simp only [Nat.zero_add, Nat.mul_one, Int.toNat_natCast]); exact at_g (by omega))) | (apply Exists.intro; refine ⟨?_, ?_⟩; ((try simp only [Nat.zero_add, Nat.mul_one, Int.toNat_natCast]); exact put_flat (by omega))) | refine ⟨_, cut_all (by omega), ?_⟩ | refine ⟨_, lay_all (by omega) (by omega), ?_⟩ | refine ⟨_, lay_all (by simp only [List.length_replicate, List.length_cons, List.length_nil]; omega) (by omega), ?_⟩ | refine ⟨by omega, ?_⟩ | refine ⟨len_flat (by omega), ?_⟩ | refine ⟨apart_uv _ _ _, ?_⟩ | refine ⟨_, resSlot_own rfl (by omega) (by first | exact .inl rfl | exact .inr ⟨rfl, rfl⟩), ?_⟩ | refine ⟨(by kernel_rfl : regB _ = true), ?_⟩); conv => whnf))
    rw [hfin]
    rfl

/-! Encrypt -/
def encS (key block : List Int) : Nat → List Int
  | 0 => plusP block (kkP key SB 0)
  | i + 1 => plusP (if i < 9 then mixP (shiftP (replP (encS key block i) SB)) else shiftP (replP (encS key block i) SB)) (kkP key SB (i + 1))
theorem encS_len (key block : List Int) : ∀ i, (encS key block i).length = 16
  | 0 => plusP_len _ _
  | _ + 1 => plusP_len _ _
section
variable {key block : List Int} (hkb : By key) (hbb : By block)
include hkb hbb in
theorem encS_by : ∀ i, By (encS key block i)
  | 0 => plusP_by hbb (kk_by hkb SB_by 0)
  | i + 1 => by
    have h1 : By (shiftP (replP (encS key block i) SB)) := shiftP_by (replP_by SB_by)
    rw [encS]
    split
    · exact plusP_by (mixP_by h1) (kk_by hkb SB_by _)
    · exact plusP_by h1 (kk_by hkb SB_by _)
end
abbrev fatR (l : List Int) : LRes := ret2 (.own 1 16 41 (.flat .u8 l)) 0

set_option maxRecDepth 100000 in
set_option maxHeartbeats 1600000 in
theorem enc_no1 (n n2 : Nat) (c c2 : Option Nat) (x x2 : Cont) (hn : n ≠ 16) : execF EC Try.f14 [.im 1 n c x, .im 1 n2 c2 x2] (no2 1) := by
  have hq : ((n : Int) != 16) = true := by simp; omega
  ((conv => whnf); repeat ((first | refine ⟨fun _ => ?_, fun h => absurd (hq.symm.trans h) (by decide)⟩ | refine ⟨fun h => absurd (hq.symm.trans h) (by decide), fun _ => ?_⟩ | refine ⟨_, rfl, ?_⟩ | refine ⟨by decide, ?_⟩ | refine ⟨rfl, ?_⟩ | refine ⟨fun _ => ?_, fun h => absurd h (by decide)⟩ | refine ⟨fun h => absurd h (by decide), fun _ => ?_⟩ | refine ⟨inI_of (by omega), ?_⟩ | (apply Exists.intro; refine ⟨?_, ?_⟩; ((try simp only [Nat.zero_add, Nat.mul_one, Int.toNat_natCast]); exact at_g (by omega))) | (apply Exists.intro; refine ⟨?_, ?_⟩; ((try simp only [Nat.zero_add, Nat.mul_one, Int.toNat_natCast]); exact put_flat (by omega))) | refine ⟨_, cut_all (by omega), ?_⟩ | refine ⟨_, lay_all (by omega) (by omega), ?_⟩ | refine ⟨_, lay_all (by simp only [List.length_replicate, List.length_cons, List.length_nil]; omega) (by omega), ?_⟩ | refine ⟨by omega, ?_⟩ | refine ⟨len_flat (by omega), ?_⟩ | refine ⟨apart_uv _ _ _, ?_⟩ | refine ⟨_, resSlot_own rfl (by omega) (by first | exact .inl rfl | exact .inr ⟨rfl, rfl⟩), ?_⟩ | refine ⟨(by kernel_rfl : regB _ = true), ?_⟩); conv => whnf))
  rfl
set_option maxRecDepth 100000 in
set_option maxHeartbeats 1600000 in
theorem enc_no2 (n2 : Nat) (c c2 : Option Nat) (x x2 : Cont) (hn : n2 ≠ 16) : execF EC Try.f14 [.im 1 16 c x, .im 1 n2 c2 x2] (no2 1) := by
  have hq : ((n2 : Int) != 16) = true := by simp; omega
  ((conv => whnf); repeat ((first | refine ⟨fun _ => ?_, fun h => absurd (hq.symm.trans h) (by decide)⟩ | refine ⟨fun h => absurd (hq.symm.trans h) (by decide), fun _ => ?_⟩ | refine ⟨_, rfl, ?_⟩ | refine ⟨by decide, ?_⟩ | refine ⟨rfl, ?_⟩ | refine ⟨fun _ => ?_, fun h => absurd h (by decide)⟩ | refine ⟨fun h => absurd h (by decide), fun _ => ?_⟩ | refine ⟨inI_of (by omega), ?_⟩ | (apply Exists.intro; refine ⟨?_, ?_⟩; ((try simp only [Nat.zero_add, Nat.mul_one, Int.toNat_natCast]); exact at_g (by omega))) | (apply Exists.intro; refine ⟨?_, ?_⟩; ((try simp only [Nat.zero_add, Nat.mul_one, Int.toNat_natCast]); exact put_flat (by omega))) | refine ⟨_, cut_all (by omega), ?_⟩ | refine ⟨_, lay_all (by omega) (by omega), ?_⟩ | refine ⟨_, lay_all (by simp only [List.length_replicate, List.length_cons, List.length_nil]; omega) (by omega), ?_⟩ | refine ⟨by omega, ?_⟩ | refine ⟨len_flat (by omega), ?_⟩ | refine ⟨apart_uv _ _ _, ?_⟩ | refine ⟨_, resSlot_own rfl (by omega) (by first | exact .inl rfl | exact .inr ⟨rfl, rfl⟩), ?_⟩ | refine ⟨(by kernel_rfl : regB _ = true), ?_⟩); conv => whnf))
  rfl
set_option maxRecDepth 100000 in
set_option maxHeartbeats 1600000 in
theorem enc_ok (key block : List Int) (c c2 : Option Nat) (hk : key.length = 16) (hkb : By key) (hb : block.length = 16) (hbb : By block) : execF EC Try.f14 [.im 1 16 c (.flat .u8 key), .im 1 16 c2 (.flat .u8 block)] (fatR (encS key block 10)) := by
  have hrl := rT_len (t := SB) hk (Nat.le_refl 10)
  have hSl := SB_len
  obtain ⟨k0, hk0⟩ : ∃ k0, k0 = kkP key SB 0 := ⟨_, rfl⟩
  have hk0l : k0.length = 16 := by rw [hk0]; exact kk_len hk 0
  have cut0 : (Cont.flat .u8 (rT key SB 10)).cut (0 + Int.toNat 0 * 16) 16 = some (.flat .u8 k0) := by
    have := rT_cut (t := SB) hk (Nat.zero_le 10)
    rw [show 0 + Int.toNat 0 * 16 = 0 from rfl, cut_flat (by omega), show (0 : Nat) = 16 * 0 from rfl, this, hk0]
  have hlay : ∀ (x : List Int), x.length = 16 → layOne (.flat .u8 (List.replicate 176 0)) 0 (.flat .u8 (rT key SB 10)) = some (.flat .u8 (rT key SB 10)) := fun _ _ => lay_all (by rw [List.length_replicate]; omega) (by omega)
  ((conv => whnf); repeat ((first | refine ⟨_, oRead c hk, ?_⟩ | refine ⟨_, oRead c2 hb, ?_⟩ | refine ⟨_, oSched hk SB_len hkb SB_by, ?_⟩ | refine ⟨_, cut0, ?_⟩ | refine ⟨_, oPlus hb hk0l, ?_⟩ | refine ⟨len_flat (plusP_len _ _), ?_⟩ | refine ⟨_, lay_all (plusP_len _ _).symm (by rw [plusP_len]; decide), ?_⟩ | refine ⟨_, rfl, ?_⟩ | refine ⟨by decide, ?_⟩ | refine ⟨rfl, ?_⟩ | refine ⟨fun _ => ?_, fun h => absurd h (by decide)⟩ | refine ⟨fun h => absurd h (by decide), fun _ => ?_⟩ | refine ⟨inI_of (by omega), ?_⟩ | (apply Exists.intro; refine ⟨?_, ?_⟩; ((try simp only [Nat.zero_add, Nat.mul_one, Int.toNat_natCast]); exact at_g (by omega))) | (apply Exists.intro; refine ⟨?_, ?_⟩; ((try simp only [Nat.zero_add, Nat.mul_one, Int.toNat_natCast]); exact put_flat (by omega))) | refine ⟨_, cut_all (by omega), ?_⟩ | refine ⟨_, lay_all (by omega) (by omega), ?_⟩ | refine ⟨_, lay_all (by simp only [List.length_replicate, List.length_cons, List.length_nil]; omega) (by omega), ?_⟩ | refine ⟨by omega, ?_⟩ | refine ⟨len_flat (by omega), ?_⟩ | refine ⟨apart_uv _ _ _, ?_⟩ | refine ⟨_, resSlot_own rfl (by omega) (by first | exact .inl rfl | exact .inr ⟨rfl, rfl⟩), ?_⟩ | refine ⟨(by kernel_rfl : regB _ = true), ?_⟩); conv => whnf))
  rw [hk0]
  refine .inl ⟨fun n st => ∃ i : Nat, n = 10 - i ∧ i ≤ 10 ∧ st = ⟨[.im 1 16 c (.flat .u8 key), .im 1 16 c2 (.flat .u8 block), .poison, .poison, .poison, .poison, .ptr 48 0, .ptr 56 0, .ptr 64 0, .poison, .poison, .poison, .poison, .poison, .poison, .poison, .poison, .poison, .poison, .poison, .poison, .poison, .poison, .poison, .poison, .poison, .poison, .poison, iv .i64 i, .poison, .poison, .poison, .poison, .poison, .poison, .poison, .poison, .poison, .poison, .poison, .poison, .poison, .poison, .poison, .poison, .poison, .poison],
    [(48, ⟨.flat .u8 SB, 45, false⟩), (56, ⟨.flat .u8 (rT key SB 10), 42, false⟩), (64, ⟨.flat .u8 (encS key block i), 41, false⟩)]⟩,
    ⟨[2, 3, 4, 5, 9, 10, 11, 12, 13, 14, 15, 16, 17, 18, 19, 20, 21, 22, 23, 24, 25, 26, 27, 29, 30, 31, 32, 33, 34, 35, 36, 37, 38, 39, 40, 41, 42, 43, 44, 45, 46], [], 10, 0, rfl, by omega, by kernel_rfl⟩, ?_⟩
  rintro _ _ ⟨i, rfl, hi, rfl⟩
  have hel := encS_len key block i
  have heb := encS_by hkb hbb i
  conv => whnf
  refine ⟨fun h => ?_, fun h => ?_⟩
  · have h := of_decide_eq_true h
    have e1 : IntKind.i64.wrap ((i : Int) + 1) = ((i + 1 : Nat) : Int) := by rw [wrap64 (by omega)]; omega
    obtain ⟨k1, hk1⟩ : ∃ k1, k1 = kkP key SB (i + 1) := ⟨_, rfl⟩
    have hk1l : k1.length = 16 := by rw [hk1]; exact kk_len hk _
    have cutI : (Cont.flat .u8 (rT key SB 10)).cut (0 + (IntKind.i64.wrap ((i : Int) + 1)).toNat * 16) 16 = some (.flat .u8 k1) := by
      rw [e1, cut_flat (by omega), show 0 + ((i + 1 : Nat) : Int).toNat * 16 = 16 * (i + 1) by omega, rT_cut hk (by omega), hk1]
    ((conv => whnf); repeat ((first | refine ⟨_, oRepl hel SB_len heb, ?_⟩ | refine ⟨_, cut_all (by with_reducible first | assumption | exact mixP_len _ | exact shiftP_len _ | exact plusP_len _ _ | exact replP_len _ _ | exact unshiftP_len _), ?_⟩ | refine ⟨len_flat (by with_reducible first | assumption | exact mixP_len _ | exact shiftP_len _ | exact plusP_len _ _ | exact replP_len _ _ | exact unshiftP_len _), ?_⟩ | refine ⟨_, lay16 (by with_reducible first | assumption | exact mixP_len _ | exact shiftP_len _ | exact plusP_len _ _ | exact replP_len _ _ | exact unshiftP_len _) (by with_reducible first | assumption | exact mixP_len _ | exact shiftP_len _ | exact plusP_len _ _ | exact replP_len _ _ | exact unshiftP_len _), ?_⟩ | refine ⟨_, oShift (by with_reducible first | assumption | exact mixP_len _ | exact shiftP_len _ | exact plusP_len _ _ | exact replP_len _ _ | exact unshiftP_len _), ?_⟩ | refine ⟨_, oMix (by with_reducible first | assumption | exact mixP_len _ | exact shiftP_len _ | exact plusP_len _ _ | exact replP_len _ _ | exact unshiftP_len _), ?_⟩ | refine ⟨_, oUnmix (by with_reducible first | assumption | exact mixP_len _ | exact shiftP_len _ | exact plusP_len _ _ | exact replP_len _ _ | exact unshiftP_len _), ?_⟩ | refine ⟨_, oUnshift (by with_reducible first | assumption | exact mixP_len _ | exact shiftP_len _ | exact plusP_len _ _ | exact replP_len _ _ | exact unshiftP_len _), ?_⟩ | refine ⟨_, oPlus (by with_reducible first | assumption | exact mixP_len _ | exact shiftP_len _ | exact plusP_len _ _ | exact replP_len _ _ | exact unshiftP_len _) (by with_reducible first | assumption | exact mixP_len _ | exact shiftP_len _ | exact plusP_len _ _ | exact replP_len _ _ | exact unshiftP_len _), ?_⟩ | refine ⟨_, rfl, ?_⟩ | refine ⟨by decide, ?_⟩ | refine ⟨rfl, ?_⟩ | refine ⟨fun _ => ?_, fun h => absurd h (by decide)⟩ | refine ⟨fun h => absurd h (by decide), fun _ => ?_⟩ | refine ⟨inI_of (by omega), ?_⟩ | (apply Exists.intro; refine ⟨?_, ?_⟩; ((try simp only [Nat.zero_add, Nat.mul_one, Int.toNat_natCast]); exact at_g (by omega))) | (apply Exists.intro; refine ⟨?_, ?_⟩; ((try simp only [Nat.zero_add, Nat.mul_one, Int.toNat_natCast]); exact put_flat (by omega))) | refine ⟨_, cut_all (by omega), ?_⟩ | refine ⟨_, lay_all (by omega) (by omega), ?_⟩ | refine ⟨_, lay_all (by simp only [List.length_replicate, List.length_cons, List.length_nil]; omega) (by omega), ?_⟩ | refine ⟨by omega, ?_⟩ | refine ⟨len_flat (by omega), ?_⟩ | refine ⟨apart_uv _ _ _, ?_⟩ | refine ⟨_, resSlot_own rfl (by omega) (by first | exact .inl rfl | exact .inr ⟨rfl, rfl⟩), ?_⟩ | refine ⟨(by kernel_rfl : regB _ = true), ?_⟩); conv => whnf))
    refine ⟨fun h9 => ?_, fun h9 => ?_⟩
    · have h9 := of_decide_eq_true h9
      have e5 : plusP (mixP (shiftP (replP (encS key block i) SB))) k1 = encS key block (i + 1) := by rw [encS, if_pos (by omega), hk1]
      ((conv => whnf); repeat ((first | refine ⟨_, cutI, ?_⟩ | refine ⟨_, cut_all (by with_reducible first | assumption | exact mixP_len _ | exact shiftP_len _ | exact plusP_len _ _ | exact replP_len _ _ | exact unshiftP_len _), ?_⟩ | refine ⟨len_flat (by with_reducible first | assumption | exact mixP_len _ | exact shiftP_len _ | exact plusP_len _ _ | exact replP_len _ _ | exact unshiftP_len _), ?_⟩ | refine ⟨_, lay16 (by with_reducible first | assumption | exact mixP_len _ | exact shiftP_len _ | exact plusP_len _ _ | exact replP_len _ _ | exact unshiftP_len _) (by with_reducible first | assumption | exact mixP_len _ | exact shiftP_len _ | exact plusP_len _ _ | exact replP_len _ _ | exact unshiftP_len _), ?_⟩ | refine ⟨_, oShift (by with_reducible first | assumption | exact mixP_len _ | exact shiftP_len _ | exact plusP_len _ _ | exact replP_len _ _ | exact unshiftP_len _), ?_⟩ | refine ⟨_, oMix (by with_reducible first | assumption | exact mixP_len _ | exact shiftP_len _ | exact plusP_len _ _ | exact replP_len _ _ | exact unshiftP_len _), ?_⟩ | refine ⟨_, oUnmix (by with_reducible first | assumption | exact mixP_len _ | exact shiftP_len _ | exact plusP_len _ _ | exact replP_len _ _ | exact unshiftP_len _), ?_⟩ | refine ⟨_, oUnshift (by with_reducible first | assumption | exact mixP_len _ | exact shiftP_len _ | exact plusP_len _ _ | exact replP_len _ _ | exact unshiftP_len _), ?_⟩ | refine ⟨_, oPlus (by with_reducible first | assumption | exact mixP_len _ | exact shiftP_len _ | exact plusP_len _ _ | exact replP_len _ _ | exact unshiftP_len _) (by with_reducible first | assumption | exact mixP_len _ | exact shiftP_len _ | exact plusP_len _ _ | exact replP_len _ _ | exact unshiftP_len _), ?_⟩ | refine ⟨_, rfl, ?_⟩ | refine ⟨by decide, ?_⟩ | refine ⟨rfl, ?_⟩ | refine ⟨fun _ => ?_, fun h => absurd h (by decide)⟩ | refine ⟨fun h => absurd h (by decide), fun _ => ?_⟩ | refine ⟨inI_of (by omega), ?_⟩ | (apply Exists.intro; refine ⟨?_, ?_⟩; ((try simp only [Nat.zero_add, Nat.mul_one, Int.toNat_natCast]); exact at_g (by omega))) | (apply Exists.intro; refine ⟨?_, ?_⟩; ((try simp only [Nat.zero_add, Nat.mul_one, Int.toNat_natCast]); exact put_flat (by omega))) | refine ⟨_, cut_all (by omega), ?_⟩ | refine ⟨_, lay_all (by omega) (by omega), ?_⟩ | refine ⟨_, lay_all (by simp only [List.length_replicate, List.length_cons, List.length_nil]; omega) (by omega), ?_⟩ | refine ⟨by omega, ?_⟩ | refine ⟨len_flat (by omega), ?_⟩ | refine ⟨apart_uv _ _ _, ?_⟩ | refine ⟨_, resSlot_own rfl (by omega) (by first | exact .inl rfl | exact .inr ⟨rfl, rfl⟩), ?_⟩ | refine ⟨(by kernel_rfl : regB _ = true), ?_⟩); conv => whnf))
      rw [e5]
      refine ⟨[2, 3, 4, 5, 9, 10, 11, 12, 13, 14, 15, 16, 17, 18, 19, 20, 21, 22, 23, 24, 25, 26, 27, 29, 30, 31, 32, 33, 34, 35, 36, 37, 38, 39, 40, 41, 42, 43, 44, 45, 46], [], _, ?_, i + 1, rfl, by omega, ?_⟩
      · omega
      · rw [← e1]; kernel_rfl
    · have h9 := of_decide_eq_false h9
      have e5 : plusP (shiftP (replP (encS key block i) SB)) k1 = encS key block (i + 1) := by rw [encS, if_neg (by omega), hk1]
      ((conv => whnf); repeat ((first | refine ⟨_, cutI, ?_⟩ | refine ⟨_, cut_all (by with_reducible first | assumption | exact mixP_len _ | exact shiftP_len _ | exact plusP_len _ _ | exact replP_len _ _ | exact unshiftP_len _), ?_⟩ | refine ⟨len_flat (by with_reducible first | assumption | exact mixP_len _ | exact shiftP_len _ | exact plusP_len _ _ | exact replP_len _ _ | exact unshiftP_len _), ?_⟩ | refine ⟨_, lay16 (by with_reducible first | assumption | exact mixP_len _ | exact shiftP_len _ | exact plusP_len _ _ | exact replP_len _ _ | exact unshiftP_len _) (by with_reducible first | assumption | exact mixP_len _ | exact shiftP_len _ | exact plusP_len _ _ | exact replP_len _ _ | exact unshiftP_len _), ?_⟩ | refine ⟨_, oShift (by with_reducible first | assumption | exact mixP_len _ | exact shiftP_len _ | exact plusP_len _ _ | exact replP_len _ _ | exact unshiftP_len _), ?_⟩ | refine ⟨_, oMix (by with_reducible first | assumption | exact mixP_len _ | exact shiftP_len _ | exact plusP_len _ _ | exact replP_len _ _ | exact unshiftP_len _), ?_⟩ | refine ⟨_, oUnmix (by with_reducible first | assumption | exact mixP_len _ | exact shiftP_len _ | exact plusP_len _ _ | exact replP_len _ _ | exact unshiftP_len _), ?_⟩ | refine ⟨_, oUnshift (by with_reducible first | assumption | exact mixP_len _ | exact shiftP_len _ | exact plusP_len _ _ | exact replP_len _ _ | exact unshiftP_len _), ?_⟩ | refine ⟨_, oPlus (by with_reducible first | assumption | exact mixP_len _ | exact shiftP_len _ | exact plusP_len _ _ | exact replP_len _ _ | exact unshiftP_len _) (by with_reducible first | assumption | exact mixP_len _ | exact shiftP_len _ | exact plusP_len _ _ | exact replP_len _ _ | exact unshiftP_len _), ?_⟩ | refine ⟨_, rfl, ?_⟩ | refine ⟨by decide, ?_⟩ | refine ⟨rfl, ?_⟩ | refine ⟨fun _ => ?_, fun h => absurd h (by decide)⟩ | refine ⟨fun h => absurd h (by decide), fun _ => ?_⟩ | refine ⟨inI_of (by omega), ?_⟩ | (apply Exists.intro; refine ⟨?_, ?_⟩; ((try simp only [Nat.zero_add, Nat.mul_one, Int.toNat_natCast]); exact at_g (by omega))) | (apply Exists.intro; refine ⟨?_, ?_⟩; ((try simp only [Nat.zero_add, Nat.mul_one, Int.toNat_natCast]); exact put_flat (by omega))) | refine ⟨_, cut_all (by omega), ?_⟩ | refine ⟨_, lay_all (by omega) (by omega), ?_⟩ | refine ⟨_, lay_all (by simp only [List.length_replicate, List.length_cons, List.length_nil]; omega) (by omega), ?_⟩ | refine ⟨by omega, ?_⟩ | refine ⟨len_flat (by omega), ?_⟩ | refine ⟨apart_uv _ _ _, ?_⟩ | refine ⟨_, resSlot_own rfl (by omega) (by first | exact .inl rfl | exact .inr ⟨rfl, rfl⟩), ?_⟩ | refine ⟨(by kernel_rfl : regB _ = true), ?_⟩); conv => whnf))
      rw [e5]
      refine ⟨[2, 3, 4, 5, 9, 10, 11, 12, 13, 14, 15, 16, 17, 18, 19, 20, 21, 22, 23, 24, 25, 26, 27, 29, 30, 31, 32, 33, 34, 35, 36, 37, 38, 39, 40, 41, 42, 43, 44, 45, 46], [], _, ?_, i + 1, rfl, by omega, ?_⟩
      · omega
      · rw [← e1]; kernel_rfl
  · have h := of_decide_eq_false h
    have hi' : i = 10 := by omega
    subst hi'
    obtain ⟨R, hR⟩ : ∃ R, R = encS key block 10 := ⟨_, rfl⟩
    rw [← hR] at hel ⊢
    have htk : R.take (16 * 1) = R := List.take_of_length_le (by omega)
    ((conv => whnf); repeat ((first | refine ⟨_, resSlot_own (n := 16) (c := some 16) rfl (by omega) (.inr ⟨rfl, congrArg some hel.symm⟩), ?_⟩ | refine ⟨_, rfl, ?_⟩ | refine ⟨by decide, ?_⟩ | refine ⟨rfl, ?_⟩ | refine ⟨fun _ => ?_, fun h => absurd h (by decide)⟩ | refine ⟨fun h => absurd h (by decide), fun _ => ?_⟩ | refine ⟨inI_of (by omega), ?_⟩ | (apply Exists.intro; refine ⟨?_, ?_⟩; ((try simp only [Nat.zero_add, Nat.mul_one, Int.toNat_natCast]); exact at_g (by omega))) | (apply Exists.intro; refine ⟨?_, ?_⟩; ((try simp only [Nat.zero_add, Nat.mul_one, Int.toNat_natCast]); exact put_flat (by omega))) | refine ⟨_, cut_all (by omega), ?_⟩ | refine ⟨_, lay_all (by omega) (by omega), ?_⟩ | refine ⟨_, lay_all (by simp only [List.length_replicate, List.length_cons, List.length_nil]; omega) (by omega), ?_⟩ | refine ⟨by omega, ?_⟩ | refine ⟨len_flat (by omega), ?_⟩ | refine ⟨apart_uv _ _ _, ?_⟩ | refine ⟨_, resSlot_own rfl (by omega) (by first | exact .inl rfl | exact .inr ⟨rfl, rfl⟩), ?_⟩ | refine ⟨(by kernel_rfl : regB _ = true), ?_⟩); conv => whnf))
    refine Eq.trans ?_ (show ret2 (.own 1 16 41 (.flat .u8 (R.take (16 * 1)))) 0 = fatR R by rw [htk])
    rfl

end Go.Proofs.Ytcmceadekcfpbaa
