/-
  Layer 7: the program's key stream, cipher, Valid and Calls.
-/
import Derived.Test.YtgkccfjjjamhoaaA7R
namespace Go.Proofs.Ytgkccfjjjamhoaa
open Go.RowKit

theorem w8_id {f : Int} (h : 0 ≤ f ∧ f < 256) : IntKind.u8.wrap f = f := by
  simp [IntKind.wrap, IntKind.signed, IntKind.bits]
  omega
theorem pblock_call (f : Int) (N : Nat) (c : Option Nat) (nonce : List Int) (n : Int) (hN : nonce.length = N) (h7 : 7 ≤ N ∧ N ≤ 13) (hf : 0 ≤ f ∧ f < 256) : CallOk Try.prog 45 [iv .u8 f, .im 1 N c (.flat .u8 nonce), iv .i64 n] (.one (.own 1 16 5 (.flat .u8 (ctr f nonce n)))) := by
  have h := execF_ok follows_ok EP7_ok Try.func45 (pblock_exec f N c nonce n hN h7)
  rw [w8_id hf] at h
  exact h
def orcB7 (f : Nat) (ds : List LV) : Option LRes :=
  match f with
  | 45 => match ds with
    | [.v (.int .u8 f), .im 1 n _ (.flat .u8 v), .v (.int .i64 k)] => if v.length = n ∧ (7 ≤ n ∧ n ≤ 13) ∧ (0 ≤ f ∧ f < 256) then some (LRes.one (.own 1 16 5 (.flat .u8 (ctr f v k)))) else none
    | _ => none
  | 46 => match ds with
    | [.im 1 n _ _, .im 1 a _ _, .v (.int .i64 t)] => if (7 ≤ n ∧ n ≤ 13) ∧ (4 ≤ t ∧ t ≤ 16) then some (ret1 (iv .u8 (IntKind.u8.wrap (firP t n a)))) else none
    | _ => none
  | 40 => match ds with
    | [.im 1 n _ (.flat .u8 a), .im 1 m _ (.flat .u8 b)] => if a.length = n ∧ b.length = m ∧ byteOk a = true ∧ byteOk b = true ∧ n ≤ 100000 ∧ m ≤ 100000 then some (LRes.one (.own 1 n 5 (.flat .u8 (pluP a b)))) else none
    | _ => none
  | 44 => match ds with
    | [.im 1 16 _ (.flat .u8 k), .im 1 16 _ (.flat .u8 b)] => if k.length = 16 ∧ b.length = 16 ∧ byteOk k = true ∧ byteOk b = true then some (LRes.one (.own 1 16 54 (.flat .u8 (encS k b 10)))) else none
    | _ => none
  | 31 => match ds with
    | [.im 1 n _ (.flat .u8 a), .im 1 m _ (.flat .u8 b)] => if a.length = n ∧ b.length = m ∧ byteOk a = true ∧ byteOk b = true then some (ret1 (.v (.bool (a == b)))) else none
    | _ => none
  | _ => orcP7 f ds
theorem orcB7_ok : Known Try.prog orcB7 := by
  intro f ds r h
  unfold orcB7 at h
  split at h
  · split at h
    · split at h
      · rename_i hc
        cases h
        exact ⟨⟨_, Try.func45, name_ne _ (by kernel_rfl), rfl⟩, pblock_call _ _ _ _ _ hc.1 hc.2.1 hc.2.2⟩
      · cases h
    · cases h
  · split at h
    · split at h
      · rename_i hc
        cases h
        exact ⟨⟨_, Try.func46, name_ne _ (by kernel_rfl), rfl⟩, execF_ok follows_ok EP7_ok Try.func46 (pflags_exec _ _ _ _ _ _ _ hc.1 hc.2)⟩
      · cases h
    · cases h
  · split at h
    · split at h
      · rename_i hc
        cases h
        exact ⟨⟨_, Try.func40, name_ne _ (by kernel_rfl), rfl⟩, execF_ok follows_ok EP7_ok Try.func40 (pplus_exec _ _ _ _ _ _ hc.1 hc.2.1 (byteAll hc.2.2.1) (byteAll hc.2.2.2.1) hc.2.2.2.2.1 hc.2.2.2.2.2)⟩
      · cases h
    · cases h
  · split at h
    · split at h
      · rename_i hc
        cases h
        exact ⟨⟨_, Try.func44, name_ne _ (by kernel_rfl), rfl⟩, execF_ok follows_ok EP7_ok Try.func44 (pencrypt_exec _ _ _ _ hc.1 hc.2.1 (byteAll hc.2.2.1) (byteAll hc.2.2.2))⟩
      · cases h
    · cases h
  · split at h
    · split at h
      · rename_i hc
        cases h
        exact ⟨⟨_, Try.func31, name_ne _ (by kernel_rfl), rfl⟩, execF_ok follows_ok EP7_ok Try.func31 (pequal_exec _ _ _ _ _ _ hc.1 hc.2.1 (byteAll hc.2.2.1) (byteAll hc.2.2.2))⟩
      · cases h
    · cases h
  · exact orcP7_ok f ds r h
def EB7 : Env := ⟨tyL, orcB7, false, noWk, noOrw⟩
theorem EB7_ok : EnvOk Try.prog EB7 := ⟨tyL_ok, orcB7_ok, noOrw_ok⟩
theorem bBlock (f : Int) (N : Nat) (c : Option Nat) (v : List Int) (k : Int) (h1 : v.length = N) (h2 : 7 ≤ N ∧ N ≤ 13) (h3 : 0 ≤ f ∧ f < 256) : EB7.orc 45 [.v (.int .u8 f), .im 1 N c (.flat .u8 v), .v (.int .i64 k)] = some (LRes.one (.own 1 16 5 (.flat .u8 (ctr f v k)))) := if_pos ⟨h1, h2, h3⟩
theorem bPlus (n m : Nat) (c c2 : Option Nat) (a b : List Int) (h1 : a.length = n) (h2 : b.length = m) (h3 : By a) (h4 : By b) (h5 : n ≤ 100000) (h6 : m ≤ 100000) : EB7.orc 40 [.im 1 n c (.flat .u8 a), .im 1 m c2 (.flat .u8 b)] = some (LRes.one (.own 1 n 5 (.flat .u8 (pluP a b)))) := if_pos ⟨h1, h2, h3.ok, h4.ok, h5, h6⟩
theorem bEnc (c c2 : Option Nat) (k b : List Int) (h1 : k.length = 16) (h2 : b.length = 16) (h3 : By k) (h4 : By b) : EB7.orc 44 [.im 1 16 c (.flat .u8 k), .im 1 16 c2 (.flat .u8 b)] = some (LRes.one (.own 1 16 54 (.flat .u8 (encS k b 10)))) := if_pos ⟨h1, h2, h3.ok, h4.ok⟩

/-- A block of the key stream. -/
def ksI (key nonce : List Int) (i : Int) : List Int := encS key (ctr (14 - (nonce.length : Int)) nonce i) 10
theorem ksI_len (key nonce : List Int) (i : Int) : (ksI key nonce i).length = 16 := encS_len _ _ _
theorem ksI_by {key nonce : List Int} (hk : By key) (hn : By nonce) (i : Int) : By (ksI key nonce i) := encS_by hk (ctr_by hn) 10
set_option maxRecDepth 100000 in
set_option maxHeartbeats 1600000 in
theorem pstream_exec (key nonce : List Int) (N : Nat) (c c2 : Option Nat) (i : Int) (hk : key.length = 16) (hkb : By key) (hN : nonce.length = N) (h7 : 7 ≤ N ∧ N ≤ 13) (hnb : By nonce) :
    execF EB7 Try.f41 [.im 1 16 c (.flat .u8 key), .im 1 N c2 (.flat .u8 nonce), iv .i64 i] (.one (.own 1 16 54 (.flat .u8 (ksI key nonce i)))) := by
  have ef : IntKind.u8.wrap (IntKind.i64.wrap (IntKind.i64.wrap (15 - (N : Int)) - 1)) = 14 - (nonce.length : Int) := by
    rw [wrap64 (x := 15 - (N : Int)) (by omega), wrap64 (by omega), w8_id (by omega)]
    omega
  have oB := fun c => bBlock (IntKind.u8.wrap (IntKind.i64.wrap (IntKind.i64.wrap (15 - (N : Int)) - 1))) N c nonce i hN h7 (w8_byte _)
  have hd : ksI key nonce i = encS key (ctr (14 - (nonce.length : Int)) nonce i) 10 := rfl
  rw [← ef] at hd
  have hCl : (ctr (IntKind.u8.wrap (IntKind.i64.wrap (IntKind.i64.wrap (15 - (N : Int)) - 1))) nonce i).length = 16 := ctr_len (by omega)
  have hCb : By (ctr (IntKind.u8.wrap (IntKind.i64.wrap (IntKind.i64.wrap (15 - (N : Int)) - 1))) nonce i) := ctr_by hnb
  obtain ⟨C, hC⟩ : ∃ C, C = ctr (IntKind.u8.wrap (IntKind.i64.wrap (IntKind.i64.wrap (15 - (N : Int)) - 1))) nonce i := ⟨_, rfl⟩
  rw [← hC] at oB hd hCl hCb
  have oE := fun c c2 => bEnc c c2 key C hk hCl hkb hCb
  have hl := ksI_len key nonce i
  rw [← hd] at oE
  obtain ⟨R, hR⟩ : ∃ R, R = ksI key nonce i := ⟨_, rfl⟩
  rw [← hR] at oE hl ⊢
  have hcC : (Cont.flat .u8 C).cut 0 (16 * 1) = some (.flat .u8 C) := cut_all hCl
  have htk : R.take (16 * 1) = R := List.take_of_length_le (by omega)
  ((conv => whnf); repeat ((first | refine ⟨_, oB _, ?_⟩ | refine ⟨_, oE _ _, ?_⟩ | refine ⟨_, expo_sl rfl hcC, ?_⟩ | refine ⟨_, rfl, ?_⟩ | refine ⟨by decide, ?_⟩ | refine ⟨rfl, ?_⟩ | refine ⟨fun _ => ?_, fun h => absurd h (by decide)⟩ | refine ⟨fun h => absurd h (by decide), fun _ => ?_⟩ | refine ⟨inI_of (by omega), ?_⟩ | refine ⟨⟨rfl, inI_of (by omega)⟩, ?_⟩ | refine ⟨⟨rfl, by decide⟩, ?_⟩ | (apply Exists.intro; refine ⟨?_, ?_⟩; ((try simp only); (try simp only [Nat.zero_add]); (try simp only [Nat.mul_one]); (try simp only [Int.toNat_natCast]); exact at_g (by omega))) | (apply Exists.intro; refine ⟨?_, ?_⟩; ((try simp only); (try simp only [Nat.zero_add]); (try simp only [Nat.mul_one]); (try simp only [Int.toNat_natCast]); exact put_flat (by omega))) | refine ⟨_, cut_all (by omega), ?_⟩ | refine ⟨_, lay_all (by omega) (by omega), ?_⟩ | refine ⟨_, lay_all (by (try simp only); (try simp only [List.length_replicate]); (try simp only [List.length_cons]); (try simp only [List.length_nil]); omega) (by omega), ?_⟩ | refine ⟨by omega, ?_⟩ | refine ⟨len_flat (by omega), ?_⟩ | refine ⟨apart_uv _ _ _, ?_⟩ | refine ⟨_, resSlot_own rfl (by omega) (by first | exact .inl rfl | exact .inr ⟨rfl, rfl⟩), ?_⟩ | refine ⟨(by kernel_rfl : regB _ = true), ?_⟩ | refine ⟨⟨rfl, inI_of (by omega), by decide⟩, ?_⟩ | (apply Exists.intro; refine ⟨?_, ?_⟩; ((try simp only); (try simp only [Nat.zero_add]); (try simp only [Nat.mul_one]); (try simp only [Int.toNat_natCast]); exact at_drop_g (by omega))) | (apply Exists.intro; refine ⟨?_, ?_⟩; ((try simp only); (try simp only [Nat.zero_add]); (try simp only [Nat.mul_one]); (try simp only [Int.toNat_natCast]); exact cut_rest (by omega)))); conv => whnf))
  rw [htk]
  rfl
def orcC7 (f : Nat) (ds : List LV) : Option LRes :=
  match f with
  | 41 => match ds with
    | [.im 1 16 _ (.flat .u8 k), .im 1 n _ (.flat .u8 v), .v (.int .i64 i)] => if k.length = 16 ∧ byteOk k = true ∧ v.length = n ∧ (7 ≤ n ∧ n ≤ 13) ∧ byteOk v = true then some (LRes.one (.own 1 16 54 (.flat .u8 (ksI k v i)))) else none
    | _ => none
  | _ => orcB7 f ds
theorem orcC7_ok : Known Try.prog orcC7 := by
  intro f ds r h
  unfold orcC7 at h
  split at h
  · split at h
    · split at h
      · rename_i hc
        cases h
        exact ⟨⟨_, Try.func41, name_ne _ (by kernel_rfl), rfl⟩, execF_ok follows_ok EB7_ok Try.func41 (pstream_exec _ _ _ _ _ _ hc.1 (byteAll hc.2.1) hc.2.2.1 hc.2.2.2.1 (byteAll hc.2.2.2.2))⟩
      · cases h
    · cases h
  · exact orcB7_ok f ds r h
def EC7 : Env := ⟨tyL, orcC7, false, noWk, noOrw⟩
theorem EC7_ok : EnvOk Try.prog EC7 := ⟨tyL_ok, orcC7_ok, noOrw_ok⟩
theorem cStr (n : Nat) (c c2 : Option Nat) (k v : List Int) (i : Int) (h1 : k.length = 16) (h2 : By k) (h3 : v.length = n) (h4 : 7 ≤ n ∧ n ≤ 13) (h5 : By v) : EC7.orc 41 [.im 1 16 c (.flat .u8 k), .im 1 n c2 (.flat .u8 v), .v (.int .i64 i)] = some (LRes.one (.own 1 16 54 (.flat .u8 (ksI k v i)))) := if_pos ⟨h1, h2.ok, h3, h4, h5.ok⟩
theorem cPlus (n m : Nat) (c c2 : Option Nat) (a b : List Int) (h1 : a.length = n) (h2 : b.length = m) (h3 : By a) (h4 : By b) (h5 : n ≤ 100000) (h6 : m ≤ 100000) : EC7.orc 40 [.im 1 n c (.flat .u8 a), .im 1 m c2 (.flat .u8 b)] = some (LRes.one (.own 1 n 5 (.flat .u8 (pluP a b)))) := if_pos ⟨h1, h2, h3.ok, h4.ok, h5, h6⟩

/-- A piece of a slice that stays. -/
theorem slice_im_mid {E : Env} {t e n l m a1 a2 : Nat} {g1 : Bool} {o1 : Option Cont} {c : Option Nat} {k : IntKind} {x : List Int} (h1 : E.T t = some ⟨.slice e 1, a1, a2, g1, o1⟩) {lo hi : Int} (hlo : lo = (l : Nat)) (hhi : hi = ((l + m : Nat) : Int)) (hn : l + m ≤ n) (hl : x.length = n) (hc : n ≤ c.getD n) :
    ∃ c' : Option Nat, opSlice E t true true false (.im 1 n c (.flat k x)) [.v (.int .i64 lo), .v (.int .i64 hi)] = some (.im 1 m c' (.flat k ((x.drop l).take m)), []) := by
  subst hlo hhi
  have hb : bounds [(l : Int), ((l + m : Nat) : Int)] true true false n (c.getD n) = some (l, l + m, c.getD n) := by
    unfold bounds
    rw [if_pos (by simp [lowI, highI, restI, maxI]; omega)]
    simp only [lowI, highI, restI, maxI, if_true, List.getD_cons_zero, List.drop_succ_cons, List.drop_zero, Int.toNat_natCast]
    simp
  have hp : optMap pickInt [.v (.int .i64 (l : Int)), .v (.int .i64 ((l + m : Nat) : Int))] = some [(l : Int), ((l + m : Nat) : Int)] := rfl
  have hcut : (Cont.flat k x).cut (l * 1) ((l + m - l) * 1) = some (.flat k ((x.drop l).take m)) := by
    rw [Nat.mul_one, Nat.mul_one, Nat.add_sub_cancel_left]; exact cut_flat (by omega)
  refine ⟨if (false || c.isSome) = true then some (c.getD n - l) else none, ?_⟩
  simp only [opSlice, h1, hp, if_true, hb, hcut, if_pos hn]
  simp
theorem lay_any {k : IntKind} {l m : List Int} {o : Nat} (h : o + m.length ≤ l.length) : layOne (.flat k l) o (.flat k m) = some (.flat k (l.take o ++ m ++ l.drop (o + m.length))) := by
  by_cases h2 : m.length = 1
  · obtain ⟨x, rfl⟩ : ∃ x, m = [x] := by
      cases m with
      | nil => simp at h2
      | cons x m => cases m with
        | nil => exact ⟨x, rfl⟩
        | cons y m => simp at h2
    have : layOne (.flat k l) o (.flat k [x]) = some (.flat k (l.set o x)) := put_flat h
    rw [this, List.set_eq_take_append_cons_drop, if_pos (show o < l.length from h)]
    simp
  · exact lay_flat h h2
/-- append within the room that there is. -/
theorem append_rm {E : Env} {β : Nat → Option Blk} {d t e : Nat} {s : LV} {y : Cont} {b n cnt c e' : Nat} {l m : List Int} {k : IntKind} {sp : Bool} {a1 a2 a4 by_ : Nat} {g1 g2 : Bool} {o1 : Option Cont} {dd : TD} {zc : Cont}
    (h1 : E.T t = some ⟨.slice e 1, a1, a2, g1, o1⟩) (h2 : E.T e = some ⟨dd, a4, by_, g2, some zc⟩) (hs : shown β 1 s = some (y, cnt)) (hy : y = .flat k m) (hm : m.length = cnt)
    (hb : β b = some ⟨.flat k l, e', sp⟩) (he : e' = e) (hc : n + cnt ≤ c) (hl : n + cnt ≤ l.length) (hz : zc.len = 1) (hby : (n + cnt) * by_ ≤ 140737488355328) (hmx : n + cnt ≤ 9223372036854775807) :
    opAppend E β d t (.sl 1 b 0 n (some c)) s = some ⟨none, none, .sl 1 b 0 (n + cnt) (some c), [(b, ⟨.flat k (l.take n ++ m ++ l.drop (n + cnt)), e', sp⟩)]⟩ := by
  subst hy hm he
  have hlay := lay_any (k := k) (l := l) (m := m) (o := n) hl
  have hok : appOk 1 1 by_ (n + m.length) zc = true := by simp [appOk, hby, hmx, hz]
  simp only [opAppend, h1, hs, Cont.leaves, if_true, appX, h2, hb, hok, Nat.mul_one, hlay]
  simp [hc]

/-! crypt -/
def cryP (S : List Int) (p : Nat) : List Int := S.take p ++ List.replicate (S.length - p) 0
theorem cryP_len (S : List Int) (p : Nat) (h : p ≤ S.length) : (cryP S p).length = S.length := by simp [cryP]; omega
theorem cryP_zero (S : List Int) : cryP S 0 = List.replicate S.length 0 := by simp [cryP]
theorem cryP_all (S : List Int) : cryP S S.length = S := by simp [cryP]
theorem cry_step (S : List Int) (p c : Nat) (h : p + c ≤ S.length) : (cryP S p).take p ++ (S.drop p).take c ++ (cryP S p).drop (p + c) = cryP S (p + c) := by
  have h1 : (S.take p).length = p := by simp; omega
  have e1 : (cryP S p).take p = S.take p := by rw [cryP, List.take_append_of_le_length (by omega), List.take_take, Nat.min_self]
  have e2 : (cryP S p).drop (p + c) = List.replicate (S.length - (p + c)) 0 := by
    rw [cryP, List.drop_append, List.drop_eq_nil_of_le (by omega), h1, List.drop_replicate, List.nil_append]
    congr 1
    omega
  rw [e1, e2, ← List.take_add, cryP]
theorem plu_str (key nonce b : List Int) (k c : Nat) (h : 16 * k + c ≤ b.length) (hc : c ≤ 16) : pluP ((b.drop (16 * k)).take c) (ksI key nonce (1 + (k : Int))) = ((strF key nonce b 1).drop (16 * k)).take c := by
  have hl : ((b.drop (16 * k)).take c).length = c := by simp; omega
  have hs := strF_len key nonce b 1
  refine ext_g (by rw [pluP_len, hl]; simp; omega) fun i hi => ?_
  have hi : i < c := by rw [pluP_len, hl] at hi; exact hi
  have hg : ∀ (l : List Int), g ((l.drop (16 * k)).take c) i = g l (16 * k + i) := fun l => by simp [g, List.getD_eq_getElem?_getD, hi]
  have hm : min ((b.drop (16 * k)).take c).length (ksI key nonce (1 + (k : Int))).length = c := by rw [hl, ksI_len]; omega
  rw [pluP, g_upd (by omega), hm, if_pos hi, hg, pluF, hg, strF, g_map (by omega), strE]
  have e1 : (16 * k + i) / 16 = k := by omega
  have e2 : (16 * k + i) % 16 = i := by omega
  rw [e1, e2]
  rfl
set_option maxRecDepth 100000 in
set_option maxHeartbeats 4000000 in
theorem pcrypt_exec (key nonce b : List Int) (N L : Nat) (c c2 c3 : Option Nat) (hk : key.length = 16) (hkb : By key) (hN : nonce.length = N) (h7 : 7 ≤ N ∧ N ≤ 13) (hnb : By nonce) (hL : b.length = L) (hm : L ≤ 10000) (hbb : By b) (hc3 : L ≤ c3.getD L) :
    execF EC7 Try.f27 [.im 1 16 c (.flat .u8 key), .im 1 N c2 (.flat .u8 nonce), .im 1 L c3 (.flat .u8 b)] (.one (.own 1 L 5 (.flat .u8 (strF key nonce b 1)))) := by
  have hS := strF_len key nonce b 1
  have hst := fun k c => plu_str key nonce b k c
  obtain ⟨S, hSe⟩ : ∃ S, S = strF key nonce b 1 := ⟨_, rfl⟩
  rw [← hSe] at hS ⊢
  simp only [← hSe] at hst
  rw [hL] at hS hst
  have eB : IntKind.i64.wrap ((IntKind.i64.wrap (IntKind.i64.wrap ((L : Int) + 16) - 1)).tdiv 16) = (((L + 15) / 16 : Nat) : Int) := by
    rw [wrap64 (x := (L : Int) + 16) (by omega), wrap64 (x := (L : Int) + 16 - 1) (by omega), Int.tdiv_eq_ediv_of_nonneg (by omega), wrap64 (by omega)]
    omega
  ((conv => whnf); repeat ((first | refine ⟨_, make_u8 (n := 0) rfl rfl rfl rfl (Nat.zero_le _) (by omega) (by omega), ?_⟩ | refine ⟨_, rfl, ?_⟩ | refine ⟨by decide, ?_⟩ | refine ⟨rfl, ?_⟩ | refine ⟨fun _ => ?_, fun h => absurd h (by decide)⟩ | refine ⟨fun h => absurd h (by decide), fun _ => ?_⟩ | refine ⟨inI_of (by omega), ?_⟩ | refine ⟨⟨rfl, inI_of (by omega)⟩, ?_⟩ | refine ⟨⟨rfl, by decide⟩, ?_⟩ | (apply Exists.intro; refine ⟨?_, ?_⟩; ((try simp only); (try simp only [Nat.zero_add]); (try simp only [Nat.mul_one]); (try simp only [Int.toNat_natCast]); exact at_g (by omega))) | (apply Exists.intro; refine ⟨?_, ?_⟩; ((try simp only); (try simp only [Nat.zero_add]); (try simp only [Nat.mul_one]); (try simp only [Int.toNat_natCast]); exact put_flat (by omega))) | refine ⟨_, cut_all (by omega), ?_⟩ | refine ⟨_, lay_all (by omega) (by omega), ?_⟩ | refine ⟨_, lay_all (by (try simp only); (try simp only [List.length_replicate]); (try simp only [List.length_cons]); (try simp only [List.length_nil]); omega) (by omega), ?_⟩ | refine ⟨by omega, ?_⟩ | refine ⟨len_flat (by omega), ?_⟩ | refine ⟨apart_uv _ _ _, ?_⟩ | refine ⟨_, resSlot_own rfl (by omega) (by first | exact .inl rfl | exact .inr ⟨rfl, rfl⟩), ?_⟩ | refine ⟨(by kernel_rfl : regB _ = true), ?_⟩ | refine ⟨⟨rfl, inI_of (by omega), by decide⟩, ?_⟩ | (apply Exists.intro; refine ⟨?_, ?_⟩; ((try simp only); (try simp only [Nat.zero_add]); (try simp only [Nat.mul_one]); (try simp only [Int.toNat_natCast]); exact at_drop_g (by omega))) | (apply Exists.intro; refine ⟨?_, ?_⟩; ((try simp only); (try simp only [Nat.zero_add]); (try simp only [Nat.mul_one]); (try simp only [Int.toNat_natCast]); exact cut_rest (by omega)))); conv => whnf))
  refine .inl ⟨fun q st => ∃ k : Nat, q = (L + 15) / 16 - k ∧ k ≤ (L + 15) / 16 ∧ st = ⟨[.im 1 16 c (.flat .u8 key), .im 1 N c2 (.flat .u8 nonce), .im 1 L c3 (.flat .u8 b), .poison, .poison, .poison, .poison, .sl 1 96 0 (min (16 * k) L) (some L), .poison, .poison, .poison, .poison, .poison, .poison, .poison, iv .i64 ((L + 15) / 16 : Nat), iv .i64 k, .poison, .poison, .poison, .poison, .poison, .poison, .poison, .poison, .poison, .poison, .poison, .poison, .poison, .poison, .poison, .poison, .poison, .poison, .poison, .poison, .poison, .poison, .poison],
      [(96, ⟨.flat .u8 (cryP S (min (16 * k) L)), 5, false⟩)]⟩, ⟨[3, 4, 5, 6, 8, 9, 10, 11, 12, 13, 14, 17, 18, 19, 20, 21, 22, 23, 24, 25, 26, 27, 28, 29, 30, 31, 32, 33, 34, 35, 36, 37, 38, 39], [], (L + 15) / 16, 0, rfl, by omega, by rw [← eB, Nat.mul_zero, Nat.zero_min, cryP_zero, hS]; kernel_rfl⟩, ?_⟩
  rintro _ _ ⟨k, rfl, hk2, rfl⟩
  by_cases hlt : k < (L + 15) / 16
  · have hp : min (16 * k) L = 16 * k := by omega
    rw [hp]
    obtain ⟨t, ht⟩ : ∃ t, t = min 16 (L - 16 * k) := ⟨_, rfl⟩
    have hp2 : min (16 * (k + 1)) L = 16 * k + t := by omega
    have hcl := cryP_len S (16 * k) (by omega)
    have hlo : IntKind.i64.wrap ((k : Int) * 16) = ((16 * k : Nat) : Int) := by rw [wrap64 (by omega)]; omega
    have e1 : IntKind.i64.wrap ((k : Int) + 1) = ((k + 1 : Nat) : Int) := by rw [wrap64 (by omega)]; omega
    have hhi : (if (L : Int) < IntKind.i64.wrap (IntKind.i64.wrap ((k : Int) + 1) * 16) then (L : Int) else IntKind.i64.wrap (IntKind.i64.wrap ((k : Int) + 1) * 16)) = ((16 * k + t : Nat) : Int) := by
      rw [e1, wrap64 (by omega)]
      split <;> omega
    obtain ⟨c4, hsl⟩ := slice_im_mid (E := EC7) (t := 22) (k := .u8) (c := c3) (x := b) rfl hlo hhi (by omega) hL hc3
    have hpl : ((b.drop (16 * k)).take t).length = t := by simp; omega
    have hpb : By ((b.drop (16 * k)).take t) := (hbb.drop _).take _
    have hst2 := hst k t (by omega) (by omega)
    have e1' : IntKind.i64.wrap ((k : Int) + 1) = 1 + (k : Int) := by rw [e1]; omega
    have oS := fun c c2 => cStr N c c2 key nonce (IntKind.i64.wrap ((k : Int) + 1)) hk hkb hN h7 hnb
    rw [← e1'] at hst2
    have hKl := ksI_len key nonce (IntKind.i64.wrap ((k : Int) + 1))
    have hKb := ksI_by hkb hnb (IntKind.i64.wrap ((k : Int) + 1))
    obtain ⟨K, hK⟩ : ∃ K, K = ksI key nonce (IntKind.i64.wrap ((k : Int) + 1)) := ⟨_, rfl⟩
    rw [← hK] at oS hst2 hKl hKb
    obtain ⟨p, hpe⟩ : ∃ p, p = (b.drop (16 * k)).take t := ⟨_, rfl⟩
    rw [← hpe] at hsl hpl hpb hst2
    have oP := fun c c2 => cPlus t 16 c c2 p K hpl hKl hpb hKb (by omega) (by omega)
    have hql : (pluP p K).length = t := by rw [pluP_len, hpl]
    have hcs := cry_step S (16 * k) t (by omega)
    rw [← hst2] at hcs
    obtain ⟨Q, hQ⟩ : ∃ Q, Q = pluP p K := ⟨_, rfl⟩
    rw [← hQ] at oP hql hcs
    have hcK : (Cont.flat .u8 K).cut 0 (16 * 1) = some (.flat .u8 K) := cut_all hKl
    have hcQ : (Cont.flat .u8 Q).cut 0 (t * 1) = some (.flat .u8 Q) := cut_all (by omega)
    clear hst2 hpe hK hQ hst hSe
    have q1 : decide ((k : Int) < (((L + 15) / 16 : Nat) : Int)) = true := by simp; omega
    ((conv => whnf); repeat ((first | refine ⟨fun _ => ?_, fun h => absurd ((q1).symm.trans h) (by decide)⟩ | refine ⟨fun h => absurd ((q1).symm.trans h) (by decide), fun _ => ?_⟩ | refine ⟨_, hsl, ?_⟩ | refine ⟨_, oS _ _, ?_⟩ | refine ⟨_, oP _ _, ?_⟩ | refine ⟨_, expo_sl rfl hcK, ?_⟩ | refine ⟨_, append_rm rfl rfl (shown_sl rfl hcQ) rfl hql rfl rfl (by omega) (by omega) rfl (by omega) (by omega), ?_⟩ | refine ⟨_, rfl, ?_⟩ | refine ⟨by decide, ?_⟩ | refine ⟨rfl, ?_⟩ | refine ⟨fun _ => ?_, fun h => absurd h (by decide)⟩ | refine ⟨fun h => absurd h (by decide), fun _ => ?_⟩ | refine ⟨inI_of (by omega), ?_⟩ | refine ⟨⟨rfl, inI_of (by omega)⟩, ?_⟩ | refine ⟨⟨rfl, by decide⟩, ?_⟩ | (apply Exists.intro; refine ⟨?_, ?_⟩; ((try simp only); (try simp only [Nat.zero_add]); (try simp only [Nat.mul_one]); (try simp only [Int.toNat_natCast]); exact at_g (by omega))) | (apply Exists.intro; refine ⟨?_, ?_⟩; ((try simp only); (try simp only [Nat.zero_add]); (try simp only [Nat.mul_one]); (try simp only [Int.toNat_natCast]); exact put_flat (by omega))) | refine ⟨_, cut_all (by omega), ?_⟩ | refine ⟨_, lay_all (by omega) (by omega), ?_⟩ | refine ⟨_, lay_all (by (try simp only); (try simp only [List.length_replicate]); (try simp only [List.length_cons]); (try simp only [List.length_nil]); omega) (by omega), ?_⟩ | refine ⟨by omega, ?_⟩ | refine ⟨len_flat (by omega), ?_⟩ | refine ⟨apart_uv _ _ _, ?_⟩ | refine ⟨_, resSlot_own rfl (by omega) (by first | exact .inl rfl | exact .inr ⟨rfl, rfl⟩), ?_⟩ | refine ⟨(by kernel_rfl : regB _ = true), ?_⟩ | refine ⟨⟨rfl, inI_of (by omega), by decide⟩, ?_⟩ | (apply Exists.intro; refine ⟨?_, ?_⟩; ((try simp only); (try simp only [Nat.zero_add]); (try simp only [Nat.mul_one]); (try simp only [Int.toNat_natCast]); exact at_drop_g (by omega))) | (apply Exists.intro; refine ⟨?_, ?_⟩; ((try simp only); (try simp only [Nat.zero_add]); (try simp only [Nat.mul_one]); (try simp only [Int.toNat_natCast]); exact cut_rest (by omega)))); conv => whnf))
    refine ⟨[3, 4, 5, 6, 8, 9, 10, 11, 12, 13, 14, 17, 18, 19, 20, 21, 22, 23, 24, 25, 26, 27, 28, 29, 30, 31, 32, 33, 34, 35, 36, 37, 38, 39], [.lose 280, .lose 288], (L + 15) / 16 - (k + 1), ?_, k + 1, rfl, by omega, ?_⟩
    · omega
    · rw [hp2, ← hcs, ← e1]
      kernel_rfl
  · have hk' : k = (L + 15) / 16 := by omega
    have hp : min (16 * k) L = L := by omega
    rw [hp]
    have q1 : decide ((k : Int) < (((L + 15) / 16 : Nat) : Int)) = false := by simp; omega
    have hcl := cryP_len S L (by omega)
    have htk : (cryP S L).take (L * 1) = S := by rw [List.take_of_length_le (by omega), ← hS, cryP_all]
    ((conv => whnf); repeat ((first | refine ⟨fun _ => ?_, fun h => absurd ((q1).symm.trans h) (by decide)⟩ | refine ⟨fun h => absurd ((q1).symm.trans h) (by decide), fun _ => ?_⟩ | refine ⟨_, resSlot_own rfl (by omega) (.inr ⟨rfl, by simp [hcl, hS]⟩), ?_⟩ | refine ⟨_, rfl, ?_⟩ | refine ⟨by decide, ?_⟩ | refine ⟨rfl, ?_⟩ | refine ⟨fun _ => ?_, fun h => absurd h (by decide)⟩ | refine ⟨fun h => absurd h (by decide), fun _ => ?_⟩ | refine ⟨inI_of (by omega), ?_⟩ | refine ⟨⟨rfl, inI_of (by omega)⟩, ?_⟩ | refine ⟨⟨rfl, by decide⟩, ?_⟩ | (apply Exists.intro; refine ⟨?_, ?_⟩; ((try simp only); (try simp only [Nat.zero_add]); (try simp only [Nat.mul_one]); (try simp only [Int.toNat_natCast]); exact at_g (by omega))) | (apply Exists.intro; refine ⟨?_, ?_⟩; ((try simp only); (try simp only [Nat.zero_add]); (try simp only [Nat.mul_one]); (try simp only [Int.toNat_natCast]); exact put_flat (by omega))) | refine ⟨_, cut_all (by omega), ?_⟩ | refine ⟨_, lay_all (by omega) (by omega), ?_⟩ | refine ⟨_, lay_all (by (try simp only); (try simp only [List.length_replicate]); (try simp only [List.length_cons]); (try simp only [List.length_nil]); omega) (by omega), ?_⟩ | refine ⟨by omega, ?_⟩ | refine ⟨len_flat (by omega), ?_⟩ | refine ⟨apart_uv _ _ _, ?_⟩ | refine ⟨_, resSlot_own rfl (by omega) (by first | exact .inl rfl | exact .inr ⟨rfl, rfl⟩), ?_⟩ | refine ⟨(by kernel_rfl : regB _ = true), ?_⟩ | refine ⟨⟨rfl, inI_of (by omega), by decide⟩, ?_⟩ | (apply Exists.intro; refine ⟨?_, ?_⟩; ((try simp only); (try simp only [Nat.zero_add]); (try simp only [Nat.mul_one]); (try simp only [Int.toNat_natCast]); exact at_drop_g (by omega))) | (apply Exists.intro; refine ⟨?_, ?_⟩; ((try simp only); (try simp only [Nat.zero_add]); (try simp only [Nat.mul_one]); (try simp only [Int.toNat_natCast]); exact cut_rest (by omega)))); conv => whnf))
    rw [htk]
    rfl
/-! Valid, Calls -/
set_option maxRecDepth 100000 in
set_option maxHeartbeats 1600000 in
theorem pvalid_exec (N M : Nat) (c c2 : Option Nat) (x y : Cont) (tag : Int) : execF EM Try.f11 [.im 1 N c x, .im 1 M c2 y, iv .i64 tag] (ret1 (.v (.bool (okP N M tag)))) := by
  by_cases h1 : N = 16
  case neg =>
    have q1 : ((N : Int) == 16) = false := by simp; omega
    rw [show okP N M tag = false by simp [okP, h1]]
    ((conv => whnf); repeat ((first | refine ⟨fun _ => ?_, fun h => absurd ((q1).symm.trans h) (by decide)⟩ | refine ⟨fun h => absurd ((q1).symm.trans h) (by decide), fun _ => ?_⟩ | refine ⟨_, rfl, ?_⟩ | refine ⟨by decide, ?_⟩ | refine ⟨rfl, ?_⟩ | refine ⟨fun _ => ?_, fun h => absurd h (by decide)⟩ | refine ⟨fun h => absurd h (by decide), fun _ => ?_⟩ | refine ⟨inI_of (by omega), ?_⟩ | refine ⟨⟨rfl, inI_of (by omega)⟩, ?_⟩ | refine ⟨⟨rfl, by decide⟩, ?_⟩ | (apply Exists.intro; refine ⟨?_, ?_⟩; ((try simp only); (try simp only [Nat.zero_add]); (try simp only [Nat.mul_one]); (try simp only [Int.toNat_natCast]); exact at_g (by omega))) | (apply Exists.intro; refine ⟨?_, ?_⟩; ((try simp only); (try simp only [Nat.zero_add]); (try simp only [Nat.mul_one]); (try simp only [Int.toNat_natCast]); exact put_flat (by omega))) | refine ⟨_, cut_all (by omega), ?_⟩ | refine ⟨_, lay_all (by omega) (by omega), ?_⟩ | refine ⟨_, lay_all (by (try simp only); (try simp only [List.length_replicate]); (try simp only [List.length_cons]); (try simp only [List.length_nil]); omega) (by omega), ?_⟩ | refine ⟨by omega, ?_⟩ | refine ⟨len_flat (by omega), ?_⟩ | refine ⟨apart_uv _ _ _, ?_⟩ | refine ⟨_, resSlot_own rfl (by omega) (by first | exact .inl rfl | exact .inr ⟨rfl, rfl⟩), ?_⟩ | refine ⟨(by kernel_rfl : regB _ = true), ?_⟩ | refine ⟨⟨rfl, inI_of (by omega), by decide⟩, ?_⟩ | (apply Exists.intro; refine ⟨?_, ?_⟩; ((try simp only); (try simp only [Nat.zero_add]); (try simp only [Nat.mul_one]); (try simp only [Int.toNat_natCast]); exact at_drop_g (by omega))) | (apply Exists.intro; refine ⟨?_, ?_⟩; ((try simp only); (try simp only [Nat.zero_add]); (try simp only [Nat.mul_one]); (try simp only [Int.toNat_natCast]); exact cut_rest (by omega)))); conv => whnf))
    rfl
  have q1 : ((N : Int) == 16) = true := by simp; omega
  by_cases h2 : 7 ≤ M
  case neg =>
    have q2 : decide ((M : Int) ≥ 7) = false := by simp; omega
    rw [show okP N M tag = false by simp [okP, h2]]
    ((conv => whnf); repeat ((first | refine ⟨fun _ => ?_, fun h => absurd ((q1).symm.trans h) (by decide)⟩ | refine ⟨fun h => absurd ((q1).symm.trans h) (by decide), fun _ => ?_⟩ | refine ⟨fun _ => ?_, fun h => absurd ((q2).symm.trans h) (by decide)⟩ | refine ⟨fun h => absurd ((q2).symm.trans h) (by decide), fun _ => ?_⟩ | refine ⟨_, rfl, ?_⟩ | refine ⟨by decide, ?_⟩ | refine ⟨rfl, ?_⟩ | refine ⟨fun _ => ?_, fun h => absurd h (by decide)⟩ | refine ⟨fun h => absurd h (by decide), fun _ => ?_⟩ | refine ⟨inI_of (by omega), ?_⟩ | refine ⟨⟨rfl, inI_of (by omega)⟩, ?_⟩ | refine ⟨⟨rfl, by decide⟩, ?_⟩ | (apply Exists.intro; refine ⟨?_, ?_⟩; ((try simp only); (try simp only [Nat.zero_add]); (try simp only [Nat.mul_one]); (try simp only [Int.toNat_natCast]); exact at_g (by omega))) | (apply Exists.intro; refine ⟨?_, ?_⟩; ((try simp only); (try simp only [Nat.zero_add]); (try simp only [Nat.mul_one]); (try simp only [Int.toNat_natCast]); exact put_flat (by omega))) | refine ⟨_, cut_all (by omega), ?_⟩ | refine ⟨_, lay_all (by omega) (by omega), ?_⟩ | refine ⟨_, lay_all (by (try simp only); (try simp only [List.length_replicate]); (try simp only [List.length_cons]); (try simp only [List.length_nil]); omega) (by omega), ?_⟩ | refine ⟨by omega, ?_⟩ | refine ⟨len_flat (by omega), ?_⟩ | refine ⟨apart_uv _ _ _, ?_⟩ | refine ⟨_, resSlot_own rfl (by omega) (by first | exact .inl rfl | exact .inr ⟨rfl, rfl⟩), ?_⟩ | refine ⟨(by kernel_rfl : regB _ = true), ?_⟩ | refine ⟨⟨rfl, inI_of (by omega), by decide⟩, ?_⟩ | (apply Exists.intro; refine ⟨?_, ?_⟩; ((try simp only); (try simp only [Nat.zero_add]); (try simp only [Nat.mul_one]); (try simp only [Int.toNat_natCast]); exact at_drop_g (by omega))) | (apply Exists.intro; refine ⟨?_, ?_⟩; ((try simp only); (try simp only [Nat.zero_add]); (try simp only [Nat.mul_one]); (try simp only [Int.toNat_natCast]); exact cut_rest (by omega)))); conv => whnf))
    rfl
  have q2 : decide ((M : Int) ≥ 7) = true := by simp; omega
  by_cases h3 : M ≤ 13
  case neg =>
    have q3 : decide ((M : Int) ≤ 13) = false := by simp; omega
    rw [show okP N M tag = false by simp [okP, h3]]
    ((conv => whnf); repeat ((first | refine ⟨fun _ => ?_, fun h => absurd ((q1).symm.trans h) (by decide)⟩ | refine ⟨fun h => absurd ((q1).symm.trans h) (by decide), fun _ => ?_⟩ | refine ⟨fun _ => ?_, fun h => absurd ((q2).symm.trans h) (by decide)⟩ | refine ⟨fun h => absurd ((q2).symm.trans h) (by decide), fun _ => ?_⟩ | refine ⟨fun _ => ?_, fun h => absurd ((q3).symm.trans h) (by decide)⟩ | refine ⟨fun h => absurd ((q3).symm.trans h) (by decide), fun _ => ?_⟩ | refine ⟨_, rfl, ?_⟩ | refine ⟨by decide, ?_⟩ | refine ⟨rfl, ?_⟩ | refine ⟨fun _ => ?_, fun h => absurd h (by decide)⟩ | refine ⟨fun h => absurd h (by decide), fun _ => ?_⟩ | refine ⟨inI_of (by omega), ?_⟩ | refine ⟨⟨rfl, inI_of (by omega)⟩, ?_⟩ | refine ⟨⟨rfl, by decide⟩, ?_⟩ | (apply Exists.intro; refine ⟨?_, ?_⟩; ((try simp only); (try simp only [Nat.zero_add]); (try simp only [Nat.mul_one]); (try simp only [Int.toNat_natCast]); exact at_g (by omega))) | (apply Exists.intro; refine ⟨?_, ?_⟩; ((try simp only); (try simp only [Nat.zero_add]); (try simp only [Nat.mul_one]); (try simp only [Int.toNat_natCast]); exact put_flat (by omega))) | refine ⟨_, cut_all (by omega), ?_⟩ | refine ⟨_, lay_all (by omega) (by omega), ?_⟩ | refine ⟨_, lay_all (by (try simp only); (try simp only [List.length_replicate]); (try simp only [List.length_cons]); (try simp only [List.length_nil]); omega) (by omega), ?_⟩ | refine ⟨by omega, ?_⟩ | refine ⟨len_flat (by omega), ?_⟩ | refine ⟨apart_uv _ _ _, ?_⟩ | refine ⟨_, resSlot_own rfl (by omega) (by first | exact .inl rfl | exact .inr ⟨rfl, rfl⟩), ?_⟩ | refine ⟨(by kernel_rfl : regB _ = true), ?_⟩ | refine ⟨⟨rfl, inI_of (by omega), by decide⟩, ?_⟩ | (apply Exists.intro; refine ⟨?_, ?_⟩; ((try simp only); (try simp only [Nat.zero_add]); (try simp only [Nat.mul_one]); (try simp only [Int.toNat_natCast]); exact at_drop_g (by omega))) | (apply Exists.intro; refine ⟨?_, ?_⟩; ((try simp only); (try simp only [Nat.zero_add]); (try simp only [Nat.mul_one]); (try simp only [Int.toNat_natCast]); exact cut_rest (by omega)))); conv => whnf))
    rfl
  have q3 : decide ((M : Int) ≤ 13) = true := by simp; omega
  by_cases h4 : 4 ≤ tag
  case neg =>
    have q4 : decide (tag ≥ 4) = false := by simp; omega
    rw [show okP N M tag = false by simp [okP, h4]]
    ((conv => whnf); repeat ((first | refine ⟨fun _ => ?_, fun h => absurd ((q1).symm.trans h) (by decide)⟩ | refine ⟨fun h => absurd ((q1).symm.trans h) (by decide), fun _ => ?_⟩ | refine ⟨fun _ => ?_, fun h => absurd ((q2).symm.trans h) (by decide)⟩ | refine ⟨fun h => absurd ((q2).symm.trans h) (by decide), fun _ => ?_⟩ | refine ⟨fun _ => ?_, fun h => absurd ((q3).symm.trans h) (by decide)⟩ | refine ⟨fun h => absurd ((q3).symm.trans h) (by decide), fun _ => ?_⟩ | refine ⟨fun _ => ?_, fun h => absurd ((q4).symm.trans h) (by decide)⟩ | refine ⟨fun h => absurd ((q4).symm.trans h) (by decide), fun _ => ?_⟩ | refine ⟨_, rfl, ?_⟩ | refine ⟨by decide, ?_⟩ | refine ⟨rfl, ?_⟩ | refine ⟨fun _ => ?_, fun h => absurd h (by decide)⟩ | refine ⟨fun h => absurd h (by decide), fun _ => ?_⟩ | refine ⟨inI_of (by omega), ?_⟩ | refine ⟨⟨rfl, inI_of (by omega)⟩, ?_⟩ | refine ⟨⟨rfl, by decide⟩, ?_⟩ | (apply Exists.intro; refine ⟨?_, ?_⟩; ((try simp only); (try simp only [Nat.zero_add]); (try simp only [Nat.mul_one]); (try simp only [Int.toNat_natCast]); exact at_g (by omega))) | (apply Exists.intro; refine ⟨?_, ?_⟩; ((try simp only); (try simp only [Nat.zero_add]); (try simp only [Nat.mul_one]); (try simp only [Int.toNat_natCast]); exact put_flat (by omega))) | refine ⟨_, cut_all (by omega), ?_⟩ | refine ⟨_, lay_all (by omega) (by omega), ?_⟩ | refine ⟨_, lay_all (by (try simp only); (try simp only [List.length_replicate]); (try simp only [List.length_cons]); (try simp only [List.length_nil]); omega) (by omega), ?_⟩ | refine ⟨by omega, ?_⟩ | refine ⟨len_flat (by omega), ?_⟩ | refine ⟨apart_uv _ _ _, ?_⟩ | refine ⟨_, resSlot_own rfl (by omega) (by first | exact .inl rfl | exact .inr ⟨rfl, rfl⟩), ?_⟩ | refine ⟨(by kernel_rfl : regB _ = true), ?_⟩ | refine ⟨⟨rfl, inI_of (by omega), by decide⟩, ?_⟩ | (apply Exists.intro; refine ⟨?_, ?_⟩; ((try simp only); (try simp only [Nat.zero_add]); (try simp only [Nat.mul_one]); (try simp only [Int.toNat_natCast]); exact at_drop_g (by omega))) | (apply Exists.intro; refine ⟨?_, ?_⟩; ((try simp only); (try simp only [Nat.zero_add]); (try simp only [Nat.mul_one]); (try simp only [Int.toNat_natCast]); exact cut_rest (by omega)))); conv => whnf))
    rfl
  have q4 : decide (tag ≥ 4) = true := by simp; omega
  by_cases h5 : tag ≤ 16
  case neg =>
    have q5 : decide (tag ≤ 16) = false := by simp; omega
    rw [show okP N M tag = false by simp [okP, h5]]
    ((conv => whnf); repeat ((first | refine ⟨fun _ => ?_, fun h => absurd ((q1).symm.trans h) (by decide)⟩ | refine ⟨fun h => absurd ((q1).symm.trans h) (by decide), fun _ => ?_⟩ | refine ⟨fun _ => ?_, fun h => absurd ((q2).symm.trans h) (by decide)⟩ | refine ⟨fun h => absurd ((q2).symm.trans h) (by decide), fun _ => ?_⟩ | refine ⟨fun _ => ?_, fun h => absurd ((q3).symm.trans h) (by decide)⟩ | refine ⟨fun h => absurd ((q3).symm.trans h) (by decide), fun _ => ?_⟩ | refine ⟨fun _ => ?_, fun h => absurd ((q4).symm.trans h) (by decide)⟩ | refine ⟨fun h => absurd ((q4).symm.trans h) (by decide), fun _ => ?_⟩ | refine ⟨fun _ => ?_, fun h => absurd ((q5).symm.trans h) (by decide)⟩ | refine ⟨fun h => absurd ((q5).symm.trans h) (by decide), fun _ => ?_⟩ | refine ⟨_, rfl, ?_⟩ | refine ⟨by decide, ?_⟩ | refine ⟨rfl, ?_⟩ | refine ⟨fun _ => ?_, fun h => absurd h (by decide)⟩ | refine ⟨fun h => absurd h (by decide), fun _ => ?_⟩ | refine ⟨inI_of (by omega), ?_⟩ | refine ⟨⟨rfl, inI_of (by omega)⟩, ?_⟩ | refine ⟨⟨rfl, by decide⟩, ?_⟩ | (apply Exists.intro; refine ⟨?_, ?_⟩; ((try simp only); (try simp only [Nat.zero_add]); (try simp only [Nat.mul_one]); (try simp only [Int.toNat_natCast]); exact at_g (by omega))) | (apply Exists.intro; refine ⟨?_, ?_⟩; ((try simp only); (try simp only [Nat.zero_add]); (try simp only [Nat.mul_one]); (try simp only [Int.toNat_natCast]); exact put_flat (by omega))) | refine ⟨_, cut_all (by omega), ?_⟩ | refine ⟨_, lay_all (by omega) (by omega), ?_⟩ | refine ⟨_, lay_all (by (try simp only); (try simp only [List.length_replicate]); (try simp only [List.length_cons]); (try simp only [List.length_nil]); omega) (by omega), ?_⟩ | refine ⟨by omega, ?_⟩ | refine ⟨len_flat (by omega), ?_⟩ | refine ⟨apart_uv _ _ _, ?_⟩ | refine ⟨_, resSlot_own rfl (by omega) (by first | exact .inl rfl | exact .inr ⟨rfl, rfl⟩), ?_⟩ | refine ⟨(by kernel_rfl : regB _ = true), ?_⟩ | refine ⟨⟨rfl, inI_of (by omega), by decide⟩, ?_⟩ | (apply Exists.intro; refine ⟨?_, ?_⟩; ((try simp only); (try simp only [Nat.zero_add]); (try simp only [Nat.mul_one]); (try simp only [Int.toNat_natCast]); exact at_drop_g (by omega))) | (apply Exists.intro; refine ⟨?_, ?_⟩; ((try simp only); (try simp only [Nat.zero_add]); (try simp only [Nat.mul_one]); (try simp only [Int.toNat_natCast]); exact cut_rest (by omega)))); conv => whnf))
    rfl
  have q5 : decide (tag ≤ 16) = true := by simp; omega
  rw [show okP N M tag = (tag.tmod 2 == 0) by simp only [okP, h1, h2, h3, h4, h5, decide_true, Bool.and_self, Bool.true_and]; exact (Bool.beq_eq_decide_eq _ _).symm]
  ((conv => whnf); repeat ((first | refine ⟨fun _ => ?_, fun h => absurd ((q1).symm.trans h) (by decide)⟩ | refine ⟨fun h => absurd ((q1).symm.trans h) (by decide), fun _ => ?_⟩ | refine ⟨fun _ => ?_, fun h => absurd ((q2).symm.trans h) (by decide)⟩ | refine ⟨fun h => absurd ((q2).symm.trans h) (by decide), fun _ => ?_⟩ | refine ⟨fun _ => ?_, fun h => absurd ((q3).symm.trans h) (by decide)⟩ | refine ⟨fun h => absurd ((q3).symm.trans h) (by decide), fun _ => ?_⟩ | refine ⟨fun _ => ?_, fun h => absurd ((q4).symm.trans h) (by decide)⟩ | refine ⟨fun h => absurd ((q4).symm.trans h) (by decide), fun _ => ?_⟩ | refine ⟨fun _ => ?_, fun h => absurd ((q5).symm.trans h) (by decide)⟩ | refine ⟨fun h => absurd ((q5).symm.trans h) (by decide), fun _ => ?_⟩ | refine ⟨_, rfl, ?_⟩ | refine ⟨by decide, ?_⟩ | refine ⟨rfl, ?_⟩ | refine ⟨fun _ => ?_, fun h => absurd h (by decide)⟩ | refine ⟨fun h => absurd h (by decide), fun _ => ?_⟩ | refine ⟨inI_of (by omega), ?_⟩ | refine ⟨⟨rfl, inI_of (by omega)⟩, ?_⟩ | refine ⟨⟨rfl, by decide⟩, ?_⟩ | (apply Exists.intro; refine ⟨?_, ?_⟩; ((try simp only); (try simp only [Nat.zero_add]); (try simp only [Nat.mul_one]); (try simp only [Int.toNat_natCast]); exact at_g (by omega))) | (apply Exists.intro; refine ⟨?_, ?_⟩; ((try simp only); (try simp only [Nat.zero_add]); (try simp only [Nat.mul_one]); (try simp only [Int.toNat_natCast]); exact put_flat (by omega))) | refine ⟨_, cut_all (by omega), ?_⟩ | refine ⟨_, lay_all (by omega) (by omega), ?_⟩ | refine ⟨_, lay_all (by (try simp only); (try simp only [List.length_replicate]); (try simp only [List.length_cons]); (try simp only [List.length_nil]); omega) (by omega), ?_⟩ | refine ⟨by omega, ?_⟩ | refine ⟨len_flat (by omega), ?_⟩ | refine ⟨apart_uv _ _ _, ?_⟩ | refine ⟨_, resSlot_own rfl (by omega) (by first | exact .inl rfl | exact .inr ⟨rfl, rfl⟩), ?_⟩ | refine ⟨(by kernel_rfl : regB _ = true), ?_⟩ | refine ⟨⟨rfl, inI_of (by omega), by decide⟩, ?_⟩ | (apply Exists.intro; refine ⟨?_, ?_⟩; ((try simp only); (try simp only [Nat.zero_add]); (try simp only [Nat.mul_one]); (try simp only [Int.toNat_natCast]); exact at_drop_g (by omega))) | (apply Exists.intro; refine ⟨?_, ?_⟩; ((try simp only); (try simp only [Nat.zero_add]); (try simp only [Nat.mul_one]); (try simp only [Int.toNat_natCast]); exact cut_rest (by omega)))); conv => whnf))
  rfl

set_option maxRecDepth 100000 in
set_option maxHeartbeats 1600000 in
theorem pcalls_exec (a p : Int) : execF EP7 Try.f15 [iv .i64 a, iv .i64 p] (ret1 (iv .i64 (callsP a p))) := by
  by_cases h1 : a < 0
  · have q1 : decide (a < 0) = true := by simp; omega
    rw [show callsP a p = 0 by simp [callsP, h1]]
    ((conv => whnf); repeat ((first | refine ⟨fun _ => ?_, fun h => absurd ((q1).symm.trans h) (by decide)⟩ | refine ⟨fun h => absurd ((q1).symm.trans h) (by decide), fun _ => ?_⟩ | refine ⟨_, rfl, ?_⟩ | refine ⟨by decide, ?_⟩ | refine ⟨rfl, ?_⟩ | refine ⟨fun _ => ?_, fun h => absurd h (by decide)⟩ | refine ⟨fun h => absurd h (by decide), fun _ => ?_⟩ | refine ⟨inI_of (by omega), ?_⟩ | refine ⟨⟨rfl, inI_of (by omega)⟩, ?_⟩ | refine ⟨⟨rfl, by decide⟩, ?_⟩ | (apply Exists.intro; refine ⟨?_, ?_⟩; ((try simp only); (try simp only [Nat.zero_add]); (try simp only [Nat.mul_one]); (try simp only [Int.toNat_natCast]); exact at_g (by omega))) | (apply Exists.intro; refine ⟨?_, ?_⟩; ((try simp only); (try simp only [Nat.zero_add]); (try simp only [Nat.mul_one]); (try simp only [Int.toNat_natCast]); exact put_flat (by omega))) | refine ⟨_, cut_all (by omega), ?_⟩ | refine ⟨_, lay_all (by omega) (by omega), ?_⟩ | refine ⟨_, lay_all (by (try simp only); (try simp only [List.length_replicate]); (try simp only [List.length_cons]); (try simp only [List.length_nil]); omega) (by omega), ?_⟩ | refine ⟨by omega, ?_⟩ | refine ⟨len_flat (by omega), ?_⟩ | refine ⟨apart_uv _ _ _, ?_⟩ | refine ⟨_, resSlot_own rfl (by omega) (by first | exact .inl rfl | exact .inr ⟨rfl, rfl⟩), ?_⟩ | refine ⟨(by kernel_rfl : regB _ = true), ?_⟩ | refine ⟨⟨rfl, inI_of (by omega), by decide⟩, ?_⟩ | (apply Exists.intro; refine ⟨?_, ?_⟩; ((try simp only); (try simp only [Nat.zero_add]); (try simp only [Nat.mul_one]); (try simp only [Int.toNat_natCast]); exact at_drop_g (by omega))) | (apply Exists.intro; refine ⟨?_, ?_⟩; ((try simp only); (try simp only [Nat.zero_add]); (try simp only [Nat.mul_one]); (try simp only [Int.toNat_natCast]); exact cut_rest (by omega)))); conv => whnf))
    rfl
  have q1 : decide (a < 0) = false := by simp; omega
  by_cases h2 : 4096 < a
  · have q2 : decide (a > 4096) = true := by simp; omega
    rw [show callsP a p = 0 by simp [callsP, h2]]
    ((conv => whnf); repeat ((first | refine ⟨fun _ => ?_, fun h => absurd ((q1).symm.trans h) (by decide)⟩ | refine ⟨fun h => absurd ((q1).symm.trans h) (by decide), fun _ => ?_⟩ | refine ⟨fun _ => ?_, fun h => absurd ((q2).symm.trans h) (by decide)⟩ | refine ⟨fun h => absurd ((q2).symm.trans h) (by decide), fun _ => ?_⟩ | refine ⟨_, rfl, ?_⟩ | refine ⟨by decide, ?_⟩ | refine ⟨rfl, ?_⟩ | refine ⟨fun _ => ?_, fun h => absurd h (by decide)⟩ | refine ⟨fun h => absurd h (by decide), fun _ => ?_⟩ | refine ⟨inI_of (by omega), ?_⟩ | refine ⟨⟨rfl, inI_of (by omega)⟩, ?_⟩ | refine ⟨⟨rfl, by decide⟩, ?_⟩ | (apply Exists.intro; refine ⟨?_, ?_⟩; ((try simp only); (try simp only [Nat.zero_add]); (try simp only [Nat.mul_one]); (try simp only [Int.toNat_natCast]); exact at_g (by omega))) | (apply Exists.intro; refine ⟨?_, ?_⟩; ((try simp only); (try simp only [Nat.zero_add]); (try simp only [Nat.mul_one]); (try simp only [Int.toNat_natCast]); exact put_flat (by omega))) | refine ⟨_, cut_all (by omega), ?_⟩ | refine ⟨_, lay_all (by omega) (by omega), ?_⟩ | refine ⟨_, lay_all (by (try simp only); (try simp only [List.length_replicate]); (try simp only [List.length_cons]); (try simp only [List.length_nil]); omega) (by omega), ?_⟩ | refine ⟨by omega, ?_⟩ | refine ⟨len_flat (by omega), ?_⟩ | refine ⟨apart_uv _ _ _, ?_⟩ | refine ⟨_, resSlot_own rfl (by omega) (by first | exact .inl rfl | exact .inr ⟨rfl, rfl⟩), ?_⟩ | refine ⟨(by kernel_rfl : regB _ = true), ?_⟩ | refine ⟨⟨rfl, inI_of (by omega), by decide⟩, ?_⟩ | (apply Exists.intro; refine ⟨?_, ?_⟩; ((try simp only); (try simp only [Nat.zero_add]); (try simp only [Nat.mul_one]); (try simp only [Int.toNat_natCast]); exact at_drop_g (by omega))) | (apply Exists.intro; refine ⟨?_, ?_⟩; ((try simp only); (try simp only [Nat.zero_add]); (try simp only [Nat.mul_one]); (try simp only [Int.toNat_natCast]); exact cut_rest (by omega)))); conv => whnf))
    rfl
  have q2 : decide (a > 4096) = false := by simp; omega
  by_cases h3 : p < 0
  · have q3 : decide (p < 0) = true := by simp; omega
    rw [show callsP a p = 0 by simp [callsP, h3]]
    ((conv => whnf); repeat ((first | refine ⟨fun _ => ?_, fun h => absurd ((q1).symm.trans h) (by decide)⟩ | refine ⟨fun h => absurd ((q1).symm.trans h) (by decide), fun _ => ?_⟩ | refine ⟨fun _ => ?_, fun h => absurd ((q2).symm.trans h) (by decide)⟩ | refine ⟨fun h => absurd ((q2).symm.trans h) (by decide), fun _ => ?_⟩ | refine ⟨fun _ => ?_, fun h => absurd ((q3).symm.trans h) (by decide)⟩ | refine ⟨fun h => absurd ((q3).symm.trans h) (by decide), fun _ => ?_⟩ | refine ⟨_, rfl, ?_⟩ | refine ⟨by decide, ?_⟩ | refine ⟨rfl, ?_⟩ | refine ⟨fun _ => ?_, fun h => absurd h (by decide)⟩ | refine ⟨fun h => absurd h (by decide), fun _ => ?_⟩ | refine ⟨inI_of (by omega), ?_⟩ | refine ⟨⟨rfl, inI_of (by omega)⟩, ?_⟩ | refine ⟨⟨rfl, by decide⟩, ?_⟩ | (apply Exists.intro; refine ⟨?_, ?_⟩; ((try simp only); (try simp only [Nat.zero_add]); (try simp only [Nat.mul_one]); (try simp only [Int.toNat_natCast]); exact at_g (by omega))) | (apply Exists.intro; refine ⟨?_, ?_⟩; ((try simp only); (try simp only [Nat.zero_add]); (try simp only [Nat.mul_one]); (try simp only [Int.toNat_natCast]); exact put_flat (by omega))) | refine ⟨_, cut_all (by omega), ?_⟩ | refine ⟨_, lay_all (by omega) (by omega), ?_⟩ | refine ⟨_, lay_all (by (try simp only); (try simp only [List.length_replicate]); (try simp only [List.length_cons]); (try simp only [List.length_nil]); omega) (by omega), ?_⟩ | refine ⟨by omega, ?_⟩ | refine ⟨len_flat (by omega), ?_⟩ | refine ⟨apart_uv _ _ _, ?_⟩ | refine ⟨_, resSlot_own rfl (by omega) (by first | exact .inl rfl | exact .inr ⟨rfl, rfl⟩), ?_⟩ | refine ⟨(by kernel_rfl : regB _ = true), ?_⟩ | refine ⟨⟨rfl, inI_of (by omega), by decide⟩, ?_⟩ | (apply Exists.intro; refine ⟨?_, ?_⟩; ((try simp only); (try simp only [Nat.zero_add]); (try simp only [Nat.mul_one]); (try simp only [Int.toNat_natCast]); exact at_drop_g (by omega))) | (apply Exists.intro; refine ⟨?_, ?_⟩; ((try simp only); (try simp only [Nat.zero_add]); (try simp only [Nat.mul_one]); (try simp only [Int.toNat_natCast]); exact cut_rest (by omega)))); conv => whnf))
    rfl
  have q3 : decide (p < 0) = false := by simp; omega
  by_cases h4 : 4096 < p
  · have q4 : decide (p > 4096) = true := by simp; omega
    rw [show callsP a p = 0 by simp [callsP, h4]]
    ((conv => whnf); repeat ((first | refine ⟨fun _ => ?_, fun h => absurd ((q1).symm.trans h) (by decide)⟩ | refine ⟨fun h => absurd ((q1).symm.trans h) (by decide), fun _ => ?_⟩ | refine ⟨fun _ => ?_, fun h => absurd ((q2).symm.trans h) (by decide)⟩ | refine ⟨fun h => absurd ((q2).symm.trans h) (by decide), fun _ => ?_⟩ | refine ⟨fun _ => ?_, fun h => absurd ((q3).symm.trans h) (by decide)⟩ | refine ⟨fun h => absurd ((q3).symm.trans h) (by decide), fun _ => ?_⟩ | refine ⟨fun _ => ?_, fun h => absurd ((q4).symm.trans h) (by decide)⟩ | refine ⟨fun h => absurd ((q4).symm.trans h) (by decide), fun _ => ?_⟩ | refine ⟨_, rfl, ?_⟩ | refine ⟨by decide, ?_⟩ | refine ⟨rfl, ?_⟩ | refine ⟨fun _ => ?_, fun h => absurd h (by decide)⟩ | refine ⟨fun h => absurd h (by decide), fun _ => ?_⟩ | refine ⟨inI_of (by omega), ?_⟩ | refine ⟨⟨rfl, inI_of (by omega)⟩, ?_⟩ | refine ⟨⟨rfl, by decide⟩, ?_⟩ | (apply Exists.intro; refine ⟨?_, ?_⟩; ((try simp only); (try simp only [Nat.zero_add]); (try simp only [Nat.mul_one]); (try simp only [Int.toNat_natCast]); exact at_g (by omega))) | (apply Exists.intro; refine ⟨?_, ?_⟩; ((try simp only); (try simp only [Nat.zero_add]); (try simp only [Nat.mul_one]); (try simp only [Int.toNat_natCast]); exact put_flat (by omega))) | refine ⟨_, cut_all (by omega), ?_⟩ | refine ⟨_, lay_all (by omega) (by omega), ?_⟩ | refine ⟨_, lay_all (by (try simp only); (try simp only [List.length_replicate]); (try simp only [List.length_cons]); (try simp only [List.length_nil]); omega) (by omega), ?_⟩ | refine ⟨by omega, ?_⟩ | refine ⟨len_flat (by omega), ?_⟩ | refine ⟨apart_uv _ _ _, ?_⟩ | refine ⟨_, resSlot_own rfl (by omega) (by first | exact .inl rfl | exact .inr ⟨rfl, rfl⟩), ?_⟩ | refine ⟨(by kernel_rfl : regB _ = true), ?_⟩ | refine ⟨⟨rfl, inI_of (by omega), by decide⟩, ?_⟩ | (apply Exists.intro; refine ⟨?_, ?_⟩; ((try simp only); (try simp only [Nat.zero_add]); (try simp only [Nat.mul_one]); (try simp only [Int.toNat_natCast]); exact at_drop_g (by omega))) | (apply Exists.intro; refine ⟨?_, ?_⟩; ((try simp only); (try simp only [Nat.zero_add]); (try simp only [Nat.mul_one]); (try simp only [Int.toNat_natCast]); exact cut_rest (by omega)))); conv => whnf))
    rfl
  have q4 : decide (p > 4096) = false := by simp; omega
  have eb : ∀ x : Int, 0 ≤ x ∧ x ≤ 5000 → IntKind.i64.wrap ((IntKind.i64.wrap (IntKind.i64.wrap (x + 16) - 1)).tdiv 16) = (x + 15) / 16 := by
    intro x hx
    rw [wrap64 (x := x + 16) (by omega), wrap64 (x := x + 16 - 1) (by omega), Int.tdiv_eq_ediv_of_nonneg (by omega), wrap64 (by omega)]
    omega
  have e1 : IntKind.i64.wrap (IntKind.i64.wrap (1 + IntKind.i64.wrap (2 * IntKind.i64.wrap ((IntKind.i64.wrap (IntKind.i64.wrap (p + 16) - 1)).tdiv 16))) + 1) = 2 + 2 * ((p + 15) / 16) := by
    rw [eb p (by omega), wrap64 (x := 2 * ((p + 15) / 16)) (by omega), wrap64 (x := 1 + 2 * ((p + 15) / 16)) (by omega), wrap64 (by omega)]
    omega
  by_cases h5 : 0 < a
  · have q5 : decide (a > 0) = true := by simp; omega
    have e2 : IntKind.i64.wrap (IntKind.i64.wrap (IntKind.i64.wrap (1 + IntKind.i64.wrap (2 * IntKind.i64.wrap ((IntKind.i64.wrap (IntKind.i64.wrap (p + 16) - 1)).tdiv 16))) + 1) + IntKind.i64.wrap ((IntKind.i64.wrap (IntKind.i64.wrap (IntKind.i64.wrap (2 + a) + 16) - 1)).tdiv 16)) = callsP a p := by
      rw [e1, wrap64 (x := 2 + a) (by omega), eb (2 + a) (by omega), wrap64 (by omega), callsP, if_neg (by omega), if_pos h5]
      omega
    rw [← e2]
    ((conv => whnf); repeat ((first | refine ⟨fun _ => ?_, fun h => absurd ((q1).symm.trans h) (by decide)⟩ | refine ⟨fun h => absurd ((q1).symm.trans h) (by decide), fun _ => ?_⟩ | refine ⟨fun _ => ?_, fun h => absurd ((q2).symm.trans h) (by decide)⟩ | refine ⟨fun h => absurd ((q2).symm.trans h) (by decide), fun _ => ?_⟩ | refine ⟨fun _ => ?_, fun h => absurd ((q3).symm.trans h) (by decide)⟩ | refine ⟨fun h => absurd ((q3).symm.trans h) (by decide), fun _ => ?_⟩ | refine ⟨fun _ => ?_, fun h => absurd ((q4).symm.trans h) (by decide)⟩ | refine ⟨fun h => absurd ((q4).symm.trans h) (by decide), fun _ => ?_⟩ | refine ⟨fun _ => ?_, fun h => absurd ((q5).symm.trans h) (by decide)⟩ | refine ⟨fun h => absurd ((q5).symm.trans h) (by decide), fun _ => ?_⟩ | refine ⟨_, rfl, ?_⟩ | refine ⟨by decide, ?_⟩ | refine ⟨rfl, ?_⟩ | refine ⟨fun _ => ?_, fun h => absurd h (by decide)⟩ | refine ⟨fun h => absurd h (by decide), fun _ => ?_⟩ | refine ⟨inI_of (by omega), ?_⟩ | refine ⟨⟨rfl, inI_of (by omega)⟩, ?_⟩ | refine ⟨⟨rfl, by decide⟩, ?_⟩ | (apply Exists.intro; refine ⟨?_, ?_⟩; ((try simp only); (try simp only [Nat.zero_add]); (try simp only [Nat.mul_one]); (try simp only [Int.toNat_natCast]); exact at_g (by omega))) | (apply Exists.intro; refine ⟨?_, ?_⟩; ((try simp only); (try simp only [Nat.zero_add]); (try simp only [Nat.mul_one]); (try simp only [Int.toNat_natCast]); exact put_flat (by omega))) | refine ⟨_, cut_all (by omega), ?_⟩ | refine ⟨_, lay_all (by omega) (by omega), ?_⟩ | refine ⟨_, lay_all (by (try simp only); (try simp only [List.length_replicate]); (try simp only [List.length_cons]); (try simp only [List.length_nil]); omega) (by omega), ?_⟩ | refine ⟨by omega, ?_⟩ | refine ⟨len_flat (by omega), ?_⟩ | refine ⟨apart_uv _ _ _, ?_⟩ | refine ⟨_, resSlot_own rfl (by omega) (by first | exact .inl rfl | exact .inr ⟨rfl, rfl⟩), ?_⟩ | refine ⟨(by kernel_rfl : regB _ = true), ?_⟩ | refine ⟨⟨rfl, inI_of (by omega), by decide⟩, ?_⟩ | (apply Exists.intro; refine ⟨?_, ?_⟩; ((try simp only); (try simp only [Nat.zero_add]); (try simp only [Nat.mul_one]); (try simp only [Int.toNat_natCast]); exact at_drop_g (by omega))) | (apply Exists.intro; refine ⟨?_, ?_⟩; ((try simp only); (try simp only [Nat.zero_add]); (try simp only [Nat.mul_one]); (try simp only [Int.toNat_natCast]); exact cut_rest (by omega)))); conv => whnf))
    rfl
  · have q5 : decide (a > 0) = false := by simp; omega
    have e2 : IntKind.i64.wrap (IntKind.i64.wrap (1 + IntKind.i64.wrap (2 * IntKind.i64.wrap ((IntKind.i64.wrap (IntKind.i64.wrap (p + 16) - 1)).tdiv 16))) + 1) = callsP a p := by
      rw [e1, callsP, if_neg (by omega), if_neg h5]
      omega
    rw [← e2]
    ((conv => whnf); repeat ((first | refine ⟨fun _ => ?_, fun h => absurd ((q1).symm.trans h) (by decide)⟩ | refine ⟨fun h => absurd ((q1).symm.trans h) (by decide), fun _ => ?_⟩ | refine ⟨fun _ => ?_, fun h => absurd ((q2).symm.trans h) (by decide)⟩ | refine ⟨fun h => absurd ((q2).symm.trans h) (by decide), fun _ => ?_⟩ | refine ⟨fun _ => ?_, fun h => absurd ((q3).symm.trans h) (by decide)⟩ | refine ⟨fun h => absurd ((q3).symm.trans h) (by decide), fun _ => ?_⟩ | refine ⟨fun _ => ?_, fun h => absurd ((q4).symm.trans h) (by decide)⟩ | refine ⟨fun h => absurd ((q4).symm.trans h) (by decide), fun _ => ?_⟩ | refine ⟨fun _ => ?_, fun h => absurd ((q5).symm.trans h) (by decide)⟩ | refine ⟨fun h => absurd ((q5).symm.trans h) (by decide), fun _ => ?_⟩ | refine ⟨_, rfl, ?_⟩ | refine ⟨by decide, ?_⟩ | refine ⟨rfl, ?_⟩ | refine ⟨fun _ => ?_, fun h => absurd h (by decide)⟩ | refine ⟨fun h => absurd h (by decide), fun _ => ?_⟩ | refine ⟨inI_of (by omega), ?_⟩ | refine ⟨⟨rfl, inI_of (by omega)⟩, ?_⟩ | refine ⟨⟨rfl, by decide⟩, ?_⟩ | (apply Exists.intro; refine ⟨?_, ?_⟩; ((try simp only); (try simp only [Nat.zero_add]); (try simp only [Nat.mul_one]); (try simp only [Int.toNat_natCast]); exact at_g (by omega))) | (apply Exists.intro; refine ⟨?_, ?_⟩; ((try simp only); (try simp only [Nat.zero_add]); (try simp only [Nat.mul_one]); (try simp only [Int.toNat_natCast]); exact put_flat (by omega))) | refine ⟨_, cut_all (by omega), ?_⟩ | refine ⟨_, lay_all (by omega) (by omega), ?_⟩ | refine ⟨_, lay_all (by (try simp only); (try simp only [List.length_replicate]); (try simp only [List.length_cons]); (try simp only [List.length_nil]); omega) (by omega), ?_⟩ | refine ⟨by omega, ?_⟩ | refine ⟨len_flat (by omega), ?_⟩ | refine ⟨apart_uv _ _ _, ?_⟩ | refine ⟨_, resSlot_own rfl (by omega) (by first | exact .inl rfl | exact .inr ⟨rfl, rfl⟩), ?_⟩ | refine ⟨(by kernel_rfl : regB _ = true), ?_⟩ | refine ⟨⟨rfl, inI_of (by omega), by decide⟩, ?_⟩ | (apply Exists.intro; refine ⟨?_, ?_⟩; ((try simp only); (try simp only [Nat.zero_add]); (try simp only [Nat.mul_one]); (try simp only [Int.toNat_natCast]); exact at_drop_g (by omega))) | (apply Exists.intro; refine ⟨?_, ?_⟩; ((try simp only); (try simp only [Nat.zero_add]); (try simp only [Nat.mul_one]); (try simp only [Int.toNat_natCast]); exact cut_rest (by omega)))); conv => whnf))
    rfl
end Go.Proofs.Ytgkccfjjjamhoaa
