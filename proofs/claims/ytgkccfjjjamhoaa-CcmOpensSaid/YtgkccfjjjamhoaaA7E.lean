/-
  Layer 7: what the statements' functions call; CcmSeals, CcmEdges, CcmValid.
-/
import Derived.Test.YtgkccfjjjamhoaaA7D
namespace Go.Proofs.Ytgkccfjjjamhoaa
open Go.RowKit

def orc7e (f : Nat) (ds : List LV) : Option LRes :=
  match f with
  | 10 => match ds with
    | [.v (.int .i64 n)] => some (paramsR n)
    | _ => none
  | 17 => match ds with
    | [] => some (ret1 (.v (.bool true)))
    | _ => none
  | _ => orc7d f ds
theorem orc7e_ok : Known Try.prog orc7e := by
  intro f ds r h
  unfold orc7e at h
  split at h
  · split at h
    · cases h
      exact ⟨⟨_, Try.func10, name_ne _ (by kernel_rfl), rfl⟩, execF_ok follows_ok E7d_ok Try.func10 (params_exec _)⟩
    · cases h
  · split at h
    · cases h
      exact ⟨⟨_, Try.func17, name_ne _ (by kernel_rfl), rfl⟩, execF_ok follows_ok E7d_ok Try.func17 awake7_exec⟩
    · cases h
  · exact orc7d_ok f ds r h
def E7e : Env := ⟨tyL, orc7e, false, noWk, noOrw⟩
theorem E7e_ok : EnvOk Try.prog E7e := ⟨tyL_ok, orc7e_ok, noOrw_ok⟩
section
variable (K N A L : Nat) (c c2 c3 c4 : Option Nat) (k v x b : List Int) (t : Int) (h1 : k.length = K) (h2 : By k) (h3 : v.length = N) (h5 : By v) (h6 : x.length = A) (h8 : By x) (h9 : b.length = L) (h11 : By b)
include h1 h2 h3 h5 h6 h8 h9 h11
theorem ePSeal : E7e.orc 19 [.im 1 K c (.flat .u8 k), .im 1 N c2 (.flat .u8 v), .im 1 A c3 (.flat .u8 x), .im 1 L c4 (.flat .u8 b), .v (.int .i64 t)] = some (sealR k v x b t) := if_pos ⟨h1, h2.ok, h3, h5.ok, h6, h8.ok, h9, h11.ok⟩
theorem eRSeal : E7e.orc 20 [.im 1 K c (.flat .u8 k), .im 1 N c2 (.flat .u8 v), .im 1 A c3 (.flat .u8 x), .im 1 L c4 (.flat .u8 b), .v (.int .i64 t)] = some (sealR k v x b t) := if_pos ⟨h1, h2.ok, h3, h5.ok, h6, h8.ok, h9, h11.ok⟩
theorem ePOpen (h : L ≤ c4.getD L) : E7e.orc 22 [.im 1 K c (.flat .u8 k), .im 1 N c2 (.flat .u8 v), .im 1 A c3 (.flat .u8 x), .im 1 L c4 (.flat .u8 b), .v (.int .i64 t)] = some (openR k v x b t) := if_pos ⟨h1, h2.ok, h3, h5.ok, h6, h8.ok, h9, h11.ok, h⟩
theorem eROpen (h : L ≤ c4.getD L) : E7e.orc 23 [.im 1 K c (.flat .u8 k), .im 1 N c2 (.flat .u8 v), .im 1 A c3 (.flat .u8 x), .im 1 L c4 (.flat .u8 b), .v (.int .i64 t)] = some (openR k v x b t) := if_pos ⟨h1, h2.ok, h3, h5.ok, h6, h8.ok, h9, h11.ok, h⟩
omit h6 h8
theorem ePSealN : E7e.orc 19 [.im 1 K c (.flat .u8 k), .im 1 N c2 (.flat .u8 v), .v (.slice none 0 0), .im 1 L c4 (.flat .u8 b), .v (.int .i64 t)] = some (sealR k v [] b t) := if_pos ⟨h1, h2.ok, h3, h5.ok, h9, h11.ok⟩
theorem ePOpenN (h : L ≤ c4.getD L) : E7e.orc 22 [.im 1 K c (.flat .u8 k), .im 1 N c2 (.flat .u8 v), .v (.slice none 0 0), .im 1 L c4 (.flat .u8 b), .v (.int .i64 t)] = some (openR k v [] b t) := if_pos ⟨h1, h2.ok, h3, h5.ok, h9, h11.ok, h⟩
end
theorem eMod (v n r : Int) (hn : 0 < n ∧ n < 9223372036854775808) (hr : v % n = r) : E7e.orc 13 [.v (.int .i64 v), .v (.int .i64 n)] = some (ret1 (.v (.int .i64 r))) := by
  subst hr
  exact if_pos hn
theorem eSome (k : Int) (m : Nat) (h : m ≤ 100000 ∧ 0 < m) : E7e.orc 14 [.v (.int .i64 k), .v (.int .i64 (m : Nat))] = some (LRes.one (.own 1 m 5 (.flat .u8 (smP k m)))) := if_pos h
theorem eShort (n : Nat) (c : Option Nat) (x : Cont) (b : Bool) (h : decide ((n : Int) ≤ 600) = b) : E7e.orc 18 [.im 1 n c x] = some (ret1 (.v (.bool b))) := by
  subst h
  rfl
theorem eParams (n : Int) : E7e.orc 10 [.v (.int .i64 n)] = some (paramsR n) := rfl
theorem pT_ok (n : Int) : (4 ≤ pT n ∧ pT n ≤ 16) ∧ (pT n).tmod 2 = 0 := by
  unfold pT
  refine ⟨by omega, ?_⟩
  rw [Int.tmod_eq_emod_of_nonneg (by omega)]
  omega
theorem pN_ok (n : Int) : 7 ≤ pN n ∧ pN n ≤ 13 := by
  unfold pN
  omega
theorem pOK (n : Int) : okP 16 (pN n) (pT n) = true := by
  have h1 := pT_ok n
  have h2 := pN_ok n
  simp [okP, h1, h2]
/-- What params gives: a key, a nonce, a tag. -/
theorem params_of (n : Int) : ∃ (k v : List Int) (t : Int) (M T : Nat), E7e.orc 10 [.v (.int .i64 n)] = some (.many [.own 1 16 5 (.flat .u8 k), .own 1 M 5 (.flat .u8 v), .val (iv .i64 t)]) ∧
    k.length = 16 ∧ By k ∧ v.length = M ∧ By v ∧ (7 ≤ M ∧ M ≤ 13) ∧ (4 ≤ t ∧ t ≤ 16) ∧ t = (T : Int) ∧ okP 16 M t = true :=
  ⟨smP n 16, smP (IntKind.i64.wrap (n.tdiv 3)) (pN n), pT n, pN n, (pT n).toNat, rfl, smP_len _ _, smP_by _ _, smP_len _ _, smP_by _ _, pN_ok n, (pT_ok n).1, by have := (pT_ok n).1; omega, pOK n⟩
theorem sealR_ok {k v x b : List Int} {t : Int} {M T : Nat} (hk : k.length = 16) (hv : v.length = M) (ht : t = (T : Int)) (ho : okP 16 M t = true) (h1 : x.length ≤ 4096) (h2 : b.length ≤ 4096) : sealR k v x b t = ret2 (.own 1 (b.length + T) 5 (.flat .u8 (sealP k v x b t))) 0 := by
  rw [sealR, hk, hv, ho, if_neg (by simp), if_neg (by omega), ht, Int.toNat_natCast]
theorem sealR_lim {k v x b : List Int} {t : Int} {M : Nat} (hk : k.length = 16) (hv : v.length = M) (ho : okP 16 M t = true) (h : 4096 < x.length ∨ 4096 < b.length) : sealR k v x b t = no2 8 := by
  rw [sealR, hk, hv, ho, if_neg (by simp), if_pos h]
theorem nil_str {E : Env} {β : Nat → Option Blk} {src dst e z a1 a2 a4 a5 a7 a8 : Nat} {g1 g2 g3 : Bool} {o1 o2 o3 : Option Cont} (h1 : E.T src = some ⟨.slice e z, a1, a2, g1, o1⟩) (h2 : E.T dst = some ⟨.str, a4, a5, g2, o2⟩) (h3 : E.T e = some ⟨.int .u8, a7, a8, g3, o3⟩) :
    convV E β src dst nilV = some (.str []) := by simp [convV, h1, h2, h3, shown]

set_option maxRecDepth 100000 in
set_option maxHeartbeats 4000000 in
theorem CcmSeals_exec (key nonce aad plain : List Int) (tag n : Int) (hkb : By key) (hnb : By nonce) (hab : By aad) (hpb : By plain) :
    execF E7e Try.f4 [.im 1 key.length none (.flat .u8 key), .im 1 nonce.length none (.flat .u8 nonce), .im 1 aad.length none (.flat .u8 aad), .im 1 plain.length none (.flat .u8 plain), iv .i64 tag, iv .i64 n] (ret1 (.v (.bool true))) := by
  obtain ⟨K, hK⟩ : ∃ N, key.length = N := ⟨_, rfl⟩
  obtain ⟨N, hN⟩ : ∃ N, nonce.length = N := ⟨_, rfl⟩
  obtain ⟨A, hA⟩ : ∃ N, aad.length = N := ⟨_, rfl⟩
  obtain ⟨L, hL⟩ : ∃ N, plain.length = N := ⟨_, rfl⟩
  rw [hK, hN, hA, hL]
  by_cases h1 : A ≤ 600
  case neg =>
    have s1 := eShort A none (.flat .u8 aad) false (by simp; omega)
    ((conv => whnf); repeat ((first | refine ⟨_, s1, ?_⟩ | refine ⟨_, rfl, ?_⟩ | refine ⟨by decide, ?_⟩ | refine ⟨rfl, ?_⟩ | refine ⟨fun _ => ?_, fun h => absurd h (by decide)⟩ | refine ⟨fun h => absurd h (by decide), fun _ => ?_⟩ | refine ⟨inI_of (by omega), ?_⟩ | refine ⟨⟨rfl, inI_of (by omega)⟩, ?_⟩ | refine ⟨⟨rfl, by decide⟩, ?_⟩ | (apply Exists.intro; refine ⟨?_, ?_⟩; ((try simp only); (try simp only [Nat.zero_add]); (try simp only [Nat.mul_one]); (try simp only [Int.toNat_natCast]); exact at_g (by omega))) | (apply Exists.intro; refine ⟨?_, ?_⟩; ((try simp only); (try simp only [Nat.zero_add]); (try simp only [Nat.mul_one]); (try simp only [Int.toNat_natCast]); exact put_flat (by omega))) | refine ⟨_, cut_all (by omega), ?_⟩ | refine ⟨_, lay_all (by omega) (by omega), ?_⟩ | refine ⟨_, lay_all (by (try simp only); (try simp only [List.length_replicate]); (try simp only [List.length_cons]); (try simp only [List.length_nil]); omega) (by omega), ?_⟩ | refine ⟨by omega, ?_⟩ | refine ⟨len_flat (by omega), ?_⟩ | refine ⟨apart_uv _ _ _, ?_⟩ | refine ⟨_, resSlot_own rfl (by omega) (by first | exact .inl rfl | exact .inr ⟨rfl, rfl⟩), ?_⟩ | refine ⟨(by kernel_rfl : regB _ = true), ?_⟩ | refine ⟨⟨rfl, inI_of (by omega), by decide⟩, ?_⟩ | (apply Exists.intro; refine ⟨?_, ?_⟩; ((try simp only); (try simp only [Nat.zero_add]); (try simp only [Nat.mul_one]); (try simp only [Int.toNat_natCast]); exact at_drop_g (by omega))) | (apply Exists.intro; refine ⟨?_, ?_⟩; ((try simp only); (try simp only [Nat.zero_add]); (try simp only [Nat.mul_one]); (try simp only [Int.toNat_natCast]); exact cut_rest (by omega)))); conv => whnf))
    rfl
  have s1 := eShort A none (.flat .u8 aad) true (by simp; omega)
  by_cases h2 : L ≤ 600
  case neg =>
    have s2 := eShort L none (.flat .u8 plain) false (by simp; omega)
    ((conv => whnf); repeat ((first | refine ⟨_, s1, ?_⟩ | refine ⟨_, s2, ?_⟩ | refine ⟨_, rfl, ?_⟩ | refine ⟨by decide, ?_⟩ | refine ⟨rfl, ?_⟩ | refine ⟨fun _ => ?_, fun h => absurd h (by decide)⟩ | refine ⟨fun h => absurd h (by decide), fun _ => ?_⟩ | refine ⟨inI_of (by omega), ?_⟩ | refine ⟨⟨rfl, inI_of (by omega)⟩, ?_⟩ | refine ⟨⟨rfl, by decide⟩, ?_⟩ | (apply Exists.intro; refine ⟨?_, ?_⟩; ((try simp only); (try simp only [Nat.zero_add]); (try simp only [Nat.mul_one]); (try simp only [Int.toNat_natCast]); exact at_g (by omega))) | (apply Exists.intro; refine ⟨?_, ?_⟩; ((try simp only); (try simp only [Nat.zero_add]); (try simp only [Nat.mul_one]); (try simp only [Int.toNat_natCast]); exact put_flat (by omega))) | refine ⟨_, cut_all (by omega), ?_⟩ | refine ⟨_, lay_all (by omega) (by omega), ?_⟩ | refine ⟨_, lay_all (by (try simp only); (try simp only [List.length_replicate]); (try simp only [List.length_cons]); (try simp only [List.length_nil]); omega) (by omega), ?_⟩ | refine ⟨by omega, ?_⟩ | refine ⟨len_flat (by omega), ?_⟩ | refine ⟨apart_uv _ _ _, ?_⟩ | refine ⟨_, resSlot_own rfl (by omega) (by first | exact .inl rfl | exact .inr ⟨rfl, rfl⟩), ?_⟩ | refine ⟨(by kernel_rfl : regB _ = true), ?_⟩ | refine ⟨⟨rfl, inI_of (by omega), by decide⟩, ?_⟩ | (apply Exists.intro; refine ⟨?_, ?_⟩; ((try simp only); (try simp only [Nat.zero_add]); (try simp only [Nat.mul_one]); (try simp only [Int.toNat_natCast]); exact at_drop_g (by omega))) | (apply Exists.intro; refine ⟨?_, ?_⟩; ((try simp only); (try simp only [Nat.zero_add]); (try simp only [Nat.mul_one]); (try simp only [Int.toNat_natCast]); exact cut_rest (by omega)))); conv => whnf))
    rfl
  have s2 := eShort L none (.flat .u8 plain) true (by simp; omega)
  obtain ⟨k, v, t, M, T, oP, lk, bk, lv, bv, hM, ht, hT, ho⟩ := params_of n
  have a1 := fun c c2 c3 c4 => ePSeal K N A L c c2 c3 c4 key nonce aad plain tag hK hkb hN hnb hA hab hL hpb
  have a2 := fun c c2 c3 c4 => eRSeal K N A L c c2 c3 c4 key nonce aad plain tag hK hkb hN hnb hA hab hL hpb
  have a3 := fun c c2 c3 c4 => ePSeal 16 M A L c c2 c3 c4 k v aad plain t lk bk lv bv hA hab hL hpb
  have a4 := fun c c2 c3 c4 => eRSeal 16 M A L c c2 c3 c4 k v aad plain t lk bk lv bv hA hab hL hpb
  have hs := sealR_ok (x := aad) (b := plain) lk lv hT ho (by omega) (by omega)
  rw [hL] at hs
  rw [hs] at a3 a4
  have hl := sealP_len (key := k) (nonce := v) (aad := aad) (plain := plain) (tag := t) ht.2
  have hb := sealP_by bk bv hab hpb t
  rw [hL, hT, Int.toNat_natCast, ← hT] at hl
  obtain ⟨S, hS⟩ : ∃ S, S = sealP k v aad plain t := ⟨_, rfl⟩
  rw [← hS] at a3 a4 hl hb
  have tS : (S.drop 0).take (L + T) = S := take_all (by omega)
  have qS := str_eql_self hb
  have ck : (Cont.flat .u8 k).cut 0 (16 * 1) = some (.flat .u8 k) := cut_all lk
  have cv : (Cont.flat .u8 v).cut 0 (M * 1) = some (.flat .u8 v) := cut_all (by omega)
  clear hs hS
  have hr : sealR key nonce aad plain tag = no2 1 ∨ ∃ (R : List Int) (m : Nat), sealR key nonce aad plain tag = ret2 (.own 1 m 5 (.flat .u8 R)) 0 ∧ R.length = m ∧ By R := by
    by_cases h0 : okP K N tag = false
    · exact .inl (by rw [sealR, hK, hN, if_pos h0])
    · have h0' : okP K N tag = true := by simpa using h0
      obtain ⟨e1, e2, e3, _⟩ := okP_true h0'
      subst e1
      have hT' : tag = ((tag.toNat : Nat) : Int) := by omega
      refine .inr ⟨_, _, sealR_ok hK hN hT' h0' (by omega) (by omega), ?_, sealP_by hkb hnb hab hpb tag⟩
      rw [sealP_len e3.2]
  rcases hr with hr | ⟨R, m, hr, hRl, hRb⟩
  · rw [hr] at a1 a2
    ((conv => whnf); repeat ((first | refine ⟨_, s1, ?_⟩ | refine ⟨_, s2, ?_⟩ | refine ⟨_, oP, ?_⟩ | refine ⟨_, a1 _ _ _ _, ?_⟩ | refine ⟨_, a2 _ _ _ _, ?_⟩ | refine ⟨_, a3 _ _ _ _, ?_⟩ | refine ⟨_, a4 _ _ _ _, ?_⟩ | refine ⟨_, expo_sl rfl ck, ?_⟩ | refine ⟨_, expo_sl rfl cv, ?_⟩ | refine ⟨_, conv_as rfl rfl rfl rfl rfl rfl (by omega) hb tS, ?_⟩ | refine ⟨_, qS, ?_⟩ | refine ⟨_, rfl, ?_⟩ | refine ⟨by decide, ?_⟩ | refine ⟨rfl, ?_⟩ | refine ⟨fun _ => ?_, fun h => absurd h (by decide)⟩ | refine ⟨fun h => absurd h (by decide), fun _ => ?_⟩ | refine ⟨inI_of (by omega), ?_⟩ | refine ⟨⟨rfl, inI_of (by omega)⟩, ?_⟩ | refine ⟨⟨rfl, by decide⟩, ?_⟩ | (apply Exists.intro; refine ⟨?_, ?_⟩; ((try simp only); (try simp only [Nat.zero_add]); (try simp only [Nat.mul_one]); (try simp only [Int.toNat_natCast]); exact at_g (by omega))) | (apply Exists.intro; refine ⟨?_, ?_⟩; ((try simp only); (try simp only [Nat.zero_add]); (try simp only [Nat.mul_one]); (try simp only [Int.toNat_natCast]); exact put_flat (by omega))) | refine ⟨_, cut_all (by omega), ?_⟩ | refine ⟨_, lay_all (by omega) (by omega), ?_⟩ | refine ⟨_, lay_all (by (try simp only); (try simp only [List.length_replicate]); (try simp only [List.length_cons]); (try simp only [List.length_nil]); omega) (by omega), ?_⟩ | refine ⟨by omega, ?_⟩ | refine ⟨len_flat (by omega), ?_⟩ | refine ⟨apart_uv _ _ _, ?_⟩ | refine ⟨_, resSlot_own rfl (by omega) (by first | exact .inl rfl | exact .inr ⟨rfl, rfl⟩), ?_⟩ | refine ⟨(by kernel_rfl : regB _ = true), ?_⟩ | refine ⟨⟨rfl, inI_of (by omega), by decide⟩, ?_⟩ | (apply Exists.intro; refine ⟨?_, ?_⟩; ((try simp only); (try simp only [Nat.zero_add]); (try simp only [Nat.mul_one]); (try simp only [Int.toNat_natCast]); exact at_drop_g (by omega))) | (apply Exists.intro; refine ⟨?_, ?_⟩; ((try simp only); (try simp only [Nat.zero_add]); (try simp only [Nat.mul_one]); (try simp only [Int.toNat_natCast]); exact cut_rest (by omega)))); conv => whnf))
    rfl
  · rw [hr] at a1 a2
    have tR : (R.drop 0).take m = R := take_all (by omega)
    have qR := str_eql_self hRb
    ((conv => whnf); repeat ((first | refine ⟨_, s1, ?_⟩ | refine ⟨_, s2, ?_⟩ | refine ⟨_, oP, ?_⟩ | refine ⟨_, a1 _ _ _ _, ?_⟩ | refine ⟨_, a2 _ _ _ _, ?_⟩ | refine ⟨_, a3 _ _ _ _, ?_⟩ | refine ⟨_, a4 _ _ _ _, ?_⟩ | refine ⟨_, expo_sl rfl ck, ?_⟩ | refine ⟨_, expo_sl rfl cv, ?_⟩ | refine ⟨_, conv_as rfl rfl rfl rfl rfl rfl (by omega) hb tS, ?_⟩ | refine ⟨_, conv_as rfl rfl rfl rfl rfl rfl (by omega) hRb tR, ?_⟩ | refine ⟨_, qS, ?_⟩ | refine ⟨_, qR, ?_⟩ | refine ⟨_, rfl, ?_⟩ | refine ⟨by decide, ?_⟩ | refine ⟨rfl, ?_⟩ | refine ⟨fun _ => ?_, fun h => absurd h (by decide)⟩ | refine ⟨fun h => absurd h (by decide), fun _ => ?_⟩ | refine ⟨inI_of (by omega), ?_⟩ | refine ⟨⟨rfl, inI_of (by omega)⟩, ?_⟩ | refine ⟨⟨rfl, by decide⟩, ?_⟩ | (apply Exists.intro; refine ⟨?_, ?_⟩; ((try simp only); (try simp only [Nat.zero_add]); (try simp only [Nat.mul_one]); (try simp only [Int.toNat_natCast]); exact at_g (by omega))) | (apply Exists.intro; refine ⟨?_, ?_⟩; ((try simp only); (try simp only [Nat.zero_add]); (try simp only [Nat.mul_one]); (try simp only [Int.toNat_natCast]); exact put_flat (by omega))) | refine ⟨_, cut_all (by omega), ?_⟩ | refine ⟨_, lay_all (by omega) (by omega), ?_⟩ | refine ⟨_, lay_all (by (try simp only); (try simp only [List.length_replicate]); (try simp only [List.length_cons]); (try simp only [List.length_nil]); omega) (by omega), ?_⟩ | refine ⟨by omega, ?_⟩ | refine ⟨len_flat (by omega), ?_⟩ | refine ⟨apart_uv _ _ _, ?_⟩ | refine ⟨_, resSlot_own rfl (by omega) (by first | exact .inl rfl | exact .inr ⟨rfl, rfl⟩), ?_⟩ | refine ⟨(by kernel_rfl : regB _ = true), ?_⟩ | refine ⟨⟨rfl, inI_of (by omega), by decide⟩, ?_⟩ | (apply Exists.intro; refine ⟨?_, ?_⟩; ((try simp only); (try simp only [Nat.zero_add]); (try simp only [Nat.mul_one]); (try simp only [Int.toNat_natCast]); exact at_drop_g (by omega))) | (apply Exists.intro; refine ⟨?_, ?_⟩; ((try simp only); (try simp only [Nat.zero_add]); (try simp only [Nat.mul_one]); (try simp only [Int.toNat_natCast]); exact cut_rest (by omega)))); conv => whnf))
    rfl
end Go.Proofs.Ytgkccfjjjamhoaa
