/-
  Layer 7: CcmBack, CcmRefuses.
-/
import Derived.Test.YtgkccfjjjamhoaaA7E
namespace Go.Proofs.Ytgkccfjjjamhoaa
open Go.RowKit

theorem sealP_take (k v x b : List Int) (t : Int) : (sealP k v x b t).take b.length = strF k v b 1 := by
  rw [sealP, List.take_append_of_le_length (by rw [strF_len]; exact Nat.le_refl _), List.take_of_length_le (by rw [strF_len]; exact Nat.le_refl _)]
theorem plainP_seal {k v x b : List Int} {t : Int} {T : Nat} (hk : By k) (hv : By v) (hb : By b) (hT : t = (T : Int)) (ht : t ≤ 16) : plainP k v (sealP k v x b t) t = b := by
  rw [plainP, sealP_len ht, hT, Int.toNat_natCast, Nat.add_sub_cancel, sealP_take, strF_strF hk hv hb]
theorem seal_inj {k v x b b' : List Int} {t : Int} {T : Nat} (hk : By k) (hv : By v) (hb : By b) (hb' : By b') (hT : t = (T : Int)) (ht : t ≤ 16) (h : sealP k v x b t = sealP k v x b' t) : b = b' := by
  rw [← plainP_seal (x := x) hk hv hb hT ht, h, plainP_seal hk hv hb' hT ht]
theorem open_seal {k v x b : List Int} {t : Int} {M T : Nat} (lk : k.length = 16) (hk : By k) (lv : v.length = M) (hv : By v) (hb : By b) (hT : t = (T : Int)) (ht : t ≤ 16) (ho : okP 16 M t = true) (h1 : x.length ≤ 4096) (h2 : b.length ≤ 4096) :
    openR k v x (sealP k v x b t) t = ret2 (.own 1 b.length 5 (.flat .u8 b)) 0 := by
  have hTn : t.toNat = T := by omega
  rw [openR, lk, lv, ho, sealP_len ht, hTn, if_neg (by simp), if_neg (by omega), if_neg (by omega), plainP_seal hk hv hb hT ht, if_pos rfl, Nat.add_sub_cancel]
theorem lists_beq {a b : List Int} : (a == b) = decide (a = b) := by
  rw [Bool.eq_iff_iff]
  simp

set_option maxRecDepth 100000 in
set_option maxHeartbeats 4000000 in
theorem CcmBack_exec (aad plain other : List Int) (n : Int) (hab : By aad) (hpb : By plain) (hob : By other) :
    execF E7e Try.f7 [.im 1 aad.length none (.flat .u8 aad), .im 1 plain.length none (.flat .u8 plain), .im 1 other.length none (.flat .u8 other), iv .i64 n] (ret1 (.v (.bool true))) := by
  obtain ⟨A, hA⟩ : ∃ N, aad.length = N := ⟨_, rfl⟩
  obtain ⟨L, hL⟩ : ∃ N, plain.length = N := ⟨_, rfl⟩
  obtain ⟨Q, hQ⟩ : ∃ N, other.length = N := ⟨_, rfl⟩
  rw [hA, hL, hQ]
  by_cases h1 : A ≤ 600
  case neg =>
    have s1 := eShort A none (.flat .u8 aad) false (by simp; omega)
    ((conv => whnf); repeat ((first | refine ⟨_, s1, ?_⟩ | refine ⟨_, rfl, ?_⟩ | refine ⟨by decide, ?_⟩ | refine ⟨rfl, ?_⟩ | refine ⟨fun _ => ?_, fun h => absurd h (by decide)⟩ | refine ⟨fun h => absurd h (by decide), fun _ => ?_⟩ | refine ⟨inI_of (by omega), ?_⟩ | refine ⟨⟨rfl, inI_of (by omega)⟩, ?_⟩ | refine ⟨⟨rfl, by decide⟩, ?_⟩ | (apply Exists.intro; refine ⟨?_, ?_⟩; ((try simp only); (try simp only [Nat.zero_add]); (try simp only [Nat.mul_one]); (try simp only [Int.toNat_natCast]); exact at_g (by omega))) | (apply Exists.intro; refine ⟨?_, ?_⟩; ((try simp only); (try simp only [Nat.zero_add]); (try simp only [Nat.mul_one]); (try simp only [Int.toNat_natCast]); exact put_flat (by omega))) | refine ⟨_, cut_all (by omega), ?_⟩ | refine ⟨_, lay_all (by omega) (by omega), ?_⟩ | refine ⟨_, lay_all (by (try simp only); (try simp only [List.length_replicate]); (try simp only [List.length_cons]); (try simp only [List.length_nil]); omega) (by omega), ?_⟩ | refine ⟨by omega, ?_⟩ | refine ⟨len_flat (by omega), ?_⟩ | refine ⟨apart_uv _ _ _, ?_⟩ | refine ⟨_, resSlot_own rfl (by omega) (by first | exact .inl rfl | exact .inr ⟨rfl, rfl⟩), ?_⟩ | refine ⟨(by kernel_rfl : regB _ = true), ?_⟩ | refine ⟨⟨rfl, inI_of (by omega), by decide⟩, ?_⟩ | (apply Exists.intro; refine ⟨?_, ?_⟩; ((try simp only); (try simp only [Nat.zero_add]); (try simp only [Nat.mul_one]); (try simp only [Int.toNat_natCast]); exact at_drop_g (by omega))) | (apply Exists.intro; refine ⟨?_, ?_⟩; ((try simp only); (try simp only [Nat.zero_add]); (try simp only [Nat.mul_one]); (try simp only [Int.toNat_natCast]); exact cut_rest (by omega)))); conv => whnf))
    rfl
  have s1 := eShort A none (.flat .u8 aad) true (by simp; omega)
  by_cases h2 : L ≤ 600
  case neg =>
    have s2 := eShort L none (.flat .u8 plain) false (by simp; omega)
    ((conv => whnf); repeat ((first | refine ⟨_, s1, ?_⟩ | refine ⟨_, s2, ?_⟩ | refine ⟨_, rfl, ?_⟩ | refine ⟨by decide, ?_⟩ | refine ⟨rfl, ?_⟩ | refine ⟨fun _ => ?_, fun h => absurd h (by decide)⟩ | refine ⟨fun h => absurd h (by decide), fun _ => ?_⟩ | refine ⟨inI_of (by omega), ?_⟩ | refine ⟨⟨rfl, inI_of (by omega)⟩, ?_⟩ | refine ⟨⟨rfl, by decide⟩, ?_⟩ | (apply Exists.intro; refine ⟨?_, ?_⟩; ((try simp only); (try simp only [Nat.zero_add]); (try simp only [Nat.mul_one]); (try simp only [Int.toNat_natCast]); exact at_g (by omega))) | (apply Exists.intro; refine ⟨?_, ?_⟩; ((try simp only); (try simp only [Nat.zero_add]); (try simp only [Nat.mul_one]); (try simp only [Int.toNat_natCast]); exact put_flat (by omega))) | refine ⟨_, cut_all (by omega), ?_⟩ | refine ⟨_, lay_all (by omega) (by omega), ?_⟩ | refine ⟨_, lay_all (by (try simp only); (try simp only [List.length_replicate]); (try simp only [List.length_cons]); (try simp only [List.length_nil]); omega) (by omega), ?_⟩ | refine ⟨by omega, ?_⟩ | refine ⟨len_flat (by omega), ?_⟩ | refine ⟨apart_uv _ _ _, ?_⟩ | refine ⟨_, resSlot_own rfl (by omega) (by first | exact .inl rfl | exact .inr ⟨rfl, rfl⟩), ?_⟩ | refine ⟨(by kernel_rfl : regB _ = true), ?_⟩ | refine ⟨⟨rfl, inI_of (by omega), by decide⟩, ?_⟩ | (apply Exists.intro; refine ⟨?_, ?_⟩; ((try simp only); (try simp only [Nat.zero_add]); (try simp only [Nat.mul_one]); (try simp only [Int.toNat_natCast]); exact at_drop_g (by omega))) | (apply Exists.intro; refine ⟨?_, ?_⟩; ((try simp only); (try simp only [Nat.zero_add]); (try simp only [Nat.mul_one]); (try simp only [Int.toNat_natCast]); exact cut_rest (by omega)))); conv => whnf))
    rfl
  have s2 := eShort L none (.flat .u8 plain) true (by simp; omega)
  by_cases h3 : Q ≤ 600
  case neg =>
    have s3 := eShort Q none (.flat .u8 other) false (by simp; omega)
    ((conv => whnf); repeat ((first | refine ⟨_, s1, ?_⟩ | refine ⟨_, s2, ?_⟩ | refine ⟨_, s3, ?_⟩ | refine ⟨_, rfl, ?_⟩ | refine ⟨by decide, ?_⟩ | refine ⟨rfl, ?_⟩ | refine ⟨fun _ => ?_, fun h => absurd h (by decide)⟩ | refine ⟨fun h => absurd h (by decide), fun _ => ?_⟩ | refine ⟨inI_of (by omega), ?_⟩ | refine ⟨⟨rfl, inI_of (by omega)⟩, ?_⟩ | refine ⟨⟨rfl, by decide⟩, ?_⟩ | (apply Exists.intro; refine ⟨?_, ?_⟩; ((try simp only); (try simp only [Nat.zero_add]); (try simp only [Nat.mul_one]); (try simp only [Int.toNat_natCast]); exact at_g (by omega))) | (apply Exists.intro; refine ⟨?_, ?_⟩; ((try simp only); (try simp only [Nat.zero_add]); (try simp only [Nat.mul_one]); (try simp only [Int.toNat_natCast]); exact put_flat (by omega))) | refine ⟨_, cut_all (by omega), ?_⟩ | refine ⟨_, lay_all (by omega) (by omega), ?_⟩ | refine ⟨_, lay_all (by (try simp only); (try simp only [List.length_replicate]); (try simp only [List.length_cons]); (try simp only [List.length_nil]); omega) (by omega), ?_⟩ | refine ⟨by omega, ?_⟩ | refine ⟨len_flat (by omega), ?_⟩ | refine ⟨apart_uv _ _ _, ?_⟩ | refine ⟨_, resSlot_own rfl (by omega) (by first | exact .inl rfl | exact .inr ⟨rfl, rfl⟩), ?_⟩ | refine ⟨(by kernel_rfl : regB _ = true), ?_⟩ | refine ⟨⟨rfl, inI_of (by omega), by decide⟩, ?_⟩ | (apply Exists.intro; refine ⟨?_, ?_⟩; ((try simp only); (try simp only [Nat.zero_add]); (try simp only [Nat.mul_one]); (try simp only [Int.toNat_natCast]); exact at_drop_g (by omega))) | (apply Exists.intro; refine ⟨?_, ?_⟩; ((try simp only); (try simp only [Nat.zero_add]); (try simp only [Nat.mul_one]); (try simp only [Int.toNat_natCast]); exact cut_rest (by omega)))); conv => whnf))
    rfl
  have s3 := eShort Q none (.flat .u8 other) true (by simp; omega)
  obtain ⟨k, v, t, M, T, oP, lk, bk, lv, bv, hM, ht, hT, ho⟩ := params_of n
  have a1 := fun c c2 c3 c4 => ePSeal 16 M A L c c2 c3 c4 k v aad plain t lk bk lv bv hA hab hL hpb
  have a2 := fun c c2 c3 c4 => ePSeal 16 M A Q c c2 c3 c4 k v aad other t lk bk lv bv hA hab hQ hob
  rw [sealR_ok (x := aad) (b := plain) lk lv hT ho (by omega) (by omega), hL] at a1
  rw [sealR_ok (x := aad) (b := other) lk lv hT ho (by omega) (by omega), hQ] at a2
  have l1 := sealP_len (key := k) (nonce := v) (aad := aad) (plain := plain) (tag := t) ht.2
  have l2 := sealP_len (key := k) (nonce := v) (aad := aad) (plain := other) (tag := t) ht.2
  have b1 := sealP_by bk bv hab hpb t
  have b2 := sealP_by bk bv hab hob t
  rw [hL, hT, Int.toNat_natCast, ← hT] at l1
  rw [hQ, hT, Int.toNat_natCast, ← hT] at l2
  have o1 := open_seal (x := aad) lk bk lv bv hpb hT ht.2 ho (by omega) (by omega)
  rw [hL] at o1
  have q5 : ((sealP k v aad plain t == sealP k v aad other t) == (plain == other)) = true := by
    rw [lists_beq, lists_beq, beq_iff_eq, decide_eq_decide]
    exact ⟨fun h => seal_inj bk bv hpb hob hT ht.2 h, fun h => by rw [h]⟩
  obtain ⟨C, hC⟩ : ∃ S, S = sealP k v aad plain t := ⟨_, rfl⟩
  obtain ⟨D, hD⟩ : ∃ S, S = sealP k v aad other t := ⟨_, rfl⟩
  rw [← hC] at a1 l1 b1 o1 q5
  rw [← hD] at a2 l2 b2 q5
  have a3 := fun c c2 c3 => ePOpen 16 M A (L + T) c c2 c3 none k v aad C t lk bk lv bv hA hab l1 b1 (Nat.le_refl _)
  rw [o1] at a3
  have tC : (C.drop 0).take (L + T) = C := take_all (by omega)
  have tD : (D.drop 0).take (Q + T) = D := take_all (by omega)
  have tp : (plain.drop 0).take L = plain := take_all (by omega)
  have q3 : (((L + T : Nat) : Int) == IntKind.i64.wrap ((L : Int) + t)) = true := by
    rw [wrap64 (by omega), hT]
    simp
  have q4 := str_eql_self hpb
  have q6 := str_eql b1 b2
  have q7 := str_eql hpb hob
  have ck : (Cont.flat .u8 k).cut 0 (16 * 1) = some (.flat .u8 k) := cut_all lk
  have cv : (Cont.flat .u8 v).cut 0 (M * 1) = some (.flat .u8 v) := cut_all (by omega)
  have cC : (Cont.flat .u8 C).cut 0 ((L + T) * 1) = some (.flat .u8 C) := cut_all (by omega)
  clear hC hD o1
  ((conv => whnf); repeat ((first | refine ⟨_, s1, ?_⟩ | refine ⟨_, s2, ?_⟩ | refine ⟨_, s3, ?_⟩ | refine ⟨_, oP, ?_⟩ | refine ⟨_, a1 _ _ _ _, ?_⟩ | refine ⟨_, a2 _ _ _ _, ?_⟩ | refine ⟨_, a3 _ _ _, ?_⟩ | refine ⟨_, expo_sl rfl ck, ?_⟩ | refine ⟨_, expo_sl rfl cv, ?_⟩ | refine ⟨_, expo_sl rfl cC, ?_⟩ | refine ⟨fun _ => ?_, fun h => absurd ((q3).symm.trans h) (by decide)⟩ | refine ⟨fun h => absurd ((q3).symm.trans h) (by decide), fun _ => ?_⟩ | refine ⟨fun _ => ?_, fun h => absurd ((q5).symm.trans h) (by decide)⟩ | refine ⟨fun h => absurd ((q5).symm.trans h) (by decide), fun _ => ?_⟩ | refine ⟨_, conv_as rfl rfl rfl rfl rfl rfl (by omega) b1 tC, ?_⟩ | refine ⟨_, conv_as rfl rfl rfl rfl rfl rfl (by omega) b2 tD, ?_⟩ | refine ⟨_, conv_as rfl rfl rfl rfl rfl rfl (by omega) hpb tp, ?_⟩ | refine ⟨_, conv_im rfl rfl rfl hL hpb, ?_⟩ | refine ⟨_, conv_im rfl rfl rfl hQ hob, ?_⟩ | refine ⟨_, q4, ?_⟩ | refine ⟨_, q6, ?_⟩ | refine ⟨_, q7, ?_⟩ | refine ⟨_, rfl, ?_⟩ | refine ⟨by decide, ?_⟩ | refine ⟨rfl, ?_⟩ | refine ⟨fun _ => ?_, fun h => absurd h (by decide)⟩ | refine ⟨fun h => absurd h (by decide), fun _ => ?_⟩ | refine ⟨inI_of (by omega), ?_⟩ | refine ⟨⟨rfl, inI_of (by omega)⟩, ?_⟩ | refine ⟨⟨rfl, by decide⟩, ?_⟩ | (apply Exists.intro; refine ⟨?_, ?_⟩; ((try simp only); (try simp only [Nat.zero_add]); (try simp only [Nat.mul_one]); (try simp only [Int.toNat_natCast]); exact at_g (by omega))) | (apply Exists.intro; refine ⟨?_, ?_⟩; ((try simp only); (try simp only [Nat.zero_add]); (try simp only [Nat.mul_one]); (try simp only [Int.toNat_natCast]); exact put_flat (by omega))) | refine ⟨_, cut_all (by omega), ?_⟩ | refine ⟨_, lay_all (by omega) (by omega), ?_⟩ | refine ⟨_, lay_all (by (try simp only); (try simp only [List.length_replicate]); (try simp only [List.length_cons]); (try simp only [List.length_nil]); omega) (by omega), ?_⟩ | refine ⟨by omega, ?_⟩ | refine ⟨len_flat (by omega), ?_⟩ | refine ⟨apart_uv _ _ _, ?_⟩ | refine ⟨_, resSlot_own rfl (by omega) (by first | exact .inl rfl | exact .inr ⟨rfl, rfl⟩), ?_⟩ | refine ⟨(by kernel_rfl : regB _ = true), ?_⟩ | refine ⟨⟨rfl, inI_of (by omega), by decide⟩, ?_⟩ | (apply Exists.intro; refine ⟨?_, ?_⟩; ((try simp only); (try simp only [Nat.zero_add]); (try simp only [Nat.mul_one]); (try simp only [Int.toNat_natCast]); exact at_drop_g (by omega))) | (apply Exists.intro; refine ⟨?_, ?_⟩; ((try simp only); (try simp only [Nat.zero_add]); (try simp only [Nat.mul_one]); (try simp only [Int.toNat_natCast]); exact cut_rest (by omega)))); conv => whnf))
  rfl

set_option maxRecDepth 100000 in
set_option maxHeartbeats 4000000 in
theorem CcmRefuses_exec (aad cipher : List Int) (n : Int) (hab : By aad) (hcb : By cipher) :
    execF E7e Try.f8 [.im 1 aad.length none (.flat .u8 aad), .im 1 cipher.length none (.flat .u8 cipher), iv .i64 n] (ret1 (.v (.bool true))) := by
  obtain ⟨A, hA⟩ : ∃ N, aad.length = N := ⟨_, rfl⟩
  obtain ⟨L, hL⟩ : ∃ N, cipher.length = N := ⟨_, rfl⟩
  rw [hA, hL]
  by_cases h1 : A ≤ 600
  case neg =>
    have s1 := eShort A none (.flat .u8 aad) false (by simp; omega)
    ((conv => whnf); repeat ((first | refine ⟨_, s1, ?_⟩ | refine ⟨_, rfl, ?_⟩ | refine ⟨by decide, ?_⟩ | refine ⟨rfl, ?_⟩ | refine ⟨fun _ => ?_, fun h => absurd h (by decide)⟩ | refine ⟨fun h => absurd h (by decide), fun _ => ?_⟩ | refine ⟨inI_of (by omega), ?_⟩ | refine ⟨⟨rfl, inI_of (by omega)⟩, ?_⟩ | refine ⟨⟨rfl, by decide⟩, ?_⟩ | (apply Exists.intro; refine ⟨?_, ?_⟩; ((try simp only); (try simp only [Nat.zero_add]); (try simp only [Nat.mul_one]); (try simp only [Int.toNat_natCast]); exact at_g (by omega))) | (apply Exists.intro; refine ⟨?_, ?_⟩; ((try simp only); (try simp only [Nat.zero_add]); (try simp only [Nat.mul_one]); (try simp only [Int.toNat_natCast]); exact put_flat (by omega))) | refine ⟨_, cut_all (by omega), ?_⟩ | refine ⟨_, lay_all (by omega) (by omega), ?_⟩ | refine ⟨_, lay_all (by (try simp only); (try simp only [List.length_replicate]); (try simp only [List.length_cons]); (try simp only [List.length_nil]); omega) (by omega), ?_⟩ | refine ⟨by omega, ?_⟩ | refine ⟨len_flat (by omega), ?_⟩ | refine ⟨apart_uv _ _ _, ?_⟩ | refine ⟨_, resSlot_own rfl (by omega) (by first | exact .inl rfl | exact .inr ⟨rfl, rfl⟩), ?_⟩ | refine ⟨(by kernel_rfl : regB _ = true), ?_⟩ | refine ⟨⟨rfl, inI_of (by omega), by decide⟩, ?_⟩ | (apply Exists.intro; refine ⟨?_, ?_⟩; ((try simp only); (try simp only [Nat.zero_add]); (try simp only [Nat.mul_one]); (try simp only [Int.toNat_natCast]); exact at_drop_g (by omega))) | (apply Exists.intro; refine ⟨?_, ?_⟩; ((try simp only); (try simp only [Nat.zero_add]); (try simp only [Nat.mul_one]); (try simp only [Int.toNat_natCast]); exact cut_rest (by omega)))); conv => whnf))
    rfl
  have s1 := eShort A none (.flat .u8 aad) true (by simp; omega)
  by_cases h2 : L ≤ 600
  case neg =>
    have s2 := eShort L none (.flat .u8 cipher) false (by simp; omega)
    ((conv => whnf); repeat ((first | refine ⟨_, s1, ?_⟩ | refine ⟨_, s2, ?_⟩ | refine ⟨_, rfl, ?_⟩ | refine ⟨by decide, ?_⟩ | refine ⟨rfl, ?_⟩ | refine ⟨fun _ => ?_, fun h => absurd h (by decide)⟩ | refine ⟨fun h => absurd h (by decide), fun _ => ?_⟩ | refine ⟨inI_of (by omega), ?_⟩ | refine ⟨⟨rfl, inI_of (by omega)⟩, ?_⟩ | refine ⟨⟨rfl, by decide⟩, ?_⟩ | (apply Exists.intro; refine ⟨?_, ?_⟩; ((try simp only); (try simp only [Nat.zero_add]); (try simp only [Nat.mul_one]); (try simp only [Int.toNat_natCast]); exact at_g (by omega))) | (apply Exists.intro; refine ⟨?_, ?_⟩; ((try simp only); (try simp only [Nat.zero_add]); (try simp only [Nat.mul_one]); (try simp only [Int.toNat_natCast]); exact put_flat (by omega))) | refine ⟨_, cut_all (by omega), ?_⟩ | refine ⟨_, lay_all (by omega) (by omega), ?_⟩ | refine ⟨_, lay_all (by (try simp only); (try simp only [List.length_replicate]); (try simp only [List.length_cons]); (try simp only [List.length_nil]); omega) (by omega), ?_⟩ | refine ⟨by omega, ?_⟩ | refine ⟨len_flat (by omega), ?_⟩ | refine ⟨apart_uv _ _ _, ?_⟩ | refine ⟨_, resSlot_own rfl (by omega) (by first | exact .inl rfl | exact .inr ⟨rfl, rfl⟩), ?_⟩ | refine ⟨(by kernel_rfl : regB _ = true), ?_⟩ | refine ⟨⟨rfl, inI_of (by omega), by decide⟩, ?_⟩ | (apply Exists.intro; refine ⟨?_, ?_⟩; ((try simp only); (try simp only [Nat.zero_add]); (try simp only [Nat.mul_one]); (try simp only [Int.toNat_natCast]); exact at_drop_g (by omega))) | (apply Exists.intro; refine ⟨?_, ?_⟩; ((try simp only); (try simp only [Nat.zero_add]); (try simp only [Nat.mul_one]); (try simp only [Int.toNat_natCast]); exact cut_rest (by omega)))); conv => whnf))
    rfl
  have s2 := eShort L none (.flat .u8 cipher) true (by simp; omega)
  obtain ⟨k, v, t, M, T, oP, lk, bk, lv, bv, hM, ht, hT, ho⟩ := params_of n
  have hTn : t.toNat = T := by omega
  have ck : (Cont.flat .u8 k).cut 0 (16 * 1) = some (.flat .u8 k) := cut_all lk
  have cv : (Cont.flat .u8 v).cut 0 (M * 1) = some (.flat .u8 v) := cut_all (by omega)
  have a1 := fun c c2 c3 => ePOpen 16 M A L c c2 c3 none k v aad cipher t lk bk lv bv hA hab hL hcb (Nat.le_refl _)
  have ho2 : openR k v aad cipher t = if L < T then no2 2 else if sealP k v aad (plainP k v cipher t) t = cipher then ret2 (.own 1 (L - T) 5 (.flat .u8 (plainP k v cipher t))) 0 else no2 11 := by
    rw [openR, lk, lv, ho, hA, hL, hTn, if_neg (by simp), if_neg (by omega)]
  rw [ho2] at a1
  clear ho2
  by_cases h3 : L < T
  · rw [if_pos h3] at a1
    have q1 : decide ((L : Int) < t) = true := by simp; omega
    ((conv => whnf); repeat ((first | refine ⟨_, s1, ?_⟩ | refine ⟨_, s2, ?_⟩ | refine ⟨_, oP, ?_⟩ | refine ⟨_, a1 _ _ _, ?_⟩ | refine ⟨_, expo_sl rfl ck, ?_⟩ | refine ⟨_, expo_sl rfl cv, ?_⟩ | refine ⟨fun _ => ?_, fun h => absurd ((q1).symm.trans h) (by decide)⟩ | refine ⟨fun h => absurd ((q1).symm.trans h) (by decide), fun _ => ?_⟩ | refine ⟨fun _ => ?_, fun h => absurd (((show (((2 : Int) == 2) == decide ((L : Int) < t)) = true by rw [q1]; rfl)).symm.trans h) (by decide)⟩ | refine ⟨fun h => absurd (((show (((2 : Int) == 2) == decide ((L : Int) < t)) = true by rw [q1]; rfl)).symm.trans h) (by decide), fun _ => ?_⟩ | refine ⟨_, rfl, ?_⟩ | refine ⟨by decide, ?_⟩ | refine ⟨rfl, ?_⟩ | refine ⟨fun _ => ?_, fun h => absurd h (by decide)⟩ | refine ⟨fun h => absurd h (by decide), fun _ => ?_⟩ | refine ⟨inI_of (by omega), ?_⟩ | refine ⟨⟨rfl, inI_of (by omega)⟩, ?_⟩ | refine ⟨⟨rfl, by decide⟩, ?_⟩ | (apply Exists.intro; refine ⟨?_, ?_⟩; ((try simp only); (try simp only [Nat.zero_add]); (try simp only [Nat.mul_one]); (try simp only [Int.toNat_natCast]); exact at_g (by omega))) | (apply Exists.intro; refine ⟨?_, ?_⟩; ((try simp only); (try simp only [Nat.zero_add]); (try simp only [Nat.mul_one]); (try simp only [Int.toNat_natCast]); exact put_flat (by omega))) | refine ⟨_, cut_all (by omega), ?_⟩ | refine ⟨_, lay_all (by omega) (by omega), ?_⟩ | refine ⟨_, lay_all (by (try simp only); (try simp only [List.length_replicate]); (try simp only [List.length_cons]); (try simp only [List.length_nil]); omega) (by omega), ?_⟩ | refine ⟨by omega, ?_⟩ | refine ⟨len_flat (by omega), ?_⟩ | refine ⟨apart_uv _ _ _, ?_⟩ | refine ⟨_, resSlot_own rfl (by omega) (by first | exact .inl rfl | exact .inr ⟨rfl, rfl⟩), ?_⟩ | refine ⟨(by kernel_rfl : regB _ = true), ?_⟩ | refine ⟨⟨rfl, inI_of (by omega), by decide⟩, ?_⟩ | (apply Exists.intro; refine ⟨?_, ?_⟩; ((try simp only); (try simp only [Nat.zero_add]); (try simp only [Nat.mul_one]); (try simp only [Int.toNat_natCast]); exact at_drop_g (by omega))) | (apply Exists.intro; refine ⟨?_, ?_⟩; ((try simp only); (try simp only [Nat.zero_add]); (try simp only [Nat.mul_one]); (try simp only [Int.toNat_natCast]); exact cut_rest (by omega)))); conv => whnf))
    rfl
  rw [if_neg h3] at a1
  have q1 : decide ((L : Int) < t) = false := by simp; omega
  have hpl : (plainP k v cipher t).length = L - T := by rw [plainP, strF_len, hL, hTn]; simp; omega
  have hpb : By (plainP k v cipher t) := by rw [plainP]; exact strF_by bk bv (hcb.take _) _
  obtain ⟨p, hp⟩ : ∃ p, p = plainP k v cipher t := ⟨_, rfl⟩
  rw [← hp] at a1 hpl hpb
  clear hp
  by_cases h4 : sealP k v aad p t = cipher
  · rw [if_pos h4] at a1
    have a2 := fun c c2 c3 c4 => ePSeal 16 M A (L - T) c c2 c3 c4 k v aad p t lk bk lv bv hA hab hpl hpb
    rw [sealR_ok (x := aad) (b := p) lk lv hT ho (by omega) (by omega), hpl, h4] at a2
    have cp : (Cont.flat .u8 p).cut 0 ((L - T) * 1) = some (.flat .u8 p) := cut_all (by omega)
    have tC : (cipher.drop 0).take (L - T + T) = cipher := take_all (by omega)
    have q2 := str_eql_self hcb
    ((conv => whnf); repeat ((first | refine ⟨_, s1, ?_⟩ | refine ⟨_, s2, ?_⟩ | refine ⟨_, oP, ?_⟩ | refine ⟨_, a1 _ _ _, ?_⟩ | refine ⟨_, a2 _ _ _ _, ?_⟩ | refine ⟨_, expo_sl rfl ck, ?_⟩ | refine ⟨_, expo_sl rfl cv, ?_⟩ | refine ⟨_, expo_sl rfl cp, ?_⟩ | refine ⟨_, conv_as rfl rfl rfl rfl rfl rfl (by omega) hcb tC, ?_⟩ | refine ⟨_, conv_im rfl rfl rfl hL hcb, ?_⟩ | refine ⟨_, q2, ?_⟩ | refine ⟨_, rfl, ?_⟩ | refine ⟨by decide, ?_⟩ | refine ⟨rfl, ?_⟩ | refine ⟨fun _ => ?_, fun h => absurd h (by decide)⟩ | refine ⟨fun h => absurd h (by decide), fun _ => ?_⟩ | refine ⟨inI_of (by omega), ?_⟩ | refine ⟨⟨rfl, inI_of (by omega)⟩, ?_⟩ | refine ⟨⟨rfl, by decide⟩, ?_⟩ | (apply Exists.intro; refine ⟨?_, ?_⟩; ((try simp only); (try simp only [Nat.zero_add]); (try simp only [Nat.mul_one]); (try simp only [Int.toNat_natCast]); exact at_g (by omega))) | (apply Exists.intro; refine ⟨?_, ?_⟩; ((try simp only); (try simp only [Nat.zero_add]); (try simp only [Nat.mul_one]); (try simp only [Int.toNat_natCast]); exact put_flat (by omega))) | refine ⟨_, cut_all (by omega), ?_⟩ | refine ⟨_, lay_all (by omega) (by omega), ?_⟩ | refine ⟨_, lay_all (by (try simp only); (try simp only [List.length_replicate]); (try simp only [List.length_cons]); (try simp only [List.length_nil]); omega) (by omega), ?_⟩ | refine ⟨by omega, ?_⟩ | refine ⟨len_flat (by omega), ?_⟩ | refine ⟨apart_uv _ _ _, ?_⟩ | refine ⟨_, resSlot_own rfl (by omega) (by first | exact .inl rfl | exact .inr ⟨rfl, rfl⟩), ?_⟩ | refine ⟨(by kernel_rfl : regB _ = true), ?_⟩ | refine ⟨⟨rfl, inI_of (by omega), by decide⟩, ?_⟩ | (apply Exists.intro; refine ⟨?_, ?_⟩; ((try simp only); (try simp only [Nat.zero_add]); (try simp only [Nat.mul_one]); (try simp only [Int.toNat_natCast]); exact at_drop_g (by omega))) | (apply Exists.intro; refine ⟨?_, ?_⟩; ((try simp only); (try simp only [Nat.zero_add]); (try simp only [Nat.mul_one]); (try simp only [Int.toNat_natCast]); exact cut_rest (by omega)))); conv => whnf))
    rfl
  · rw [if_neg h4] at a1
    ((conv => whnf); repeat ((first | refine ⟨_, s1, ?_⟩ | refine ⟨_, s2, ?_⟩ | refine ⟨_, oP, ?_⟩ | refine ⟨_, a1 _ _ _, ?_⟩ | refine ⟨_, expo_sl rfl ck, ?_⟩ | refine ⟨_, expo_sl rfl cv, ?_⟩ | refine ⟨fun _ => ?_, fun h => absurd ((q1).symm.trans h) (by decide)⟩ | refine ⟨fun h => absurd ((q1).symm.trans h) (by decide), fun _ => ?_⟩ | refine ⟨fun _ => ?_, fun h => absurd (((show (((11 : Int) == 2) == decide ((L : Int) < t)) = true by rw [q1]; rfl)).symm.trans h) (by decide)⟩ | refine ⟨fun h => absurd (((show (((11 : Int) == 2) == decide ((L : Int) < t)) = true by rw [q1]; rfl)).symm.trans h) (by decide), fun _ => ?_⟩ | refine ⟨_, rfl, ?_⟩ | refine ⟨by decide, ?_⟩ | refine ⟨rfl, ?_⟩ | refine ⟨fun _ => ?_, fun h => absurd h (by decide)⟩ | refine ⟨fun h => absurd h (by decide), fun _ => ?_⟩ | refine ⟨inI_of (by omega), ?_⟩ | refine ⟨⟨rfl, inI_of (by omega)⟩, ?_⟩ | refine ⟨⟨rfl, by decide⟩, ?_⟩ | (apply Exists.intro; refine ⟨?_, ?_⟩; ((try simp only); (try simp only [Nat.zero_add]); (try simp only [Nat.mul_one]); (try simp only [Int.toNat_natCast]); exact at_g (by omega))) | (apply Exists.intro; refine ⟨?_, ?_⟩; ((try simp only); (try simp only [Nat.zero_add]); (try simp only [Nat.mul_one]); (try simp only [Int.toNat_natCast]); exact put_flat (by omega))) | refine ⟨_, cut_all (by omega), ?_⟩ | refine ⟨_, lay_all (by omega) (by omega), ?_⟩ | refine ⟨_, lay_all (by (try simp only); (try simp only [List.length_replicate]); (try simp only [List.length_cons]); (try simp only [List.length_nil]); omega) (by omega), ?_⟩ | refine ⟨by omega, ?_⟩ | refine ⟨len_flat (by omega), ?_⟩ | refine ⟨apart_uv _ _ _, ?_⟩ | refine ⟨_, resSlot_own rfl (by omega) (by first | exact .inl rfl | exact .inr ⟨rfl, rfl⟩), ?_⟩ | refine ⟨(by kernel_rfl : regB _ = true), ?_⟩ | refine ⟨⟨rfl, inI_of (by omega), by decide⟩, ?_⟩ | (apply Exists.intro; refine ⟨?_, ?_⟩; ((try simp only); (try simp only [Nat.zero_add]); (try simp only [Nat.mul_one]); (try simp only [Int.toNat_natCast]); exact at_drop_g (by omega))) | (apply Exists.intro; refine ⟨?_, ?_⟩; ((try simp only); (try simp only [Nat.zero_add]); (try simp only [Nat.mul_one]); (try simp only [Int.toNat_natCast]); exact cut_rest (by omega)))); conv => whnf))
    rfl
end Go.Proofs.Ytgkccfjjjamhoaa
