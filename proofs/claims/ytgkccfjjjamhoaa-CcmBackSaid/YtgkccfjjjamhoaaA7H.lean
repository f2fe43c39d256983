/-
  Layer 7: CcmEdges, CcmValid.
-/
import Derived.Test.YtgkccfjjjamhoaaA7G
namespace Go.Proofs.Ytgkccfjjjamhoaa
open Go.RowKit

theorem make_flat {E : Env} {d t e : Nat} {l : Int} {n : Nat} {k : IntKind} {a1 a2 a4 by_ : Nat} {g1 g2 : Bool} {o1 : Option Cont} {dd : TD}
    (h1 : E.T t = some ⟨.slice e 1, a1, a2, g1, o1⟩) (h2 : E.T e = some ⟨dd, a4, by_, g2, some (.flat k [0])⟩) (hl : l = (n : Int)) (hby : n * by_ ≤ 281474976710656) (hmx : n ≤ 9223372036854775807) :
    opMakeSlice E d t (.v (.int .i64 l)) (.v (.int .i64 l)) = some (.sl 1 (8 * d) 0 n (some n), [(8 * d, ⟨.flat k (List.replicate n 0), e, false⟩)]) := by
  subst hl
  have hr : (List.replicate n [(0 : Int)]).flatten = List.replicate n 0 := by simp
  simp only [opMakeSlice, pickInt, h1, h2, Int.toNat_natCast]
  rw [if_pos ⟨by omega, Int.le_refl _, hby, by omega, by decide, rfl⟩]
  simp only [repCont, hr]
theorem sealR_two {k v x b : List Int} {t : Int} {M T : Nat} (lk : k.length = 16) (bk : By k) (lv : v.length = M) (bv : By v) (bx : By x) (bb : By b) (hT : t = (T : Int)) (ht : t ≤ 16) (ho : okP 16 M t = true) :
    sealR k v x b t = no2 8 ∨ ∃ (S : List Int) (m : Nat), sealR k v x b t = ret2 (.own 1 m 5 (.flat .u8 S)) 0 ∧ S.length = m ∧ By S := by
  by_cases h : 4096 < x.length ∨ 4096 < b.length
  · exact .inl (sealR_lim lk lv ho h)
  · refine .inr ⟨_, _, sealR_ok lk lv hT ho (by omega) (by omega), ?_, sealP_by bk bv bx bb t⟩
    rw [sealP_len ht, hT, Int.toNat_natCast]

set_option maxRecDepth 100000 in
set_option maxHeartbeats 8000000 in
theorem CcmEdges_exec (n a p : Int) : execF E7e Try.f5 [iv .i64 n, iv .i64 a, iv .i64 p] (ret1 (.v (.bool true))) := by
  obtain ⟨k, v, t, M, T, oP, lk, bk, lv, bv, hM, ht, hT, ho⟩ := params_of n
  have ck : (Cont.flat .u8 k).cut 0 (16 * 1) = some (.flat .u8 k) := cut_all lk
  have cv : (Cont.flat .u8 v).cut 0 (M * 1) = some (.flat .u8 v) := cut_all (by omega)
  have oA5 := eMod a 5 _ (by decide) rfl
  have oA2 := eMod (IntKind.i64.wrap (a.tdiv 5)) 2 _ (by decide) rfl
  have oB3 := eMod p 3 _ (by decide) rfl
  have oB33 := eMod (IntKind.i64.wrap (p.tdiv 3)) 3 _ (by decide) rfl
  have oN9 := eMod n 9 _ (by decide) rfl
  obtain ⟨mA, hmA⟩ : ∃ m : Nat, IntKind.i64.wrap (IntKind.i64.wrap (13 + a % 5) + IntKind.i64.wrap (16 * (IntKind.i64.wrap (a.tdiv 5) % 2))) = (m : Int) ∧ 13 ≤ m ∧ m ≤ 40 := by
    rw [wrap64 (x := 13 + a % 5) (by omega), wrap64 (x := 16 * _) (by omega), wrap64 (by omega)]
    exact ⟨(13 + a % 5 + 16 * (IntKind.i64.wrap (a.tdiv 5) % 2)).toNat, by omega, by omega⟩
  obtain ⟨mB, hmB⟩ : ∃ m : Nat, IntKind.i64.wrap (IntKind.i64.wrap (15 + p % 3) + IntKind.i64.wrap (16 * (IntKind.i64.wrap (p.tdiv 3) % 3))) = (m : Int) ∧ 15 ≤ m ∧ m ≤ 60 := by
    rw [wrap64 (x := 15 + p % 3) (by omega), wrap64 (x := 16 * _) (by omega), wrap64 (by omega)]
    exact ⟨(15 + p % 3 + 16 * (IntKind.i64.wrap (p.tdiv 3) % 3)).toNat, by omega, by omega⟩
  have oSa := eSome a mA (by omega)
  have oSb := eSome p mB (by omega)
  have lSa := smP_len a mA
  have lSb := smP_len p mB
  have bSa := smP_by a mA
  have bSb := smP_by p mB
  obtain ⟨sa, hsa⟩ : ∃ l, l = smP a mA := ⟨_, rfl⟩
  obtain ⟨sb, hsb⟩ : ∃ l, l = smP p mB := ⟨_, rfl⟩
  rw [← hsa, ← hmA.1] at oSa
  rw [← hsb, ← hmB.1] at oSb
  rw [← hsa] at lSa bSa
  rw [← hsb] at lSb bSb
  clear hsa hsb
  by_cases h9 : n % 9 = 0
  · have q1 : (n % 9 == 0) = true := by simp [h9]
    have q2 : (n % 9 == 1) = false := by simp [h9]
    have oB2 := eMod p 2 _ (by decide) rfl
    obtain ⟨Y, hY⟩ : ∃ m : Nat, IntKind.i64.wrap (4096 + p % 2) = (m : Int) ∧ m ≤ 5000 := by
      rw [wrap64 (by omega)]
      exact ⟨(4096 + p % 2).toNat, by omega, by omega⟩
    obtain ⟨x, hx⟩ : ∃ x, x = sa := ⟨_, rfl⟩
    obtain ⟨b, hb⟩ : ∃ b, b = List.replicate Y (0 : Int) := ⟨_, rfl⟩
    obtain ⟨X, hX⟩ : ∃ X, X = mA := ⟨_, rfl⟩
    have lx : x.length = X := by rw [hx, hX]; exact lSa
    have bx : By x := by rw [hx]; exact bSa
    have lb : b.length = Y := by rw [hb, List.length_replicate]
    have bb : By b := by rw [hb]; exact By.zeros _
    have oK : ∀ d, opMakeSlice E7e d 22 (.v (.int .i64 (IntKind.i64.wrap (4096 + p % 2)))) (.v (.int .i64 (IntKind.i64.wrap (4096 + p % 2)))) = some (.sl 1 (8 * d) 0 Y (some Y), [(8 * d, ⟨.flat .u8 b, 5, false⟩)]) := by
      intro d
      rw [hb]
      exact make_flat rfl rfl hY.1 (by omega) (by omega)
    rw [← hx, ← hX] at oSa
    have cx : (Cont.flat .u8 x).cut 0 (X * 1) = some (.flat .u8 x) := cut_all (by omega)
    have cb : (Cont.flat .u8 b).cut 0 (Y * 1) = some (.flat .u8 b) := cut_all (by omega)
    have a1 := fun c c2 c3 c4 => ePSeal 16 M X Y c c2 c3 c4 k v x b t lk bk lv bv lx bx lb bb
    have a2 := fun c c2 c3 c4 => eRSeal 16 M X Y c c2 c3 c4 k v x b t lk bk lv bv lx bx lb bb
    rcases sealR_two (x := x) (b := b) lk bk lv bv bx bb hT ht.2 ho with hs | ⟨S, m, hs, hSl, hSb⟩
    · rw [hs] at a1 a2
      ((conv => whnf); repeat ((first | refine ⟨fun _ => ?_, fun h => absurd ((q1).symm.trans h) (by decide)⟩ | refine ⟨fun h => absurd ((q1).symm.trans h) (by decide), fun _ => ?_⟩ | refine ⟨fun _ => ?_, fun h => absurd ((q2).symm.trans h) (by decide)⟩ | refine ⟨fun h => absurd ((q2).symm.trans h) (by decide), fun _ => ?_⟩ | refine ⟨_, oB2, ?_⟩ | refine ⟨_, oK _, ?_⟩ | refine ⟨_, oP, ?_⟩ | refine ⟨_, oA5, ?_⟩ | refine ⟨_, oA2, ?_⟩ | refine ⟨_, oB3, ?_⟩ | refine ⟨_, oB33, ?_⟩ | refine ⟨_, oN9, ?_⟩ | refine ⟨_, oSa, ?_⟩ | refine ⟨_, oSb, ?_⟩ | refine ⟨_, expo_sl rfl ck, ?_⟩ | refine ⟨_, expo_sl rfl cv, ?_⟩ | refine ⟨_, expo_sl rfl cx, ?_⟩ | refine ⟨_, expo_sl rfl cb, ?_⟩ | refine ⟨_, a1 _ _ _ _, ?_⟩ | refine ⟨_, a2 _ _ _ _, ?_⟩ | refine ⟨_, rfl, ?_⟩ | refine ⟨by decide, ?_⟩ | refine ⟨rfl, ?_⟩ | refine ⟨fun _ => ?_, fun h => absurd h (by decide)⟩ | refine ⟨fun h => absurd h (by decide), fun _ => ?_⟩ | refine ⟨inI_of (by omega), ?_⟩ | refine ⟨⟨rfl, inI_of (by omega)⟩, ?_⟩ | refine ⟨⟨rfl, by decide⟩, ?_⟩ | (apply Exists.intro; refine ⟨?_, ?_⟩; ((try simp only); (try simp only [Nat.zero_add]); (try simp only [Nat.mul_one]); (try simp only [Int.toNat_natCast]); exact at_g (by omega))) | (apply Exists.intro; refine ⟨?_, ?_⟩; ((try simp only); (try simp only [Nat.zero_add]); (try simp only [Nat.mul_one]); (try simp only [Int.toNat_natCast]); exact put_flat (by omega))) | refine ⟨_, cut_all (by omega), ?_⟩ | refine ⟨_, lay_all (by omega) (by omega), ?_⟩ | refine ⟨_, lay_all (by (try simp only); (try simp only [List.length_replicate]); (try simp only [List.length_cons]); (try simp only [List.length_nil]); omega) (by omega), ?_⟩ | refine ⟨by omega, ?_⟩ | refine ⟨len_flat (by omega), ?_⟩ | refine ⟨apart_uv _ _ _, ?_⟩ | refine ⟨_, resSlot_own rfl (by omega) (by first | exact .inl rfl | exact .inr ⟨rfl, rfl⟩), ?_⟩ | refine ⟨(by kernel_rfl : regB _ = true), ?_⟩ | refine ⟨⟨rfl, inI_of (by omega), by decide⟩, ?_⟩ | (apply Exists.intro; refine ⟨?_, ?_⟩; ((try simp only); (try simp only [Nat.zero_add]); (try simp only [Nat.mul_one]); (try simp only [Int.toNat_natCast]); exact at_drop_g (by omega))) | (apply Exists.intro; refine ⟨?_, ?_⟩; ((try simp only); (try simp only [Nat.zero_add]); (try simp only [Nat.mul_one]); (try simp only [Int.toNat_natCast]); exact cut_rest (by omega)))); conv => whnf))
      rfl
    · rw [hs] at a1 a2
      have tS : (S.drop 0).take m = S := take_all (by omega)
      have qS := str_eql_self hSb
      ((conv => whnf); repeat ((first | refine ⟨fun _ => ?_, fun h => absurd ((q1).symm.trans h) (by decide)⟩ | refine ⟨fun h => absurd ((q1).symm.trans h) (by decide), fun _ => ?_⟩ | refine ⟨fun _ => ?_, fun h => absurd ((q2).symm.trans h) (by decide)⟩ | refine ⟨fun h => absurd ((q2).symm.trans h) (by decide), fun _ => ?_⟩ | refine ⟨_, oB2, ?_⟩ | refine ⟨_, oK _, ?_⟩ | refine ⟨_, conv_as rfl rfl rfl rfl rfl rfl (by omega) hSb tS, ?_⟩ | refine ⟨_, qS, ?_⟩ | refine ⟨_, oP, ?_⟩ | refine ⟨_, oA5, ?_⟩ | refine ⟨_, oA2, ?_⟩ | refine ⟨_, oB3, ?_⟩ | refine ⟨_, oB33, ?_⟩ | refine ⟨_, oN9, ?_⟩ | refine ⟨_, oSa, ?_⟩ | refine ⟨_, oSb, ?_⟩ | refine ⟨_, expo_sl rfl ck, ?_⟩ | refine ⟨_, expo_sl rfl cv, ?_⟩ | refine ⟨_, expo_sl rfl cx, ?_⟩ | refine ⟨_, expo_sl rfl cb, ?_⟩ | refine ⟨_, a1 _ _ _ _, ?_⟩ | refine ⟨_, a2 _ _ _ _, ?_⟩ | refine ⟨_, rfl, ?_⟩ | refine ⟨by decide, ?_⟩ | refine ⟨rfl, ?_⟩ | refine ⟨fun _ => ?_, fun h => absurd h (by decide)⟩ | refine ⟨fun h => absurd h (by decide), fun _ => ?_⟩ | refine ⟨inI_of (by omega), ?_⟩ | refine ⟨⟨rfl, inI_of (by omega)⟩, ?_⟩ | refine ⟨⟨rfl, by decide⟩, ?_⟩ | (apply Exists.intro; refine ⟨?_, ?_⟩; ((try simp only); (try simp only [Nat.zero_add]); (try simp only [Nat.mul_one]); (try simp only [Int.toNat_natCast]); exact at_g (by omega))) | (apply Exists.intro; refine ⟨?_, ?_⟩; ((try simp only); (try simp only [Nat.zero_add]); (try simp only [Nat.mul_one]); (try simp only [Int.toNat_natCast]); exact put_flat (by omega))) | refine ⟨_, cut_all (by omega), ?_⟩ | refine ⟨_, lay_all (by omega) (by omega), ?_⟩ | refine ⟨_, lay_all (by (try simp only); (try simp only [List.length_replicate]); (try simp only [List.length_cons]); (try simp only [List.length_nil]); omega) (by omega), ?_⟩ | refine ⟨by omega, ?_⟩ | refine ⟨len_flat (by omega), ?_⟩ | refine ⟨apart_uv _ _ _, ?_⟩ | refine ⟨_, resSlot_own rfl (by omega) (by first | exact .inl rfl | exact .inr ⟨rfl, rfl⟩), ?_⟩ | refine ⟨(by kernel_rfl : regB _ = true), ?_⟩ | refine ⟨⟨rfl, inI_of (by omega), by decide⟩, ?_⟩ | (apply Exists.intro; refine ⟨?_, ?_⟩; ((try simp only); (try simp only [Nat.zero_add]); (try simp only [Nat.mul_one]); (try simp only [Int.toNat_natCast]); exact at_drop_g (by omega))) | (apply Exists.intro; refine ⟨?_, ?_⟩; ((try simp only); (try simp only [Nat.zero_add]); (try simp only [Nat.mul_one]); (try simp only [Int.toNat_natCast]); exact cut_rest (by omega)))); conv => whnf))
      rfl
  have q1 : (n % 9 == 0) = false := by simp [h9]
  by_cases h91 : n % 9 = 1
  · have q2 : (n % 9 == 1) = true := by simp [h91]
    have oB2 := eMod a 2 _ (by decide) rfl
    obtain ⟨X, hX⟩ : ∃ m : Nat, IntKind.i64.wrap (4096 + a % 2) = (m : Int) ∧ m ≤ 5000 := by
      rw [wrap64 (by omega)]
      exact ⟨(4096 + a % 2).toNat, by omega, by omega⟩
    obtain ⟨x, hx⟩ : ∃ x, x = List.replicate X (0 : Int) := ⟨_, rfl⟩
    obtain ⟨b, hb⟩ : ∃ b, b = sb := ⟨_, rfl⟩
    obtain ⟨Y, hY⟩ : ∃ X, X = mB := ⟨_, rfl⟩
    have lb : b.length = Y := by rw [hb, hY]; exact lSb
    have bb : By b := by rw [hb]; exact bSb
    have lx : x.length = X := by rw [hx, List.length_replicate]
    have bx : By x := by rw [hx]; exact By.zeros _
    have oK : ∀ d, opMakeSlice E7e d 22 (.v (.int .i64 (IntKind.i64.wrap (4096 + a % 2)))) (.v (.int .i64 (IntKind.i64.wrap (4096 + a % 2)))) = some (.sl 1 (8 * d) 0 X (some X), [(8 * d, ⟨.flat .u8 x, 5, false⟩)]) := by
      intro d
      rw [hx]
      exact make_flat rfl rfl hX.1 (by omega) (by omega)
    rw [← hb, ← hY] at oSb
    have cx : (Cont.flat .u8 x).cut 0 (X * 1) = some (.flat .u8 x) := cut_all (by omega)
    have cb : (Cont.flat .u8 b).cut 0 (Y * 1) = some (.flat .u8 b) := cut_all (by omega)
    have a1 := fun c c2 c3 c4 => ePSeal 16 M X Y c c2 c3 c4 k v x b t lk bk lv bv lx bx lb bb
    have a2 := fun c c2 c3 c4 => eRSeal 16 M X Y c c2 c3 c4 k v x b t lk bk lv bv lx bx lb bb
    rcases sealR_two (x := x) (b := b) lk bk lv bv bx bb hT ht.2 ho with hs | ⟨S, m, hs, hSl, hSb⟩
    · rw [hs] at a1 a2
      ((conv => whnf); repeat ((first | refine ⟨fun _ => ?_, fun h => absurd ((q1).symm.trans h) (by decide)⟩ | refine ⟨fun h => absurd ((q1).symm.trans h) (by decide), fun _ => ?_⟩ | refine ⟨fun _ => ?_, fun h => absurd ((q2).symm.trans h) (by decide)⟩ | refine ⟨fun h => absurd ((q2).symm.trans h) (by decide), fun _ => ?_⟩ | refine ⟨_, oB2, ?_⟩ | refine ⟨_, oK _, ?_⟩ | refine ⟨_, oP, ?_⟩ | refine ⟨_, oA5, ?_⟩ | refine ⟨_, oA2, ?_⟩ | refine ⟨_, oB3, ?_⟩ | refine ⟨_, oB33, ?_⟩ | refine ⟨_, oN9, ?_⟩ | refine ⟨_, oSa, ?_⟩ | refine ⟨_, oSb, ?_⟩ | refine ⟨_, expo_sl rfl ck, ?_⟩ | refine ⟨_, expo_sl rfl cv, ?_⟩ | refine ⟨_, expo_sl rfl cx, ?_⟩ | refine ⟨_, expo_sl rfl cb, ?_⟩ | refine ⟨_, a1 _ _ _ _, ?_⟩ | refine ⟨_, a2 _ _ _ _, ?_⟩ | refine ⟨_, rfl, ?_⟩ | refine ⟨by decide, ?_⟩ | refine ⟨rfl, ?_⟩ | refine ⟨fun _ => ?_, fun h => absurd h (by decide)⟩ | refine ⟨fun h => absurd h (by decide), fun _ => ?_⟩ | refine ⟨inI_of (by omega), ?_⟩ | refine ⟨⟨rfl, inI_of (by omega)⟩, ?_⟩ | refine ⟨⟨rfl, by decide⟩, ?_⟩ | (apply Exists.intro; refine ⟨?_, ?_⟩; ((try simp only); (try simp only [Nat.zero_add]); (try simp only [Nat.mul_one]); (try simp only [Int.toNat_natCast]); exact at_g (by omega))) | (apply Exists.intro; refine ⟨?_, ?_⟩; ((try simp only); (try simp only [Nat.zero_add]); (try simp only [Nat.mul_one]); (try simp only [Int.toNat_natCast]); exact put_flat (by omega))) | refine ⟨_, cut_all (by omega), ?_⟩ | refine ⟨_, lay_all (by omega) (by omega), ?_⟩ | refine ⟨_, lay_all (by (try simp only); (try simp only [List.length_replicate]); (try simp only [List.length_cons]); (try simp only [List.length_nil]); omega) (by omega), ?_⟩ | refine ⟨by omega, ?_⟩ | refine ⟨len_flat (by omega), ?_⟩ | refine ⟨apart_uv _ _ _, ?_⟩ | refine ⟨_, resSlot_own rfl (by omega) (by first | exact .inl rfl | exact .inr ⟨rfl, rfl⟩), ?_⟩ | refine ⟨(by kernel_rfl : regB _ = true), ?_⟩ | refine ⟨⟨rfl, inI_of (by omega), by decide⟩, ?_⟩ | (apply Exists.intro; refine ⟨?_, ?_⟩; ((try simp only); (try simp only [Nat.zero_add]); (try simp only [Nat.mul_one]); (try simp only [Int.toNat_natCast]); exact at_drop_g (by omega))) | (apply Exists.intro; refine ⟨?_, ?_⟩; ((try simp only); (try simp only [Nat.zero_add]); (try simp only [Nat.mul_one]); (try simp only [Int.toNat_natCast]); exact cut_rest (by omega)))); conv => whnf))
      rfl
    · rw [hs] at a1 a2
      have tS : (S.drop 0).take m = S := take_all (by omega)
      have qS := str_eql_self hSb
      ((conv => whnf); repeat ((first | refine ⟨fun _ => ?_, fun h => absurd ((q1).symm.trans h) (by decide)⟩ | refine ⟨fun h => absurd ((q1).symm.trans h) (by decide), fun _ => ?_⟩ | refine ⟨fun _ => ?_, fun h => absurd ((q2).symm.trans h) (by decide)⟩ | refine ⟨fun h => absurd ((q2).symm.trans h) (by decide), fun _ => ?_⟩ | refine ⟨_, oB2, ?_⟩ | refine ⟨_, oK _, ?_⟩ | refine ⟨_, conv_as rfl rfl rfl rfl rfl rfl (by omega) hSb tS, ?_⟩ | refine ⟨_, qS, ?_⟩ | refine ⟨_, oP, ?_⟩ | refine ⟨_, oA5, ?_⟩ | refine ⟨_, oA2, ?_⟩ | refine ⟨_, oB3, ?_⟩ | refine ⟨_, oB33, ?_⟩ | refine ⟨_, oN9, ?_⟩ | refine ⟨_, oSa, ?_⟩ | refine ⟨_, oSb, ?_⟩ | refine ⟨_, expo_sl rfl ck, ?_⟩ | refine ⟨_, expo_sl rfl cv, ?_⟩ | refine ⟨_, expo_sl rfl cx, ?_⟩ | refine ⟨_, expo_sl rfl cb, ?_⟩ | refine ⟨_, a1 _ _ _ _, ?_⟩ | refine ⟨_, a2 _ _ _ _, ?_⟩ | refine ⟨_, rfl, ?_⟩ | refine ⟨by decide, ?_⟩ | refine ⟨rfl, ?_⟩ | refine ⟨fun _ => ?_, fun h => absurd h (by decide)⟩ | refine ⟨fun h => absurd h (by decide), fun _ => ?_⟩ | refine ⟨inI_of (by omega), ?_⟩ | refine ⟨⟨rfl, inI_of (by omega)⟩, ?_⟩ | refine ⟨⟨rfl, by decide⟩, ?_⟩ | (apply Exists.intro; refine ⟨?_, ?_⟩; ((try simp only); (try simp only [Nat.zero_add]); (try simp only [Nat.mul_one]); (try simp only [Int.toNat_natCast]); exact at_g (by omega))) | (apply Exists.intro; refine ⟨?_, ?_⟩; ((try simp only); (try simp only [Nat.zero_add]); (try simp only [Nat.mul_one]); (try simp only [Int.toNat_natCast]); exact put_flat (by omega))) | refine ⟨_, cut_all (by omega), ?_⟩ | refine ⟨_, lay_all (by omega) (by omega), ?_⟩ | refine ⟨_, lay_all (by (try simp only); (try simp only [List.length_replicate]); (try simp only [List.length_cons]); (try simp only [List.length_nil]); omega) (by omega), ?_⟩ | refine ⟨by omega, ?_⟩ | refine ⟨len_flat (by omega), ?_⟩ | refine ⟨apart_uv _ _ _, ?_⟩ | refine ⟨_, resSlot_own rfl (by omega) (by first | exact .inl rfl | exact .inr ⟨rfl, rfl⟩), ?_⟩ | refine ⟨(by kernel_rfl : regB _ = true), ?_⟩ | refine ⟨⟨rfl, inI_of (by omega), by decide⟩, ?_⟩ | (apply Exists.intro; refine ⟨?_, ?_⟩; ((try simp only); (try simp only [Nat.zero_add]); (try simp only [Nat.mul_one]); (try simp only [Int.toNat_natCast]); exact at_drop_g (by omega))) | (apply Exists.intro; refine ⟨?_, ?_⟩; ((try simp only); (try simp only [Nat.zero_add]); (try simp only [Nat.mul_one]); (try simp only [Int.toNat_natCast]); exact cut_rest (by omega)))); conv => whnf))
      rfl
  have q2 : (n % 9 == 1) = false := by simp [h91]
  obtain ⟨x, hx⟩ : ∃ x, x = sa := ⟨_, rfl⟩
  obtain ⟨b, hb⟩ : ∃ b, b = sb := ⟨_, rfl⟩
  obtain ⟨X, hX⟩ : ∃ X, X = mA := ⟨_, rfl⟩
  obtain ⟨Y, hY⟩ : ∃ X, X = mB := ⟨_, rfl⟩
  have lx : x.length = X := by rw [hx, hX]; exact lSa
  have bx : By x := by rw [hx]; exact bSa
  have lb : b.length = Y := by rw [hb, hY]; exact lSb
  have bb : By b := by rw [hb]; exact bSb
  rw [← hx, ← hX] at oSa
  rw [← hb, ← hY] at oSb
  have cx : (Cont.flat .u8 x).cut 0 (X * 1) = some (.flat .u8 x) := cut_all (by omega)
  have cb : (Cont.flat .u8 b).cut 0 (Y * 1) = some (.flat .u8 b) := cut_all (by omega)
  have a1 := fun c c2 c3 c4 => ePSeal 16 M X Y c c2 c3 c4 k v x b t lk bk lv bv lx bx lb bb
  have a2 := fun c c2 c3 c4 => eRSeal 16 M X Y c c2 c3 c4 k v x b t lk bk lv bv lx bx lb bb
  rcases sealR_two (x := x) (b := b) lk bk lv bv bx bb hT ht.2 ho with hs | ⟨S, m, hs, hSl, hSb⟩
  · rw [hs] at a1 a2
    ((conv => whnf); repeat ((first | refine ⟨fun _ => ?_, fun h => absurd ((q1).symm.trans h) (by decide)⟩ | refine ⟨fun h => absurd ((q1).symm.trans h) (by decide), fun _ => ?_⟩ | refine ⟨fun _ => ?_, fun h => absurd ((q2).symm.trans h) (by decide)⟩ | refine ⟨fun h => absurd ((q2).symm.trans h) (by decide), fun _ => ?_⟩ | refine ⟨_, oP, ?_⟩ | refine ⟨_, oA5, ?_⟩ | refine ⟨_, oA2, ?_⟩ | refine ⟨_, oB3, ?_⟩ | refine ⟨_, oB33, ?_⟩ | refine ⟨_, oN9, ?_⟩ | refine ⟨_, oSa, ?_⟩ | refine ⟨_, oSb, ?_⟩ | refine ⟨_, expo_sl rfl ck, ?_⟩ | refine ⟨_, expo_sl rfl cv, ?_⟩ | refine ⟨_, expo_sl rfl cx, ?_⟩ | refine ⟨_, expo_sl rfl cb, ?_⟩ | refine ⟨_, a1 _ _ _ _, ?_⟩ | refine ⟨_, a2 _ _ _ _, ?_⟩ | refine ⟨_, rfl, ?_⟩ | refine ⟨by decide, ?_⟩ | refine ⟨rfl, ?_⟩ | refine ⟨fun _ => ?_, fun h => absurd h (by decide)⟩ | refine ⟨fun h => absurd h (by decide), fun _ => ?_⟩ | refine ⟨inI_of (by omega), ?_⟩ | refine ⟨⟨rfl, inI_of (by omega)⟩, ?_⟩ | refine ⟨⟨rfl, by decide⟩, ?_⟩ | (apply Exists.intro; refine ⟨?_, ?_⟩; ((try simp only); (try simp only [Nat.zero_add]); (try simp only [Nat.mul_one]); (try simp only [Int.toNat_natCast]); exact at_g (by omega))) | (apply Exists.intro; refine ⟨?_, ?_⟩; ((try simp only); (try simp only [Nat.zero_add]); (try simp only [Nat.mul_one]); (try simp only [Int.toNat_natCast]); exact put_flat (by omega))) | refine ⟨_, cut_all (by omega), ?_⟩ | refine ⟨_, lay_all (by omega) (by omega), ?_⟩ | refine ⟨_, lay_all (by (try simp only); (try simp only [List.length_replicate]); (try simp only [List.length_cons]); (try simp only [List.length_nil]); omega) (by omega), ?_⟩ | refine ⟨by omega, ?_⟩ | refine ⟨len_flat (by omega), ?_⟩ | refine ⟨apart_uv _ _ _, ?_⟩ | refine ⟨_, resSlot_own rfl (by omega) (by first | exact .inl rfl | exact .inr ⟨rfl, rfl⟩), ?_⟩ | refine ⟨(by kernel_rfl : regB _ = true), ?_⟩ | refine ⟨⟨rfl, inI_of (by omega), by decide⟩, ?_⟩ | (apply Exists.intro; refine ⟨?_, ?_⟩; ((try simp only); (try simp only [Nat.zero_add]); (try simp only [Nat.mul_one]); (try simp only [Int.toNat_natCast]); exact at_drop_g (by omega))) | (apply Exists.intro; refine ⟨?_, ?_⟩; ((try simp only); (try simp only [Nat.zero_add]); (try simp only [Nat.mul_one]); (try simp only [Int.toNat_natCast]); exact cut_rest (by omega)))); conv => whnf))
    rfl
  · rw [hs] at a1 a2
    have tS : (S.drop 0).take m = S := take_all (by omega)
    have qS := str_eql_self hSb
    ((conv => whnf); repeat ((first | refine ⟨fun _ => ?_, fun h => absurd ((q1).symm.trans h) (by decide)⟩ | refine ⟨fun h => absurd ((q1).symm.trans h) (by decide), fun _ => ?_⟩ | refine ⟨fun _ => ?_, fun h => absurd ((q2).symm.trans h) (by decide)⟩ | refine ⟨fun h => absurd ((q2).symm.trans h) (by decide), fun _ => ?_⟩ | refine ⟨_, conv_as rfl rfl rfl rfl rfl rfl (by omega) hSb tS, ?_⟩ | refine ⟨_, qS, ?_⟩ | refine ⟨_, oP, ?_⟩ | refine ⟨_, oA5, ?_⟩ | refine ⟨_, oA2, ?_⟩ | refine ⟨_, oB3, ?_⟩ | refine ⟨_, oB33, ?_⟩ | refine ⟨_, oN9, ?_⟩ | refine ⟨_, oSa, ?_⟩ | refine ⟨_, oSb, ?_⟩ | refine ⟨_, expo_sl rfl ck, ?_⟩ | refine ⟨_, expo_sl rfl cv, ?_⟩ | refine ⟨_, expo_sl rfl cx, ?_⟩ | refine ⟨_, expo_sl rfl cb, ?_⟩ | refine ⟨_, a1 _ _ _ _, ?_⟩ | refine ⟨_, a2 _ _ _ _, ?_⟩ | refine ⟨_, rfl, ?_⟩ | refine ⟨by decide, ?_⟩ | refine ⟨rfl, ?_⟩ | refine ⟨fun _ => ?_, fun h => absurd h (by decide)⟩ | refine ⟨fun h => absurd h (by decide), fun _ => ?_⟩ | refine ⟨inI_of (by omega), ?_⟩ | refine ⟨⟨rfl, inI_of (by omega)⟩, ?_⟩ | refine ⟨⟨rfl, by decide⟩, ?_⟩ | (apply Exists.intro; refine ⟨?_, ?_⟩; ((try simp only); (try simp only [Nat.zero_add]); (try simp only [Nat.mul_one]); (try simp only [Int.toNat_natCast]); exact at_g (by omega))) | (apply Exists.intro; refine ⟨?_, ?_⟩; ((try simp only); (try simp only [Nat.zero_add]); (try simp only [Nat.mul_one]); (try simp only [Int.toNat_natCast]); exact put_flat (by omega))) | refine ⟨_, cut_all (by omega), ?_⟩ | refine ⟨_, lay_all (by omega) (by omega), ?_⟩ | refine ⟨_, lay_all (by (try simp only); (try simp only [List.length_replicate]); (try simp only [List.length_cons]); (try simp only [List.length_nil]); omega) (by omega), ?_⟩ | refine ⟨by omega, ?_⟩ | refine ⟨len_flat (by omega), ?_⟩ | refine ⟨apart_uv _ _ _, ?_⟩ | refine ⟨_, resSlot_own rfl (by omega) (by first | exact .inl rfl | exact .inr ⟨rfl, rfl⟩), ?_⟩ | refine ⟨(by kernel_rfl : regB _ = true), ?_⟩ | refine ⟨⟨rfl, inI_of (by omega), by decide⟩, ?_⟩ | (apply Exists.intro; refine ⟨?_, ?_⟩; ((try simp only); (try simp only [Nat.zero_add]); (try simp only [Nat.mul_one]); (try simp only [Int.toNat_natCast]); exact at_drop_g (by omega))) | (apply Exists.intro; refine ⟨?_, ?_⟩; ((try simp only); (try simp only [Nat.zero_add]); (try simp only [Nat.mul_one]); (try simp only [Int.toNat_natCast]); exact cut_rest (by omega)))); conv => whnf))
    rfl
end Go.Proofs.Ytgkccfjjjamhoaa
