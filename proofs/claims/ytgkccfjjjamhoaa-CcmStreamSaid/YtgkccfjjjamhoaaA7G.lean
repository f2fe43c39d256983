/-
  Layer 7: CcmStream, CcmEdges, CcmValid.
-/
import Derived.Test.YtgkccfjjjamhoaaA7F
namespace Go.Proofs.Ytgkccfjjjamhoaa
open Go.RowKit

theorem eEnc (c c2 : Option Nat) (k b : List Int) (h1 : k.length = 16) (h2 : b.length = 16) (h3 : By k) (h4 : By b) : E7e.orc 24 [.im 1 16 c (.flat .u8 k), .im 1 16 c2 (.flat .u8 b)] = some (ret2 (.own 1 16 54 (.flat .u8 (encS k b 10))) 0) := by
  have h : E7e.orc 24 [.im 1 16 c (.flat .u8 k), .im 1 16 c2 (.flat .u8 b)] = some (encR 54 k b) := if_pos ⟨h1, h2, h3.ok, h4.ok⟩
  rw [h, encR, if_pos ⟨h1, h2⟩]
theorem ctr_13 {v : List Int} (hv : v.length = 13) {n : Int} (hn : 0 ≤ n ∧ n < 256) : ctr (14 - (v.length : Int)) v n = ([1] ++ v) ++ [0, IntKind.u8.wrap n] := by
  have e1 : beF n 1 = 0 := by
    rw [beF, show n.fdiv (2 ^ (8 * 1)) = 0 by rw [Int.fdiv_eq_ediv_of_nonneg _ (by decide)]; omega]
    rfl
  have e0 : beF n 0 = IntKind.u8.wrap n := by
    rw [beF, show n.fdiv (2 ^ (8 * 0)) = n by rw [Int.fdiv_eq_ediv_of_nonneg _ (by decide)]; omega]
  rw [ctr, hv]
  show (IntKind.u8.wrap (14 - ((13 : Nat) : Int)) :: v) ++ [beF n 1, beF n 0] = _
  rw [e1, e0]
  rfl
theorem g_sealP {k v x b : List Int} {t : Int} {i : Nat} (hi : i < b.length) : g (sealP k v x b t) i = strE k v b 1 i := by
  rw [sealP, g_append, strF_len, if_pos hi, strF]
  exact g_map hi

set_option maxRecDepth 100000 in
set_option maxHeartbeats 4000000 in
theorem CcmStream_exec (aad plain : List Int) (n : Int) (hab : By aad) (hpb : By plain) :
    execF E7e Try.f9 [.im 1 aad.length none (.flat .u8 aad), .im 1 plain.length none (.flat .u8 plain), iv .i64 n] (ret1 (.v (.bool true))) := by
  obtain ⟨A, hA⟩ : ∃ N, aad.length = N := ⟨_, rfl⟩
  obtain ⟨L, hL⟩ : ∃ N, plain.length = N := ⟨_, rfl⟩
  rw [hA, hL]
  by_cases h1 : A ≤ 600
  case neg =>
    have s1 := eShort A none (.flat .u8 aad) false (by simp; omega)
    ((conv => whnf); repeat ((first | refine ⟨_, s1, ?_⟩ | refine ⟨_, rfl, ?_⟩ | refine ⟨by decide, ?_⟩ | refine ⟨rfl, ?_⟩ | refine ⟨fun _ => ?_, fun h => absurd h (by decide)⟩ | refine ⟨fun h => absurd h (by decide), fun _ => ?_⟩ | refine ⟨inI_of (by omega), ?_⟩ | refine ⟨⟨rfl, inI_of (by omega)⟩, ?_⟩ | refine ⟨⟨rfl, by decide⟩, ?_⟩ | (apply Exists.intro; refine ⟨?_, ?_⟩; ((try simp only); (try simp only [Nat.zero_add]); (try simp only [Nat.mul_one]); (try simp only [Int.toNat_natCast]); exact at_g (by omega))) | (apply Exists.intro; refine ⟨?_, ?_⟩; ((try simp only); (try simp only [Nat.zero_add]); (try simp only [Nat.mul_one]); (try simp only [Int.toNat_natCast]); exact put_flat (by omega))) | refine ⟨_, cut_all (by omega), ?_⟩ | refine ⟨_, lay_all (by omega) (by omega), ?_⟩ | refine ⟨_, lay_all (by (try simp only); (try simp only [List.length_replicate]); (try simp only [List.length_cons]); (try simp only [List.length_nil]); omega) (by omega), ?_⟩ | refine ⟨by omega, ?_⟩ | refine ⟨len_flat (by omega), ?_⟩ | refine ⟨apart_uv _ _ _, ?_⟩ | refine ⟨_, resSlot_own rfl (by omega) (by first | exact .inl rfl | exact .inr ⟨rfl, rfl⟩), ?_⟩ | refine ⟨(by kernel_rfl : regB _ = true), ?_⟩ | refine ⟨⟨rfl, inI_of (by omega), by decide⟩, ?_⟩ | (apply Exists.intro; refine ⟨?_, ?_⟩; ((try simp only); (try simp only [Nat.zero_add]); (try simp only [Nat.mul_one]); (try simp only [Int.toNat_natCast]); exact at_drop_g (by omega))) | (apply Exists.intro; refine ⟨?_, ?_⟩; ((try simp only); (try simp only [Nat.zero_add]); (try simp only [Nat.mul_one]); (try simp only [Int.toNat_natCast]); exact cut_rest (by omega)))); conv => whnf))
    rfl
  have s1 := eShort A none (.flat .u8 aad) true (by simp; omega)
  by_cases h2 : L ≤ 600
  case neg =>
    have s2 := eShort L none (.flat .u8 plain) false (by simp; omega)
    ((conv => whnf); repeat ((first | refine ⟨_, s1, ?_⟩ | refine ⟨_, s2, ?_⟩ | refine ⟨_, rfl, ?_⟩ | refine ⟨by decide, ?_⟩ | refine ⟨rfl, ?_⟩ | refine ⟨fun _ => ?_, fun h => absurd h (by decide)⟩ | refine ⟨fun h => absurd h (by decide), fun _ => ?_⟩ | refine ⟨inI_of (by omega), ?_⟩ | refine ⟨⟨rfl, inI_of (by omega)⟩, ?_⟩ | refine ⟨⟨rfl, by decide⟩, ?_⟩ | (apply Exists.intro; refine ⟨?_, ?_⟩; ((try simp only); (try simp only [Nat.zero_add]); (try simp only [Nat.mul_one]); (try simp only [Int.toNat_natCast]); exact at_g (by omega))) | (apply Exists.intro; refine ⟨?_, ?_⟩; ((try simp only); (try simp only [Nat.zero_add]); (try simp only [Nat.mul_one]); (try simp only [Int.toNat_natCast]); exact put_flat (by omega))) | refine ⟨_, cut_all (by omega), ?_⟩ | refine ⟨_, lay_all (by omega) (by omega), ?_⟩ | refine ⟨_, lay_all (by (try simp only); (try simp only [List.length_replicate]); (try simp only [List.length_cons]); (try simp only [List.length_nil]); omega) (by omega), ?_⟩ | refine ⟨by omega, ?_⟩ | refine ⟨len_flat (by omega), ?_⟩ | refine ⟨apart_uv _ _ _, ?_⟩ | refine ⟨_, resSlot_own rfl (by omega) (by first | exact .inl rfl | exact .inr ⟨rfl, rfl⟩), ?_⟩ | refine ⟨(by kernel_rfl : regB _ = true), ?_⟩ | refine ⟨⟨rfl, inI_of (by omega), by decide⟩, ?_⟩ | (apply Exists.intro; refine ⟨?_, ?_⟩; ((try simp only); (try simp only [Nat.zero_add]); (try simp only [Nat.mul_one]); (try simp only [Int.toNat_natCast]); exact at_drop_g (by omega))) | (apply Exists.intro; refine ⟨?_, ?_⟩; ((try simp only); (try simp only [Nat.zero_add]); (try simp only [Nat.mul_one]); (try simp only [Int.toNat_natCast]); exact cut_rest (by omega)))); conv => whnf))
    rfl
  have s2 := eShort L none (.flat .u8 plain) true (by simp; omega)
  obtain ⟨k, v0, t, M, T, oP, lk, bk, lv0, bv0, hM, ht, hT, ho0⟩ := params_of n
  have ho : okP 16 13 t = true := by
    have h := (okP_true ho0).2.2.2
    simp [okP, ht, h]
  have oS := eSome (IntKind.i64.wrap (n.tdiv 3)) 13 (by decide)
  have lv := smP_len (IntKind.i64.wrap (n.tdiv 3)) 13
  have bv := smP_by (IntKind.i64.wrap (n.tdiv 3)) 13
  obtain ⟨v, hv⟩ : ∃ v, v = smP (IntKind.i64.wrap (n.tdiv 3)) 13 := ⟨_, rfl⟩
  rw [← hv] at oS lv bv
  clear hv
  have a1 := fun c c2 c3 c4 => ePSeal 16 13 A L c c2 c3 c4 k v aad plain t lk bk lv bv hA hab hL hpb
  have a2 := fun c c2 c4 => ePSealN 16 13 L c c2 c4 k v plain t lk bk lv bv hL hpb
  rw [sealR_ok (x := aad) (b := plain) lk lv hT ho (by omega) (by omega), hL] at a1
  rw [sealR_ok (x := []) (b := plain) lk lv hT ho (by simp) (by omega), hL] at a2
  have l1 := sealP_len (key := k) (nonce := v) (aad := aad) (plain := plain) (tag := t) ht.2
  have l2 := sealP_len (key := k) (nonce := v) (aad := []) (plain := plain) (tag := t) ht.2
  rw [hL, hT, Int.toNat_natCast, ← hT] at l1 l2
  have gC : ∀ i, i < L → g (sealP k v aad plain t) i = strE k v plain 1 i := fun i hi => g_sealP (by omega)
  have gD : ∀ i, i < L → g (sealP k v [] plain t) i = strE k v plain 1 i := fun i hi => g_sealP (by omega)
  obtain ⟨C, hC⟩ : ∃ S, S = sealP k v aad plain t := ⟨_, rfl⟩
  obtain ⟨D, hD⟩ : ∃ S, S = sealP k v [] plain t := ⟨_, rfl⟩
  rw [← hC] at a1 l1 gC
  rw [← hD] at a2 l2 gD
  clear hC hD
  have ck : (Cont.flat .u8 k).cut 0 (16 * 1) = some (.flat .u8 k) := cut_all lk
  have cv : (Cont.flat .u8 v).cut 0 (13 * 1) = some (.flat .u8 v) := cut_all (by omega)
  have q3 : (((L + T : Nat) : Int) != IntKind.i64.wrap ((L : Int) + t)) = false := by
    rw [wrap64 (by omega), hT]
    simp
  have q4 : (((L + T : Nat) : Int) != ((L + T : Nat) : Int)) = false := by simp
  ((conv => whnf); repeat ((first | refine ⟨_, s1, ?_⟩ | refine ⟨_, s2, ?_⟩ | refine ⟨_, oP, ?_⟩ | refine ⟨_, oS, ?_⟩ | refine ⟨_, a1 _ _ _ _, ?_⟩ | refine ⟨_, a2 _ _ _, ?_⟩ | refine ⟨_, expo_sl rfl ck, ?_⟩ | refine ⟨_, expo_sl rfl cv, ?_⟩ | refine ⟨fun _ => ?_, fun h => absurd ((q3).symm.trans h) (by decide)⟩ | refine ⟨fun h => absurd ((q3).symm.trans h) (by decide), fun _ => ?_⟩ | refine ⟨fun _ => ?_, fun h => absurd ((q4).symm.trans h) (by decide)⟩ | refine ⟨fun h => absurd ((q4).symm.trans h) (by decide), fun _ => ?_⟩ | refine ⟨_, rfl, ?_⟩ | refine ⟨by decide, ?_⟩ | refine ⟨rfl, ?_⟩ | refine ⟨fun _ => ?_, fun h => absurd h (by decide)⟩ | refine ⟨fun h => absurd h (by decide), fun _ => ?_⟩ | refine ⟨inI_of (by omega), ?_⟩ | refine ⟨⟨rfl, inI_of (by omega)⟩, ?_⟩ | refine ⟨⟨rfl, by decide⟩, ?_⟩ | (apply Exists.intro; refine ⟨?_, ?_⟩; ((try simp only); (try simp only [Nat.zero_add]); (try simp only [Nat.mul_one]); (try simp only [Int.toNat_natCast]); exact at_g (by omega))) | (apply Exists.intro; refine ⟨?_, ?_⟩; ((try simp only); (try simp only [Nat.zero_add]); (try simp only [Nat.mul_one]); (try simp only [Int.toNat_natCast]); exact put_flat (by omega))) | refine ⟨_, cut_all (by omega), ?_⟩ | refine ⟨_, lay_all (by omega) (by omega), ?_⟩ | refine ⟨_, lay_all (by (try simp only); (try simp only [List.length_replicate]); (try simp only [List.length_cons]); (try simp only [List.length_nil]); omega) (by omega), ?_⟩ | refine ⟨by omega, ?_⟩ | refine ⟨len_flat (by omega), ?_⟩ | refine ⟨apart_uv _ _ _, ?_⟩ | refine ⟨_, resSlot_own rfl (by omega) (by first | exact .inl rfl | exact .inr ⟨rfl, rfl⟩), ?_⟩ | refine ⟨(by kernel_rfl : regB _ = true), ?_⟩ | refine ⟨⟨rfl, inI_of (by omega), by decide⟩, ?_⟩ | (apply Exists.intro; refine ⟨?_, ?_⟩; ((try simp only); (try simp only [Nat.zero_add]); (try simp only [Nat.mul_one]); (try simp only [Int.toNat_natCast]); exact at_drop_g (by omega))) | (apply Exists.intro; refine ⟨?_, ?_⟩; ((try simp only); (try simp only [Nat.zero_add]); (try simp only [Nat.mul_one]); (try simp only [Int.toNat_natCast]); exact cut_rest (by omega)))); conv => whnf))
  refine .inl ⟨fun m st => ∃ i : Nat, m = L - i ∧ i ≤ L ∧ st = ⟨[.poison, .im 1 L none (.flat .u8 plain), .poison, .poison, .poison, .poison, .poison, .sl 1 232 0 16 none, .poison, .poison, .sl 1 280 0 13 none, .sl 1 336 0 (L + T) none, .poison, .sl 1 400 0 (L + T) none, .poison, .poison, .poison, .poison, .poison, .poison, .poison, .poison, .poison, .poison, .poison, .poison, .poison, .poison, .poison, .poison, .poison, .poison, .poison, .poison, .poison, .poison, .poison, .poison, .poison, .poison, .poison, .poison, .poison, .poison, .poison, .poison, .poison, .poison, .poison, .poison, .poison, .poison, .poison, .poison, .poison, .poison, .poison, .poison, .poison, .poison, .poison, .poison, .poison, .poison, .poison, .poison, .poison, .poison, .poison, .poison, .poison, .poison, .poison, .poison, .poison, .poison, iv .i64 L, iv .i64 i, .poison, .poison, .poison, .poison, .poison, .poison, .poison, .poison, .poison, .poison, .poison, .poison, .poison, .poison, .poison, .poison, .poison, .poison, .poison, .poison, .poison, .poison, .poison, .poison, .poison, .poison, .poison, .poison, .poison, .poison, .poison, .poison, .poison, .poison, .poison, .poison, .poison, .poison, .poison, .poison, .poison, .poison, .poison, .poison, .poison, .poison, .poison, .poison, .poison, .poison, .poison, .poison, .poison],
      [(232, ⟨.flat .u8 k, 5, true⟩), (280, ⟨.flat .u8 v, 5, true⟩), (336, ⟨.flat .u8 C, 5, true⟩), (400, ⟨.flat .u8 D, 5, true⟩)]⟩,
    ⟨[0, 2, 3, 4, 5, 6, 8, 9, 12, 14, 15, 16, 17, 18, 19, 20, 21, 22, 23, 24, 25, 26, 27, 28, 29, 30, 31, 32, 33, 34, 35, 36, 37, 38, 39, 40, 41, 42, 43, 44, 45, 46, 47, 48, 49, 50, 51, 52, 53, 54, 55, 56, 57, 58, 59, 60, 61, 62, 63, 64, 65, 66, 67, 68, 69, 70, 71, 72, 73, 74, 75, 78, 79, 80, 81, 82, 83, 84, 85, 86, 87, 88, 89, 90, 91, 92, 93, 94, 95, 96, 97, 98, 99, 100, 101, 102, 103, 104, 105, 106, 107, 108, 109, 110, 111, 112, 113, 114, 115, 116, 117, 118, 119, 120, 121, 122, 123, 124, 125, 126, 127, 128, 129, 130], [233], L, 0, rfl, by omega, by kernel_rfl⟩, ?_⟩
  clear s1 s2 oP oS a1 a2 q3 q4
  rintro _ _ ⟨i, rfl, hi, rfl⟩
  conv => whnf
  refine ⟨fun h => ?_, fun h => ?_⟩
  · have h := of_decide_eq_true h
    have ht16 : (i : Int).tmod 16 = ((i % 16 : Nat) : Int) := tmod_nat _ _
    have eb : IntKind.i64.wrap (1 + IntKind.i64.wrap ((i : Int).tdiv 16)) = 1 + ((i / 16 : Nat) : Int) := by
      rw [Int.tdiv_eq_ediv_of_nonneg (by omega), wrap64 (x := (i : Int) / 16) (by omega), wrap64 (by omega)]
      omega
    have hB : ctr (14 - (v.length : Int)) v (1 + ((i / 16 : Nat) : Int)) = ([1] ++ v) ++ [0, IntKind.u8.wrap (1 + ((i / 16 : Nat) : Int))] := ctr_13 lv (by omega)
    have hKe : ksB k v 1 (i / 16) = encS k (ctr (14 - (v.length : Int)) v (1 + ((i / 16 : Nat) : Int))) 10 := rfl
    have lB : (([1] ++ v) ++ [0, IntKind.u8.wrap (1 + ((i / 16 : Nat) : Int))]).length = 16 := by simp; omega
    have bB : By (([1] ++ v) ++ [0, IntKind.u8.wrap (1 + ((i / 16 : Nat) : Int))]) := by rw [← hB]; exact ctr_by bv
    have oE := fun c c2 => eEnc c c2 k _ lk lB bk bB
    rw [← hB, ← hKe, hB] at oE
    rw [← eb] at oE lB
    have cB : (Cont.flat .u8 (([1] ++ v) ++ [0, IntKind.u8.wrap (IntKind.i64.wrap (1 + IntKind.i64.wrap ((i : Int).tdiv 16)))])).cut 0 (16 * 1) = some (.flat .u8 (([1] ++ v) ++ [0, IntKind.u8.wrap (IntKind.i64.wrap (1 + IntKind.i64.wrap ((i : Int).tdiv 16)))])) := cut_all (by omega)
    have hSl := ksB_len k v 1 (i / 16)
    have hse : strE k v plain 1 i = x8 (g plain i) (g (ksB k v 1 (i / 16)) (i % 16)) := rfl
    obtain ⟨S, hS⟩ : ∃ S, S = ksB k v 1 (i / 16) := ⟨_, rfl⟩
    rw [← hS] at oE hSl hse
    have q5 : (g C i != x8 (g plain i) (g S (i % 16))) = false := by rw [gC i (by omega), hse]; simp
    have q6 : (g D i != g C i) = false := by rw [gC i (by omega), gD i (by omega)]; simp
    have hsv : ∀ β : Nat → Option Blk, β 280 = some ⟨.flat .u8 v, 5, true⟩ → shown β 1 (.sl 1 280 0 13 none) = some (.flat .u8 v, 13) := fun β h => shown_sl h cv
    have l14 : ([1] ++ v).length = 14 := by simp; omega
    clear hKe hB hS bB hse gC gD
    ((conv => whnf); repeat ((first | refine ⟨_, expo_sl rfl ck, ?_⟩ | refine ⟨_, expo_sl rfl cB, ?_⟩ | refine ⟨_, oE _ _, ?_⟩ | refine ⟨_, append_over rfl rfl (hsv _ rfl) rfl rfl rfl (by decide) (Nat.le_refl 1) rfl rfl (by decide) (by decide), ?_⟩ | refine ⟨_, append_grow (cnt := 2) rfl rfl rfl rfl rfl l14 rfl (by decide) (by decide), ?_⟩ | refine ⟨fun _ => ?_, fun h => absurd ((q5).symm.trans h) (by decide)⟩ | refine ⟨fun h => absurd ((q5).symm.trans h) (by decide), fun _ => ?_⟩ | refine ⟨fun _ => ?_, fun h => absurd ((q6).symm.trans h) (by decide)⟩ | refine ⟨fun h => absurd ((q6).symm.trans h) (by decide), fun _ => ?_⟩ | refine ⟨_, rfl, ?_⟩ | refine ⟨by decide, ?_⟩ | refine ⟨rfl, ?_⟩ | refine ⟨fun _ => ?_, fun h => absurd h (by decide)⟩ | refine ⟨fun h => absurd h (by decide), fun _ => ?_⟩ | refine ⟨inI_of (by omega), ?_⟩ | refine ⟨⟨rfl, inI_of (by omega)⟩, ?_⟩ | refine ⟨⟨rfl, by decide⟩, ?_⟩ | refine ⟨by (try simp only); (try simp only [ht16]); exact inI_of (by omega), ?_⟩ | refine ⟨⟨rfl, by (try simp only); (try simp only [ht16]); exact inI_of (by omega)⟩, ?_⟩ | (apply Exists.intro; refine ⟨?_, ?_⟩; ((try simp only); (try simp only [ht16]); (try simp only [Nat.zero_add]); (try simp only [Nat.mul_one]); (try simp only [Int.toNat_natCast]); (try simp only [ht16]); (try simp only [Nat.zero_add]); (try simp only [Nat.mul_one]); (try simp only [Int.toNat_natCast]); exact at_g (by omega))) | (apply Exists.intro; refine ⟨?_, ?_⟩; ((try simp only); (try simp only [ht16]); (try simp only [Nat.zero_add]); (try simp only [Nat.mul_one]); (try simp only [Int.toNat_natCast]); (try simp only [ht16]); (try simp only [Nat.zero_add]); (try simp only [Nat.mul_one]); (try simp only [Int.toNat_natCast]); exact put_flat (by omega))) | refine ⟨_, cut_all (by omega), ?_⟩ | refine ⟨_, lay_all (by omega) (by omega), ?_⟩ | refine ⟨_, lay_all (by (try simp only); (try simp only [List.length_replicate]); (try simp only [List.length_cons]); (try simp only [List.length_nil]); omega) (by omega), ?_⟩ | refine ⟨by omega, ?_⟩ | refine ⟨len_flat (by omega), ?_⟩ | refine ⟨apart_uv _ _ _, ?_⟩ | refine ⟨_, resSlot_own rfl (by omega) (by first | exact .inl rfl | exact .inr ⟨rfl, rfl⟩), ?_⟩ | refine ⟨(by kernel_rfl : regB _ = true), ?_⟩ | refine ⟨⟨rfl, inI_of (by omega), by decide⟩, ?_⟩ | refine ⟨⟨rfl, by (try simp only); (try simp only [ht16]); exact inI_of (by omega), by decide⟩, ?_⟩ | (apply Exists.intro; refine ⟨?_, ?_⟩; ((try simp only); (try simp only [ht16]); (try simp only [Nat.zero_add]); (try simp only [Nat.mul_one]); (try simp only [Int.toNat_natCast]); (try simp only [ht16]); (try simp only [Nat.zero_add]); (try simp only [Nat.mul_one]); (try simp only [Int.toNat_natCast]); exact at_drop_g (by omega))) | (apply Exists.intro; refine ⟨?_, ?_⟩; ((try simp only); (try simp only [ht16]); (try simp only [Nat.zero_add]); (try simp only [Nat.mul_one]); (try simp only [Int.toNat_natCast]); (try simp only [ht16]); (try simp only [Nat.zero_add]); (try simp only [Nat.mul_one]); (try simp only [Int.toNat_natCast]); exact cut_rest (by omega)))); conv => whnf))
    have e1 : IntKind.i64.wrap ((i : Int) + 1) = ((i + 1 : Nat) : Int) := by rw [wrap64 (by omega)]; omega
    refine ⟨[0, 2, 3, 4, 5, 6, 8, 9, 12, 14, 15, 16, 17, 18, 19, 20, 21, 22, 23, 24, 25, 26, 27, 28, 29, 30, 31, 32, 33, 34, 35, 36, 37, 38, 39, 40, 41, 42, 43, 44, 45, 46, 47, 48, 49, 50, 51, 52, 53, 54, 55, 56, 57, 58, 59, 60, 61, 62, 63, 64, 65, 66, 67, 68, 69, 70, 71, 72, 73, 74, 75, 78, 79, 80, 81, 82, 83, 84, 85, 86, 87, 88, 89, 90, 91, 92, 93, 94, 95, 96, 97, 98, 99, 100, 101, 102, 103, 104, 105, 106, 107, 108, 109, 110, 111, 112, 113, 114, 115, 116, 117, 118, 119, 120, 121, 122, 123, 124, 125, 126, 127, 128, 129, 130], [656, 672, 712, 728], L - (i + 1), ?_, i + 1, rfl, by omega, ?_⟩
    · omega
    · rw [← e1]
      kernel_rfl
  · ((conv => whnf); repeat ((first | refine ⟨_, rfl, ?_⟩ | refine ⟨by decide, ?_⟩ | refine ⟨rfl, ?_⟩ | refine ⟨fun _ => ?_, fun h => absurd h (by decide)⟩ | refine ⟨fun h => absurd h (by decide), fun _ => ?_⟩ | refine ⟨inI_of (by omega), ?_⟩ | refine ⟨⟨rfl, inI_of (by omega)⟩, ?_⟩ | refine ⟨⟨rfl, by decide⟩, ?_⟩ | (apply Exists.intro; refine ⟨?_, ?_⟩; ((try simp only); (try simp only [Nat.zero_add]); (try simp only [Nat.mul_one]); (try simp only [Int.toNat_natCast]); exact at_g (by omega))) | (apply Exists.intro; refine ⟨?_, ?_⟩; ((try simp only); (try simp only [Nat.zero_add]); (try simp only [Nat.mul_one]); (try simp only [Int.toNat_natCast]); exact put_flat (by omega))) | refine ⟨_, cut_all (by omega), ?_⟩ | refine ⟨_, lay_all (by omega) (by omega), ?_⟩ | refine ⟨_, lay_all (by (try simp only); (try simp only [List.length_replicate]); (try simp only [List.length_cons]); (try simp only [List.length_nil]); omega) (by omega), ?_⟩ | refine ⟨by omega, ?_⟩ | refine ⟨len_flat (by omega), ?_⟩ | refine ⟨apart_uv _ _ _, ?_⟩ | refine ⟨_, resSlot_own rfl (by omega) (by first | exact .inl rfl | exact .inr ⟨rfl, rfl⟩), ?_⟩ | refine ⟨(by kernel_rfl : regB _ = true), ?_⟩ | refine ⟨⟨rfl, inI_of (by omega), by decide⟩, ?_⟩ | (apply Exists.intro; refine ⟨?_, ?_⟩; ((try simp only); (try simp only [Nat.zero_add]); (try simp only [Nat.mul_one]); (try simp only [Int.toNat_natCast]); exact at_drop_g (by omega))) | (apply Exists.intro; refine ⟨?_, ?_⟩; ((try simp only); (try simp only [Nat.zero_add]); (try simp only [Nat.mul_one]); (try simp only [Int.toNat_natCast]); exact cut_rest (by omega)))); conv => whnf))
    rfl
end Go.Proofs.Ytgkccfjjjamhoaa
