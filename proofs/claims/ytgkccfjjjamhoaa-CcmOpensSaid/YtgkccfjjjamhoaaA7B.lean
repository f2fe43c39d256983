/-
  Layer 7: the answer's stream, mac, Seal and Open.
-/
import Derived.Test.YtgkccfjjjamhoaaA7A
import Derived.Test.YtgkccfjjjamhoaaA6L
namespace Go.Proofs.Ytgkccfjjjamhoaa
open Go.RowKit

def orc7 (f : Nat) (ds : List LV) : Option LRes :=
  match f with
  | 49 => match ds with
    | [.v (.int .i64 a), .im 1 n _ (.flat .u8 b), .v (.int .i64 k)] => if b.length = n ∧ 7 ≤ n ∧ n ≤ 13 then some (LRes.one (.own 1 16 5 (.flat .u8 (ctr a b k)))) else none
    | _ => none
  | 50 => match ds with
    | [.im 1 n _ (.flat .u8 b)] => if b.length = n ∧ n ≤ 100000 then some (LRes.one (.own 1 (padP b).length 5 (.flat .u8 (padP b)))) else none
    | _ => none
  | 12 => match ds with
    | [.im 1 n _ _, .im 1 m _ _, .v (.int .i64 t)] => some (ret1 (.v (.bool (okP n m t))))
    | _ => none
  | _ => orcK f ds
theorem orc7_ok : Known Try.prog orc7 := by
  intro f ds r h
  unfold orc7 at h
  split at h
  · split at h
    · split at h
      · rename_i hc
        cases h
        exact ⟨⟨_, Try.func49, name_ne _ (by kernel_rfl), rfl⟩, counted_call _ _ _ _ _ hc.1 hc.2⟩
      · cases h
    · cases h
  · split at h
    · split at h
      · rename_i hc
        cases h
        exact ⟨⟨_, Try.func50, name_ne _ (by kernel_rfl), rfl⟩, padded_call _ _ _ hc.1 hc.2⟩
      · cases h
    · cases h
  · split at h
    · cases h
      exact ⟨⟨_, Try.func12, name_ne _ (by kernel_rfl), rfl⟩, execF_ok follows_ok EM_ok Try.func12 (rvalid_exec _ _ _ _ _ _ _)⟩
    · cases h
  · exact orcK_ok f ds r h
def E7 : Env := ⟨tyL, orc7, false, noWk, noOrw⟩
theorem E7_ok : EnvOk Try.prog E7 := ⟨tyL_ok, orc7_ok, noOrw_ok⟩
theorem rEnc7 (c c2 : Option Nat) (k b : List Int) (h1 : k.length = 16) (h2 : b.length = 16) (h3 : By k) (h4 : By b) : E7.orc 48 [.im 1 16 c (.flat .u8 k), .im 1 16 c2 (.flat .u8 b)] = some (ret2 (.own 1 16 5 (.flat .u8 (encS k b 10))) 0) := by
  have h : E7.orc 48 [.im 1 16 c (.flat .u8 k), .im 1 16 c2 (.flat .u8 b)] = some (encR 5 k b) := if_pos ⟨h1, h2, h3.ok, h4.ok⟩
  rw [h, encR, if_pos ⟨h1, h2⟩]
theorem cnt7 (a k : Int) (N : Nat) (c : Option Nat) (b : List Int) (h1 : b.length = N) (h2 : 7 ≤ N ∧ N ≤ 13) : E7.orc 49 [.v (.int .i64 a), .im 1 N c (.flat .u8 b), .v (.int .i64 k)] = some (LRes.one (.own 1 16 5 (.flat .u8 (ctr a b k)))) := if_pos ⟨h1, h2⟩
theorem pad7 (N : Nat) (c : Option Nat) (b : List Int) (h1 : b.length = N) (h2 : N ≤ 100000) : E7.orc 50 [.im 1 N c (.flat .u8 b)] = some (LRes.one (.own 1 (padP b).length 5 (.flat .u8 (padP b)))) := if_pos ⟨h1, h2⟩

/-- A block of the key stream; bytes xored with it. -/
def ksB (key nonce : List Int) (blk : Int) (j : Nat) : List Int := encS key (ctr (14 - (nonce.length : Int)) nonce (blk + j)) 10
def strE (key nonce b : List Int) (blk : Int) (i : Nat) : Int := x8 (g b i) (g (ksB key nonce blk (i / 16)) (i % 16))
def strF (key nonce b : List Int) (blk : Int) : List Int := (List.range b.length).map (strE key nonce b blk)
theorem strF_len (key nonce b : List Int) (blk : Int) : (strF key nonce b blk).length = b.length := by simp [strF]
theorem ksB_by {key nonce : List Int} (hk : By key) (hn : By nonce) (blk : Int) (j : Nat) : By (ksB key nonce blk j) := encS_by hk (ctr_by hn) 10
theorem ksB_len (key nonce : List Int) (blk : Int) (j : Nat) : (ksB key nonce blk j).length = 16 := encS_len _ _ _
theorem strF_by {key nonce b : List Int} (hk : By key) (hn : By nonce) (hb : By b) (blk : Int) : By (strF key nonce b blk) := By.map fun _ _ => x8_byte (hb.g _) ((ksB_by hk hn _ _).g _)

set_option maxRecDepth 100000 in
set_option maxHeartbeats 4000000 in
theorem rstream_exec (key nonce b : List Int) (N L : Nat) (c c2 c3 : Option Nat) (blk : Int) (hk : key.length = 16) (hkb : By key) (hN : nonce.length = N) (h7 : 7 ≤ N ∧ N ≤ 13) (hnb : By nonce) (hL : b.length = L) (hm : L ≤ 100000) (_ : By b) (hblk : 0 ≤ blk ∧ blk ≤ 1) :
    execF E7 Try.f29 [.im 1 16 c (.flat .u8 key), .im 1 N c2 (.flat .u8 nonce), .im 1 L c3 (.flat .u8 b), iv .i64 blk] (.one (.own 1 L 5 (.flat .u8 (strF key nonce b blk)))) := by
  ((conv => whnf); repeat ((first | refine ⟨_, rfl, ?_⟩ | refine ⟨by decide, ?_⟩ | refine ⟨rfl, ?_⟩ | refine ⟨fun _ => ?_, fun h => absurd h (by decide)⟩ | refine ⟨fun h => absurd h (by decide), fun _ => ?_⟩ | refine ⟨inI_of (by omega), ?_⟩ | refine ⟨⟨rfl, inI_of (by omega)⟩, ?_⟩ | refine ⟨⟨rfl, by decide⟩, ?_⟩ | (apply Exists.intro; refine ⟨?_, ?_⟩; ((try simp only); (try simp only [Nat.zero_add]); (try simp only [Nat.mul_one]); (try simp only [Int.toNat_natCast]); exact at_g (by omega))) | (apply Exists.intro; refine ⟨?_, ?_⟩; ((try simp only); (try simp only [Nat.zero_add]); (try simp only [Nat.mul_one]); (try simp only [Int.toNat_natCast]); exact put_flat (by omega))) | refine ⟨_, cut_all (by omega), ?_⟩ | refine ⟨_, lay_all (by omega) (by omega), ?_⟩ | refine ⟨_, lay_all (by (try simp only); (try simp only [List.length_replicate]); (try simp only [List.length_cons]); (try simp only [List.length_nil]); omega) (by omega), ?_⟩ | refine ⟨by omega, ?_⟩ | refine ⟨len_flat (by omega), ?_⟩ | refine ⟨apart_uv _ _ _, ?_⟩ | refine ⟨_, resSlot_own rfl (by omega) (by first | exact .inl rfl | exact .inr ⟨rfl, rfl⟩), ?_⟩ | refine ⟨(by kernel_rfl : regB _ = true), ?_⟩ | refine ⟨⟨rfl, inI_of (by omega), by decide⟩, ?_⟩ | (apply Exists.intro; refine ⟨?_, ?_⟩; ((try simp only); (try simp only [Nat.zero_add]); (try simp only [Nat.mul_one]); (try simp only [Int.toNat_natCast]); exact at_drop_g (by omega))) | (apply Exists.intro; refine ⟨?_, ?_⟩; ((try simp only); (try simp only [Nat.zero_add]); (try simp only [Nat.mul_one]); (try simp only [Int.toNat_natCast]); exact cut_rest (by omega)))); conv => whnf))
  refine .inl ⟨fun m st => ∃ (i : Nat) (S : List Int) (q : Nat), m = L - i ∧ i ≤ L ∧ (0 < i → q = 16 ∧ S = ksB key nonce blk ((i - 1) / 16)) ∧ st = ⟨[.im 1 16 c (.flat .u8 key), .im 1 N c2 (.flat .u8 nonce), .poison, iv .i64 blk, .poison, .poison, .poison, .poison, .poison, .sl 1 368 0 i none, .sl 1 8000 0 q none, .poison, .poison, .im 1 L c3 (.flat .u8 b), iv .i64 L, iv .i64 i, .poison, .poison, .poison, .poison, .poison, .poison, .poison, .poison, .poison, .poison, .poison, .poison, .poison, .poison, .poison, .poison, .poison, .poison, .poison, .poison, .poison, .poison, .poison, .poison, .poison, .poison, .poison, .poison, .poison, .poison, .poison, .poison, .poison],
      [(8000, ⟨.flat .u8 S, 5, true⟩), (368, ⟨.flat .u8 ((List.range i).map (strE key nonce b blk)), 5, true⟩)]⟩,
    ⟨[2, 4, 5, 6, 7, 8, 11, 12, 16, 17, 18, 19, 20, 21, 22, 23, 24, 25, 26, 27, 28, 29, 30, 31, 32, 33, 34, 35, 36, 37, 38, 39, 40, 41, 42, 43, 44, 45, 46, 47, 48], [.nil 9 368 1 5 (.flat .u8 []), .nil 10 8000 1 5 (.flat .u8 [])], L, 0, [], 0, rfl, by omega, fun h => absurd h (by omega), by kernel_rfl⟩, ?_⟩
  rintro _ _ ⟨i, S, q, rfl, hi, hS, rfl⟩
  have hl : ((List.range i).map (strE key nonce b blk)).length = i := by simp
  conv => whnf
  refine ⟨fun h => ?_, fun h => ?_⟩
  · have h := of_decide_eq_true h
    have ht : (i : Int).tmod 16 = ((i % 16 : Nat) : Int) := tmod_nat _ _
    have e1 : IntKind.i64.wrap ((i : Int) + 1) = ((i + 1 : Nat) : Int) := by rw [wrap64 (by omega)]; omega
    by_cases h0 : i % 16 = 0
    · have q1 : ((i : Int).tmod 16 == 0) = true := by rw [ht, h0]; rfl
      have ea : IntKind.i64.wrap (14 - (N : Int)) = 14 - (nonce.length : Int) := by rw [wrap64 (by omega), hN]
      have eb : IntKind.i64.wrap (blk + IntKind.i64.wrap ((i : Int).tdiv 16)) = blk + ((i / 16 : Nat) : Int) := by
        rw [Int.tdiv_eq_ediv_of_nonneg (by omega), wrap64 (x := (i : Int) / 16) (by omega), wrap64 (by omega)]
        omega
      have oC := fun c => cnt7 (IntKind.i64.wrap (14 - (N : Int))) (IntKind.i64.wrap (blk + IntKind.i64.wrap ((i : Int).tdiv 16))) N c nonce hN h7
      rw [ea, eb] at oC
      have hKe : ksB key nonce blk (i / 16) = encS key (ctr (14 - (nonce.length : Int)) nonce (blk + ((i / 16 : Nat) : Int))) 10 := rfl
      obtain ⟨C, hC⟩ : ∃ C, C = ctr (14 - (nonce.length : Int)) nonce (blk + ((i / 16 : Nat) : Int)) := ⟨_, rfl⟩
      have hCl : C.length = 16 := by rw [hC]; exact ctr_len (by omega)
      have hCb : By C := by rw [hC]; exact ctr_by hnb
      rw [← hC] at oC hKe
      have hcC : (Cont.flat .u8 C).cut 0 (16 * 1) = some (.flat .u8 C) := cut_all hCl
      have oE := fun c c2 => rEnc7 c c2 key C hk hCl hkb hCb
      rw [← hKe] at oE
      have hKl := ksB_len key nonce blk (i / 16)
      have hse : strE key nonce b blk i = x8 (g b i) (g (ksB key nonce blk (i / 16)) (i % 16)) := rfl
      obtain ⟨K, hK⟩ : ∃ K, K = ksB key nonce blk (i / 16) := ⟨_, rfl⟩
      rw [← hK] at oE hKl hse
      rw [← ea, ← eb] at oC
      clear hKe hS
      ((conv => whnf); repeat ((first | refine ⟨fun _ => ?_, fun h => absurd ((q1).symm.trans h) (by decide)⟩ | refine ⟨fun h => absurd ((q1).symm.trans h) (by decide), fun _ => ?_⟩ | refine ⟨_, oC _, ?_⟩ | refine ⟨_, oE _ _, ?_⟩ | refine ⟨_, expo_sl rfl hcC, ?_⟩ | refine ⟨_, append_grow (cnt := 1) rfl rfl rfl rfl rfl hl rfl (by omega) (by omega), ?_⟩ | refine ⟨_, rfl, ?_⟩ | refine ⟨by decide, ?_⟩ | refine ⟨rfl, ?_⟩ | refine ⟨fun _ => ?_, fun h => absurd h (by decide)⟩ | refine ⟨fun h => absurd h (by decide), fun _ => ?_⟩ | refine ⟨inI_of (by omega), ?_⟩ | refine ⟨⟨rfl, inI_of (by omega)⟩, ?_⟩ | refine ⟨⟨rfl, by decide⟩, ?_⟩ | refine ⟨by (try simp only); (try simp only [ht]); exact inI_of (by omega), ?_⟩ | refine ⟨⟨rfl, by (try simp only); (try simp only [ht]); exact inI_of (by omega)⟩, ?_⟩ | (apply Exists.intro; refine ⟨?_, ?_⟩; ((try simp only); (try simp only [ht]); (try simp only [Nat.zero_add]); (try simp only [Nat.mul_one]); (try simp only [Int.toNat_natCast]); (try simp only [ht]); (try simp only [Nat.zero_add]); (try simp only [Nat.mul_one]); (try simp only [Int.toNat_natCast]); exact at_g (by omega))) | (apply Exists.intro; refine ⟨?_, ?_⟩; ((try simp only); (try simp only [ht]); (try simp only [Nat.zero_add]); (try simp only [Nat.mul_one]); (try simp only [Int.toNat_natCast]); (try simp only [ht]); (try simp only [Nat.zero_add]); (try simp only [Nat.mul_one]); (try simp only [Int.toNat_natCast]); exact put_flat (by omega))) | refine ⟨_, cut_all (by omega), ?_⟩ | refine ⟨_, lay_all (by omega) (by omega), ?_⟩ | refine ⟨_, lay_all (by (try simp only); (try simp only [List.length_replicate]); (try simp only [List.length_cons]); (try simp only [List.length_nil]); omega) (by omega), ?_⟩ | refine ⟨by omega, ?_⟩ | refine ⟨len_flat (by omega), ?_⟩ | refine ⟨apart_uv _ _ _, ?_⟩ | refine ⟨_, resSlot_own rfl (by omega) (by first | exact .inl rfl | exact .inr ⟨rfl, rfl⟩), ?_⟩ | refine ⟨(by kernel_rfl : regB _ = true), ?_⟩ | refine ⟨⟨rfl, inI_of (by omega), by decide⟩, ?_⟩ | refine ⟨⟨rfl, by (try simp only); (try simp only [ht]); exact inI_of (by omega), by decide⟩, ?_⟩ | (apply Exists.intro; refine ⟨?_, ?_⟩; ((try simp only); (try simp only [ht]); (try simp only [Nat.zero_add]); (try simp only [Nat.mul_one]); (try simp only [Int.toNat_natCast]); (try simp only [ht]); (try simp only [Nat.zero_add]); (try simp only [Nat.mul_one]); (try simp only [Int.toNat_natCast]); exact at_drop_g (by omega))) | (apply Exists.intro; refine ⟨?_, ?_⟩; ((try simp only); (try simp only [ht]); (try simp only [Nat.zero_add]); (try simp only [Nat.mul_one]); (try simp only [Int.toNat_natCast]); (try simp only [ht]); (try simp only [Nat.zero_add]); (try simp only [Nat.mul_one]); (try simp only [Int.toNat_natCast]); exact cut_rest (by omega)))); conv => whnf))
      refine ⟨[2, 4, 5, 6, 7, 8, 11, 12, 16, 17, 18, 19, 20, 21, 22, 23, 24, 25, 26, 27, 28, 29, 30, 31, 32, 33, 34, 35, 36, 37, 38, 39, 40, 41, 42, 43, 44, 45, 46, 47, 48], [264, 360, .lose 8000, .move 272 8000], L - (i + 1), ?_, i + 1, K, 16, rfl, by omega, fun _ => ⟨rfl, by rw [hK, Nat.add_sub_cancel]⟩, ?_⟩
      · omega
      · rw [← e1, map_succ, hse]
        kernel_rfl
    · have q1 : ((i : Int).tmod 16 == 0) = false := by rw [ht]; simp; omega
      obtain ⟨hq, hS2⟩ := hS (by omega)
      subst hq
      clear hS
      have hj : (i - 1) / 16 = i / 16 := by omega
      rw [hj] at hS2
      have hSl : S.length = 16 := by rw [hS2]; exact ksB_len _ _ _ _
      have hse : strE key nonce b blk i = x8 (g b i) (g S (i % 16)) := by rw [hS2]; rfl
      ((conv => whnf); repeat ((first | refine ⟨fun _ => ?_, fun h => absurd ((q1).symm.trans h) (by decide)⟩ | refine ⟨fun h => absurd ((q1).symm.trans h) (by decide), fun _ => ?_⟩ | refine ⟨_, append_grow (cnt := 1) rfl rfl rfl rfl rfl hl rfl (by omega) (by omega), ?_⟩ | refine ⟨_, rfl, ?_⟩ | refine ⟨by decide, ?_⟩ | refine ⟨rfl, ?_⟩ | refine ⟨fun _ => ?_, fun h => absurd h (by decide)⟩ | refine ⟨fun h => absurd h (by decide), fun _ => ?_⟩ | refine ⟨inI_of (by omega), ?_⟩ | refine ⟨⟨rfl, inI_of (by omega)⟩, ?_⟩ | refine ⟨⟨rfl, by decide⟩, ?_⟩ | refine ⟨by (try simp only); (try simp only [ht]); exact inI_of (by omega), ?_⟩ | refine ⟨⟨rfl, by (try simp only); (try simp only [ht]); exact inI_of (by omega)⟩, ?_⟩ | (apply Exists.intro; refine ⟨?_, ?_⟩; ((try simp only); (try simp only [ht]); (try simp only [Nat.zero_add]); (try simp only [Nat.mul_one]); (try simp only [Int.toNat_natCast]); (try simp only [ht]); (try simp only [Nat.zero_add]); (try simp only [Nat.mul_one]); (try simp only [Int.toNat_natCast]); exact at_g (by omega))) | (apply Exists.intro; refine ⟨?_, ?_⟩; ((try simp only); (try simp only [ht]); (try simp only [Nat.zero_add]); (try simp only [Nat.mul_one]); (try simp only [Int.toNat_natCast]); (try simp only [ht]); (try simp only [Nat.zero_add]); (try simp only [Nat.mul_one]); (try simp only [Int.toNat_natCast]); exact put_flat (by omega))) | refine ⟨_, cut_all (by omega), ?_⟩ | refine ⟨_, lay_all (by omega) (by omega), ?_⟩ | refine ⟨_, lay_all (by (try simp only); (try simp only [List.length_replicate]); (try simp only [List.length_cons]); (try simp only [List.length_nil]); omega) (by omega), ?_⟩ | refine ⟨by omega, ?_⟩ | refine ⟨len_flat (by omega), ?_⟩ | refine ⟨apart_uv _ _ _, ?_⟩ | refine ⟨_, resSlot_own rfl (by omega) (by first | exact .inl rfl | exact .inr ⟨rfl, rfl⟩), ?_⟩ | refine ⟨(by kernel_rfl : regB _ = true), ?_⟩ | refine ⟨⟨rfl, inI_of (by omega), by decide⟩, ?_⟩ | refine ⟨⟨rfl, by (try simp only); (try simp only [ht]); exact inI_of (by omega), by decide⟩, ?_⟩ | (apply Exists.intro; refine ⟨?_, ?_⟩; ((try simp only); (try simp only [ht]); (try simp only [Nat.zero_add]); (try simp only [Nat.mul_one]); (try simp only [Int.toNat_natCast]); (try simp only [ht]); (try simp only [Nat.zero_add]); (try simp only [Nat.mul_one]); (try simp only [Int.toNat_natCast]); exact at_drop_g (by omega))) | (apply Exists.intro; refine ⟨?_, ?_⟩; ((try simp only); (try simp only [ht]); (try simp only [Nat.zero_add]); (try simp only [Nat.mul_one]); (try simp only [Int.toNat_natCast]); (try simp only [ht]); (try simp only [Nat.zero_add]); (try simp only [Nat.mul_one]); (try simp only [Int.toNat_natCast]); exact cut_rest (by omega)))); conv => whnf))
      refine ⟨[2, 4, 5, 6, 7, 8, 11, 12, 16, 17, 18, 19, 20, 21, 22, 23, 24, 25, 26, 27, 28, 29, 30, 31, 32, 33, 34, 35, 36, 37, 38, 39, 40, 41, 42, 43, 44, 45, 46, 47, 48], [360], L - (i + 1), ?_, i + 1, S, 16, rfl, by omega, fun _ => ⟨rfl, by rw [hS2, Nat.add_sub_cancel]⟩, ?_⟩
      · omega
      · rw [← e1, map_succ, hse]
        kernel_rfl
  · have h := of_decide_eq_false h
    have hi' : i = L := by omega
    subst hi'
    have htk : ((List.range i).map (strE key nonce b blk)).take (i * 1) = strF key nonce b blk := by rw [List.take_of_length_le (by omega), strF, hL]
    ((conv => whnf); repeat ((first | refine ⟨_, rfl, ?_⟩ | refine ⟨by decide, ?_⟩ | refine ⟨rfl, ?_⟩ | refine ⟨fun _ => ?_, fun h => absurd h (by decide)⟩ | refine ⟨fun h => absurd h (by decide), fun _ => ?_⟩ | refine ⟨inI_of (by omega), ?_⟩ | refine ⟨⟨rfl, inI_of (by omega)⟩, ?_⟩ | refine ⟨⟨rfl, by decide⟩, ?_⟩ | (apply Exists.intro; refine ⟨?_, ?_⟩; ((try simp only); (try simp only [Nat.zero_add]); (try simp only [Nat.mul_one]); (try simp only [Int.toNat_natCast]); exact at_g (by omega))) | (apply Exists.intro; refine ⟨?_, ?_⟩; ((try simp only); (try simp only [Nat.zero_add]); (try simp only [Nat.mul_one]); (try simp only [Int.toNat_natCast]); exact put_flat (by omega))) | refine ⟨_, cut_all (by omega), ?_⟩ | refine ⟨_, lay_all (by omega) (by omega), ?_⟩ | refine ⟨_, lay_all (by (try simp only); (try simp only [List.length_replicate]); (try simp only [List.length_cons]); (try simp only [List.length_nil]); omega) (by omega), ?_⟩ | refine ⟨by omega, ?_⟩ | refine ⟨len_flat (by omega), ?_⟩ | refine ⟨apart_uv _ _ _, ?_⟩ | refine ⟨_, resSlot_own rfl (by omega) (by first | exact .inl rfl | exact .inr ⟨rfl, rfl⟩), ?_⟩ | refine ⟨(by kernel_rfl : regB _ = true), ?_⟩ | refine ⟨⟨rfl, inI_of (by omega), by decide⟩, ?_⟩ | (apply Exists.intro; refine ⟨?_, ?_⟩; ((try simp only); (try simp only [Nat.zero_add]); (try simp only [Nat.mul_one]); (try simp only [Int.toNat_natCast]); exact at_drop_g (by omega))) | (apply Exists.intro; refine ⟨?_, ?_⟩; ((try simp only); (try simp only [Nat.zero_add]); (try simp only [Nat.mul_one]); (try simp only [Int.toNat_natCast]); exact cut_rest (by omega)))); conv => whnf))
    rw [htk]
    rfl

/-! the authentication value -/
def xorF (X B : List Int) (o : Nat) (r : Nat) : Int := x8 (g X r) (g B (o + r))
def xorAt (X B : List Int) (o : Nat) : List Int := (List.range 16).map (xorF X B o)
def macB (key B : List Int) : Nat → List Int
  | 0 => List.replicate 16 0
  | j + 1 => encS key (xorAt (macB key B j) B (16 * j)) 10
theorem macB_len (key B : List Int) : ∀ j, (macB key B j).length = 16
  | 0 => rfl
  | _ + 1 => encS_len _ _ _
theorem macB_by {key B : List Int} (hk : By key) (hB : By B) : ∀ j, By (macB key B j)
  | 0 => By.zeros _
  | j + 1 => encS_by hk (By.map fun _ _ => x8_byte ((macB_by hk hB j).g _) (hB.g _)) 10
def firP (tag : Int) (N : Nat) (A : Nat) : Int := 8 * (tag / 2 - 1) + 14 - N + if A = 0 then 0 else 64
def aadP (aad : List Int) : List Int := if aad.length = 0 then [] else padP ([IntKind.u8.wrap ((aad.length : Int).fdiv (2 ^ 8)), IntKind.u8.wrap aad.length] ++ aad)
def blksP (nonce aad plain : List Int) (tag : Int) : List Int := ctr (firP tag nonce.length aad.length) nonce plain.length ++ aadP aad ++ padP plain
def macP (key nonce aad plain : List Int) (tag : Int) : List Int := macB key (blksP nonce aad plain tag) ((blksP nonce aad plain tag).length / 16)
theorem aadP_by {aad : List Int} (h : By aad) : By (aadP aad) := by
  unfold aadP
  split
  · intro x hx; simp at hx
  · refine padP_by (By.append ?_ h)
    intro x hx
    simp at hx
    rcases hx with rfl | rfl <;> exact w8_byte _
theorem aadP_mod (aad : List Int) : (aadP aad).length % 16 = 0 := by
  unfold aadP
  split
  · rfl
  · exact padP_mod _
theorem blksP_by {nonce aad plain : List Int} (hn : By nonce) (ha : By aad) (hp : By plain) (tag : Int) : By (blksP nonce aad plain tag) := ((ctr_by hn).append (aadP_by ha)).append (padP_by hp)
theorem blksP_len {nonce aad plain : List Int} (hn : nonce.length ≤ 15) (tag : Int) : (blksP nonce aad plain tag).length = 16 + (aadP aad).length + (padP plain).length := by simp [blksP, ctr_len hn]; omega

/-- append of nothing. -/
theorem append_empty {E : Env} {β : Nat → Option Blk} {d t e b n : Nat} {l : List Int} {k : IntKind} {a1 a2 a4 by_ : Nat} {g1 g2 : Bool} {o1 : Option Cont} {dd : TD} {zc : Cont}
    (h1 : E.T t = some ⟨.slice e 1, a1, a2, g1, o1⟩) (h2 : E.T e = some ⟨dd, a4, by_, g2, some zc⟩) (hb : β b = some ⟨.flat k l, e, true⟩) (hl : l.length = n) (hz : zc.len = 1) (hby : n * by_ ≤ 140737488355328) (hmx : n ≤ 9223372036854775807) :
    opAppend E β d t (.sl 1 b 0 n none) nilV = some ⟨some b, none, .sl 1 b 0 n none, [(b, ⟨.flat k l, e, true⟩)]⟩ := by
  have hok : appOk 1 1 by_ (n + 0) zc = true := by simp [appOk, hby, hmx, hz]
  have happ : (Cont.flat k l).app (.gen []) = .flat k l := rfl
  simp only [opAppend, h1, shown, Cont.leaves, List.all_nil, if_true, appX, h2, hb, hok, Nat.mul_one, happ]
  simp [Cont.free, Cont.len, hl]
theorem firP_eq (tag : Int) (N : Nat) (h : 4 ≤ tag ∧ tag ≤ 16) (hN : N ≤ 13) : IntKind.i64.wrap (IntKind.i64.wrap (IntKind.i64.wrap (8 * IntKind.i64.wrap (IntKind.i64.wrap (tag.tdiv 2) - 1)) + 14) - (N : Int)) = firP tag N 0 := by
  rw [Int.tdiv_eq_ediv_of_nonneg (by omega), wrap64 (x := tag / 2) (by omega), wrap64 (x := tag / 2 - 1) (by omega), wrap64 (x := 8 * (tag / 2 - 1)) (by omega), wrap64 (x := 8 * (tag / 2 - 1) + 14) (by omega), wrap64 (by omega), firP, if_pos rfl]
  omega
theorem firP_64 (tag : Int) (N A : Nat) (h : 4 ≤ tag ∧ tag ≤ 16) (hN : N ≤ 13) (hA : 0 < A) : IntKind.i64.wrap (firP tag N 0 + 64) = firP tag N A := by
  simp only [firP, if_pos]
  rw [if_neg (by omega), wrap64 (by omega)]
  omega
set_option maxRecDepth 100000 in
set_option maxHeartbeats 8000000 in
theorem rmac_exec (key nonce aad plain : List Int) (N A L : Nat) (c c2 c3 c4 : Option Nat) (tag : Int) (hk : key.length = 16) (hkb : By key) (hN : nonce.length = N) (h7 : 7 ≤ N ∧ N ≤ 13) (hnb : By nonce) (hA : aad.length = A) (hA4 : A ≤ 4096) (hab : By aad)
    (hL : plain.length = L) (hL4 : L ≤ 4096) (hpb : By plain) (ht : 4 ≤ tag ∧ tag ≤ 16) :
    execF E7 Try.f30 [.im 1 16 c (.flat .u8 key), .im 1 N c2 (.flat .u8 nonce), .im 1 A c3 (.flat .u8 aad), .im 1 L c4 (.flat .u8 plain), iv .i64 tag] (.one (.own 1 16 5 (.flat .u8 (macP key nonce aad plain tag)))) := by
  have hBd : blksP nonce aad plain tag = ctr (firP tag nonce.length aad.length) nonce plain.length ++ aadP aad ++ padP plain := rfl
  have hB := blksP_by hnb hab hpb tag
  have hQ := blksP_len (aad := aad) (plain := plain) (show nonce.length ≤ 15 by omega) tag
  have hQ2 := aadP_mod aad
  have hQ3 := padP_mod plain
  have hQ4 : (padP plain).length ≤ L + 15 := by rw [padP, padK_len, hL]; omega
  have hQ5 : (aadP aad).length ≤ A + 17 := by
    unfold aadP
    split
    · simp
    · rw [padP, padK_len]; simp; omega
  have hm : macP key nonce aad plain tag = macB key (blksP nonce aad plain tag) ((blksP nonce aad plain tag).length / 16) := rfl
  rw [hm]
  clear hm
  obtain ⟨B, hBe⟩ : ∃ B, B = blksP nonce aad plain tag := ⟨_, rfl⟩
  obtain ⟨Q, hQe⟩ : ∃ Q, Q = B.length := ⟨_, rfl⟩
  rw [← hBe] at hB hQ hBd ⊢
  rw [← hQe] at hQ ⊢
  rw [hN, hA, hL] at hBd
  have oP := fun c => pad7 L c plain hL (by omega)
  obtain ⟨R, hR⟩ : ∃ R, R = padP plain := ⟨_, rfl⟩
  rw [← hR] at hBd hQ hQ3 hQ4 oP
  have hcR : (Cont.flat .u8 R).cut 0 (R.length * 1) = some (.flat .u8 R) := cut_all (by omega)
  clear hBe
  have hQl := hQe.symm
  by_cases hA0 : A = 0
  · have q1 : decide ((A : Int) > 0) = false := by simp; omega
    have hap : aadP aad = [] := by rw [aadP, if_pos (by omega)]
    rw [hap] at hBd hQ
    rw [hA0] at hBd
    have ef := firP_eq tag N ht (by omega)
    have oC := fun c => cnt7 (IntKind.i64.wrap (IntKind.i64.wrap (IntKind.i64.wrap (8 * IntKind.i64.wrap (IntKind.i64.wrap (tag.tdiv 2) - 1)) + 14) - (N : Int))) (L : Int) N c nonce hN h7
    rw [ef] at oC
    have hCl : (ctr (firP tag N 0) nonce (L : Int)).length = 16 := ctr_len (by omega)
    obtain ⟨C, hC⟩ : ∃ C, C = ctr (firP tag N 0) nonce (L : Int) := ⟨_, rfl⟩
    rw [← hC] at oC hBd hCl
    rw [← ef] at oC
    rw [List.append_nil] at hBd
    have hBe := hBd
    have hQ' : Q = 16 + R.length := by rw [hQ]; simp
    have hQe := hQ'
    have hCR : (C ++ R).length = 16 + R.length := by simp [hCl]
    ((conv => whnf); repeat ((first | refine ⟨fun _ => ?_, fun h => absurd ((q1).symm.trans h) (by decide)⟩ | refine ⟨fun h => absurd ((q1).symm.trans h) (by decide), fun _ => ?_⟩ | refine ⟨_, oC _, ?_⟩ | refine ⟨_, oP _, ?_⟩ | refine ⟨_, append_empty rfl rfl rfl hCl rfl (by omega) (by omega), ?_⟩ | refine ⟨_, append_grow rfl rfl (shown_sl rfl hcR) rfl rfl hCl rfl (by omega) (by omega), ?_⟩ | refine ⟨_, rfl, ?_⟩ | refine ⟨by decide, ?_⟩ | refine ⟨rfl, ?_⟩ | refine ⟨fun _ => ?_, fun h => absurd h (by decide)⟩ | refine ⟨fun h => absurd h (by decide), fun _ => ?_⟩ | refine ⟨inI_of (by omega), ?_⟩ | refine ⟨⟨rfl, inI_of (by omega)⟩, ?_⟩ | refine ⟨⟨rfl, by decide⟩, ?_⟩ | (apply Exists.intro; refine ⟨?_, ?_⟩; ((try simp only); (try simp only [Nat.zero_add]); (try simp only [Nat.mul_one]); (try simp only [Int.toNat_natCast]); exact at_g (by omega))) | (apply Exists.intro; refine ⟨?_, ?_⟩; ((try simp only); (try simp only [Nat.zero_add]); (try simp only [Nat.mul_one]); (try simp only [Int.toNat_natCast]); exact put_flat (by omega))) | refine ⟨_, cut_all (by omega), ?_⟩ | refine ⟨_, lay_all (by omega) (by omega), ?_⟩ | refine ⟨_, lay_all (by (try simp only); (try simp only [List.length_replicate]); (try simp only [List.length_cons]); (try simp only [List.length_nil]); omega) (by omega), ?_⟩ | refine ⟨by omega, ?_⟩ | refine ⟨len_flat (by omega), ?_⟩ | refine ⟨apart_uv _ _ _, ?_⟩ | refine ⟨_, resSlot_own rfl (by omega) (by first | exact .inl rfl | exact .inr ⟨rfl, rfl⟩), ?_⟩ | refine ⟨(by kernel_rfl : regB _ = true), ?_⟩ | refine ⟨⟨rfl, inI_of (by omega), by decide⟩, ?_⟩ | (apply Exists.intro; refine ⟨?_, ?_⟩; ((try simp only); (try simp only [Nat.zero_add]); (try simp only [Nat.mul_one]); (try simp only [Int.toNat_natCast]); exact at_drop_g (by omega))) | (apply Exists.intro; refine ⟨?_, ?_⟩; ((try simp only); (try simp only [Nat.zero_add]); (try simp only [Nat.mul_one]); (try simp only [Int.toNat_natCast]); exact cut_rest (by omega)))); conv => whnf))
    refine .inl ⟨fun m st => ∃ (j : Nat) (X : List Int), m = Q / 16 - j ∧ j ≤ Q / 16 ∧ X = macB key B j ∧ st = ⟨[.im 1 16 c (.flat .u8 key), .poison, .poison, .poison, .poison, .poison, .poison, .poison, .poison, .poison, .poison, .poison, .sl 1 352 0 Q none, .sl 1 8000 0 16 none, iv .i64 (16 * j : Nat), .poison, .poison, .poison, .poison, .poison, .poison, .poison, .poison, .poison, .poison, .poison, .poison, .poison, .poison, .poison, .poison, .poison, .poison, .poison, .poison, .poison, .poison, .poison, .poison, .poison, .poison, .poison, .poison, .poison, .poison, .poison, .poison, .poison, .poison, .poison, .poison, .poison, .poison, .poison, .poison, .poison, .poison, .poison, .poison, .poison, .poison, .poison, .poison, .poison, .poison, .poison, .poison, .poison, .poison, .poison, .poison, .poison, .poison, .poison, .poison, .poison, .poison, .poison, .poison, .poison],
        [(8000, ⟨.flat .u8 X, 5, true⟩), (352, ⟨.flat .u8 B, 5, true⟩)]⟩, ⟨[1, 2, 3, 4, 5, 6, 7, 8, 9, 10, 11, 15, 16, 17, 18, 19, 20, 21, 22, 23, 24, 25, 26, 27, 28, 29, 30, 31, 32, 33, 34, 35, 36, 37, 38, 39, 40, 41, 42, 43, 44, 45, 46, 47, 48, 49, 50, 51, 52, 53, 54, 55, 56, 57, 58, 59, 60, 61, 62, 63, 64, 65, 66, 67, 68, 69, 70, 71, 72, 73, 74, 75, 76, 77, 78, 79], [288, 304, 312, 384, .free 400, .move 400 8000], Q / 16, 0, _, rfl, by omega, rfl, by rw [hBe, hQe]; kernel_rfl⟩, ?_⟩
    clear hBe hQe
    rintro _ _ ⟨j, X, rfl, hj, hX, rfl⟩
    have hXl : X.length = 16 := by rw [hX]; exact macB_len _ _ _
    have hXb : By X := by rw [hX]; exact macB_by hkb hB _
    conv => whnf
    refine ⟨fun h => ?_, fun h => ?_⟩
    · have h := of_decide_eq_true h
      ((conv => whnf); repeat ((first | refine ⟨_, rfl, ?_⟩ | refine ⟨by decide, ?_⟩ | refine ⟨rfl, ?_⟩ | refine ⟨fun _ => ?_, fun h => absurd h (by decide)⟩ | refine ⟨fun h => absurd h (by decide), fun _ => ?_⟩ | refine ⟨inI_of (by omega), ?_⟩ | refine ⟨⟨rfl, inI_of (by omega)⟩, ?_⟩ | refine ⟨⟨rfl, by decide⟩, ?_⟩ | (apply Exists.intro; refine ⟨?_, ?_⟩; ((try simp only); (try simp only [Nat.zero_add]); (try simp only [Nat.mul_one]); (try simp only [Int.toNat_natCast]); exact at_g (by omega))) | (apply Exists.intro; refine ⟨?_, ?_⟩; ((try simp only); (try simp only [Nat.zero_add]); (try simp only [Nat.mul_one]); (try simp only [Int.toNat_natCast]); exact put_flat (by omega))) | refine ⟨_, cut_all (by omega), ?_⟩ | refine ⟨_, lay_all (by omega) (by omega), ?_⟩ | refine ⟨_, lay_all (by (try simp only); (try simp only [List.length_replicate]); (try simp only [List.length_cons]); (try simp only [List.length_nil]); omega) (by omega), ?_⟩ | refine ⟨by omega, ?_⟩ | refine ⟨len_flat (by omega), ?_⟩ | refine ⟨apart_uv _ _ _, ?_⟩ | refine ⟨_, resSlot_own rfl (by omega) (by first | exact .inl rfl | exact .inr ⟨rfl, rfl⟩), ?_⟩ | refine ⟨(by kernel_rfl : regB _ = true), ?_⟩ | refine ⟨⟨rfl, inI_of (by omega), by decide⟩, ?_⟩ | (apply Exists.intro; refine ⟨?_, ?_⟩; ((try simp only); (try simp only [Nat.zero_add]); (try simp only [Nat.mul_one]); (try simp only [Int.toNat_natCast]); exact at_drop_g (by omega))) | (apply Exists.intro; refine ⟨?_, ?_⟩; ((try simp only); (try simp only [Nat.zero_add]); (try simp only [Nat.mul_one]); (try simp only [Int.toNat_natCast]); exact cut_rest (by omega)))); conv => whnf))
      refine .inl ⟨fun m st => ∃ k : Nat, m = 16 - k ∧ k ≤ 16 ∧ st = ⟨[.im 1 16 c (.flat .u8 key), .poison, .poison, .poison, .poison, .poison, .poison, .poison, .poison, .poison, .poison, .poison, .sl 1 352 0 Q none, .sl 1 8000 0 16 none, iv .i64 (16 * j : Nat), .poison, .poison, .poison, .poison, .poison, .poison, .poison, .poison, .poison, .poison, .poison, .poison, .poison, .poison, .poison, .poison, .poison, .poison, .poison, .poison, .poison, .poison, .poison, .poison, .poison, .poison, .poison, .poison, .poison, .poison, .poison, .poison, .poison, .poison, .poison, .poison, .poison, .poison, .poison, .poison, .poison, .poison, iv .i64 k, .poison, .poison, .poison, .poison, .poison, .poison, .poison, .poison, .poison, .poison, .poison, .poison, .poison, .poison, .poison, .poison, .poison, .poison, .poison, .poison, .poison, .poison],
          [(8000, ⟨.flat .u8 (upd (xorF X B (16 * j)) X k), 5, true⟩), (352, ⟨.flat .u8 B, 5, true⟩)]⟩, ⟨[1, 2, 3, 4, 5, 6, 7, 8, 9, 10, 11, 15, 16, 17, 18, 19, 20, 21, 22, 23, 24, 25, 26, 27, 28, 29, 30, 31, 32, 33, 34, 35, 36, 37, 38, 39, 40, 41, 42, 43, 44, 45, 46, 47, 48, 49, 50, 51, 52, 53, 54, 55, 56, 58, 59, 60, 61, 62, 63, 64, 65, 66, 67, 68, 69, 70, 71, 72, 73, 74, 75, 76, 77, 78, 79], [], 16, 0, rfl, by omega, by rw [upd_zero]; kernel_rfl⟩, ?_⟩
      rintro _ _ ⟨k, rfl, hkk, rfl⟩
      have hul : (upd (xorF X B (16 * j)) X k).length = 16 := by rw [upd_len, hXl]
      conv => whnf
      refine ⟨fun h2 => ?_, fun h2 => ?_⟩
      · have h2 := of_decide_eq_true h2
        have ei : IntKind.i64.wrap (((16 * j : Nat) : Int) + (k : Nat)) = ((16 * j + k : Nat) : Int) := by rw [wrap64 (by omega)]; omega
        ((conv => whnf); repeat ((first | refine ⟨_, rfl, ?_⟩ | refine ⟨by decide, ?_⟩ | refine ⟨rfl, ?_⟩ | refine ⟨fun _ => ?_, fun h => absurd h (by decide)⟩ | refine ⟨fun h => absurd h (by decide), fun _ => ?_⟩ | refine ⟨inI_of (by omega), ?_⟩ | refine ⟨⟨rfl, inI_of (by omega)⟩, ?_⟩ | refine ⟨⟨rfl, by decide⟩, ?_⟩ | refine ⟨by (try simp only); (try simp only [ei]); exact inI_of (by omega), ?_⟩ | refine ⟨⟨rfl, by (try simp only); (try simp only [ei]); exact inI_of (by omega)⟩, ?_⟩ | (apply Exists.intro; refine ⟨?_, ?_⟩; ((try simp only); (try simp only [ei]); (try simp only [Nat.zero_add]); (try simp only [Nat.mul_one]); (try simp only [Int.toNat_natCast]); (try simp only [ei]); (try simp only [Nat.zero_add]); (try simp only [Nat.mul_one]); (try simp only [Int.toNat_natCast]); exact at_g (by omega))) | (apply Exists.intro; refine ⟨?_, ?_⟩; ((try simp only); (try simp only [ei]); (try simp only [Nat.zero_add]); (try simp only [Nat.mul_one]); (try simp only [Int.toNat_natCast]); (try simp only [ei]); (try simp only [Nat.zero_add]); (try simp only [Nat.mul_one]); (try simp only [Int.toNat_natCast]); exact put_flat (by omega))) | refine ⟨_, cut_all (by omega), ?_⟩ | refine ⟨_, lay_all (by omega) (by omega), ?_⟩ | refine ⟨_, lay_all (by (try simp only); (try simp only [List.length_replicate]); (try simp only [List.length_cons]); (try simp only [List.length_nil]); omega) (by omega), ?_⟩ | refine ⟨by omega, ?_⟩ | refine ⟨len_flat (by omega), ?_⟩ | refine ⟨apart_uv _ _ _, ?_⟩ | refine ⟨_, resSlot_own rfl (by omega) (by first | exact .inl rfl | exact .inr ⟨rfl, rfl⟩), ?_⟩ | refine ⟨(by kernel_rfl : regB _ = true), ?_⟩ | refine ⟨⟨rfl, inI_of (by omega), by decide⟩, ?_⟩ | refine ⟨⟨rfl, by (try simp only); (try simp only [ei]); exact inI_of (by omega), by decide⟩, ?_⟩ | (apply Exists.intro; refine ⟨?_, ?_⟩; ((try simp only); (try simp only [ei]); (try simp only [Nat.zero_add]); (try simp only [Nat.mul_one]); (try simp only [Int.toNat_natCast]); (try simp only [ei]); (try simp only [Nat.zero_add]); (try simp only [Nat.mul_one]); (try simp only [Int.toNat_natCast]); exact at_drop_g (by omega))) | (apply Exists.intro; refine ⟨?_, ?_⟩; ((try simp only); (try simp only [ei]); (try simp only [Nat.zero_add]); (try simp only [Nat.mul_one]); (try simp only [Int.toNat_natCast]); (try simp only [ei]); (try simp only [Nat.zero_add]); (try simp only [Nat.mul_one]); (try simp only [Int.toNat_natCast]); exact cut_rest (by omega)))); conv => whnf))
        have e1 : IntKind.i64.wrap ((k : Int) + 1) = ((k + 1 : Nat) : Int) := by rw [wrap64 (by omega)]; omega
        have e2 := upd_set (xorF X B (16 * j)) X (i := k) (by omega)
        have e4 : g (upd (xorF X B (16 * j)) X k) k = g X k := by rw [g_upd (by omega), if_neg (by omega)]
        have e5 : xorF X B (16 * j) k = x8 (g (upd (xorF X B (16 * j)) X k) k) (g B (16 * j + k)) := by rw [e4, xorF]
        refine ⟨[1, 2, 3, 4, 5, 6, 7, 8, 9, 10, 11, 15, 16, 17, 18, 19, 20, 21, 22, 23, 24, 25, 26, 27, 28, 29, 30, 31, 32, 33, 34, 35, 36, 37, 38, 39, 40, 41, 42, 43, 44, 45, 46, 47, 48, 49, 50, 51, 52, 53, 54, 55, 56, 58, 59, 60, 61, 62, 63, 64, 65, 66, 67, 68, 69, 70, 71, 72, 73, 74, 75, 76, 77, 78, 79], [], 16 - (k + 1), ?_, k + 1, rfl, by omega, ?_⟩
        · omega
        · rw [← e1, ← e2, e5]
          kernel_rfl
      · have h2 := of_decide_eq_false h2
        have hk16 : k = 16 := by omega
        subst hk16
        have hu : upd (xorF X B (16 * j)) X 16 = xorAt X B (16 * j) := upd_all _ _ hXl
        obtain ⟨Y, hY⟩ : ∃ Y, Y = xorAt X B (16 * j) := ⟨_, rfl⟩
        have hYl : Y.length = 16 := by rw [hY, xorAt, List.length_map, List.length_range]
        have hYb : By Y := by rw [hY]; exact By.map fun _ _ => x8_byte (hXb.g _) (hB.g _)
        have hcY : (Cont.flat .u8 Y).cut 0 (16 * 1) = some (.flat .u8 Y) := cut_all hYl
        rw [hu, ← hY]
        have oE := fun c c2 => rEnc7 c c2 key Y hk hYl hkb hYb
        ((conv => whnf); repeat ((first | refine ⟨_, expo_sl rfl hcY, ?_⟩ | refine ⟨_, oE _ _, ?_⟩ | refine ⟨_, rfl, ?_⟩ | refine ⟨by decide, ?_⟩ | refine ⟨rfl, ?_⟩ | refine ⟨fun _ => ?_, fun h => absurd h (by decide)⟩ | refine ⟨fun h => absurd h (by decide), fun _ => ?_⟩ | refine ⟨inI_of (by omega), ?_⟩ | refine ⟨⟨rfl, inI_of (by omega)⟩, ?_⟩ | refine ⟨⟨rfl, by decide⟩, ?_⟩ | (apply Exists.intro; refine ⟨?_, ?_⟩; ((try simp only); (try simp only [Nat.zero_add]); (try simp only [Nat.mul_one]); (try simp only [Int.toNat_natCast]); exact at_g (by omega))) | (apply Exists.intro; refine ⟨?_, ?_⟩; ((try simp only); (try simp only [Nat.zero_add]); (try simp only [Nat.mul_one]); (try simp only [Int.toNat_natCast]); exact put_flat (by omega))) | refine ⟨_, cut_all (by omega), ?_⟩ | refine ⟨_, lay_all (by omega) (by omega), ?_⟩ | refine ⟨_, lay_all (by (try simp only); (try simp only [List.length_replicate]); (try simp only [List.length_cons]); (try simp only [List.length_nil]); omega) (by omega), ?_⟩ | refine ⟨by omega, ?_⟩ | refine ⟨len_flat (by omega), ?_⟩ | refine ⟨apart_uv _ _ _, ?_⟩ | refine ⟨_, resSlot_own rfl (by omega) (by first | exact .inl rfl | exact .inr ⟨rfl, rfl⟩), ?_⟩ | refine ⟨(by kernel_rfl : regB _ = true), ?_⟩ | refine ⟨⟨rfl, inI_of (by omega), by decide⟩, ?_⟩ | (apply Exists.intro; refine ⟨?_, ?_⟩; ((try simp only); (try simp only [Nat.zero_add]); (try simp only [Nat.mul_one]); (try simp only [Int.toNat_natCast]); exact at_drop_g (by omega))) | (apply Exists.intro; refine ⟨?_, ?_⟩; ((try simp only); (try simp only [Nat.zero_add]); (try simp only [Nat.mul_one]); (try simp only [Int.toNat_natCast]); exact cut_rest (by omega)))); conv => whnf))
        have e1 : IntKind.i64.wrap (((16 * j : Nat) : Int) + 16) = ((16 * (j + 1) : Nat) : Int) := by rw [wrap64 (by omega)]; omega
        refine ⟨[1, 2, 3, 4, 5, 6, 7, 8, 9, 10, 11, 15, 16, 17, 18, 19, 20, 21, 22, 23, 24, 25, 26, 27, 28, 29, 30, 31, 32, 33, 34, 35, 36, 37, 38, 39, 40, 41, 42, 43, 44, 45, 46, 47, 48, 49, 50, 51, 52, 53, 54, 55, 56, 57, 58, 59, 60, 61, 62, 63, 64, 65, 66, 67, 68, 69, 70, 71, 72, 73, 74, 75, 76, 77, 78, 79], [.lose 8000, .move 608 8000], Q / 16 - (j + 1), ?_, j + 1, _, rfl, by omega, rfl, ?_⟩
        · omega
        · rw [← e1, macB, ← hX, ← hY]
          kernel_rfl
    · have h := of_decide_eq_false h
      have hj : j = Q / 16 := by omega
      have htk : X.take (16 * 1) = macB key B (Q / 16) := by rw [List.take_of_length_le (by omega), hX, hj]
      ((conv => whnf); repeat ((first | refine ⟨_, rfl, ?_⟩ | refine ⟨by decide, ?_⟩ | refine ⟨rfl, ?_⟩ | refine ⟨fun _ => ?_, fun h => absurd h (by decide)⟩ | refine ⟨fun h => absurd h (by decide), fun _ => ?_⟩ | refine ⟨inI_of (by omega), ?_⟩ | refine ⟨⟨rfl, inI_of (by omega)⟩, ?_⟩ | refine ⟨⟨rfl, by decide⟩, ?_⟩ | (apply Exists.intro; refine ⟨?_, ?_⟩; ((try simp only); (try simp only [Nat.zero_add]); (try simp only [Nat.mul_one]); (try simp only [Int.toNat_natCast]); exact at_g (by omega))) | (apply Exists.intro; refine ⟨?_, ?_⟩; ((try simp only); (try simp only [Nat.zero_add]); (try simp only [Nat.mul_one]); (try simp only [Int.toNat_natCast]); exact put_flat (by omega))) | refine ⟨_, cut_all (by omega), ?_⟩ | refine ⟨_, lay_all (by omega) (by omega), ?_⟩ | refine ⟨_, lay_all (by (try simp only); (try simp only [List.length_replicate]); (try simp only [List.length_cons]); (try simp only [List.length_nil]); omega) (by omega), ?_⟩ | refine ⟨by omega, ?_⟩ | refine ⟨len_flat (by omega), ?_⟩ | refine ⟨apart_uv _ _ _, ?_⟩ | refine ⟨_, resSlot_own rfl (by omega) (by first | exact .inl rfl | exact .inr ⟨rfl, rfl⟩), ?_⟩ | refine ⟨(by kernel_rfl : regB _ = true), ?_⟩ | refine ⟨⟨rfl, inI_of (by omega), by decide⟩, ?_⟩ | (apply Exists.intro; refine ⟨?_, ?_⟩; ((try simp only); (try simp only [Nat.zero_add]); (try simp only [Nat.mul_one]); (try simp only [Int.toNat_natCast]); exact at_drop_g (by omega))) | (apply Exists.intro; refine ⟨?_, ?_⟩; ((try simp only); (try simp only [Nat.zero_add]); (try simp only [Nat.mul_one]); (try simp only [Int.toNat_natCast]); exact cut_rest (by omega)))); conv => whnf))
      rw [htk]
      rfl
  · have q1 : decide ((A : Int) > 0) = true := by simp; omega
    have hap : aadP aad = padP ([IntKind.u8.wrap ((A : Int).fdiv (2 ^ 8)), IntKind.u8.wrap A] ++ aad) := by rw [aadP, if_neg (by omega), hA]
    have hDl : ([IntKind.u8.wrap ((A : Int).fdiv (2 ^ 8)), IntKind.u8.wrap A] ++ aad).length = 2 + A := by simp; omega
    have hcD : (Cont.flat .u8 ([IntKind.u8.wrap ((A : Int).fdiv (2 ^ 8)), IntKind.u8.wrap A] ++ aad)).cut 0 ((2 + A) * 1) = some (.flat .u8 ([IntKind.u8.wrap ((A : Int).fdiv (2 ^ 8)), IntKind.u8.wrap A] ++ aad)) := cut_all (by omega)
    have oD := fun c => pad7 (2 + A) c _ hDl (by omega)
    rw [← hap] at oD
    obtain ⟨P, hP⟩ : ∃ P, P = aadP aad := ⟨_, rfl⟩
    rw [← hP] at oD hBd hQ hQ2 hQ5
    have hcP : (Cont.flat .u8 P).cut 0 (P.length * 1) = some (.flat .u8 P) := cut_all (by omega)
    have ef := firP_eq tag N ht (by omega)
    have ef2 := firP_64 tag N A ht (by omega) (by omega)
    have oC := fun c => cnt7 (IntKind.i64.wrap (IntKind.i64.wrap (IntKind.i64.wrap (IntKind.i64.wrap (8 * IntKind.i64.wrap (IntKind.i64.wrap (tag.tdiv 2) - 1)) + 14) - (N : Int)) + 64)) (L : Int) N c nonce hN h7
    rw [ef, ef2] at oC
    have hCl : (ctr (firP tag N A) nonce (L : Int)).length = 16 := ctr_len (by omega)
    obtain ⟨C, hC⟩ : ∃ C, C = ctr (firP tag N A) nonce (L : Int) := ⟨_, rfl⟩
    rw [← hC] at oC hBd hCl
    rw [← ef2, ← ef] at oC
    have hBe := hBd
    have hQe : Q = 16 + P.length + R.length := hQ
    have hCP : (C ++ P).length = 16 + P.length := by simp [hCl]
    have hsA : ∀ β : Nat → Option Blk, shown β 1 (.im 1 A c3 (.flat .u8 aad)) = some (.flat .u8 aad, A) := fun β => rfl
    clear hap hP
    ((conv => whnf); repeat ((first | refine ⟨fun _ => ?_, fun h => absurd ((q1).symm.trans h) (by decide)⟩ | refine ⟨fun h => absurd ((q1).symm.trans h) (by decide), fun _ => ?_⟩ | refine ⟨_, oC _, ?_⟩ | refine ⟨_, oP _, ?_⟩ | refine ⟨_, oD _, ?_⟩ | refine ⟨_, expo_sl rfl hcD, ?_⟩ | refine ⟨_, append_over rfl rfl (hsA _) rfl rfl rfl (by omega) (Nat.le_refl 2) rfl rfl (by omega) (by omega), ?_⟩ | refine ⟨_, append_grow rfl rfl (shown_sl rfl hcP) rfl rfl hCl rfl (by omega) (by omega), ?_⟩ | refine ⟨_, append_grow rfl rfl (shown_sl rfl hcR) rfl rfl hCP rfl (by omega) (by omega), ?_⟩ | refine ⟨_, rfl, ?_⟩ | refine ⟨by decide, ?_⟩ | refine ⟨rfl, ?_⟩ | refine ⟨fun _ => ?_, fun h => absurd h (by decide)⟩ | refine ⟨fun h => absurd h (by decide), fun _ => ?_⟩ | refine ⟨inI_of (by omega), ?_⟩ | refine ⟨⟨rfl, inI_of (by omega)⟩, ?_⟩ | refine ⟨⟨rfl, by decide⟩, ?_⟩ | (apply Exists.intro; refine ⟨?_, ?_⟩; ((try simp only); (try simp only [Nat.zero_add]); (try simp only [Nat.mul_one]); (try simp only [Int.toNat_natCast]); exact at_g (by omega))) | (apply Exists.intro; refine ⟨?_, ?_⟩; ((try simp only); (try simp only [Nat.zero_add]); (try simp only [Nat.mul_one]); (try simp only [Int.toNat_natCast]); exact put_flat (by omega))) | refine ⟨_, cut_all (by omega), ?_⟩ | refine ⟨_, lay_all (by omega) (by omega), ?_⟩ | refine ⟨_, lay_all (by (try simp only); (try simp only [List.length_replicate]); (try simp only [List.length_cons]); (try simp only [List.length_nil]); omega) (by omega), ?_⟩ | refine ⟨by omega, ?_⟩ | refine ⟨len_flat (by omega), ?_⟩ | refine ⟨apart_uv _ _ _, ?_⟩ | refine ⟨_, resSlot_own rfl (by omega) (by first | exact .inl rfl | exact .inr ⟨rfl, rfl⟩), ?_⟩ | refine ⟨(by kernel_rfl : regB _ = true), ?_⟩ | refine ⟨⟨rfl, inI_of (by omega), by decide⟩, ?_⟩ | (apply Exists.intro; refine ⟨?_, ?_⟩; ((try simp only); (try simp only [Nat.zero_add]); (try simp only [Nat.mul_one]); (try simp only [Int.toNat_natCast]); exact at_drop_g (by omega))) | (apply Exists.intro; refine ⟨?_, ?_⟩; ((try simp only); (try simp only [Nat.zero_add]); (try simp only [Nat.mul_one]); (try simp only [Int.toNat_natCast]); exact cut_rest (by omega)))); conv => whnf))
    refine .inl ⟨fun m st => ∃ (j : Nat) (X : List Int), m = Q / 16 - j ∧ j ≤ Q / 16 ∧ X = macB key B j ∧ st = ⟨[.im 1 16 c (.flat .u8 key), .poison, .poison, .poison, .poison, .poison, .poison, .poison, .poison, .poison, .poison, .poison, .sl 1 352 0 Q none, .sl 1 8000 0 16 none, iv .i64 (16 * j : Nat), .poison, .poison, .poison, .poison, .poison, .poison, .poison, .poison, .poison, .poison, .poison, .poison, .poison, .poison, .poison, .poison, .poison, .poison, .poison, .poison, .poison, .poison, .poison, .poison, .poison, .poison, .poison, .poison, .poison, .poison, .poison, .poison, .poison, .poison, .poison, .poison, .poison, .poison, .poison, .poison, .poison, .poison, .poison, .poison, .poison, .poison, .poison, .poison, .poison, .poison, .poison, .poison, .poison, .poison, .poison, .poison, .poison, .poison, .poison, .poison, .poison, .poison, .poison, .poison, .poison],
        [(8000, ⟨.flat .u8 X, 5, true⟩), (352, ⟨.flat .u8 B, 5, true⟩)]⟩, ⟨[1, 2, 3, 4, 5, 6, 7, 8, 9, 10, 11, 15, 16, 17, 18, 19, 20, 21, 22, 23, 24, 25, 26, 27, 28, 29, 30, 31, 32, 33, 34, 35, 36, 37, 38, 39, 40, 41, 42, 43, 44, 45, 46, 47, 48, 49, 50, 51, 52, 53, 54, 55, 56, 57, 58, 59, 60, 61, 62, 63, 64, 65, 66, 67, 68, 69, 70, 71, 72, 73, 74, 75, 76, 77, 78, 79], [288, 304, 312, 384, .free 400, .move 400 8000], Q / 16, 0, _, rfl, by omega, rfl, by rw [hBe, hQe]; kernel_rfl⟩, ?_⟩
    clear hBe hQe
    rintro _ _ ⟨j, X, rfl, hj, hX, rfl⟩
    have hXl : X.length = 16 := by rw [hX]; exact macB_len _ _ _
    have hXb : By X := by rw [hX]; exact macB_by hkb hB _
    conv => whnf
    refine ⟨fun h => ?_, fun h => ?_⟩
    · have h := of_decide_eq_true h
      ((conv => whnf); repeat ((first | refine ⟨_, rfl, ?_⟩ | refine ⟨by decide, ?_⟩ | refine ⟨rfl, ?_⟩ | refine ⟨fun _ => ?_, fun h => absurd h (by decide)⟩ | refine ⟨fun h => absurd h (by decide), fun _ => ?_⟩ | refine ⟨inI_of (by omega), ?_⟩ | refine ⟨⟨rfl, inI_of (by omega)⟩, ?_⟩ | refine ⟨⟨rfl, by decide⟩, ?_⟩ | (apply Exists.intro; refine ⟨?_, ?_⟩; ((try simp only); (try simp only [Nat.zero_add]); (try simp only [Nat.mul_one]); (try simp only [Int.toNat_natCast]); exact at_g (by omega))) | (apply Exists.intro; refine ⟨?_, ?_⟩; ((try simp only); (try simp only [Nat.zero_add]); (try simp only [Nat.mul_one]); (try simp only [Int.toNat_natCast]); exact put_flat (by omega))) | refine ⟨_, cut_all (by omega), ?_⟩ | refine ⟨_, lay_all (by omega) (by omega), ?_⟩ | refine ⟨_, lay_all (by (try simp only); (try simp only [List.length_replicate]); (try simp only [List.length_cons]); (try simp only [List.length_nil]); omega) (by omega), ?_⟩ | refine ⟨by omega, ?_⟩ | refine ⟨len_flat (by omega), ?_⟩ | refine ⟨apart_uv _ _ _, ?_⟩ | refine ⟨_, resSlot_own rfl (by omega) (by first | exact .inl rfl | exact .inr ⟨rfl, rfl⟩), ?_⟩ | refine ⟨(by kernel_rfl : regB _ = true), ?_⟩ | refine ⟨⟨rfl, inI_of (by omega), by decide⟩, ?_⟩ | (apply Exists.intro; refine ⟨?_, ?_⟩; ((try simp only); (try simp only [Nat.zero_add]); (try simp only [Nat.mul_one]); (try simp only [Int.toNat_natCast]); exact at_drop_g (by omega))) | (apply Exists.intro; refine ⟨?_, ?_⟩; ((try simp only); (try simp only [Nat.zero_add]); (try simp only [Nat.mul_one]); (try simp only [Int.toNat_natCast]); exact cut_rest (by omega)))); conv => whnf))
      refine .inl ⟨fun m st => ∃ k : Nat, m = 16 - k ∧ k ≤ 16 ∧ st = ⟨[.im 1 16 c (.flat .u8 key), .poison, .poison, .poison, .poison, .poison, .poison, .poison, .poison, .poison, .poison, .poison, .sl 1 352 0 Q none, .sl 1 8000 0 16 none, iv .i64 (16 * j : Nat), .poison, .poison, .poison, .poison, .poison, .poison, .poison, .poison, .poison, .poison, .poison, .poison, .poison, .poison, .poison, .poison, .poison, .poison, .poison, .poison, .poison, .poison, .poison, .poison, .poison, .poison, .poison, .poison, .poison, .poison, .poison, .poison, .poison, .poison, .poison, .poison, .poison, .poison, .poison, .poison, .poison, .poison, iv .i64 k, .poison, .poison, .poison, .poison, .poison, .poison, .poison, .poison, .poison, .poison, .poison, .poison, .poison, .poison, .poison, .poison, .poison, .poison, .poison, .poison, .poison, .poison],
          [(8000, ⟨.flat .u8 (upd (xorF X B (16 * j)) X k), 5, true⟩), (352, ⟨.flat .u8 B, 5, true⟩)]⟩, ⟨[1, 2, 3, 4, 5, 6, 7, 8, 9, 10, 11, 15, 16, 17, 18, 19, 20, 21, 22, 23, 24, 25, 26, 27, 28, 29, 30, 31, 32, 33, 34, 35, 36, 37, 38, 39, 40, 41, 42, 43, 44, 45, 46, 47, 48, 49, 50, 51, 52, 53, 54, 55, 56, 58, 59, 60, 61, 62, 63, 64, 65, 66, 67, 68, 69, 70, 71, 72, 73, 74, 75, 76, 77, 78, 79], [], 16, 0, rfl, by omega, by rw [upd_zero]; kernel_rfl⟩, ?_⟩
      rintro _ _ ⟨k, rfl, hkk, rfl⟩
      have hul : (upd (xorF X B (16 * j)) X k).length = 16 := by rw [upd_len, hXl]
      conv => whnf
      refine ⟨fun h2 => ?_, fun h2 => ?_⟩
      · have h2 := of_decide_eq_true h2
        have ei : IntKind.i64.wrap (((16 * j : Nat) : Int) + (k : Nat)) = ((16 * j + k : Nat) : Int) := by rw [wrap64 (by omega)]; omega
        ((conv => whnf); repeat ((first | refine ⟨_, rfl, ?_⟩ | refine ⟨by decide, ?_⟩ | refine ⟨rfl, ?_⟩ | refine ⟨fun _ => ?_, fun h => absurd h (by decide)⟩ | refine ⟨fun h => absurd h (by decide), fun _ => ?_⟩ | refine ⟨inI_of (by omega), ?_⟩ | refine ⟨⟨rfl, inI_of (by omega)⟩, ?_⟩ | refine ⟨⟨rfl, by decide⟩, ?_⟩ | refine ⟨by (try simp only); (try simp only [ei]); exact inI_of (by omega), ?_⟩ | refine ⟨⟨rfl, by (try simp only); (try simp only [ei]); exact inI_of (by omega)⟩, ?_⟩ | (apply Exists.intro; refine ⟨?_, ?_⟩; ((try simp only); (try simp only [ei]); (try simp only [Nat.zero_add]); (try simp only [Nat.mul_one]); (try simp only [Int.toNat_natCast]); (try simp only [ei]); (try simp only [Nat.zero_add]); (try simp only [Nat.mul_one]); (try simp only [Int.toNat_natCast]); exact at_g (by omega))) | (apply Exists.intro; refine ⟨?_, ?_⟩; ((try simp only); (try simp only [ei]); (try simp only [Nat.zero_add]); (try simp only [Nat.mul_one]); (try simp only [Int.toNat_natCast]); (try simp only [ei]); (try simp only [Nat.zero_add]); (try simp only [Nat.mul_one]); (try simp only [Int.toNat_natCast]); exact put_flat (by omega))) | refine ⟨_, cut_all (by omega), ?_⟩ | refine ⟨_, lay_all (by omega) (by omega), ?_⟩ | refine ⟨_, lay_all (by (try simp only); (try simp only [List.length_replicate]); (try simp only [List.length_cons]); (try simp only [List.length_nil]); omega) (by omega), ?_⟩ | refine ⟨by omega, ?_⟩ | refine ⟨len_flat (by omega), ?_⟩ | refine ⟨apart_uv _ _ _, ?_⟩ | refine ⟨_, resSlot_own rfl (by omega) (by first | exact .inl rfl | exact .inr ⟨rfl, rfl⟩), ?_⟩ | refine ⟨(by kernel_rfl : regB _ = true), ?_⟩ | refine ⟨⟨rfl, inI_of (by omega), by decide⟩, ?_⟩ | refine ⟨⟨rfl, by (try simp only); (try simp only [ei]); exact inI_of (by omega), by decide⟩, ?_⟩ | (apply Exists.intro; refine ⟨?_, ?_⟩; ((try simp only); (try simp only [ei]); (try simp only [Nat.zero_add]); (try simp only [Nat.mul_one]); (try simp only [Int.toNat_natCast]); (try simp only [ei]); (try simp only [Nat.zero_add]); (try simp only [Nat.mul_one]); (try simp only [Int.toNat_natCast]); exact at_drop_g (by omega))) | (apply Exists.intro; refine ⟨?_, ?_⟩; ((try simp only); (try simp only [ei]); (try simp only [Nat.zero_add]); (try simp only [Nat.mul_one]); (try simp only [Int.toNat_natCast]); (try simp only [ei]); (try simp only [Nat.zero_add]); (try simp only [Nat.mul_one]); (try simp only [Int.toNat_natCast]); exact cut_rest (by omega)))); conv => whnf))
        have e1 : IntKind.i64.wrap ((k : Int) + 1) = ((k + 1 : Nat) : Int) := by rw [wrap64 (by omega)]; omega
        have e2 := upd_set (xorF X B (16 * j)) X (i := k) (by omega)
        have e4 : g (upd (xorF X B (16 * j)) X k) k = g X k := by rw [g_upd (by omega), if_neg (by omega)]
        have e5 : xorF X B (16 * j) k = x8 (g (upd (xorF X B (16 * j)) X k) k) (g B (16 * j + k)) := by rw [e4, xorF]
        refine ⟨[1, 2, 3, 4, 5, 6, 7, 8, 9, 10, 11, 15, 16, 17, 18, 19, 20, 21, 22, 23, 24, 25, 26, 27, 28, 29, 30, 31, 32, 33, 34, 35, 36, 37, 38, 39, 40, 41, 42, 43, 44, 45, 46, 47, 48, 49, 50, 51, 52, 53, 54, 55, 56, 58, 59, 60, 61, 62, 63, 64, 65, 66, 67, 68, 69, 70, 71, 72, 73, 74, 75, 76, 77, 78, 79], [], 16 - (k + 1), ?_, k + 1, rfl, by omega, ?_⟩
        · omega
        · rw [← e1, ← e2, e5]
          kernel_rfl
      · have h2 := of_decide_eq_false h2
        have hk16 : k = 16 := by omega
        subst hk16
        have hu : upd (xorF X B (16 * j)) X 16 = xorAt X B (16 * j) := upd_all _ _ hXl
        obtain ⟨Y, hY⟩ : ∃ Y, Y = xorAt X B (16 * j) := ⟨_, rfl⟩
        have hYl : Y.length = 16 := by rw [hY, xorAt, List.length_map, List.length_range]
        have hYb : By Y := by rw [hY]; exact By.map fun _ _ => x8_byte (hXb.g _) (hB.g _)
        have hcY : (Cont.flat .u8 Y).cut 0 (16 * 1) = some (.flat .u8 Y) := cut_all hYl
        rw [hu, ← hY]
        have oE := fun c c2 => rEnc7 c c2 key Y hk hYl hkb hYb
        ((conv => whnf); repeat ((first | refine ⟨_, expo_sl rfl hcY, ?_⟩ | refine ⟨_, oE _ _, ?_⟩ | refine ⟨_, rfl, ?_⟩ | refine ⟨by decide, ?_⟩ | refine ⟨rfl, ?_⟩ | refine ⟨fun _ => ?_, fun h => absurd h (by decide)⟩ | refine ⟨fun h => absurd h (by decide), fun _ => ?_⟩ | refine ⟨inI_of (by omega), ?_⟩ | refine ⟨⟨rfl, inI_of (by omega)⟩, ?_⟩ | refine ⟨⟨rfl, by decide⟩, ?_⟩ | (apply Exists.intro; refine ⟨?_, ?_⟩; ((try simp only); (try simp only [Nat.zero_add]); (try simp only [Nat.mul_one]); (try simp only [Int.toNat_natCast]); exact at_g (by omega))) | (apply Exists.intro; refine ⟨?_, ?_⟩; ((try simp only); (try simp only [Nat.zero_add]); (try simp only [Nat.mul_one]); (try simp only [Int.toNat_natCast]); exact put_flat (by omega))) | refine ⟨_, cut_all (by omega), ?_⟩ | refine ⟨_, lay_all (by omega) (by omega), ?_⟩ | refine ⟨_, lay_all (by (try simp only); (try simp only [List.length_replicate]); (try simp only [List.length_cons]); (try simp only [List.length_nil]); omega) (by omega), ?_⟩ | refine ⟨by omega, ?_⟩ | refine ⟨len_flat (by omega), ?_⟩ | refine ⟨apart_uv _ _ _, ?_⟩ | refine ⟨_, resSlot_own rfl (by omega) (by first | exact .inl rfl | exact .inr ⟨rfl, rfl⟩), ?_⟩ | refine ⟨(by kernel_rfl : regB _ = true), ?_⟩ | refine ⟨⟨rfl, inI_of (by omega), by decide⟩, ?_⟩ | (apply Exists.intro; refine ⟨?_, ?_⟩; ((try simp only); (try simp only [Nat.zero_add]); (try simp only [Nat.mul_one]); (try simp only [Int.toNat_natCast]); exact at_drop_g (by omega))) | (apply Exists.intro; refine ⟨?_, ?_⟩; ((try simp only); (try simp only [Nat.zero_add]); (try simp only [Nat.mul_one]); (try simp only [Int.toNat_natCast]); exact cut_rest (by omega)))); conv => whnf))
        have e1 : IntKind.i64.wrap (((16 * j : Nat) : Int) + 16) = ((16 * (j + 1) : Nat) : Int) := by rw [wrap64 (by omega)]; omega
        refine ⟨[1, 2, 3, 4, 5, 6, 7, 8, 9, 10, 11, 15, 16, 17, 18, 19, 20, 21, 22, 23, 24, 25, 26, 27, 28, 29, 30, 31, 32, 33, 34, 35, 36, 37, 38, 39, 40, 41, 42, 43, 44, 45, 46, 47, 48, 49, 50, 51, 52, 53, 54, 55, 56, 57, 58, 59, 60, 61, 62, 63, 64, 65, 66, 67, 68, 69, 70, 71, 72, 73, 74, 75, 76, 77, 78, 79], [.lose 8000, .move 608 8000], Q / 16 - (j + 1), ?_, j + 1, _, rfl, by omega, rfl, ?_⟩
        · omega
        · rw [← e1, macB, ← hX, ← hY]
          kernel_rfl
    · have h := of_decide_eq_false h
      have hj : j = Q / 16 := by omega
      have htk : X.take (16 * 1) = macB key B (Q / 16) := by rw [List.take_of_length_le (by omega), hX, hj]
      ((conv => whnf); repeat ((first | refine ⟨_, rfl, ?_⟩ | refine ⟨by decide, ?_⟩ | refine ⟨rfl, ?_⟩ | refine ⟨fun _ => ?_, fun h => absurd h (by decide)⟩ | refine ⟨fun h => absurd h (by decide), fun _ => ?_⟩ | refine ⟨inI_of (by omega), ?_⟩ | refine ⟨⟨rfl, inI_of (by omega)⟩, ?_⟩ | refine ⟨⟨rfl, by decide⟩, ?_⟩ | (apply Exists.intro; refine ⟨?_, ?_⟩; ((try simp only); (try simp only [Nat.zero_add]); (try simp only [Nat.mul_one]); (try simp only [Int.toNat_natCast]); exact at_g (by omega))) | (apply Exists.intro; refine ⟨?_, ?_⟩; ((try simp only); (try simp only [Nat.zero_add]); (try simp only [Nat.mul_one]); (try simp only [Int.toNat_natCast]); exact put_flat (by omega))) | refine ⟨_, cut_all (by omega), ?_⟩ | refine ⟨_, lay_all (by omega) (by omega), ?_⟩ | refine ⟨_, lay_all (by (try simp only); (try simp only [List.length_replicate]); (try simp only [List.length_cons]); (try simp only [List.length_nil]); omega) (by omega), ?_⟩ | refine ⟨by omega, ?_⟩ | refine ⟨len_flat (by omega), ?_⟩ | refine ⟨apart_uv _ _ _, ?_⟩ | refine ⟨_, resSlot_own rfl (by omega) (by first | exact .inl rfl | exact .inr ⟨rfl, rfl⟩), ?_⟩ | refine ⟨(by kernel_rfl : regB _ = true), ?_⟩ | refine ⟨⟨rfl, inI_of (by omega), by decide⟩, ?_⟩ | (apply Exists.intro; refine ⟨?_, ?_⟩; ((try simp only); (try simp only [Nat.zero_add]); (try simp only [Nat.mul_one]); (try simp only [Int.toNat_natCast]); exact at_drop_g (by omega))) | (apply Exists.intro; refine ⟨?_, ?_⟩; ((try simp only); (try simp only [Nat.zero_add]); (try simp only [Nat.mul_one]); (try simp only [Int.toNat_natCast]); exact cut_rest (by omega)))); conv => whnf))
      rw [htk]
      rfl

end Go.Proofs.Ytgkccfjjjamhoaa
