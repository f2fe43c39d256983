/-
  Layer 7: the answer's Seal and Open.
-/
import Derived.Test.YtgkccfjjjamhoaaA7B
namespace Go.Proofs.Ytgkccfjjjamhoaa
open Go.RowKit

theorem okP_true {N M : Nat} {tag : Int} (h : okP N M tag = true) : N = 16 ∧ (7 ≤ M ∧ M ≤ 13) ∧ (4 ≤ tag ∧ tag ≤ 16) ∧ tag.tmod 2 = 0 := by
  simp [okP] at h
  omega
theorem conv_as {E : Env} {β : Nat → Option Blk} {src dst e z : Nat} {z' b off n : Nat} {c : Option Nat} {k : Blk} {l r : List Int} {a1 a2 a4 a5 a7 a8 : Nat} {g1 g2 g3 : Bool} {o1 o2 o3 : Option Cont}
    (h1 : E.T src = some ⟨.slice e z, a1, a2, g1, o1⟩) (h2 : E.T dst = some ⟨.str, a4, a5, g2, o2⟩) (h3 : E.T e = some ⟨.int .u8, a7, a8, g3, o3⟩)
    (hz : z' = 1) (hb : β b = some k) (hx : k.x = .flat .u8 l) (hc : off + n ≤ l.length) (hl : By l) (hr : (l.drop off).take n = r) : convV E β src dst (.sl z' b off n c) = some (.str r) := by
  rw [conv_own h1 h2 h3 hz hb hx hc hl, hr]
theorem take_all {l : List Int} {n : Nat} (h : l.length ≤ n) : (l.drop 0).take n = l := List.take_of_length_le (by simpa using h)
/-- The beginning of a slice of one's own. -/
theorem slice_to {E : Env} {t e z b off n h a1 a2 : Nat} {g1 : Bool} {o1 : Option Cont} (h1 : E.T t = some ⟨.slice e z, a1, a2, g1, o1⟩) {x : Int} (hx : x = (h : Int)) (hn : h ≤ n) :
    opSlice E t false true false (.sl z b off n none) [.v (.int .i64 x)] = some (.sl z b off h none, []) := by
  subst hx
  have hb : bounds [(h : Int)] false true false n ((none : Option Nat).getD n) = some (0, h, n) := by
    unfold bounds
    rw [if_pos (by simp [lowI, highI, restI, maxI]; omega)]
    simp [lowI, highI, restI, maxI]
  have hp : optMap pickInt [.v (.int .i64 (h : Int))] = some [(h : Int)] := rfl
  simp only [opSlice, h1, hp, if_true, hb]
  simp
/-- The beginning of a slice that stays. -/
theorem slice_im_to {E : Env} {t e n h a1 a2 : Nat} {g1 : Bool} {o1 : Option Cont} {c : Option Nat} {k : IntKind} {l : List Int} (h1 : E.T t = some ⟨.slice e 1, a1, a2, g1, o1⟩) {x : Int} (hx : x = (h : Int)) (hn : h ≤ n) (hl : l.length = n) (hc : n ≤ c.getD n) :
    ∃ c' : Option Nat, opSlice E t false true false (.im 1 n c (.flat k l)) [.v (.int .i64 x)] = some (.im 1 h c' (.flat k (l.take h)), []) ∧ h ≤ c'.getD h := by
  subst hx
  have hb : bounds [(h : Int)] false true false n (c.getD n) = some (0, h, c.getD n) := by
    unfold bounds
    rw [if_pos (by simp [lowI, highI, restI, maxI]; omega)]
    simp [lowI, highI, restI, maxI]
  have hp : optMap pickInt [.v (.int .i64 (h : Int))] = some [(h : Int)] := rfl
  have hcut : (Cont.flat k l).cut (0 * 1) ((h - 0) * 1) = some (.flat k (l.take h)) := by
    rw [Nat.zero_mul, Nat.sub_zero, Nat.mul_one]; exact cut_take (by omega)
  refine ⟨if (false || c.isSome) = true then some (c.getD n - 0) else none, ?_, ?_⟩
  · simp only [opSlice, h1, hp, if_true, hb, hcut, if_pos hn]
    simp
  · cases c <;> simp at hc ⊢
    omega

def orc7b (f : Nat) (ds : List LV) : Option LRes :=
  match f with
  | 29 => match ds with
    | [.im 1 16 _ (.flat .u8 k), .im 1 n _ (.flat .u8 v), .im 1 m _ (.flat .u8 b), .v (.int .i64 t)] => if k.length = 16 ∧ byteOk k = true ∧ v.length = n ∧ (7 ≤ n ∧ n ≤ 13) ∧ byteOk v = true ∧ b.length = m ∧ m ≤ 100000 ∧ byteOk b = true ∧ (0 ≤ t ∧ t ≤ 1) then some (LRes.one (.own 1 m 5 (.flat .u8 (strF k v b t)))) else none
    | _ => none
  | 30 => match ds with
    | [.im 1 16 _ (.flat .u8 k), .im 1 n _ (.flat .u8 v), .im 1 a _ (.flat .u8 x), .im 1 m _ (.flat .u8 b), .v (.int .i64 t)] => if k.length = 16 ∧ byteOk k = true ∧ v.length = n ∧ (7 ≤ n ∧ n ≤ 13) ∧ byteOk v = true ∧ x.length = a ∧ a ≤ 4096 ∧ byteOk x = true ∧ b.length = m ∧ m ≤ 4096 ∧ byteOk b = true ∧ (4 ≤ t ∧ t ≤ 16) then some (LRes.one (.own 1 16 5 (.flat .u8 (macP k v x b t)))) else none
    | _ => none
  | _ => orc7 f ds
theorem orc7b_ok : Known Try.prog orc7b := by
  intro f ds r h
  unfold orc7b at h
  split at h
  · split at h
    · split at h
      · rename_i hc
        cases h
        exact ⟨⟨_, Try.func29, name_ne _ (by kernel_rfl), rfl⟩, execF_ok follows_ok E7_ok Try.func29 (rstream_exec _ _ _ _ _ _ _ _ _ hc.1 (byteAll hc.2.1) hc.2.2.1 hc.2.2.2.1 (byteAll hc.2.2.2.2.1) hc.2.2.2.2.2.1 hc.2.2.2.2.2.2.1 (byteAll hc.2.2.2.2.2.2.2.1) hc.2.2.2.2.2.2.2.2)⟩
      · cases h
    · cases h
  · split at h
    · split at h
      · rename_i hc
        cases h
        exact ⟨⟨_, Try.func30, name_ne _ (by kernel_rfl), rfl⟩, execF_ok follows_ok E7_ok Try.func30 (rmac_exec _ _ _ _ _ _ _ _ _ _ _ _ hc.1 (byteAll hc.2.1) hc.2.2.1 hc.2.2.2.1 (byteAll hc.2.2.2.2.1) hc.2.2.2.2.2.1 hc.2.2.2.2.2.2.1 (byteAll hc.2.2.2.2.2.2.2.1) hc.2.2.2.2.2.2.2.2.1 hc.2.2.2.2.2.2.2.2.2.1 (byteAll hc.2.2.2.2.2.2.2.2.2.2.1) hc.2.2.2.2.2.2.2.2.2.2.2)⟩
      · cases h
    · cases h
  · exact orc7_ok f ds r h
def E7b : Env := ⟨tyL, orc7b, false, noWk, noOrw⟩
theorem E7b_ok : EnvOk Try.prog E7b := ⟨tyL_ok, orc7b_ok, noOrw_ok⟩
theorem str7 (n m : Nat) (c c2 c3 : Option Nat) (k v b : List Int) (t : Int) (h1 : k.length = 16) (h2 : By k) (h3 : v.length = n) (h4 : 7 ≤ n ∧ n ≤ 13) (h5 : By v) (h6 : b.length = m) (h7 : m ≤ 100000) (h8 : By b) (h9 : 0 ≤ t ∧ t ≤ 1) :
    E7b.orc 29 [.im 1 16 c (.flat .u8 k), .im 1 n c2 (.flat .u8 v), .im 1 m c3 (.flat .u8 b), .v (.int .i64 t)] = some (LRes.one (.own 1 m 5 (.flat .u8 (strF k v b t)))) := if_pos ⟨h1, h2.ok, h3, h4, h5.ok, h6, h7, h8.ok, h9⟩
theorem mac7 (n a m : Nat) (c c2 c3 c4 : Option Nat) (k v x b : List Int) (t : Int) (h1 : k.length = 16) (h2 : By k) (h3 : v.length = n) (h4 : 7 ≤ n ∧ n ≤ 13) (h5 : By v) (h6 : x.length = a) (h7 : a ≤ 4096) (h8 : By x) (h9 : b.length = m) (h10 : m ≤ 4096) (h11 : By b) (h12 : 4 ≤ t ∧ t ≤ 16) :
    E7b.orc 30 [.im 1 16 c (.flat .u8 k), .im 1 n c2 (.flat .u8 v), .im 1 a c3 (.flat .u8 x), .im 1 m c4 (.flat .u8 b), .v (.int .i64 t)] = some (LRes.one (.own 1 16 5 (.flat .u8 (macP k v x b t)))) := if_pos ⟨h1, h2.ok, h3, h4, h5.ok, h6, h7, h8.ok, h9, h10, h11.ok, h12⟩

def sealP (key nonce aad plain : List Int) (tag : Int) : List Int := strF key nonce plain 1 ++ (strF key nonce (macP key nonce aad plain tag) 0).take tag.toNat
def sealR (key nonce aad plain : List Int) (tag : Int) : LRes :=
  if okP key.length nonce.length tag = false then no2 1 else if 4096 < aad.length ∨ 4096 < plain.length then no2 8 else ret2 (.own 1 (plain.length + tag.toNat) 5 (.flat .u8 (sealP key nonce aad plain tag))) 0
theorem macP_len (key nonce aad plain : List Int) (tag : Int) : (macP key nonce aad plain tag).length = 16 := macB_len _ _ _
theorem sealP_len {key nonce aad plain : List Int} {tag : Int} (h : tag ≤ 16) : (sealP key nonce aad plain tag).length = plain.length + tag.toNat := by
  simp [sealP, strF_len, macP_len]
  omega
theorem macP_by {key nonce aad plain : List Int} (hk : By key) (hn : By nonce) (ha : By aad) (hp : By plain) (tag : Int) : By (macP key nonce aad plain tag) := macB_by hk (blksP_by hn ha hp tag) _
theorem sealP_by {key nonce aad plain : List Int} (hk : By key) (hn : By nonce) (ha : By aad) (hp : By plain) (tag : Int) : By (sealP key nonce aad plain tag) := (strF_by hk hn hp 1).append ((strF_by hk hn (macP_by hk hn ha hp tag) 0).take _)

set_option maxRecDepth 100000 in
set_option maxHeartbeats 4000000 in
theorem rseal_exec (key nonce aad plain : List Int) (K N A L : Nat) (c c2 c3 c4 : Option Nat) (tag : Int) (hk : key.length = K) (hkb : By key) (hN : nonce.length = N) (hnb : By nonce) (hA : aad.length = A) (hab : By aad) (hL : plain.length = L) (hpb : By plain) :
    execF E7b Try.f20 [.im 1 K c (.flat .u8 key), .im 1 N c2 (.flat .u8 nonce), .im 1 A c3 (.flat .u8 aad), .im 1 L c4 (.flat .u8 plain), iv .i64 tag] (sealR key nonce aad plain tag) := by
  have oV : ∀ c c2, E7b.orc 12 [.im 1 K c (.flat .u8 key), .im 1 N c2 (.flat .u8 nonce), .v (.int .i64 tag)] = some (ret1 (.v (.bool (okP K N tag)))) := fun _ _ => rfl
  unfold sealR
  rw [hk, hN, hA, hL]
  by_cases h0 : okP K N tag = false
  · rw [if_pos h0]
    have q0 : (!okP K N tag) = true := by rw [h0]; rfl
    ((conv => whnf); repeat ((first | refine ⟨fun _ => ?_, fun h => absurd ((q0).symm.trans h) (by decide)⟩ | refine ⟨fun h => absurd ((q0).symm.trans h) (by decide), fun _ => ?_⟩ | refine ⟨_, oV _ _, ?_⟩ | refine ⟨_, rfl, ?_⟩ | refine ⟨by decide, ?_⟩ | refine ⟨rfl, ?_⟩ | refine ⟨fun _ => ?_, fun h => absurd h (by decide)⟩ | refine ⟨fun h => absurd h (by decide), fun _ => ?_⟩ | refine ⟨inI_of (by omega), ?_⟩ | refine ⟨⟨rfl, inI_of (by omega)⟩, ?_⟩ | refine ⟨⟨rfl, by decide⟩, ?_⟩ | (apply Exists.intro; refine ⟨?_, ?_⟩; ((try simp only); (try simp only [Nat.zero_add]); (try simp only [Nat.mul_one]); (try simp only [Int.toNat_natCast]); exact at_g (by omega))) | (apply Exists.intro; refine ⟨?_, ?_⟩; ((try simp only); (try simp only [Nat.zero_add]); (try simp only [Nat.mul_one]); (try simp only [Int.toNat_natCast]); exact put_flat (by omega))) | refine ⟨_, cut_all (by omega), ?_⟩ | refine ⟨_, lay_all (by omega) (by omega), ?_⟩ | refine ⟨_, lay_all (by (try simp only); (try simp only [List.length_replicate]); (try simp only [List.length_cons]); (try simp only [List.length_nil]); omega) (by omega), ?_⟩ | refine ⟨by omega, ?_⟩ | refine ⟨len_flat (by omega), ?_⟩ | refine ⟨apart_uv _ _ _, ?_⟩ | refine ⟨_, resSlot_own rfl (by omega) (by first | exact .inl rfl | exact .inr ⟨rfl, rfl⟩), ?_⟩ | refine ⟨(by kernel_rfl : regB _ = true), ?_⟩ | refine ⟨⟨rfl, inI_of (by omega), by decide⟩, ?_⟩ | (apply Exists.intro; refine ⟨?_, ?_⟩; ((try simp only); (try simp only [Nat.zero_add]); (try simp only [Nat.mul_one]); (try simp only [Int.toNat_natCast]); exact at_drop_g (by omega))) | (apply Exists.intro; refine ⟨?_, ?_⟩; ((try simp only); (try simp only [Nat.zero_add]); (try simp only [Nat.mul_one]); (try simp only [Int.toNat_natCast]); exact cut_rest (by omega)))); conv => whnf))
    rfl
  rw [if_neg h0]
  have h0 : okP K N tag = true := by simpa using h0
  have q0 : (!okP K N tag) = false := by rw [h0]; rfl
  obtain ⟨hK16, h7, ht, _⟩ := okP_true h0
  subst hK16
  by_cases h1 : 4096 < A
  · rw [if_pos (.inl h1)]
    have q1 : decide ((A : Int) > 4096) = true := by simp; omega
    ((conv => whnf); repeat ((first | refine ⟨fun _ => ?_, fun h => absurd ((q0).symm.trans h) (by decide)⟩ | refine ⟨fun h => absurd ((q0).symm.trans h) (by decide), fun _ => ?_⟩ | refine ⟨fun _ => ?_, fun h => absurd ((q1).symm.trans h) (by decide)⟩ | refine ⟨fun h => absurd ((q1).symm.trans h) (by decide), fun _ => ?_⟩ | refine ⟨_, oV _ _, ?_⟩ | refine ⟨_, rfl, ?_⟩ | refine ⟨by decide, ?_⟩ | refine ⟨rfl, ?_⟩ | refine ⟨fun _ => ?_, fun h => absurd h (by decide)⟩ | refine ⟨fun h => absurd h (by decide), fun _ => ?_⟩ | refine ⟨inI_of (by omega), ?_⟩ | refine ⟨⟨rfl, inI_of (by omega)⟩, ?_⟩ | refine ⟨⟨rfl, by decide⟩, ?_⟩ | (apply Exists.intro; refine ⟨?_, ?_⟩; ((try simp only); (try simp only [Nat.zero_add]); (try simp only [Nat.mul_one]); (try simp only [Int.toNat_natCast]); exact at_g (by omega))) | (apply Exists.intro; refine ⟨?_, ?_⟩; ((try simp only); (try simp only [Nat.zero_add]); (try simp only [Nat.mul_one]); (try simp only [Int.toNat_natCast]); exact put_flat (by omega))) | refine ⟨_, cut_all (by omega), ?_⟩ | refine ⟨_, lay_all (by omega) (by omega), ?_⟩ | refine ⟨_, lay_all (by (try simp only); (try simp only [List.length_replicate]); (try simp only [List.length_cons]); (try simp only [List.length_nil]); omega) (by omega), ?_⟩ | refine ⟨by omega, ?_⟩ | refine ⟨len_flat (by omega), ?_⟩ | refine ⟨apart_uv _ _ _, ?_⟩ | refine ⟨_, resSlot_own rfl (by omega) (by first | exact .inl rfl | exact .inr ⟨rfl, rfl⟩), ?_⟩ | refine ⟨(by kernel_rfl : regB _ = true), ?_⟩ | refine ⟨⟨rfl, inI_of (by omega), by decide⟩, ?_⟩ | (apply Exists.intro; refine ⟨?_, ?_⟩; ((try simp only); (try simp only [Nat.zero_add]); (try simp only [Nat.mul_one]); (try simp only [Int.toNat_natCast]); exact at_drop_g (by omega))) | (apply Exists.intro; refine ⟨?_, ?_⟩; ((try simp only); (try simp only [Nat.zero_add]); (try simp only [Nat.mul_one]); (try simp only [Int.toNat_natCast]); exact cut_rest (by omega)))); conv => whnf))
    rfl
  have q1 : decide ((A : Int) > 4096) = false := by simp; omega
  by_cases h2 : 4096 < L
  · rw [if_pos (.inr h2)]
    have q2 : decide ((L : Int) > 4096) = true := by simp; omega
    ((conv => whnf); repeat ((first | refine ⟨fun _ => ?_, fun h => absurd ((q0).symm.trans h) (by decide)⟩ | refine ⟨fun h => absurd ((q0).symm.trans h) (by decide), fun _ => ?_⟩ | refine ⟨fun _ => ?_, fun h => absurd ((q1).symm.trans h) (by decide)⟩ | refine ⟨fun h => absurd ((q1).symm.trans h) (by decide), fun _ => ?_⟩ | refine ⟨fun _ => ?_, fun h => absurd ((q2).symm.trans h) (by decide)⟩ | refine ⟨fun h => absurd ((q2).symm.trans h) (by decide), fun _ => ?_⟩ | refine ⟨_, oV _ _, ?_⟩ | refine ⟨_, rfl, ?_⟩ | refine ⟨by decide, ?_⟩ | refine ⟨rfl, ?_⟩ | refine ⟨fun _ => ?_, fun h => absurd h (by decide)⟩ | refine ⟨fun h => absurd h (by decide), fun _ => ?_⟩ | refine ⟨inI_of (by omega), ?_⟩ | refine ⟨⟨rfl, inI_of (by omega)⟩, ?_⟩ | refine ⟨⟨rfl, by decide⟩, ?_⟩ | (apply Exists.intro; refine ⟨?_, ?_⟩; ((try simp only); (try simp only [Nat.zero_add]); (try simp only [Nat.mul_one]); (try simp only [Int.toNat_natCast]); exact at_g (by omega))) | (apply Exists.intro; refine ⟨?_, ?_⟩; ((try simp only); (try simp only [Nat.zero_add]); (try simp only [Nat.mul_one]); (try simp only [Int.toNat_natCast]); exact put_flat (by omega))) | refine ⟨_, cut_all (by omega), ?_⟩ | refine ⟨_, lay_all (by omega) (by omega), ?_⟩ | refine ⟨_, lay_all (by (try simp only); (try simp only [List.length_replicate]); (try simp only [List.length_cons]); (try simp only [List.length_nil]); omega) (by omega), ?_⟩ | refine ⟨by omega, ?_⟩ | refine ⟨len_flat (by omega), ?_⟩ | refine ⟨apart_uv _ _ _, ?_⟩ | refine ⟨_, resSlot_own rfl (by omega) (by first | exact .inl rfl | exact .inr ⟨rfl, rfl⟩), ?_⟩ | refine ⟨(by kernel_rfl : regB _ = true), ?_⟩ | refine ⟨⟨rfl, inI_of (by omega), by decide⟩, ?_⟩ | (apply Exists.intro; refine ⟨?_, ?_⟩; ((try simp only); (try simp only [Nat.zero_add]); (try simp only [Nat.mul_one]); (try simp only [Int.toNat_natCast]); exact at_drop_g (by omega))) | (apply Exists.intro; refine ⟨?_, ?_⟩; ((try simp only); (try simp only [Nat.zero_add]); (try simp only [Nat.mul_one]); (try simp only [Int.toNat_natCast]); exact cut_rest (by omega)))); conv => whnf))
    rfl
  have q2 : decide ((L : Int) > 4096) = false := by simp; omega
  rw [if_neg (by omega)]
  obtain ⟨T, hT⟩ : ∃ T : Nat, tag = (T : Int) := ⟨tag.toNat, by omega⟩
  have oS1 := fun c c2 c3 => str7 N L c c2 c3 key nonce plain 1 hk hkb hN h7 hnb hL (by omega) hpb (by decide)
  have oM := fun c c2 c3 c4 => mac7 N A L c c2 c3 c4 key nonce aad plain tag hk hkb hN h7 hnb hA (by omega) hab hL (by omega) hpb ht
  have hMl := macP_len key nonce aad plain tag
  have hMb := macP_by hkb hnb hab hpb tag
  have hse : sealP key nonce aad plain tag = strF key nonce plain 1 ++ (strF key nonce (macP key nonce aad plain tag) 0).take tag.toNat := rfl
  rw [hse, hT, Int.toNat_natCast, ← hT]
  obtain ⟨M, hM⟩ : ∃ M, M = macP key nonce aad plain tag := ⟨_, rfl⟩
  rw [← hM] at oM hMl hMb ⊢
  have hcM : (Cont.flat .u8 M).cut 0 (16 * 1) = some (.flat .u8 M) := cut_all hMl
  have oS0 := fun c c2 c3 => str7 N 16 c c2 c3 key nonce M 0 hk hkb hN h7 hnb hMl (by omega) hMb (by decide)
  have hSl := strF_len key nonce plain 1
  have hS0l := strF_len key nonce M 0
  rw [hL] at hSl
  rw [hMl] at hS0l
  obtain ⟨S1, hS1⟩ : ∃ q, q = strF key nonce plain 1 := ⟨_, rfl⟩
  obtain ⟨S0, hS0⟩ : ∃ q, q = strF key nonce M 0 := ⟨_, rfl⟩
  rw [← hS1] at oS1 hSl ⊢
  rw [← hS0] at oS0 hS0l ⊢
  have hcT : (Cont.flat .u8 S0).cut 0 (T * 1) = some (.flat .u8 (S0.take T)) := by rw [Nat.mul_one]; exact cut_take (by omega)
  have htk : (S1 ++ S0.take T).take ((L + T) * 1) = S1 ++ S0.take T := List.take_of_length_le (by simp; omega)
  have hST : (S1 ++ S0.take T).length = L + T := by simp; omega
  clear hse hM hS1 hS0
  ((conv => whnf); repeat ((first | refine ⟨fun _ => ?_, fun h => absurd ((q0).symm.trans h) (by decide)⟩ | refine ⟨fun h => absurd ((q0).symm.trans h) (by decide), fun _ => ?_⟩ | refine ⟨fun _ => ?_, fun h => absurd ((q1).symm.trans h) (by decide)⟩ | refine ⟨fun h => absurd ((q1).symm.trans h) (by decide), fun _ => ?_⟩ | refine ⟨fun _ => ?_, fun h => absurd ((q2).symm.trans h) (by decide)⟩ | refine ⟨fun h => absurd ((q2).symm.trans h) (by decide), fun _ => ?_⟩ | refine ⟨_, oV _ _, ?_⟩ | refine ⟨_, oS1 _ _ _, ?_⟩ | refine ⟨_, oM _ _ _ _, ?_⟩ | refine ⟨_, oS0 _ _ _, ?_⟩ | refine ⟨_, expo_sl rfl hcM, ?_⟩ | refine ⟨_, slice_to rfl hT (by omega), ?_⟩ | refine ⟨_, append_grow rfl rfl (shown_sl rfl hcT) rfl rfl hSl rfl (by omega) (by omega), ?_⟩ | refine ⟨_, rfl, ?_⟩ | refine ⟨by decide, ?_⟩ | refine ⟨rfl, ?_⟩ | refine ⟨fun _ => ?_, fun h => absurd h (by decide)⟩ | refine ⟨fun h => absurd h (by decide), fun _ => ?_⟩ | refine ⟨inI_of (by omega), ?_⟩ | refine ⟨⟨rfl, inI_of (by omega)⟩, ?_⟩ | refine ⟨⟨rfl, by decide⟩, ?_⟩ | (apply Exists.intro; refine ⟨?_, ?_⟩; ((try simp only); (try simp only [Nat.zero_add]); (try simp only [Nat.mul_one]); (try simp only [Int.toNat_natCast]); exact at_g (by omega))) | (apply Exists.intro; refine ⟨?_, ?_⟩; ((try simp only); (try simp only [Nat.zero_add]); (try simp only [Nat.mul_one]); (try simp only [Int.toNat_natCast]); exact put_flat (by omega))) | refine ⟨_, cut_all (by omega), ?_⟩ | refine ⟨_, lay_all (by omega) (by omega), ?_⟩ | refine ⟨_, lay_all (by (try simp only); (try simp only [List.length_replicate]); (try simp only [List.length_cons]); (try simp only [List.length_nil]); omega) (by omega), ?_⟩ | refine ⟨by omega, ?_⟩ | refine ⟨len_flat (by omega), ?_⟩ | refine ⟨apart_uv _ _ _, ?_⟩ | refine ⟨_, resSlot_own rfl (by omega) (by first | exact .inl rfl | exact .inr ⟨rfl, rfl⟩), ?_⟩ | refine ⟨(by kernel_rfl : regB _ = true), ?_⟩ | refine ⟨⟨rfl, inI_of (by omega), by decide⟩, ?_⟩ | (apply Exists.intro; refine ⟨?_, ?_⟩; ((try simp only); (try simp only [Nat.zero_add]); (try simp only [Nat.mul_one]); (try simp only [Int.toNat_natCast]); exact at_drop_g (by omega))) | (apply Exists.intro; refine ⟨?_, ?_⟩; ((try simp only); (try simp only [Nat.zero_add]); (try simp only [Nat.mul_one]); (try simp only [Int.toNat_natCast]); exact cut_rest (by omega)))); conv => whnf))
  rw [htk]
  rfl
def orc7c (f : Nat) (ds : List LV) : Option LRes :=
  match f with
  | 20 => match ds with
    | [.im 1 kk _ (.flat .u8 k), .im 1 n _ (.flat .u8 v), .im 1 a _ (.flat .u8 x), .im 1 m _ (.flat .u8 b), .v (.int .i64 t)] => if k.length = kk ∧ byteOk k = true ∧ v.length = n ∧ byteOk v = true ∧ x.length = a ∧ byteOk x = true ∧ b.length = m ∧ byteOk b = true then some (sealR k v x b t) else none
    | _ => none
  | _ => orc7b f ds
theorem orc7c_ok : Known Try.prog orc7c := by
  intro f ds r h
  unfold orc7c at h
  split at h
  · split at h
    · split at h
      · rename_i hc
        cases h
        exact ⟨⟨_, Try.func20, name_ne _ (by kernel_rfl), rfl⟩, execF_ok follows_ok E7b_ok Try.func20 (rseal_exec _ _ _ _ _ _ _ _ _ _ _ _ _ hc.1 (byteAll hc.2.1) hc.2.2.1 (byteAll hc.2.2.2.1) hc.2.2.2.2.1 (byteAll hc.2.2.2.2.2.1) hc.2.2.2.2.2.2.1 (byteAll hc.2.2.2.2.2.2.2))⟩
      · cases h
    · cases h
  · exact orc7b_ok f ds r h
def E7c : Env := ⟨tyL, orc7c, false, noWk, noOrw⟩
theorem E7c_ok : EnvOk Try.prog E7c := ⟨tyL_ok, orc7c_ok, noOrw_ok⟩
theorem seal7 (K N A L : Nat) (c c2 c3 c4 : Option Nat) (k v x b : List Int) (t : Int) (h1 : k.length = K) (h2 : By k) (h3 : v.length = N) (h5 : By v) (h6 : x.length = A) (h8 : By x) (h9 : b.length = L) (h11 : By b) :
    E7c.orc 20 [.im 1 K c (.flat .u8 k), .im 1 N c2 (.flat .u8 v), .im 1 A c3 (.flat .u8 x), .im 1 L c4 (.flat .u8 b), .v (.int .i64 t)] = some (sealR k v x b t) := if_pos ⟨h1, h2.ok, h3, h5.ok, h6, h8.ok, h9, h11.ok⟩

def plainP (key nonce cipher : List Int) (tag : Int) : List Int := strF key nonce (cipher.take (cipher.length - tag.toNat)) 1
def openR (key nonce aad cipher : List Int) (tag : Int) : LRes :=
  if okP key.length nonce.length tag = false then no2 1 else if 4096 < aad.length ∨ 4096 + tag.toNat < cipher.length then no2 8 else if cipher.length < tag.toNat then no2 2 else
    if sealP key nonce aad (plainP key nonce cipher tag) tag = cipher then ret2 (.own 1 (cipher.length - tag.toNat) 5 (.flat .u8 (plainP key nonce cipher tag))) 0 else no2 11
set_option maxRecDepth 100000 in
set_option maxHeartbeats 4000000 in
theorem ropen_exec (key nonce aad cipher : List Int) (K N A L : Nat) (c c2 c3 c4 : Option Nat) (tag : Int) (hk : key.length = K) (hkb : By key) (hN : nonce.length = N) (hnb : By nonce) (hA : aad.length = A) (hab : By aad) (hL : cipher.length = L) (hcb : By cipher) (hc4 : L ≤ c4.getD L) :
    execF E7c Try.f23 [.im 1 K c (.flat .u8 key), .im 1 N c2 (.flat .u8 nonce), .im 1 A c3 (.flat .u8 aad), .im 1 L c4 (.flat .u8 cipher), iv .i64 tag] (openR key nonce aad cipher tag) := by
  have oV : ∀ c c2, E7c.orc 12 [.im 1 K c (.flat .u8 key), .im 1 N c2 (.flat .u8 nonce), .v (.int .i64 tag)] = some (ret1 (.v (.bool (okP K N tag)))) := fun _ _ => rfl
  unfold openR
  rw [hk, hN, hA, hL]
  by_cases h0 : okP K N tag = false
  · rw [if_pos h0]
    have q0 : (!okP K N tag) = true := by rw [h0]; rfl
    ((conv => whnf); repeat ((first | refine ⟨fun _ => ?_, fun h => absurd ((q0).symm.trans h) (by decide)⟩ | refine ⟨fun h => absurd ((q0).symm.trans h) (by decide), fun _ => ?_⟩ | refine ⟨_, oV _ _, ?_⟩ | refine ⟨_, rfl, ?_⟩ | refine ⟨by decide, ?_⟩ | refine ⟨rfl, ?_⟩ | refine ⟨fun _ => ?_, fun h => absurd h (by decide)⟩ | refine ⟨fun h => absurd h (by decide), fun _ => ?_⟩ | refine ⟨inI_of (by omega), ?_⟩ | refine ⟨⟨rfl, inI_of (by omega)⟩, ?_⟩ | refine ⟨⟨rfl, by decide⟩, ?_⟩ | (apply Exists.intro; refine ⟨?_, ?_⟩; ((try simp only); (try simp only [Nat.zero_add]); (try simp only [Nat.mul_one]); (try simp only [Int.toNat_natCast]); exact at_g (by omega))) | (apply Exists.intro; refine ⟨?_, ?_⟩; ((try simp only); (try simp only [Nat.zero_add]); (try simp only [Nat.mul_one]); (try simp only [Int.toNat_natCast]); exact put_flat (by omega))) | refine ⟨_, cut_all (by omega), ?_⟩ | refine ⟨_, lay_all (by omega) (by omega), ?_⟩ | refine ⟨_, lay_all (by (try simp only); (try simp only [List.length_replicate]); (try simp only [List.length_cons]); (try simp only [List.length_nil]); omega) (by omega), ?_⟩ | refine ⟨by omega, ?_⟩ | refine ⟨len_flat (by omega), ?_⟩ | refine ⟨apart_uv _ _ _, ?_⟩ | refine ⟨_, resSlot_own rfl (by omega) (by first | exact .inl rfl | exact .inr ⟨rfl, rfl⟩), ?_⟩ | refine ⟨(by kernel_rfl : regB _ = true), ?_⟩ | refine ⟨⟨rfl, inI_of (by omega), by decide⟩, ?_⟩ | (apply Exists.intro; refine ⟨?_, ?_⟩; ((try simp only); (try simp only [Nat.zero_add]); (try simp only [Nat.mul_one]); (try simp only [Int.toNat_natCast]); exact at_drop_g (by omega))) | (apply Exists.intro; refine ⟨?_, ?_⟩; ((try simp only); (try simp only [Nat.zero_add]); (try simp only [Nat.mul_one]); (try simp only [Int.toNat_natCast]); exact cut_rest (by omega)))); conv => whnf))
    rfl
  rw [if_neg h0]
  have h0 : okP K N tag = true := by simpa using h0
  have q0 : (!okP K N tag) = false := by rw [h0]; rfl
  obtain ⟨hK16, h7, ht, _⟩ := okP_true h0
  subst hK16
  obtain ⟨T, hT⟩ : ∃ T : Nat, tag = (T : Int) := ⟨tag.toNat, by omega⟩
  have hTn : tag.toNat = T := by omega
  rw [hTn]
  by_cases h1 : 4096 < A
  · rw [if_pos (.inl h1)]
    have q1 : decide ((A : Int) > 4096) = true := by simp; omega
    ((conv => whnf); repeat ((first | refine ⟨fun _ => ?_, fun h => absurd ((q0).symm.trans h) (by decide)⟩ | refine ⟨fun h => absurd ((q0).symm.trans h) (by decide), fun _ => ?_⟩ | refine ⟨fun _ => ?_, fun h => absurd ((q1).symm.trans h) (by decide)⟩ | refine ⟨fun h => absurd ((q1).symm.trans h) (by decide), fun _ => ?_⟩ | refine ⟨_, oV _ _, ?_⟩ | refine ⟨_, rfl, ?_⟩ | refine ⟨by decide, ?_⟩ | refine ⟨rfl, ?_⟩ | refine ⟨fun _ => ?_, fun h => absurd h (by decide)⟩ | refine ⟨fun h => absurd h (by decide), fun _ => ?_⟩ | refine ⟨inI_of (by omega), ?_⟩ | refine ⟨⟨rfl, inI_of (by omega)⟩, ?_⟩ | refine ⟨⟨rfl, by decide⟩, ?_⟩ | (apply Exists.intro; refine ⟨?_, ?_⟩; ((try simp only); (try simp only [Nat.zero_add]); (try simp only [Nat.mul_one]); (try simp only [Int.toNat_natCast]); exact at_g (by omega))) | (apply Exists.intro; refine ⟨?_, ?_⟩; ((try simp only); (try simp only [Nat.zero_add]); (try simp only [Nat.mul_one]); (try simp only [Int.toNat_natCast]); exact put_flat (by omega))) | refine ⟨_, cut_all (by omega), ?_⟩ | refine ⟨_, lay_all (by omega) (by omega), ?_⟩ | refine ⟨_, lay_all (by (try simp only); (try simp only [List.length_replicate]); (try simp only [List.length_cons]); (try simp only [List.length_nil]); omega) (by omega), ?_⟩ | refine ⟨by omega, ?_⟩ | refine ⟨len_flat (by omega), ?_⟩ | refine ⟨apart_uv _ _ _, ?_⟩ | refine ⟨_, resSlot_own rfl (by omega) (by first | exact .inl rfl | exact .inr ⟨rfl, rfl⟩), ?_⟩ | refine ⟨(by kernel_rfl : regB _ = true), ?_⟩ | refine ⟨⟨rfl, inI_of (by omega), by decide⟩, ?_⟩ | (apply Exists.intro; refine ⟨?_, ?_⟩; ((try simp only); (try simp only [Nat.zero_add]); (try simp only [Nat.mul_one]); (try simp only [Int.toNat_natCast]); exact at_drop_g (by omega))) | (apply Exists.intro; refine ⟨?_, ?_⟩; ((try simp only); (try simp only [Nat.zero_add]); (try simp only [Nat.mul_one]); (try simp only [Int.toNat_natCast]); exact cut_rest (by omega)))); conv => whnf))
    rfl
  have q1 : decide ((A : Int) > 4096) = false := by simp; omega
  have ew : IntKind.i64.wrap (4096 + tag) = 4096 + tag := wrap64 (by omega)
  by_cases h2 : 4096 + T < L
  · rw [if_pos (.inr h2)]
    have q2 : decide ((L : Int) > IntKind.i64.wrap (4096 + tag)) = true := by rw [ew]; simp; omega
    ((conv => whnf); repeat ((first | refine ⟨fun _ => ?_, fun h => absurd ((q0).symm.trans h) (by decide)⟩ | refine ⟨fun h => absurd ((q0).symm.trans h) (by decide), fun _ => ?_⟩ | refine ⟨fun _ => ?_, fun h => absurd ((q1).symm.trans h) (by decide)⟩ | refine ⟨fun h => absurd ((q1).symm.trans h) (by decide), fun _ => ?_⟩ | refine ⟨fun _ => ?_, fun h => absurd ((q2).symm.trans h) (by decide)⟩ | refine ⟨fun h => absurd ((q2).symm.trans h) (by decide), fun _ => ?_⟩ | refine ⟨_, oV _ _, ?_⟩ | refine ⟨_, rfl, ?_⟩ | refine ⟨by decide, ?_⟩ | refine ⟨rfl, ?_⟩ | refine ⟨fun _ => ?_, fun h => absurd h (by decide)⟩ | refine ⟨fun h => absurd h (by decide), fun _ => ?_⟩ | refine ⟨inI_of (by omega), ?_⟩ | refine ⟨⟨rfl, inI_of (by omega)⟩, ?_⟩ | refine ⟨⟨rfl, by decide⟩, ?_⟩ | (apply Exists.intro; refine ⟨?_, ?_⟩; ((try simp only); (try simp only [Nat.zero_add]); (try simp only [Nat.mul_one]); (try simp only [Int.toNat_natCast]); exact at_g (by omega))) | (apply Exists.intro; refine ⟨?_, ?_⟩; ((try simp only); (try simp only [Nat.zero_add]); (try simp only [Nat.mul_one]); (try simp only [Int.toNat_natCast]); exact put_flat (by omega))) | refine ⟨_, cut_all (by omega), ?_⟩ | refine ⟨_, lay_all (by omega) (by omega), ?_⟩ | refine ⟨_, lay_all (by (try simp only); (try simp only [List.length_replicate]); (try simp only [List.length_cons]); (try simp only [List.length_nil]); omega) (by omega), ?_⟩ | refine ⟨by omega, ?_⟩ | refine ⟨len_flat (by omega), ?_⟩ | refine ⟨apart_uv _ _ _, ?_⟩ | refine ⟨_, resSlot_own rfl (by omega) (by first | exact .inl rfl | exact .inr ⟨rfl, rfl⟩), ?_⟩ | refine ⟨(by kernel_rfl : regB _ = true), ?_⟩ | refine ⟨⟨rfl, inI_of (by omega), by decide⟩, ?_⟩ | (apply Exists.intro; refine ⟨?_, ?_⟩; ((try simp only); (try simp only [Nat.zero_add]); (try simp only [Nat.mul_one]); (try simp only [Int.toNat_natCast]); exact at_drop_g (by omega))) | (apply Exists.intro; refine ⟨?_, ?_⟩; ((try simp only); (try simp only [Nat.zero_add]); (try simp only [Nat.mul_one]); (try simp only [Int.toNat_natCast]); exact cut_rest (by omega)))); conv => whnf))
    rfl
  have q2 : decide ((L : Int) > IntKind.i64.wrap (4096 + tag)) = false := by rw [ew]; simp; omega
  rw [if_neg (by omega)]
  by_cases h3 : L < T
  · rw [if_pos h3]
    have q3 : decide ((L : Int) < tag) = true := by simp; omega
    ((conv => whnf); repeat ((first | refine ⟨fun _ => ?_, fun h => absurd ((q0).symm.trans h) (by decide)⟩ | refine ⟨fun h => absurd ((q0).symm.trans h) (by decide), fun _ => ?_⟩ | refine ⟨fun _ => ?_, fun h => absurd ((q1).symm.trans h) (by decide)⟩ | refine ⟨fun h => absurd ((q1).symm.trans h) (by decide), fun _ => ?_⟩ | refine ⟨fun _ => ?_, fun h => absurd ((q2).symm.trans h) (by decide)⟩ | refine ⟨fun h => absurd ((q2).symm.trans h) (by decide), fun _ => ?_⟩ | refine ⟨fun _ => ?_, fun h => absurd ((q3).symm.trans h) (by decide)⟩ | refine ⟨fun h => absurd ((q3).symm.trans h) (by decide), fun _ => ?_⟩ | refine ⟨_, oV _ _, ?_⟩ | refine ⟨_, rfl, ?_⟩ | refine ⟨by decide, ?_⟩ | refine ⟨rfl, ?_⟩ | refine ⟨fun _ => ?_, fun h => absurd h (by decide)⟩ | refine ⟨fun h => absurd h (by decide), fun _ => ?_⟩ | refine ⟨inI_of (by omega), ?_⟩ | refine ⟨⟨rfl, inI_of (by omega)⟩, ?_⟩ | refine ⟨⟨rfl, by decide⟩, ?_⟩ | (apply Exists.intro; refine ⟨?_, ?_⟩; ((try simp only); (try simp only [Nat.zero_add]); (try simp only [Nat.mul_one]); (try simp only [Int.toNat_natCast]); exact at_g (by omega))) | (apply Exists.intro; refine ⟨?_, ?_⟩; ((try simp only); (try simp only [Nat.zero_add]); (try simp only [Nat.mul_one]); (try simp only [Int.toNat_natCast]); exact put_flat (by omega))) | refine ⟨_, cut_all (by omega), ?_⟩ | refine ⟨_, lay_all (by omega) (by omega), ?_⟩ | refine ⟨_, lay_all (by (try simp only); (try simp only [List.length_replicate]); (try simp only [List.length_cons]); (try simp only [List.length_nil]); omega) (by omega), ?_⟩ | refine ⟨by omega, ?_⟩ | refine ⟨len_flat (by omega), ?_⟩ | refine ⟨apart_uv _ _ _, ?_⟩ | refine ⟨_, resSlot_own rfl (by omega) (by first | exact .inl rfl | exact .inr ⟨rfl, rfl⟩), ?_⟩ | refine ⟨(by kernel_rfl : regB _ = true), ?_⟩ | refine ⟨⟨rfl, inI_of (by omega), by decide⟩, ?_⟩ | (apply Exists.intro; refine ⟨?_, ?_⟩; ((try simp only); (try simp only [Nat.zero_add]); (try simp only [Nat.mul_one]); (try simp only [Int.toNat_natCast]); exact at_drop_g (by omega))) | (apply Exists.intro; refine ⟨?_, ?_⟩; ((try simp only); (try simp only [Nat.zero_add]); (try simp only [Nat.mul_one]); (try simp only [Int.toNat_natCast]); exact cut_rest (by omega)))); conv => whnf))
    rfl
  have q3 : decide ((L : Int) < tag) = false := by simp; omega
  rw [if_neg h3]
  have es : IntKind.i64.wrap ((L : Int) - tag) = ((L - T : Nat) : Int) := by rw [wrap64 (by omega)]; omega
  obtain ⟨c5, hsl, _⟩ := slice_im_to (E := E7c) (t := 22) (k := .u8) (l := cipher) (c := c4) (h1 := rfl) es (show L - T ≤ L by omega) hL hc4
  have hpd : plainP key nonce cipher tag = strF key nonce (cipher.take (L - T)) 1 := by rw [plainP, hL, hTn]
  have hxl : (cipher.take (L - T)).length = L - T := by simp; omega
  have oS : ∀ c c2 c3, E7c.orc 29 [.im 1 16 c (.flat .u8 key), .im 1 N c2 (.flat .u8 nonce), .im 1 (L - T) c3 (.flat .u8 (cipher.take (L - T))), .v (.int .i64 1)] = some (LRes.one (.own 1 (L - T) 5 (.flat .u8 (strF key nonce (cipher.take (L - T)) 1)))) := fun c c2 c3 => str7 N (L - T) c c2 c3 key nonce _ 1 hk hkb hN h7 hnb hxl (by omega) (hcb.take _) (by decide)
  rw [← hpd] at oS
  have hpl : (plainP key nonce cipher tag).length = L - T := by rw [hpd, strF_len, hxl]
  have hpb : By (plainP key nonce cipher tag) := by rw [hpd]; exact strF_by hkb hnb (hcb.take _) _
  clear hpd
  obtain ⟨p, hp⟩ : ∃ p, p = plainP key nonce cipher tag := ⟨_, rfl⟩
  rw [← hp] at oS hpl hpb ⊢
  clear hp
  have hcp : (Cont.flat .u8 p).cut 0 ((L - T) * 1) = some (.flat .u8 p) := cut_all (by omega)
  have oE : ∀ c c2 c3 c4, E7c.orc 20 [.im 1 16 c (.flat .u8 key), .im 1 N c2 (.flat .u8 nonce), .im 1 A c3 (.flat .u8 aad), .im 1 (L - T) c4 (.flat .u8 p), .v (.int .i64 tag)] = some (ret2 (.own 1 (L - T + T) 5 (.flat .u8 (sealP key nonce aad p tag))) 0) := by
    intro c c2 c3 c4
    rw [seal7 16 N A (L - T) c c2 c3 c4 key nonce aad p tag hk hkb hN hnb hA hab hpl hpb, sealR, hk, hN, if_neg (by rw [h0]; simp), if_neg (by omega), hpl, hTn]
  have hSl := sealP_len (key := key) (nonce := nonce) (aad := aad) (plain := p) (tag := tag) (by omega)
  have hSb := sealP_by hkb hnb hab hpb tag
  rw [hpl, hTn] at hSl
  obtain ⟨S, hS⟩ : ∃ S, S = sealP key nonce aad p tag := ⟨_, rfl⟩
  rw [← hS] at oE hSl hSb ⊢
  have tS : (S.drop 0).take (L - T + T) = S := take_all (by omega)
  have qn := str_neq hSb hcb
  have htk : p.take ((L - T) * 1) = p := List.take_of_length_le (by omega)
  by_cases he : S = cipher
  · rw [if_pos he]
    have q4 : (!(S == cipher)) = false := by simp [he]
    ((conv => whnf); repeat ((first | refine ⟨fun _ => ?_, fun h => absurd ((q0).symm.trans h) (by decide)⟩ | refine ⟨fun h => absurd ((q0).symm.trans h) (by decide), fun _ => ?_⟩ | refine ⟨fun _ => ?_, fun h => absurd ((q1).symm.trans h) (by decide)⟩ | refine ⟨fun h => absurd ((q1).symm.trans h) (by decide), fun _ => ?_⟩ | refine ⟨fun _ => ?_, fun h => absurd ((q2).symm.trans h) (by decide)⟩ | refine ⟨fun h => absurd ((q2).symm.trans h) (by decide), fun _ => ?_⟩ | refine ⟨fun _ => ?_, fun h => absurd ((q3).symm.trans h) (by decide)⟩ | refine ⟨fun h => absurd ((q3).symm.trans h) (by decide), fun _ => ?_⟩ | refine ⟨fun _ => ?_, fun h => absurd ((q4).symm.trans h) (by decide)⟩ | refine ⟨fun h => absurd ((q4).symm.trans h) (by decide), fun _ => ?_⟩ | refine ⟨_, oV _ _, ?_⟩ | refine ⟨_, hsl, ?_⟩ | refine ⟨_, oS _ _ _, ?_⟩ | refine ⟨_, oE _ _ _ _, ?_⟩ | refine ⟨_, expo_sl rfl hcp, ?_⟩ | refine ⟨_, conv_as rfl rfl rfl rfl rfl rfl (by omega) hSb tS, ?_⟩ | refine ⟨_, conv_im rfl rfl rfl hL hcb, ?_⟩ | refine ⟨_, qn, ?_⟩ | refine ⟨_, rfl, ?_⟩ | refine ⟨by decide, ?_⟩ | refine ⟨rfl, ?_⟩ | refine ⟨fun _ => ?_, fun h => absurd h (by decide)⟩ | refine ⟨fun h => absurd h (by decide), fun _ => ?_⟩ | refine ⟨inI_of (by omega), ?_⟩ | refine ⟨⟨rfl, inI_of (by omega)⟩, ?_⟩ | refine ⟨⟨rfl, by decide⟩, ?_⟩ | (apply Exists.intro; refine ⟨?_, ?_⟩; ((try simp only); (try simp only [Nat.zero_add]); (try simp only [Nat.mul_one]); (try simp only [Int.toNat_natCast]); exact at_g (by omega))) | (apply Exists.intro; refine ⟨?_, ?_⟩; ((try simp only); (try simp only [Nat.zero_add]); (try simp only [Nat.mul_one]); (try simp only [Int.toNat_natCast]); exact put_flat (by omega))) | refine ⟨_, cut_all (by omega), ?_⟩ | refine ⟨_, lay_all (by omega) (by omega), ?_⟩ | refine ⟨_, lay_all (by (try simp only); (try simp only [List.length_replicate]); (try simp only [List.length_cons]); (try simp only [List.length_nil]); omega) (by omega), ?_⟩ | refine ⟨by omega, ?_⟩ | refine ⟨len_flat (by omega), ?_⟩ | refine ⟨apart_uv _ _ _, ?_⟩ | refine ⟨_, resSlot_own rfl (by omega) (by first | exact .inl rfl | exact .inr ⟨rfl, rfl⟩), ?_⟩ | refine ⟨(by kernel_rfl : regB _ = true), ?_⟩ | refine ⟨⟨rfl, inI_of (by omega), by decide⟩, ?_⟩ | (apply Exists.intro; refine ⟨?_, ?_⟩; ((try simp only); (try simp only [Nat.zero_add]); (try simp only [Nat.mul_one]); (try simp only [Int.toNat_natCast]); exact at_drop_g (by omega))) | (apply Exists.intro; refine ⟨?_, ?_⟩; ((try simp only); (try simp only [Nat.zero_add]); (try simp only [Nat.mul_one]); (try simp only [Int.toNat_natCast]); exact cut_rest (by omega)))); conv => whnf))
    rw [htk]
    rfl
  · rw [if_neg he]
    have q4 : (!(S == cipher)) = true := by simp [he]
    ((conv => whnf); repeat ((first | refine ⟨fun _ => ?_, fun h => absurd ((q0).symm.trans h) (by decide)⟩ | refine ⟨fun h => absurd ((q0).symm.trans h) (by decide), fun _ => ?_⟩ | refine ⟨fun _ => ?_, fun h => absurd ((q1).symm.trans h) (by decide)⟩ | refine ⟨fun h => absurd ((q1).symm.trans h) (by decide), fun _ => ?_⟩ | refine ⟨fun _ => ?_, fun h => absurd ((q2).symm.trans h) (by decide)⟩ | refine ⟨fun h => absurd ((q2).symm.trans h) (by decide), fun _ => ?_⟩ | refine ⟨fun _ => ?_, fun h => absurd ((q3).symm.trans h) (by decide)⟩ | refine ⟨fun h => absurd ((q3).symm.trans h) (by decide), fun _ => ?_⟩ | refine ⟨fun _ => ?_, fun h => absurd ((q4).symm.trans h) (by decide)⟩ | refine ⟨fun h => absurd ((q4).symm.trans h) (by decide), fun _ => ?_⟩ | refine ⟨_, oV _ _, ?_⟩ | refine ⟨_, hsl, ?_⟩ | refine ⟨_, oS _ _ _, ?_⟩ | refine ⟨_, oE _ _ _ _, ?_⟩ | refine ⟨_, expo_sl rfl hcp, ?_⟩ | refine ⟨_, conv_as rfl rfl rfl rfl rfl rfl (by omega) hSb tS, ?_⟩ | refine ⟨_, conv_im rfl rfl rfl hL hcb, ?_⟩ | refine ⟨_, qn, ?_⟩ | refine ⟨_, rfl, ?_⟩ | refine ⟨by decide, ?_⟩ | refine ⟨rfl, ?_⟩ | refine ⟨fun _ => ?_, fun h => absurd h (by decide)⟩ | refine ⟨fun h => absurd h (by decide), fun _ => ?_⟩ | refine ⟨inI_of (by omega), ?_⟩ | refine ⟨⟨rfl, inI_of (by omega)⟩, ?_⟩ | refine ⟨⟨rfl, by decide⟩, ?_⟩ | (apply Exists.intro; refine ⟨?_, ?_⟩; ((try simp only); (try simp only [Nat.zero_add]); (try simp only [Nat.mul_one]); (try simp only [Int.toNat_natCast]); exact at_g (by omega))) | (apply Exists.intro; refine ⟨?_, ?_⟩; ((try simp only); (try simp only [Nat.zero_add]); (try simp only [Nat.mul_one]); (try simp only [Int.toNat_natCast]); exact put_flat (by omega))) | refine ⟨_, cut_all (by omega), ?_⟩ | refine ⟨_, lay_all (by omega) (by omega), ?_⟩ | refine ⟨_, lay_all (by (try simp only); (try simp only [List.length_replicate]); (try simp only [List.length_cons]); (try simp only [List.length_nil]); omega) (by omega), ?_⟩ | refine ⟨by omega, ?_⟩ | refine ⟨len_flat (by omega), ?_⟩ | refine ⟨apart_uv _ _ _, ?_⟩ | refine ⟨_, resSlot_own rfl (by omega) (by first | exact .inl rfl | exact .inr ⟨rfl, rfl⟩), ?_⟩ | refine ⟨(by kernel_rfl : regB _ = true), ?_⟩ | refine ⟨⟨rfl, inI_of (by omega), by decide⟩, ?_⟩ | (apply Exists.intro; refine ⟨?_, ?_⟩; ((try simp only); (try simp only [Nat.zero_add]); (try simp only [Nat.mul_one]); (try simp only [Int.toNat_natCast]); exact at_drop_g (by omega))) | (apply Exists.intro; refine ⟨?_, ?_⟩; ((try simp only); (try simp only [Nat.zero_add]); (try simp only [Nat.mul_one]); (try simp only [Int.toNat_natCast]); exact cut_rest (by omega)))); conv => whnf))
    rfl
end Go.Proofs.Ytgkccfjjjamhoaa
