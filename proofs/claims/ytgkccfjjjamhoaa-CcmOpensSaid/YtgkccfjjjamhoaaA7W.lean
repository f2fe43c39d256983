/-
  Layer 7: the program's Seal and Open; what it chains is what the answer chains.
-/
import Derived.Test.YtgkccfjjjamhoaaA7V
namespace Go.Proofs.Ytgkccfjjjamhoaa
open Go.RowKit

theorem x8_x8 {a b : Int} (ha : 0 ≤ a ∧ a < 256) (hb : 0 ≤ b ∧ b < 256) : x8 (x8 a b) b = a := by
  obtain ⟨u, rfl⟩ := byteE ha
  obtain ⟨v, rfl⟩ := byteE hb
  rw [x8_E, x8_E, BitVec.xor_assoc, BitVec.xor_self, BitVec.xor_zero]
theorem strF_strF {k v b : List Int} (hk : By k) (hv : By v) (hb : By b) (blk : Int) : strF k v (strF k v b blk) blk = b := by
  refine ext_g (by rw [strF_len, strF_len]) fun i hi => ?_
  rw [strF_len, strF_len] at hi
  have h1 : g (strF k v b blk) i = strE k v b blk i := by rw [strF]; exact g_map hi
  have h2 : g (strF k v (strF k v b blk) blk) i = strE k v (strF k v b blk) blk i := by
    rw [strF]
    exact g_map (by rw [strF_len]; exact hi)
  rw [h2, strE, h1, strE]
  exact x8_x8 (hb.g _) ((ksB_by hk hv _ _).g _)
theorem x8_zero {a : Int} (ha : 0 ≤ a ∧ a < 256) : x8 a 0 = a := by
  obtain ⟨u, rfl⟩ := byteE ha
  have h : (0 : Int) = E (0#8) := rfl
  rw [h, x8_E, BitVec.xor_zero]
theorem g_zeros (n i : Nat) : g (List.replicate n 0) i = 0 := by
  simp only [g, List.getD_eq_getElem?_getD, List.getElem?_replicate]
  split <;> rfl
theorem g_padP (b : List Int) (i : Nat) : g (padP b) i = if i < b.length then g b i else 0 := by
  rw [padP, padK, g_append]
  split
  · rfl
  · exact g_zeros _ _
theorem g_ckL (b : List Int) (k i : Nat) (h : i < 16) : g (ckL b k) i = g b (16 * k + i) := by
  simp [ckL, g, List.getD_eq_getElem?_getD, h]
theorem ckL_len (b : List Int) (k : Nat) : (ckL b k).length = min 16 (b.length - 16 * k) := by simp [ckL]
theorem plu_xor {Y b : List Int} (hY : Y.length = 16) (hYb : By Y) (k : Nat) : pluP Y (ckL b k) = xorAt Y (padP b) (16 * k) := by
  refine ext_g (by rw [pluP_len, hY]; simp [xorAt]) fun i hi => ?_
  have hi : i < 16 := by rw [pluP_len, hY] at hi; exact hi
  rw [pluP, g_upd (by omega), xorAt, g_map hi, xorF, g_padP, ckL_len, hY]
  by_cases h : i < min 16 (min 16 (b.length - 16 * k))
  · rw [if_pos h, if_pos (by omega), pluF, g_ckL _ _ _ hi]
  · rw [if_neg h, if_neg (by omega), x8_zero (hYb.g _)]
/-- The chain over whole blocks, from any value on. -/
def mbF (key B X : List Int) : Nat → List Int
  | 0 => X
  | j + 1 => encS key (xorAt (mbF key B X j) B (16 * j)) 10
theorem macB_mb (key B : List Int) : ∀ j, macB key B j = mbF key B (List.replicate 16 0) j
  | 0 => rfl
  | j + 1 => by rw [macB, mbF, macB_mb key B j]
theorem chl_mb {key b X : List Int} (hk : By key) (hb : By b) (hX : X.length = 16) (hXb : By X) : ∀ j, chl key b X (List.range j) = mbF key (padP b) X j
  | 0 => rfl
  | j + 1 => by
    rw [List.range_succ, chl_snoc, mbF, ← chl_mb hk hb hX hXb j, plu_xor (chl_len _ _ _ hX _) (chl_by0 hk hb _ _ hXb)]
theorem padP_len16 (b : List Int) : (padP b).length = 16 * ((b.length + 15) / 16) := by
  rw [padP, padK_len]
  omega
theorem mb_left {key P Q X : List Int} {p : Nat} (hP : P.length = 16 * p) : ∀ j, j ≤ p → mbF key (P ++ Q) X j = mbF key P X j
  | 0, _ => rfl
  | j + 1, h => by
    rw [mbF, mbF, mb_left hP j (by omega)]
    congr 1
    refine ext_g (by simp [xorAt]) fun i hi => ?_
    have hi : i < 16 := by simpa [xorAt] using hi
    rw [xorAt, xorAt, g_map hi, g_map hi, xorF, xorF, g_append, if_pos (by omega)]
theorem mb_right {key P Q X : List Int} {p : Nat} (hP : P.length = 16 * p) : ∀ q, mbF key (P ++ Q) X (p + q) = mbF key Q (mbF key P X p) q
  | 0 => mb_left hP p (Nat.le_refl _)
  | q + 1 => by
    rw [← Nat.add_assoc, mbF, mbF, mb_right hP q]
    congr 1
    refine ext_g (by simp [xorAt]) fun i hi => ?_
    have hi : i < 16 := by simpa [xorAt] using hi
    rw [xorAt, xorAt, g_map hi, g_map hi, xorF, xorF, g_append, if_neg (by omega)]
    congr 2
    omega
theorem mb_one {key C : List Int} (hC : C.length = 16) : mbF key C (List.replicate 16 0) 1 = encS key (pluP (List.replicate 16 0) C) 10 := by
  rw [mbF, mbF]
  congr 1
  refine ext_g (by rw [pluP_len]; simp [xorAt]) fun i hi => ?_
  have hi : i < 16 := by simpa [xorAt] using hi
  rw [xorAt, g_map hi, xorF, pluP, g_upd (by simpa using hi), List.length_replicate, hC, if_pos (by omega), pluF, Nat.mul_zero, Nat.zero_add]
theorem nbP_two (n : Int) : nbP n 2 = [IntKind.u8.wrap (n.fdiv (2 ^ 8)), IntKind.u8.wrap n] := by
  have e : List.range 2 = [0, 1] := rfl
  have h0 : beF n 0 = IntKind.u8.wrap n := by simp [beF]
  have h1 : beF n 1 = IntKind.u8.wrap (n.fdiv (2 ^ 8)) := rfl
  rw [nbP, e]
  simp only [List.map_cons, List.map_nil]
  rw [show 2 - 1 - 0 = 1 from rfl, show 2 - 1 - 1 = 0 from rfl, h0, h1]
theorem prgX_eq {key nonce aad plain : List Int} (hk : By key) (hn : nonce.length ≤ 15) (hnb : By nonce) (hab : By aad) (hpb : By plain) (tag : Int) : prgX key nonce aad plain tag = macP key nonce aad plain tag := by
  have hCl : (ctr (firP tag nonce.length aad.length) nonce (plain.length : Int)).length = 16 := ctr_len hn
  have hCb : By (ctr (firP tag nonce.length aad.length) nonce (plain.length : Int)) := ctr_by hnb
  have hP := padP_len16 plain
  rw [macP, blksP, prgX]
  obtain ⟨C, hC⟩ : ∃ C, C = ctr (firP tag nonce.length aad.length) nonce (plain.length : Int) := ⟨_, rfl⟩
  rw [← hC] at hCl hCb ⊢
  have hYl := encS_len key (pluP (List.replicate 16 0) C) 10
  have hYb := encS_by hk (pluP_by (By.zeros 16) hCb) 10
  rw [macB_mb]
  by_cases h0 : aad.length = 0
  · rw [if_pos h0, aadP, if_pos h0, List.append_nil]
    have hl : (C ++ padP plain).length / 16 = 1 + (plain.length + 15) / 16 := by rw [List.length_append, hCl, hP]; omega
    rw [hl, mb_right (p := 1) hCl, mb_one hCl, chl_mb hk hpb hYl hYb]
  · have hV : nbP (aad.length : Int) 2 ++ aad = [IntKind.u8.wrap ((aad.length : Int).fdiv (2 ^ 8)), IntKind.u8.wrap aad.length] ++ aad := by rw [nbP_two]
    rw [if_neg h0, aadP, if_neg h0, ← hV]
    have hVb : By (nbP (aad.length : Int) 2 ++ aad) := (nbP_by _ _).append hab
    have hVl : (nbP (aad.length : Int) 2 ++ aad).length = 2 + aad.length := by rw [List.length_append, nbP_len]
    obtain ⟨V, hVe⟩ : ∃ V, V = nbP (aad.length : Int) 2 ++ aad := ⟨_, rfl⟩
    rw [← hVe] at hVb hVl ⊢
    have hVp := padP_len16 V
    rw [hVl] at hVp
    have hCV : (C ++ padP V).length = 16 * (1 + (2 + aad.length + 15) / 16) := by rw [List.length_append, hCl, hVp]; omega
    have hl : (C ++ padP V ++ padP plain).length / 16 = 1 + (2 + aad.length + 15) / 16 + (plain.length + 15) / 16 := by rw [List.length_append, hCV, hP]; omega
    rw [hl, mb_right (p := 1 + (2 + aad.length + 15) / 16) hCV, mb_right (p := 1) hCl, mb_one hCl, ← chl_mb hk hVb hYl hYb, chl_mb hk hpb (chl_len _ _ _ hYl _) (chl_by0 hk hVb _ _ hYb)]
theorem str_plu {key nonce M : List Int} (hM : M.length = 16) : strF key nonce M 0 = pluP M (ksI key nonce 0) := by
  refine ext_g (by rw [strF_len, pluP_len]) fun i hi => ?_
  have hi : i < 16 := by rw [strF_len, hM] at hi; exact hi
  have e1 : i / 16 = 0 := by omega
  have e2 : i % 16 = i := by omega
  rw [strF, g_map (by omega), strE, e1, e2, pluP, g_upd (by omega), hM, ksI_len, if_pos (by omega), pluF]
  rfl
/-- The tag. -/
def tagP (key nonce aad plain : List Int) (tag : Int) : List Int := (pluP (prgX key nonce aad plain tag) (ksI key nonce 0)).take tag.toNat
theorem sealP_tag {key nonce aad plain : List Int} (hk : By key) (hn : nonce.length ≤ 15) (hnb : By nonce) (hab : By aad) (hpb : By plain) (tag : Int) : sealP key nonce aad plain tag = strF key nonce plain 1 ++ tagP key nonce aad plain tag := by
  rw [sealP, tagP, prgX_eq hk hn hnb hab hpb, str_plu (macP_len _ _ _ _ _)]
theorem tagP_len {key nonce aad plain : List Int} {T : Nat} {tag : Int} (hT : tag = (T : Int)) (ht : tag ≤ 16) (hk : By key) (hn : nonce.length ≤ 15) (hnb : By nonce) (hab : By aad) (hpb : By plain) : (tagP key nonce aad plain tag).length = T := by
  rw [tagP, List.length_take, pluP_len, prgX_eq hk hn hnb hab hpb, macP_len]
  omega
theorem tagP_by {key nonce aad plain : List Int} {tag : Int} (hk : By key) (hn : nonce.length ≤ 15) (hnb : By nonce) (hab : By aad) (hpb : By plain) : By (tagP key nonce aad plain tag) := by
  rw [tagP, prgX_eq hk hn hnb hab hpb]
  exact (pluP_by (macP_by hk hnb hab hpb tag) (ksI_by hk hnb 0)).take _

/-- What is known of a slice's room goes without saying. -/
theorem CallOk.cap {P : Program} {f : Nat} {ds : List LV} {r : LRes} {z n : Nat} {c : Option Nat} {x : Cont} (i : Nat) (hi : ds[i]? = some (.im z n c x)) (h : n ≤ c.getD n → CallOk P f ds r) : CallOk P f ds r := by
  intro w A args hsz hA hrep
  by_cases hc : n ≤ c.getD n
  · exact h hc w A args hsz hA hrep
  · have h1 := hrep i _ hi
    exfalso
    generalize args.getD i undef = v at h1
    cases h1 with
    | im _ _ _ _ _ a c' f hl hn hk ha hm hr =>
      rcases c with _ | k
      · exact hc (Nat.le_refl _)
      · have := hk k rfl
        exact hc (by simp; omega)
theorem slice_im_from {E : Env} {t e n l a1 a2 : Nat} {g1 : Bool} {o1 : Option Cont} {c : Option Nat} {k : IntKind} {x : List Int} (h1 : E.T t = some ⟨.slice e 1, a1, a2, g1, o1⟩) {lo : Int} (hlo : lo = (l : Nat)) (hn : l ≤ n) (hl : x.length = n) (hc : n ≤ c.getD n) :
    ∃ c' : Option Nat, opSlice E t true false false (.im 1 n c (.flat k x)) [.v (.int .i64 lo)] = some (.im 1 (n - l) c' (.flat k (x.drop l)), []) := by
  subst hlo
  have hb : bounds [(l : Int)] true false false n (c.getD n) = some (l, n, c.getD n) := by
    unfold bounds
    rw [if_pos (by simp [lowI, highI, maxI]; omega)]
    simp [lowI, highI, maxI]
  have hp : optMap pickInt [.v (.int .i64 (l : Int))] = some [(l : Int)] := rfl
  have hcut : (Cont.flat k x).cut (l * 1) ((n - l) * 1) = some (.flat k (x.drop l)) := by
    rw [Nat.mul_one, Nat.mul_one, cut_flat (by omega), List.take_of_length_le (by simp; omega)]
  refine ⟨if (false || c.isSome) = true then some (c.getD n - l) else none, ?_⟩
  simp only [opSlice, h1, hp, if_true, hb, hcut, if_pos (Nat.le_refl n)]
  try simp

def orcS7 (f : Nat) (ds : List LV) : Option LRes :=
  match f with
  | 11 => match ds with
    | [.im 1 n _ _, .im 1 m _ _, .v (.int .i64 t)] => some (ret1 (.v (.bool (okP n m t))))
    | _ => none
  | 27 => match ds with
    | [.im 1 16 _ (.flat .u8 k), .im 1 n _ (.flat .u8 v), .im 1 m c3 (.flat .u8 b)] => if (k.length = 16 ∧ byteOk k = true) ∧ (v.length = n ∧ (7 ≤ n ∧ n ≤ 13) ∧ byteOk v = true) ∧ b.length = m ∧ m ≤ 10000 ∧ byteOk b = true ∧ m ≤ c3.getD m then some (LRes.one (.own 1 m 5 (.flat .u8 (strF k v b 1)))) else none
    | _ => none
  | 28 => match ds with
    | [.im 1 16 _ (.flat .u8 k), .im 1 n _ (.flat .u8 v), .im 1 a _ (.flat .u8 x), .im 1 m _ (.flat .u8 b), .v (.int .i64 (.ofNat t))] => if (k.length = 16 ∧ byteOk k = true) ∧ (v.length = n ∧ (7 ≤ n ∧ n ≤ 13) ∧ byteOk v = true) ∧ (x.length = a ∧ a ≤ 4096 ∧ byteOk x = true) ∧ (b.length = m ∧ m ≤ 5000 ∧ byteOk b = true) ∧ 4 ≤ t ∧ t ≤ 16 then some (LRes.one (.own 1 t 5 (.flat .u8 (tagP k v x b t)))) else none
    | _ => none
  | _ => orcC7 f ds
theorem orcS7_ok : Known Try.prog orcS7 := by
  intro f ds r h
  unfold orcS7 at h
  split at h
  · split at h
    · cases h
      exact ⟨⟨_, Try.func11, name_ne _ (by kernel_rfl), rfl⟩, execF_ok follows_ok EM_ok Try.func11 (pvalid_exec _ _ _ _ _ _ _)⟩
    · cases h
  · split at h
    · split at h
      · rename_i hc
        cases h
        exact ⟨⟨_, Try.func27, name_ne _ (by kernel_rfl), rfl⟩, execF_ok follows_ok EC7_ok Try.func27 (pcrypt_exec _ _ _ _ _ _ _ _ hc.1.1 (byteAll hc.1.2) hc.2.1.1 hc.2.1.2.1 (byteAll hc.2.1.2.2) hc.2.2.1 hc.2.2.2.1 (byteAll hc.2.2.2.2.1) hc.2.2.2.2.2)⟩
      · cases h
    · cases h
  · split at h
    · split at h
      · rename_i hc
        cases h
        exact ⟨⟨_, Try.func28, name_ne _ (by kernel_rfl), rfl⟩, execF_ok follows_ok EM7_ok Try.func28 (pmark_exec _ _ _ _ _ _ _ _ _ _ _ _ _ hc.1.1 (byteAll hc.1.2) hc.2.1.1 hc.2.1.2.1 (byteAll hc.2.1.2.2) hc.2.2.1.1 hc.2.2.1.2.1 (byteAll hc.2.2.1.2.2) hc.2.2.2.1.1 hc.2.2.2.1.2.1 (byteAll hc.2.2.2.1.2.2) (by have := hc.2.2.2.2; simp only [Int.ofNat_eq_natCast]; omega) rfl)⟩
      · cases h
    · cases h
  · exact orcC7_ok f ds r h
def ES7 : Env := ⟨tyL, orcS7, false, noWk, noOrw⟩
theorem ES7_ok : EnvOk Try.prog ES7 := ⟨tyL_ok, orcS7_ok, noOrw_ok⟩
theorem sValid (n m : Nat) (c c2 : Option Nat) (x y : Cont) (t : Int) : ES7.orc 11 [.im 1 n c x, .im 1 m c2 y, .v (.int .i64 t)] = some (ret1 (.v (.bool (okP n m t)))) := rfl
theorem sCrypt (n m : Nat) (c c2 c3 : Option Nat) (k v b : List Int) (h1 : k.length = 16) (h2 : By k) (h3 : v.length = n) (h4 : 7 ≤ n ∧ n ≤ 13) (h5 : By v) (h6 : b.length = m) (h7 : m ≤ 10000) (h8 : By b) (h9 : m ≤ c3.getD m) :
    ES7.orc 27 [.im 1 16 c (.flat .u8 k), .im 1 n c2 (.flat .u8 v), .im 1 m c3 (.flat .u8 b)] = some (LRes.one (.own 1 m 5 (.flat .u8 (strF k v b 1)))) := if_pos ⟨⟨h1, h2.ok⟩, ⟨h3, h4, h5.ok⟩, h6, h7, h8.ok, h9⟩
theorem sMark (n a m T : Nat) (c c2 c3 c4 : Option Nat) (k v x b : List Int) (t : Int) (hT : t = (T : Int)) (h1 : k.length = 16) (h2 : By k) (h3 : v.length = n) (h4 : 7 ≤ n ∧ n ≤ 13) (h5 : By v) (h6 : x.length = a) (h7 : a ≤ 4096) (h8 : By x) (h9 : b.length = m) (h10 : m ≤ 5000) (h11 : By b) (h12 : 4 ≤ T ∧ T ≤ 16) :
    ES7.orc 28 [.im 1 16 c (.flat .u8 k), .im 1 n c2 (.flat .u8 v), .im 1 a c3 (.flat .u8 x), .im 1 m c4 (.flat .u8 b), .v (.int .i64 t)] = some (LRes.one (.own 1 T 5 (.flat .u8 (tagP k v x b t)))) := by
  subst hT
  exact if_pos ⟨⟨h1, h2.ok⟩, ⟨h3, h4, h5.ok⟩, ⟨h6, h7, h8.ok⟩, ⟨h9, h10, h11.ok⟩, h12⟩
theorem sCat2 (n1 n2 : Nat) (c c1 c2 : Option Nat) (l1 l2 : List Int) (h1 : l1.length = n1) (h2 : l2.length = n2) (m1 : n1 ≤ 100000) (m2 : n2 ≤ 100000) :
    ES7.orc 26 [.im 1 2 c (.gen [.im 1 n1 c1 (.flat .u8 l1), .im 1 n2 c2 (.flat .u8 l2)])] = some (LRes.one (.own 1 (n1 + n2) 5 (.flat .u8 (l1 ++ l2)))) := if_pos ⟨h1, h2, m1, m2⟩
theorem sEqual (n m : Nat) (c c2 : Option Nat) (a b : List Int) (h1 : a.length = n) (h2 : b.length = m) (h3 : By a) (h4 : By b) : ES7.orc 31 [.im 1 n c (.flat .u8 a), .im 1 m c2 (.flat .u8 b)] = some (ret1 (.v (.bool (a == b)))) := if_pos ⟨h1, h2, h3.ok, h4.ok⟩

set_option maxRecDepth 100000 in
set_option maxHeartbeats 4000000 in
theorem pseal_exec (key nonce aad plain : List Int) (K N A L : Nat) (c c2 c3 c4 : Option Nat) (tag : Int) (hk : key.length = K) (hkb : By key) (hN : nonce.length = N) (hnb : By nonce) (hA : aad.length = A) (hab : By aad) (hL : plain.length = L) (hpb : By plain) (hc4 : L ≤ c4.getD L) :
    execF ES7 Try.f19 [.im 1 K c (.flat .u8 key), .im 1 N c2 (.flat .u8 nonce), .im 1 A c3 (.flat .u8 aad), .im 1 L c4 (.flat .u8 plain), iv .i64 tag] (sealR key nonce aad plain tag) := by
  have oV := fun c c2 x y => sValid K N c c2 x y tag
  unfold sealR
  rw [hk, hN, hA, hL]
  by_cases h0 : okP K N tag = false
  · rw [if_pos h0]
    have q0 : (!okP K N tag) = true := by rw [h0]; rfl
    ((conv => whnf); repeat ((first | refine ⟨fun _ => ?_, fun h => absurd ((q0).symm.trans h) (by decide)⟩ | refine ⟨fun h => absurd ((q0).symm.trans h) (by decide), fun _ => ?_⟩ | refine ⟨_, oV _ _ _ _, ?_⟩ | refine ⟨_, rfl, ?_⟩ | refine ⟨by decide, ?_⟩ | refine ⟨rfl, ?_⟩ | refine ⟨fun _ => ?_, fun h => absurd h (by decide)⟩ | refine ⟨fun h => absurd h (by decide), fun _ => ?_⟩ | refine ⟨inI_of (by omega), ?_⟩ | refine ⟨⟨rfl, inI_of (by omega)⟩, ?_⟩ | refine ⟨⟨rfl, by decide⟩, ?_⟩ | (apply Exists.intro; refine ⟨?_, ?_⟩; ((try simp only); (try simp only [Nat.zero_add]); (try simp only [Nat.mul_one]); (try simp only [Int.toNat_natCast]); exact at_g (by omega))) | (apply Exists.intro; refine ⟨?_, ?_⟩; ((try simp only); (try simp only [Nat.zero_add]); (try simp only [Nat.mul_one]); (try simp only [Int.toNat_natCast]); exact put_flat (by omega))) | refine ⟨_, cut_all (by omega), ?_⟩ | refine ⟨_, lay_all (by omega) (by omega), ?_⟩ | refine ⟨_, lay_all (by (try simp only); (try simp only [List.length_replicate]); (try simp only [List.length_cons]); (try simp only [List.length_nil]); omega) (by omega), ?_⟩ | refine ⟨by omega, ?_⟩ | refine ⟨len_flat (by omega), ?_⟩ | refine ⟨apart_uv _ _ _, ?_⟩ | refine ⟨_, resSlot_own rfl (by omega) (by first | exact .inl rfl | exact .inr ⟨rfl, rfl⟩), ?_⟩ | refine ⟨(by kernel_rfl : regB _ = true), ?_⟩ | refine ⟨⟨rfl, inI_of (by omega), by decide⟩, ?_⟩ | (apply Exists.intro; refine ⟨?_, ?_⟩; ((try simp only); (try simp only [Nat.zero_add]); (try simp only [Nat.mul_one]); (try simp only [Int.toNat_natCast]); exact at_drop_g (by omega))) | (apply Exists.intro; refine ⟨?_, ?_⟩; ((try simp only); (try simp only [Nat.zero_add]); (try simp only [Nat.mul_one]); (try simp only [Int.toNat_natCast]); exact cut_rest (by omega)))); conv => whnf))
    rfl
  rw [if_neg h0]
  have h0 : okP K N tag = true := by simpa using h0
  have q0 : (!okP K N tag) = false := by rw [h0]; rfl
  obtain ⟨hK16, h7, ht, _⟩ := okP_true h0
  subst hK16
  by_cases h1 : 4096 < A
  · rw [if_pos (.inl h1)]
    have q1 : decide ((A : Int) > 4096) = true := by simp; omega
    ((conv => whnf); repeat ((first | refine ⟨fun _ => ?_, fun h => absurd ((q0).symm.trans h) (by decide)⟩ | refine ⟨fun h => absurd ((q0).symm.trans h) (by decide), fun _ => ?_⟩ | refine ⟨fun _ => ?_, fun h => absurd ((q1).symm.trans h) (by decide)⟩ | refine ⟨fun h => absurd ((q1).symm.trans h) (by decide), fun _ => ?_⟩ | refine ⟨_, oV _ _ _ _, ?_⟩ | refine ⟨_, rfl, ?_⟩ | refine ⟨by decide, ?_⟩ | refine ⟨rfl, ?_⟩ | refine ⟨fun _ => ?_, fun h => absurd h (by decide)⟩ | refine ⟨fun h => absurd h (by decide), fun _ => ?_⟩ | refine ⟨inI_of (by omega), ?_⟩ | refine ⟨⟨rfl, inI_of (by omega)⟩, ?_⟩ | refine ⟨⟨rfl, by decide⟩, ?_⟩ | (apply Exists.intro; refine ⟨?_, ?_⟩; ((try simp only); (try simp only [Nat.zero_add]); (try simp only [Nat.mul_one]); (try simp only [Int.toNat_natCast]); exact at_g (by omega))) | (apply Exists.intro; refine ⟨?_, ?_⟩; ((try simp only); (try simp only [Nat.zero_add]); (try simp only [Nat.mul_one]); (try simp only [Int.toNat_natCast]); exact put_flat (by omega))) | refine ⟨_, cut_all (by omega), ?_⟩ | refine ⟨_, lay_all (by omega) (by omega), ?_⟩ | refine ⟨_, lay_all (by (try simp only); (try simp only [List.length_replicate]); (try simp only [List.length_cons]); (try simp only [List.length_nil]); omega) (by omega), ?_⟩ | refine ⟨by omega, ?_⟩ | refine ⟨len_flat (by omega), ?_⟩ | refine ⟨apart_uv _ _ _, ?_⟩ | refine ⟨_, resSlot_own rfl (by omega) (by first | exact .inl rfl | exact .inr ⟨rfl, rfl⟩), ?_⟩ | refine ⟨(by kernel_rfl : regB _ = true), ?_⟩ | refine ⟨⟨rfl, inI_of (by omega), by decide⟩, ?_⟩ | (apply Exists.intro; refine ⟨?_, ?_⟩; ((try simp only); (try simp only [Nat.zero_add]); (try simp only [Nat.mul_one]); (try simp only [Int.toNat_natCast]); exact at_drop_g (by omega))) | (apply Exists.intro; refine ⟨?_, ?_⟩; ((try simp only); (try simp only [Nat.zero_add]); (try simp only [Nat.mul_one]); (try simp only [Int.toNat_natCast]); exact cut_rest (by omega)))); conv => whnf))
    rfl
  have q1 : decide ((A : Int) > 4096) = false := by simp; omega
  by_cases h2 : 4096 < L
  · rw [if_pos (.inr h2)]
    have q2 : decide ((L : Int) > 4096) = true := by simp; omega
    ((conv => whnf); repeat ((first | refine ⟨fun _ => ?_, fun h => absurd ((q0).symm.trans h) (by decide)⟩ | refine ⟨fun h => absurd ((q0).symm.trans h) (by decide), fun _ => ?_⟩ | refine ⟨fun _ => ?_, fun h => absurd ((q1).symm.trans h) (by decide)⟩ | refine ⟨fun h => absurd ((q1).symm.trans h) (by decide), fun _ => ?_⟩ | refine ⟨fun _ => ?_, fun h => absurd ((q2).symm.trans h) (by decide)⟩ | refine ⟨fun h => absurd ((q2).symm.trans h) (by decide), fun _ => ?_⟩ | refine ⟨_, oV _ _ _ _, ?_⟩ | refine ⟨_, rfl, ?_⟩ | refine ⟨by decide, ?_⟩ | refine ⟨rfl, ?_⟩ | refine ⟨fun _ => ?_, fun h => absurd h (by decide)⟩ | refine ⟨fun h => absurd h (by decide), fun _ => ?_⟩ | refine ⟨inI_of (by omega), ?_⟩ | refine ⟨⟨rfl, inI_of (by omega)⟩, ?_⟩ | refine ⟨⟨rfl, by decide⟩, ?_⟩ | (apply Exists.intro; refine ⟨?_, ?_⟩; ((try simp only); (try simp only [Nat.zero_add]); (try simp only [Nat.mul_one]); (try simp only [Int.toNat_natCast]); exact at_g (by omega))) | (apply Exists.intro; refine ⟨?_, ?_⟩; ((try simp only); (try simp only [Nat.zero_add]); (try simp only [Nat.mul_one]); (try simp only [Int.toNat_natCast]); exact put_flat (by omega))) | refine ⟨_, cut_all (by omega), ?_⟩ | refine ⟨_, lay_all (by omega) (by omega), ?_⟩ | refine ⟨_, lay_all (by (try simp only); (try simp only [List.length_replicate]); (try simp only [List.length_cons]); (try simp only [List.length_nil]); omega) (by omega), ?_⟩ | refine ⟨by omega, ?_⟩ | refine ⟨len_flat (by omega), ?_⟩ | refine ⟨apart_uv _ _ _, ?_⟩ | refine ⟨_, resSlot_own rfl (by omega) (by first | exact .inl rfl | exact .inr ⟨rfl, rfl⟩), ?_⟩ | refine ⟨(by kernel_rfl : regB _ = true), ?_⟩ | refine ⟨⟨rfl, inI_of (by omega), by decide⟩, ?_⟩ | (apply Exists.intro; refine ⟨?_, ?_⟩; ((try simp only); (try simp only [Nat.zero_add]); (try simp only [Nat.mul_one]); (try simp only [Int.toNat_natCast]); exact at_drop_g (by omega))) | (apply Exists.intro; refine ⟨?_, ?_⟩; ((try simp only); (try simp only [Nat.zero_add]); (try simp only [Nat.mul_one]); (try simp only [Int.toNat_natCast]); exact cut_rest (by omega)))); conv => whnf))
    rfl
  have q2 : decide ((L : Int) > 4096) = false := by simp; omega
  rw [if_neg (by omega)]
  obtain ⟨T, hT⟩ : ∃ T : Nat, tag = (T : Int) := ⟨tag.toNat, by omega⟩
  have hn15 : nonce.length ≤ 15 := by omega
  have oC := fun c c2 => sCrypt N L c c2 c4 key nonce plain hk hkb hN h7 hnb hL (by omega) hpb hc4
  have oM := fun c c2 c3 c4 => sMark N A L T c c2 c3 c4 key nonce aad plain tag hT hk hkb hN h7 hnb hA (by omega) hab hL (by omega) hpb (by omega)
  have hGl := tagP_len (aad := aad) (plain := plain) hT (by omega) hkb hn15 hnb hab hpb
  have hSl := strF_len key nonce plain 1
  rw [hL] at hSl
  have hse := sealP_tag hkb hn15 hnb hab hpb tag
  rw [hse, hT, Int.toNat_natCast, ← hT]
  obtain ⟨S, hS⟩ : ∃ S, S = strF key nonce plain 1 := ⟨_, rfl⟩
  obtain ⟨G, hG⟩ : ∃ G, G = tagP key nonce aad plain tag := ⟨_, rfl⟩
  rw [← hS] at oC hSl ⊢
  rw [← hG] at oM hGl ⊢
  have oX := fun c c1 c2 => sCat2 L T c c1 c2 S G hSl hGl (by omega) (by omega)
  have hcS : (Cont.flat .u8 S).cut 0 (L * 1) = some (.flat .u8 S) := cut_all (by omega)
  have hcG : (Cont.flat .u8 G).cut 0 (T * 1) = some (.flat .u8 G) := cut_all (by omega)
  have htk : (S ++ G).take ((L + T) * 1) = S ++ G := List.take_of_length_le (by simp; omega)
  have hSG : (S ++ G).length = L + T := by simp; omega
  clear hse hS hG
  ((conv => whnf); repeat ((first | refine ⟨fun _ => ?_, fun h => absurd ((q0).symm.trans h) (by decide)⟩ | refine ⟨fun h => absurd ((q0).symm.trans h) (by decide), fun _ => ?_⟩ | refine ⟨fun _ => ?_, fun h => absurd ((q1).symm.trans h) (by decide)⟩ | refine ⟨fun h => absurd ((q1).symm.trans h) (by decide), fun _ => ?_⟩ | refine ⟨fun _ => ?_, fun h => absurd ((q2).symm.trans h) (by decide)⟩ | refine ⟨fun h => absurd ((q2).symm.trans h) (by decide), fun _ => ?_⟩ | refine ⟨_, oV _ _ _ _, ?_⟩ | refine ⟨_, oC _ _, ?_⟩ | refine ⟨_, oM _ _ _ _, ?_⟩ | refine ⟨_, oX _ _ _, ?_⟩ | refine ⟨_, expo_l2 rfl rfl (expo_sl5 rfl hcS) (expo_sl5 rfl hcG), ?_⟩ | refine ⟨_, rfl, ?_⟩ | refine ⟨by decide, ?_⟩ | refine ⟨rfl, ?_⟩ | refine ⟨fun _ => ?_, fun h => absurd h (by decide)⟩ | refine ⟨fun h => absurd h (by decide), fun _ => ?_⟩ | refine ⟨inI_of (by omega), ?_⟩ | refine ⟨⟨rfl, inI_of (by omega)⟩, ?_⟩ | refine ⟨⟨rfl, by decide⟩, ?_⟩ | (apply Exists.intro; refine ⟨?_, ?_⟩; ((try simp only); (try simp only [Nat.zero_add]); (try simp only [Nat.mul_one]); (try simp only [Int.toNat_natCast]); exact at_g (by omega))) | (apply Exists.intro; refine ⟨?_, ?_⟩; ((try simp only); (try simp only [Nat.zero_add]); (try simp only [Nat.mul_one]); (try simp only [Int.toNat_natCast]); exact put_flat (by omega))) | refine ⟨_, cut_all (by omega), ?_⟩ | refine ⟨_, lay_all (by omega) (by omega), ?_⟩ | refine ⟨_, lay_all (by (try simp only); (try simp only [List.length_replicate]); (try simp only [List.length_cons]); (try simp only [List.length_nil]); omega) (by omega), ?_⟩ | refine ⟨by omega, ?_⟩ | refine ⟨len_flat (by omega), ?_⟩ | refine ⟨apart_uv _ _ _, ?_⟩ | refine ⟨_, resSlot_own rfl (by omega) (by first | exact .inl rfl | exact .inr ⟨rfl, rfl⟩), ?_⟩ | refine ⟨(by kernel_rfl : regB _ = true), ?_⟩ | refine ⟨⟨rfl, inI_of (by omega), by decide⟩, ?_⟩ | (apply Exists.intro; refine ⟨?_, ?_⟩; ((try simp only); (try simp only [Nat.zero_add]); (try simp only [Nat.mul_one]); (try simp only [Int.toNat_natCast]); exact at_drop_g (by omega))) | (apply Exists.intro; refine ⟨?_, ?_⟩; ((try simp only); (try simp only [Nat.zero_add]); (try simp only [Nat.mul_one]); (try simp only [Int.toNat_natCast]); exact cut_rest (by omega)))); conv => whnf))
  rw [htk]
  rfl
set_option maxRecDepth 100000 in
set_option maxHeartbeats 4000000 in
theorem popen_exec (key nonce aad cipher : List Int) (K N A L : Nat) (c c2 c3 c4 : Option Nat) (tag : Int) (hk : key.length = K) (hkb : By key) (hN : nonce.length = N) (hnb : By nonce) (hA : aad.length = A) (hab : By aad) (hL : cipher.length = L) (hcb : By cipher) (hc4 : L ≤ c4.getD L) :
    execF ES7 Try.f22 [.im 1 K c (.flat .u8 key), .im 1 N c2 (.flat .u8 nonce), .im 1 A c3 (.flat .u8 aad), .im 1 L c4 (.flat .u8 cipher), iv .i64 tag] (openR key nonce aad cipher tag) := by
  have oV := fun c c2 x y => sValid K N c c2 x y tag
  unfold openR
  rw [hk, hN, hA, hL]
  by_cases h0 : okP K N tag = false
  · rw [if_pos h0]
    have q0 : (!okP K N tag) = true := by rw [h0]; rfl
    ((conv => whnf); repeat ((first | refine ⟨fun _ => ?_, fun h => absurd ((q0).symm.trans h) (by decide)⟩ | refine ⟨fun h => absurd ((q0).symm.trans h) (by decide), fun _ => ?_⟩ | refine ⟨_, oV _ _ _ _, ?_⟩ | refine ⟨_, rfl, ?_⟩ | refine ⟨by decide, ?_⟩ | refine ⟨rfl, ?_⟩ | refine ⟨fun _ => ?_, fun h => absurd h (by decide)⟩ | refine ⟨fun h => absurd h (by decide), fun _ => ?_⟩ | refine ⟨inI_of (by omega), ?_⟩ | refine ⟨⟨rfl, inI_of (by omega)⟩, ?_⟩ | refine ⟨⟨rfl, by decide⟩, ?_⟩ | (apply Exists.intro; refine ⟨?_, ?_⟩; ((try simp only); (try simp only [Nat.zero_add]); (try simp only [Nat.mul_one]); (try simp only [Int.toNat_natCast]); exact at_g (by omega))) | (apply Exists.intro; refine ⟨?_, ?_⟩; ((try simp only); (try simp only [Nat.zero_add]); (try simp only [Nat.mul_one]); (try simp only [Int.toNat_natCast]); exact put_flat (by omega))) | refine ⟨_, cut_all (by omega), ?_⟩ | refine ⟨_, lay_all (by omega) (by omega), ?_⟩ | refine ⟨_, lay_all (by (try simp only); (try simp only [List.length_replicate]); (try simp only [List.length_cons]); (try simp only [List.length_nil]); omega) (by omega), ?_⟩ | refine ⟨by omega, ?_⟩ | refine ⟨len_flat (by omega), ?_⟩ | refine ⟨apart_uv _ _ _, ?_⟩ | refine ⟨_, resSlot_own rfl (by omega) (by first | exact .inl rfl | exact .inr ⟨rfl, rfl⟩), ?_⟩ | refine ⟨(by kernel_rfl : regB _ = true), ?_⟩ | refine ⟨⟨rfl, inI_of (by omega), by decide⟩, ?_⟩ | (apply Exists.intro; refine ⟨?_, ?_⟩; ((try simp only); (try simp only [Nat.zero_add]); (try simp only [Nat.mul_one]); (try simp only [Int.toNat_natCast]); exact at_drop_g (by omega))) | (apply Exists.intro; refine ⟨?_, ?_⟩; ((try simp only); (try simp only [Nat.zero_add]); (try simp only [Nat.mul_one]); (try simp only [Int.toNat_natCast]); exact cut_rest (by omega)))); conv => whnf))
    rfl
  rw [if_neg h0]
  have h0 : okP K N tag = true := by simpa using h0
  have q0 : (!okP K N tag) = false := by rw [h0]; rfl
  obtain ⟨hK16, h7, ht, _⟩ := okP_true h0
  subst hK16
  obtain ⟨T, hT⟩ : ∃ T : Nat, tag = (T : Int) := ⟨tag.toNat, by omega⟩
  have hTn : tag.toNat = T := by omega
  rw [hTn]
  by_cases h1 : 4096 < A
  · rw [if_pos (.inl h1)]
    have q1 : decide ((A : Int) > 4096) = true := by simp; omega
    ((conv => whnf); repeat ((first | refine ⟨fun _ => ?_, fun h => absurd ((q0).symm.trans h) (by decide)⟩ | refine ⟨fun h => absurd ((q0).symm.trans h) (by decide), fun _ => ?_⟩ | refine ⟨fun _ => ?_, fun h => absurd ((q1).symm.trans h) (by decide)⟩ | refine ⟨fun h => absurd ((q1).symm.trans h) (by decide), fun _ => ?_⟩ | refine ⟨_, oV _ _ _ _, ?_⟩ | refine ⟨_, rfl, ?_⟩ | refine ⟨by decide, ?_⟩ | refine ⟨rfl, ?_⟩ | refine ⟨fun _ => ?_, fun h => absurd h (by decide)⟩ | refine ⟨fun h => absurd h (by decide), fun _ => ?_⟩ | refine ⟨inI_of (by omega), ?_⟩ | refine ⟨⟨rfl, inI_of (by omega)⟩, ?_⟩ | refine ⟨⟨rfl, by decide⟩, ?_⟩ | (apply Exists.intro; refine ⟨?_, ?_⟩; ((try simp only); (try simp only [Nat.zero_add]); (try simp only [Nat.mul_one]); (try simp only [Int.toNat_natCast]); exact at_g (by omega))) | (apply Exists.intro; refine ⟨?_, ?_⟩; ((try simp only); (try simp only [Nat.zero_add]); (try simp only [Nat.mul_one]); (try simp only [Int.toNat_natCast]); exact put_flat (by omega))) | refine ⟨_, cut_all (by omega), ?_⟩ | refine ⟨_, lay_all (by omega) (by omega), ?_⟩ | refine ⟨_, lay_all (by (try simp only); (try simp only [List.length_replicate]); (try simp only [List.length_cons]); (try simp only [List.length_nil]); omega) (by omega), ?_⟩ | refine ⟨by omega, ?_⟩ | refine ⟨len_flat (by omega), ?_⟩ | refine ⟨apart_uv _ _ _, ?_⟩ | refine ⟨_, resSlot_own rfl (by omega) (by first | exact .inl rfl | exact .inr ⟨rfl, rfl⟩), ?_⟩ | refine ⟨(by kernel_rfl : regB _ = true), ?_⟩ | refine ⟨⟨rfl, inI_of (by omega), by decide⟩, ?_⟩ | (apply Exists.intro; refine ⟨?_, ?_⟩; ((try simp only); (try simp only [Nat.zero_add]); (try simp only [Nat.mul_one]); (try simp only [Int.toNat_natCast]); exact at_drop_g (by omega))) | (apply Exists.intro; refine ⟨?_, ?_⟩; ((try simp only); (try simp only [Nat.zero_add]); (try simp only [Nat.mul_one]); (try simp only [Int.toNat_natCast]); exact cut_rest (by omega)))); conv => whnf))
    rfl
  have q1 : decide ((A : Int) > 4096) = false := by simp; omega
  have ew : IntKind.i64.wrap (4096 + tag) = 4096 + tag := wrap64 (by omega)
  by_cases h2 : 4096 + T < L
  · rw [if_pos (.inr h2)]
    have q2 : decide ((L : Int) > IntKind.i64.wrap (4096 + tag)) = true := by rw [ew]; simp; omega
    ((conv => whnf); repeat ((first | refine ⟨fun _ => ?_, fun h => absurd ((q0).symm.trans h) (by decide)⟩ | refine ⟨fun h => absurd ((q0).symm.trans h) (by decide), fun _ => ?_⟩ | refine ⟨fun _ => ?_, fun h => absurd ((q1).symm.trans h) (by decide)⟩ | refine ⟨fun h => absurd ((q1).symm.trans h) (by decide), fun _ => ?_⟩ | refine ⟨fun _ => ?_, fun h => absurd ((q2).symm.trans h) (by decide)⟩ | refine ⟨fun h => absurd ((q2).symm.trans h) (by decide), fun _ => ?_⟩ | refine ⟨_, oV _ _ _ _, ?_⟩ | refine ⟨_, rfl, ?_⟩ | refine ⟨by decide, ?_⟩ | refine ⟨rfl, ?_⟩ | refine ⟨fun _ => ?_, fun h => absurd h (by decide)⟩ | refine ⟨fun h => absurd h (by decide), fun _ => ?_⟩ | refine ⟨inI_of (by omega), ?_⟩ | refine ⟨⟨rfl, inI_of (by omega)⟩, ?_⟩ | refine ⟨⟨rfl, by decide⟩, ?_⟩ | (apply Exists.intro; refine ⟨?_, ?_⟩; ((try simp only); (try simp only [Nat.zero_add]); (try simp only [Nat.mul_one]); (try simp only [Int.toNat_natCast]); exact at_g (by omega))) | (apply Exists.intro; refine ⟨?_, ?_⟩; ((try simp only); (try simp only [Nat.zero_add]); (try simp only [Nat.mul_one]); (try simp only [Int.toNat_natCast]); exact put_flat (by omega))) | refine ⟨_, cut_all (by omega), ?_⟩ | refine ⟨_, lay_all (by omega) (by omega), ?_⟩ | refine ⟨_, lay_all (by (try simp only); (try simp only [List.length_replicate]); (try simp only [List.length_cons]); (try simp only [List.length_nil]); omega) (by omega), ?_⟩ | refine ⟨by omega, ?_⟩ | refine ⟨len_flat (by omega), ?_⟩ | refine ⟨apart_uv _ _ _, ?_⟩ | refine ⟨_, resSlot_own rfl (by omega) (by first | exact .inl rfl | exact .inr ⟨rfl, rfl⟩), ?_⟩ | refine ⟨(by kernel_rfl : regB _ = true), ?_⟩ | refine ⟨⟨rfl, inI_of (by omega), by decide⟩, ?_⟩ | (apply Exists.intro; refine ⟨?_, ?_⟩; ((try simp only); (try simp only [Nat.zero_add]); (try simp only [Nat.mul_one]); (try simp only [Int.toNat_natCast]); exact at_drop_g (by omega))) | (apply Exists.intro; refine ⟨?_, ?_⟩; ((try simp only); (try simp only [Nat.zero_add]); (try simp only [Nat.mul_one]); (try simp only [Int.toNat_natCast]); exact cut_rest (by omega)))); conv => whnf))
    rfl
  have q2 : decide ((L : Int) > IntKind.i64.wrap (4096 + tag)) = false := by rw [ew]; simp; omega
  rw [if_neg (by omega)]
  by_cases h3 : L < T
  · rw [if_pos h3]
    have q3 : decide ((L : Int) < tag) = true := by simp; omega
    ((conv => whnf); repeat ((first | refine ⟨fun _ => ?_, fun h => absurd ((q0).symm.trans h) (by decide)⟩ | refine ⟨fun h => absurd ((q0).symm.trans h) (by decide), fun _ => ?_⟩ | refine ⟨fun _ => ?_, fun h => absurd ((q1).symm.trans h) (by decide)⟩ | refine ⟨fun h => absurd ((q1).symm.trans h) (by decide), fun _ => ?_⟩ | refine ⟨fun _ => ?_, fun h => absurd ((q2).symm.trans h) (by decide)⟩ | refine ⟨fun h => absurd ((q2).symm.trans h) (by decide), fun _ => ?_⟩ | refine ⟨fun _ => ?_, fun h => absurd ((q3).symm.trans h) (by decide)⟩ | refine ⟨fun h => absurd ((q3).symm.trans h) (by decide), fun _ => ?_⟩ | refine ⟨_, oV _ _ _ _, ?_⟩ | refine ⟨_, rfl, ?_⟩ | refine ⟨by decide, ?_⟩ | refine ⟨rfl, ?_⟩ | refine ⟨fun _ => ?_, fun h => absurd h (by decide)⟩ | refine ⟨fun h => absurd h (by decide), fun _ => ?_⟩ | refine ⟨inI_of (by omega), ?_⟩ | refine ⟨⟨rfl, inI_of (by omega)⟩, ?_⟩ | refine ⟨⟨rfl, by decide⟩, ?_⟩ | (apply Exists.intro; refine ⟨?_, ?_⟩; ((try simp only); (try simp only [Nat.zero_add]); (try simp only [Nat.mul_one]); (try simp only [Int.toNat_natCast]); exact at_g (by omega))) | (apply Exists.intro; refine ⟨?_, ?_⟩; ((try simp only); (try simp only [Nat.zero_add]); (try simp only [Nat.mul_one]); (try simp only [Int.toNat_natCast]); exact put_flat (by omega))) | refine ⟨_, cut_all (by omega), ?_⟩ | refine ⟨_, lay_all (by omega) (by omega), ?_⟩ | refine ⟨_, lay_all (by (try simp only); (try simp only [List.length_replicate]); (try simp only [List.length_cons]); (try simp only [List.length_nil]); omega) (by omega), ?_⟩ | refine ⟨by omega, ?_⟩ | refine ⟨len_flat (by omega), ?_⟩ | refine ⟨apart_uv _ _ _, ?_⟩ | refine ⟨_, resSlot_own rfl (by omega) (by first | exact .inl rfl | exact .inr ⟨rfl, rfl⟩), ?_⟩ | refine ⟨(by kernel_rfl : regB _ = true), ?_⟩ | refine ⟨⟨rfl, inI_of (by omega), by decide⟩, ?_⟩ | (apply Exists.intro; refine ⟨?_, ?_⟩; ((try simp only); (try simp only [Nat.zero_add]); (try simp only [Nat.mul_one]); (try simp only [Int.toNat_natCast]); exact at_drop_g (by omega))) | (apply Exists.intro; refine ⟨?_, ?_⟩; ((try simp only); (try simp only [Nat.zero_add]); (try simp only [Nat.mul_one]); (try simp only [Int.toNat_natCast]); exact cut_rest (by omega)))); conv => whnf))
    rfl
  have q3 : decide ((L : Int) < tag) = false := by simp; omega
  rw [if_neg h3]
  have hn15 : nonce.length ≤ 15 := by omega
  have es : IntKind.i64.wrap ((L : Int) - tag) = ((L - T : Nat) : Int) := by rw [wrap64 (by omega)]; omega
  obtain ⟨c5, hsl, hc5⟩ := slice_im_to (E := ES7) (t := 22) (k := .u8) (l := cipher) (c := c4) (h1 := rfl) es (show L - T ≤ L by omega) hL hc4
  obtain ⟨c6, hsf⟩ := slice_im_from (E := ES7) (t := 22) (k := .u8) (x := cipher) (c := c4) rfl es (show L - T ≤ L by omega) hL hc4
  rw [show L - (L - T) = T by omega] at hsf
  have hxl : (cipher.take (L - T)).length = L - T := by simp; omega
  have hpd : plainP key nonce cipher tag = strF key nonce (cipher.take (L - T)) 1 := by rw [plainP, hL, hTn]
  have hback : strF key nonce (plainP key nonce cipher tag) 1 = cipher.take (L - T) := by rw [hpd, strF_strF hkb hnb (hcb.take _)]
  have oC := fun c c2 => sCrypt N (L - T) c c2 c5 key nonce (cipher.take (L - T)) hk hkb hN h7 hnb hxl (by omega) (hcb.take _) hc5
  rw [← hpd] at oC
  have hpl : (plainP key nonce cipher tag).length = L - T := by rw [hpd, strF_len, hxl]
  have hpb : By (plainP key nonce cipher tag) := by rw [hpd]; exact strF_by hkb hnb (hcb.take _) _
  have hse := sealP_tag hkb hn15 hnb hab hpb tag
  rw [hback] at hse
  have hGl := tagP_len (aad := aad) hT (by omega) hkb hn15 hnb hab hpb
  have hGb := tagP_by (tag := tag) hkb hn15 hnb hab hpb
  clear hpd hback
  obtain ⟨p, hp⟩ : ∃ p, p = plainP key nonce cipher tag := ⟨_, rfl⟩
  rw [← hp] at oC hpl hpb hse hGl hGb ⊢
  clear hp
  have oM := fun c c2 c3 c4 => sMark N A (L - T) T c c2 c3 c4 key nonce aad p tag hT hk hkb hN h7 hnb hA (by omega) hab hpl (by omega) hpb (by omega)
  obtain ⟨G, hG⟩ : ∃ G, G = tagP key nonce aad p tag := ⟨_, rfl⟩
  rw [← hG] at hse hGl hGb oM
  have hdl : (cipher.drop (L - T)).length = T := by simp; omega
  have oQ := fun c c2 => sEqual T T c c2 G (cipher.drop (L - T)) hGl hdl hGb (hcb.drop _)
  have hcp : (Cont.flat .u8 p).cut 0 ((L - T) * 1) = some (.flat .u8 p) := cut_all (by omega)
  have hcG : (Cont.flat .u8 G).cut 0 (T * 1) = some (.flat .u8 G) := cut_all (by omega)
  have htk : p.take ((L - T) * 1) = p := List.take_of_length_le (by omega)
  have hiff : sealP key nonce aad p tag = cipher ↔ G = cipher.drop (L - T) := by
    rw [hse]
    constructor
    · intro h
      exact List.append_cancel_left (h.trans (List.take_append_drop (L - T) cipher).symm)
    · intro h
      rw [h, List.take_append_drop]
  clear hG hse
  by_cases he : G = cipher.drop (L - T)
  · rw [if_pos (hiff.2 he)]
    have q4 : (!(G == cipher.drop (L - T))) = false := by simp [he]
    ((conv => whnf); repeat ((first | refine ⟨fun _ => ?_, fun h => absurd ((q0).symm.trans h) (by decide)⟩ | refine ⟨fun h => absurd ((q0).symm.trans h) (by decide), fun _ => ?_⟩ | refine ⟨fun _ => ?_, fun h => absurd ((q1).symm.trans h) (by decide)⟩ | refine ⟨fun h => absurd ((q1).symm.trans h) (by decide), fun _ => ?_⟩ | refine ⟨fun _ => ?_, fun h => absurd ((q2).symm.trans h) (by decide)⟩ | refine ⟨fun h => absurd ((q2).symm.trans h) (by decide), fun _ => ?_⟩ | refine ⟨fun _ => ?_, fun h => absurd ((q3).symm.trans h) (by decide)⟩ | refine ⟨fun h => absurd ((q3).symm.trans h) (by decide), fun _ => ?_⟩ | refine ⟨fun _ => ?_, fun h => absurd ((q4).symm.trans h) (by decide)⟩ | refine ⟨fun h => absurd ((q4).symm.trans h) (by decide), fun _ => ?_⟩ | refine ⟨_, oV _ _ _ _, ?_⟩ | refine ⟨_, hsl, ?_⟩ | refine ⟨_, hsf, ?_⟩ | refine ⟨_, oC _ _, ?_⟩ | refine ⟨_, oM _ _ _ _, ?_⟩ | refine ⟨_, oQ _ _, ?_⟩ | refine ⟨_, expo_sl rfl hcp, ?_⟩ | refine ⟨_, expo_sl rfl hcG, ?_⟩ | refine ⟨_, rfl, ?_⟩ | refine ⟨by decide, ?_⟩ | refine ⟨rfl, ?_⟩ | refine ⟨fun _ => ?_, fun h => absurd h (by decide)⟩ | refine ⟨fun h => absurd h (by decide), fun _ => ?_⟩ | refine ⟨inI_of (by omega), ?_⟩ | refine ⟨⟨rfl, inI_of (by omega)⟩, ?_⟩ | refine ⟨⟨rfl, by decide⟩, ?_⟩ | (apply Exists.intro; refine ⟨?_, ?_⟩; ((try simp only); (try simp only [Nat.zero_add]); (try simp only [Nat.mul_one]); (try simp only [Int.toNat_natCast]); exact at_g (by omega))) | (apply Exists.intro; refine ⟨?_, ?_⟩; ((try simp only); (try simp only [Nat.zero_add]); (try simp only [Nat.mul_one]); (try simp only [Int.toNat_natCast]); exact put_flat (by omega))) | refine ⟨_, cut_all (by omega), ?_⟩ | refine ⟨_, lay_all (by omega) (by omega), ?_⟩ | refine ⟨_, lay_all (by (try simp only); (try simp only [List.length_replicate]); (try simp only [List.length_cons]); (try simp only [List.length_nil]); omega) (by omega), ?_⟩ | refine ⟨by omega, ?_⟩ | refine ⟨len_flat (by omega), ?_⟩ | refine ⟨apart_uv _ _ _, ?_⟩ | refine ⟨_, resSlot_own rfl (by omega) (by first | exact .inl rfl | exact .inr ⟨rfl, rfl⟩), ?_⟩ | refine ⟨(by kernel_rfl : regB _ = true), ?_⟩ | refine ⟨⟨rfl, inI_of (by omega), by decide⟩, ?_⟩ | (apply Exists.intro; refine ⟨?_, ?_⟩; ((try simp only); (try simp only [Nat.zero_add]); (try simp only [Nat.mul_one]); (try simp only [Int.toNat_natCast]); exact at_drop_g (by omega))) | (apply Exists.intro; refine ⟨?_, ?_⟩; ((try simp only); (try simp only [Nat.zero_add]); (try simp only [Nat.mul_one]); (try simp only [Int.toNat_natCast]); exact cut_rest (by omega)))); conv => whnf))
    rw [htk]
    rfl
  · rw [if_neg (fun h => he (hiff.1 h))]
    have q4 : (!(G == cipher.drop (L - T))) = true := by simp [he]
    ((conv => whnf); repeat ((first | refine ⟨fun _ => ?_, fun h => absurd ((q0).symm.trans h) (by decide)⟩ | refine ⟨fun h => absurd ((q0).symm.trans h) (by decide), fun _ => ?_⟩ | refine ⟨fun _ => ?_, fun h => absurd ((q1).symm.trans h) (by decide)⟩ | refine ⟨fun h => absurd ((q1).symm.trans h) (by decide), fun _ => ?_⟩ | refine ⟨fun _ => ?_, fun h => absurd ((q2).symm.trans h) (by decide)⟩ | refine ⟨fun h => absurd ((q2).symm.trans h) (by decide), fun _ => ?_⟩ | refine ⟨fun _ => ?_, fun h => absurd ((q3).symm.trans h) (by decide)⟩ | refine ⟨fun h => absurd ((q3).symm.trans h) (by decide), fun _ => ?_⟩ | refine ⟨fun _ => ?_, fun h => absurd ((q4).symm.trans h) (by decide)⟩ | refine ⟨fun h => absurd ((q4).symm.trans h) (by decide), fun _ => ?_⟩ | refine ⟨_, oV _ _ _ _, ?_⟩ | refine ⟨_, hsl, ?_⟩ | refine ⟨_, hsf, ?_⟩ | refine ⟨_, oC _ _, ?_⟩ | refine ⟨_, oM _ _ _ _, ?_⟩ | refine ⟨_, oQ _ _, ?_⟩ | refine ⟨_, expo_sl rfl hcp, ?_⟩ | refine ⟨_, expo_sl rfl hcG, ?_⟩ | refine ⟨_, rfl, ?_⟩ | refine ⟨by decide, ?_⟩ | refine ⟨rfl, ?_⟩ | refine ⟨fun _ => ?_, fun h => absurd h (by decide)⟩ | refine ⟨fun h => absurd h (by decide), fun _ => ?_⟩ | refine ⟨inI_of (by omega), ?_⟩ | refine ⟨⟨rfl, inI_of (by omega)⟩, ?_⟩ | refine ⟨⟨rfl, by decide⟩, ?_⟩ | (apply Exists.intro; refine ⟨?_, ?_⟩; ((try simp only); (try simp only [Nat.zero_add]); (try simp only [Nat.mul_one]); (try simp only [Int.toNat_natCast]); exact at_g (by omega))) | (apply Exists.intro; refine ⟨?_, ?_⟩; ((try simp only); (try simp only [Nat.zero_add]); (try simp only [Nat.mul_one]); (try simp only [Int.toNat_natCast]); exact put_flat (by omega))) | refine ⟨_, cut_all (by omega), ?_⟩ | refine ⟨_, lay_all (by omega) (by omega), ?_⟩ | refine ⟨_, lay_all (by (try simp only); (try simp only [List.length_replicate]); (try simp only [List.length_cons]); (try simp only [List.length_nil]); omega) (by omega), ?_⟩ | refine ⟨by omega, ?_⟩ | refine ⟨len_flat (by omega), ?_⟩ | refine ⟨apart_uv _ _ _, ?_⟩ | refine ⟨_, resSlot_own rfl (by omega) (by first | exact .inl rfl | exact .inr ⟨rfl, rfl⟩), ?_⟩ | refine ⟨(by kernel_rfl : regB _ = true), ?_⟩ | refine ⟨⟨rfl, inI_of (by omega), by decide⟩, ?_⟩ | (apply Exists.intro; refine ⟨?_, ?_⟩; ((try simp only); (try simp only [Nat.zero_add]); (try simp only [Nat.mul_one]); (try simp only [Int.toNat_natCast]); exact at_drop_g (by omega))) | (apply Exists.intro; refine ⟨?_, ?_⟩; ((try simp only); (try simp only [Nat.zero_add]); (try simp only [Nat.mul_one]); (try simp only [Int.toNat_natCast]); exact cut_rest (by omega)))); conv => whnf))
    rfl
end Go.Proofs.Ytgkccfjjjamhoaa

/-
  Layer 7: what the statements take of the program.
-/
namespace Go.Proofs.Ytgkccfjjjamhoaa
open Go.RowKit

theorem CallOk.nilArg {P : Program} {f : Nat} {ds : List LV} {r : LRes} {k : IntKind} (i : Nat) (h : CallOk P f ds r) (hi : ds[i]? = some (.im 1 0 none (.flat k []))) : CallOk P f (ds.set i nilV) r := by
  intro w A args hsz hA hrep
  refine h w A args (by rw [hsz, List.length_set]) hA fun j u hu => ?_
  by_cases e : j = i
  · subst e
    rw [hi] at hu
    cases hu
    have hlt : j < ds.length := lt_of_get hi
    have := hrep j nilV (by simp [hlt])
    generalize args.getD j undef = v at this ⊢
    cases this
    exact .im _ _ _ _ _ _ _ (fun _ => undef) (by simp [Cont.vals]) (Nat.le_refl _) (fun k hk => by cases hk) (fun _ => ⟨rfl, rfl⟩) (.inl rfl) (fun i u hu => by simp [Cont.vals] at hu)
  · exact hrep j u (by rw [List.getElem?_set_ne (fun h => e h.symm)]; exact hu)
theorem prgValid_call (n m : Nat) (c c2 : Option Nat) (x y : Cont) (t : Int) : CallOk Try.prog 11 [.im 1 n c x, .im 1 m c2 y, .v (.int .i64 t)] (ret1 (.v (.bool (okP n m t)))) := execF_ok follows_ok EM_ok Try.func11 (pvalid_exec _ _ _ _ _ _ _)
theorem prgCalls_call (a p : Int) : CallOk Try.prog 15 [.v (.int .i64 a), .v (.int .i64 p)] (ret1 (iv .i64 (callsP a p))) := execF_ok follows_ok EP7_ok Try.func15 (pcalls_exec _ _)
theorem prgSeal_call (key nonce aad plain : List Int) (K N A L : Nat) (c c2 c3 c4 : Option Nat) (tag : Int) (hk : key.length = K) (hkb : By key) (hN : nonce.length = N) (hnb : By nonce) (hA : aad.length = A) (hab : By aad) (hL : plain.length = L) (hpb : By plain) :
    CallOk Try.prog 19 [.im 1 K c (.flat .u8 key), .im 1 N c2 (.flat .u8 nonce), .im 1 A c3 (.flat .u8 aad), .im 1 L c4 (.flat .u8 plain), iv .i64 tag] (sealR key nonce aad plain tag) :=
  CallOk.cap 3 rfl fun h => execF_ok follows_ok ES7_ok Try.func19 (pseal_exec key nonce aad plain K N A L c c2 c3 c4 tag hk hkb hN hnb hA hab hL hpb h)
theorem prgOpen_call (key nonce aad cipher : List Int) (K N A L : Nat) (c c2 c3 c4 : Option Nat) (tag : Int) (hk : key.length = K) (hkb : By key) (hN : nonce.length = N) (hnb : By nonce) (hA : aad.length = A) (hab : By aad) (hL : cipher.length = L) (hcb : By cipher) (hc4 : L ≤ c4.getD L) :
    CallOk Try.prog 22 [.im 1 K c (.flat .u8 key), .im 1 N c2 (.flat .u8 nonce), .im 1 A c3 (.flat .u8 aad), .im 1 L c4 (.flat .u8 cipher), iv .i64 tag] (openR key nonce aad cipher tag) :=
  execF_ok follows_ok ES7_ok Try.func22 (popen_exec key nonce aad cipher K N A L c c2 c3 c4 tag hk hkb hN hnb hA hab hL hcb hc4)
end Go.Proofs.Ytgkccfjjjamhoaa
