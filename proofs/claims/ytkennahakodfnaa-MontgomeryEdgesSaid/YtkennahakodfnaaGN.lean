/-
  Layer 9: the ladder.
-/
import Derived.Test.YtkennahakodfnaaGM
namespace Go.Proofs.Ytkennahakodfnaa
open Go.RowKit

@[ext] structure Lad where
  x : Nat
  z : Nat
  v : Nat
  w : Nat
/-- A step of the ladder: x : z is doubled, v : w becomes the sum. -/
def stp (u : Nat) (s : Lad) : Lad where
  x := nM (nM (nA s.x s.z) (nA s.x s.z)) (nM (nS s.x s.z) (nS s.x s.z))
  z := nM (nS (nM (nA s.x s.z) (nA s.x s.z)) (nM (nS s.x s.z) (nS s.x s.z))) (nA (nM (nA s.x s.z) (nA s.x s.z)) (nM 121665 (nS (nM (nA s.x s.z) (nA s.x s.z)) (nM (nS s.x s.z) (nS s.x s.z)))))
  v := nM (nA (nM (nS s.v s.w) (nA s.x s.z)) (nM (nA s.v s.w) (nS s.x s.z))) (nA (nM (nS s.v s.w) (nA s.x s.z)) (nM (nA s.v s.w) (nS s.x s.z)))
  w := nM u (nM (nS (nM (nS s.v s.w) (nA s.x s.z)) (nM (nA s.v s.w) (nS s.x s.z))) (nS (nM (nS s.v s.w) (nA s.x s.z)) (nM (nA s.v s.w) (nS s.x s.z))))
def swp (s : Lad) : Lad := ⟨s.v, s.w, s.x, s.z⟩
/-- The ladder's state after k bits of n, from bit 255 on. -/
def lad (u n : Nat) : Nat → Lad
  | 0 => ⟨1, 0, u, 1⟩
  | k + 1 => if n.testBit (255 - k) then swp (stp u (swp (lad u n k))) else stp u (lad u n k)
def mlt (u n : Nat) : Nat := nM (lad u n 256).x (pw (lad u n 256).z e3P)
def Lad.lt (s : Lad) : Prop := s.x < pP ∧ s.z < pP ∧ s.v < pP ∧ s.w < pP
theorem stp_lt (u : Nat) (s : Lad) : (stp u s).lt := ⟨nM_lp _ _, nM_lp _ _, nM_lp _ _, nM_lp _ _⟩
theorem swp_lt {s : Lad} (h : s.lt) : (swp s).lt := ⟨h.2.2.1, h.2.2.2, h.1, h.2.1⟩
theorem lad_lt {u : Nat} (n : Nat) (hu : u < pP) : ∀ k, (lad u n k).lt
  | 0 => ⟨by show 1 < pP; decide, by show 0 < pP; decide, hu, by show 1 < pP; decide⟩
  | k + 1 => by
    rw [lad]
    split
    · exact swp_lt (stp_lt _ _)
    · exact stp_lt _ _
theorem lt256 {a : Nat} (h : a < pP) : a < 2 ^ 256 := Nat.lt_trans h pP_lt
/-- Two numbers, side by side. -/
def b2 (x z : Nat) : List Int := by32 x ++ by32 z
theorem b2_len (x z : Nat) : (b2 x z).length = 64 := by rw [b2, List.length_append, byk_len, byk_len]
theorem b2_take (x z : Nat) : (b2 x z).take 32 = by32 x := List.take_left' (byk_len _ _)
theorem b2_drop (x z : Nat) : (b2 x z).drop 32 = by32 z := List.drop_left' (byk_len _ _)
def is2 (l : List Int) : Bool := isF (l.take 32) && isF (l.drop 32)
theorem is2_b2 (x z : Nat) : is2 (b2 x z) = true := by rw [is2, b2_take, b2_drop, isF_by, isF_by]; rfl
theorem is2_eq {l : List Int} (h : is2 l = true) : l = b2 (nb (l.take 32)) (nb (l.drop 32)) := by
  rw [is2, Bool.and_eq_true] at h
  rw [b2, ← isF_eq h.1, ← isF_eq h.2, List.take_append_drop]
theorem is2_lt {l : List Int} (h : is2 l = true) : nb (l.take 32) < 2 ^ 256 ∧ nb (l.drop 32) < 2 ^ 256 := by
  rw [is2, Bool.and_eq_true] at h
  exact ⟨nb32_lt h.1, nb32_lt h.2⟩
theorem stp_call (u x z v w : Nat) (hu : u < 2 ^ 256) (hx : x < 2 ^ 256) (hz : z < 2 ^ 256) (hv : v < 2 ^ 256) (hw : w < 2 ^ 256) : CallOk Try.prog 56 [.agg (.flat .u8 (b2 x z)), .agg (.flat .u8 (b2 v w)), F u] (.many [.val (.agg (.flat .u8 (b2 (stp u ⟨x, z, v, w⟩).x (stp u ⟨x, z, v, w⟩).z))), .val (.agg (.flat .u8 (b2 (stp u ⟨x, z, v, w⟩).v (stp u ⟨x, z, v, w⟩).w)))]) := by
  refine execF_ok follows_ok EG1_ok Try.func56 ?_
  exact step_gen (by32 x) (by32 z) (by32 v) (by32 w) (by32 u) _ _ _ _ _ _ _ _ _ _ _ _ _ _ _ _ _ _ _ (byk_len _ _) (byk_len _ _) (byk_len _ _) (byk_len _ _) (byk_len _ _) (byk_len _ _) (byk_len _ _) (byk_len _ _) (byk_len _ _) (byk_len _ _) (byk_len _ _) (byk_len _ _) (byk_len _ _) (byk_len _ _) (byk_len _ _) (byk_len _ _) (byk_len _ _) (byk_len _ _) (byk_len _ _) (byk_len _ _) (byk_len _ _) (byk_len _ _) (byk_len _ _) (byk_len _ _)
    (q_Add hx hz) (q_Sub hx hz) (q_Sub hv hw) (q_Mul (nS_lt _ _) (nA_lt _ _)) (q_Add hv hw) (q_Mul (nA_lt _ _) (nS_lt _ _)) (o_square (nA_lt _ _)) (o_square (nS_lt _ _)) (q_Sub (nM_lt _ _) (nM_lt _ _)) (q_Add (nM_lt _ _) (nM_lt _ _)) (o_square (nA_lt _ _)) (q_Sub (nM_lt _ _) (nM_lt _ _)) (o_square (nS_lt _ _)) (q_Mul hu (nM_lt _ _)) (q_Mul (nM_lt _ _) (nM_lt _ _)) (o_factor) (q_Mul (by decide) (nS_lt _ _)) (q_Add (nM_lt _ _) (nM_lt _ _)) (q_Mul (nS_lt _ _) (nA_lt _ _))
theorem stp_row {a b c : List Int} (hc : is2 a = true ∧ is2 b = true ∧ isF c = true) : CallOk Try.prog 56 [.agg (.flat .u8 a), .agg (.flat .u8 b), .agg (.flat .u8 c)] (.many [.val (.agg (.flat .u8 (b2 (stp (nb c) ⟨nb (a.take 32), nb (a.drop 32), nb (b.take 32), nb (b.drop 32)⟩).x (stp (nb c) ⟨nb (a.take 32), nb (a.drop 32), nb (b.take 32), nb (b.drop 32)⟩).z))), .val (.agg (.flat .u8 (b2 (stp (nb c) ⟨nb (a.take 32), nb (a.drop 32), nb (b.take 32), nb (b.drop 32)⟩).v (stp (nb c) ⟨nb (a.take 32), nb (a.drop 32), nb (b.take 32), nb (b.drop 32)⟩).w)))]) := by
  have h := stp_call (nb c) (nb (a.take 32)) (nb (a.drop 32)) (nb (b.take 32)) (nb (b.drop 32)) (nb32_lt hc.2.2) (is2_lt hc.1).1 (is2_lt hc.1).2 (is2_lt hc.2.1).1 (is2_lt hc.2.1).2
  rw [← is2_eq hc.1, ← is2_eq hc.2.1] at h
  rwa [F, ← isF_eq hc.2.2] at h
def orcG2 (f : Nat) (ds : List LV) : Option LRes :=
  match f with
  | 56 => match ds with
    | [.agg (.flat .u8 a), .agg (.flat .u8 b), .agg (.flat .u8 c)] => if is2 a = true ∧ is2 b = true ∧ isF c = true then some (.many [.val (.agg (.flat .u8 (b2 (stp (nb c) ⟨nb (a.take 32), nb (a.drop 32), nb (b.take 32), nb (b.drop 32)⟩).x (stp (nb c) ⟨nb (a.take 32), nb (a.drop 32), nb (b.take 32), nb (b.drop 32)⟩).z))), .val (.agg (.flat .u8 (b2 (stp (nb c) ⟨nb (a.take 32), nb (a.drop 32), nb (b.take 32), nb (b.drop 32)⟩).v (stp (nb c) ⟨nb (a.take 32), nb (a.drop 32), nb (b.take 32), nb (b.drop 32)⟩).w)))]) else none
    | _ => none
  | _ => orcG1 f ds
theorem orcG2_ok : Known Try.prog orcG2 := by
  intro f ds r h
  unfold orcG2 at h
  split at h
  · split at h
    · split at h
      · rename_i hc
        cases h
        exact .inl ⟨⟨_, Try.func56, name_ne _ (by kernel_rfl), rfl⟩, stp_row hc⟩
      · cases h
    · cases h
  · exact orcG1_ok f ds r h
def EG2 : Env := ⟨tyL, orcG2, false, noWk, noOrw⟩
theorem EG2_ok : EnvOk Try.prog EG2 := ⟨tyL_ok, orcG2_ok, noOrw_ok⟩
theorem isN_EG2 (f : Nat) {ds : List LV} {K : LRes → Prop} (h : ∃ y, EG2.orc f ds = some y ∧ K y) : ∃ y, EG2.orc f ds = some y ∧ K y := h
set_option maxRecDepth 100000 in
theorem o_stp {u : Nat} {s : Lad} (hu : u < 2 ^ 256) (hs : s.lt) : EG2.orc 56 [.agg (.flat .u8 (b2 s.x s.z)), .agg (.flat .u8 (b2 s.v s.w)), F u] = some (.many [.val (.agg (.flat .u8 (b2 (stp u s).x (stp u s).z))), .val (.agg (.flat .u8 (b2 (stp u s).v (stp u s).w)))]) :=
  (if_pos ⟨is2_b2 _ _, is2_b2 _ _, isF_by _⟩).trans (by rw [b2_take, b2_drop, b2_take, b2_drop, nb_by32 hu, nb_by32 (lt256 hs.1), nb_by32 (lt256 hs.2.1), nb_by32 (lt256 hs.2.2.1), nb_by32 (lt256 hs.2.2.2)])
theorem q2_Mul {a b : Nat} (ha : a < 2 ^ 256) (hb : b < 2 ^ 256) : EG2.orc 54 [F a, F b] = some (ret1 (F (nM a b))) := (show EG2.orc 54 [F a, F b] = EG0.orc 54 [F a, F b] from rfl).trans (o_pMul ha hb)
theorem q2_Inv {a : Nat} (ha : a < 2 ^ 256) : EG2.orc 55 [F a] = some (ret1 (F (pw a e3P))) := (show EG2.orc 55 [F a] = EG0.orc 55 [F a] from rfl).trans (o_pInv ha)
theorem runs_eq {α : Type} {o : Option α} {K : α → Prop} {p : α} (h : o = some p) (hk : K p) : runs o K := by
  subst h
  exact hk
/-! bits of bytes -/
def okBit : Bool := (List.range 256).all fun n => (List.range 8).all fun s => decide (bits .and .u8 (((n : Nat) : Int).fdiv (2 ^ s)) 1 = if Nat.testBit n s then 1 else 0)
theorem bit_b8 (n s : Nat) (hn : n < 256) (hs : s < 8) : bits .and .u8 (((n : Nat) : Int).fdiv (2 ^ s)) 1 = if Nat.testBit n s then 1 else 0 := by
  have h : okBit = true := by kernel_rfl
  rw [okBit, List.all_eq_true] at h
  have h1 := h n (List.mem_range.2 hn)
  rw [List.all_eq_true] at h1
  exact of_decide_eq_true (h1 s (List.mem_range.2 hs))
theorem bt_bit (n i : Nat) : Nat.testBit (n / 2 ^ (8 * (i / 8)) % 256) (i % 8) = Nat.testBit n i := by
  rw [show (256 : Nat) = 2 ^ 8 from rfl, Nat.testBit_mod_two_pow, Nat.testBit_div_two_pow, decide_eq_true (show i % 8 < 8 by omega), Bool.true_and, show i % 8 + 8 * (i / 8) = i by omega]
theorem bit_k {l : List Int} {n i : Nat} (h : g l (i / 8) = bt n (i / 8)) : bits .and .u8 ((g l (i / 8)).fdiv (2 ^ min ((i : Int).tmod 8).toNat IntKind.u8.bits)) 1 = if Nat.testBit n i then 1 else 0 := by
  have e : min ((i : Int).tmod 8).toNat IntKind.u8.bits = i % 8 := by
    rw [show (8 : Int) = ((8 : Nat) : Int) from rfl, tmod_nat, Int.toNat_natCast]
    exact Nat.min_eq_left (by show i % 8 ≤ 8; omega)
  rw [h, bt, e, bit_b8 _ _ (by omega) (by omega), bt_bit]
theorem bit_ku {l : List Int} {n i : Nat} (h : g l (i / 8) = bt n (i / 8)) : bits .and .u8 ((g l (i / 8)).fdiv (2 ^ min (IntKind.u64.wrap ((i : Int).tmod 8)).toNat IntKind.u8.bits)) 1 = if Nat.testBit n i then 1 else 0 := by
  rw [show IntKind.u64.wrap ((i : Int).tmod 8) = (i : Int).tmod 8 by rw [show (8 : Int) = ((8 : Nat) : Int) from rfl, tmod_nat, wrapN _ (by omega)]]
  exact bit_k h
theorem tdiv8k (i : Nat) (h : i < 1000) : IntKind.i64.wrap ((i : Int).tdiv 8) = ((i / 8 : Nat) : Int) := by
  rw [show (8 : Int) = ((8 : Nat) : Int) from rfl, ← Int.ofNat_tdiv, wrap64 (by omega)]
theorem tmod8_nn (i : Nat) : 0 ≤ (i : Int).tmod 8 := Int.tmod_nonneg _ (by omega)
set_option maxRecDepth 100000 in
set_option maxHeartbeats 8000000 in
theorem multiple_exec (n u : Nat) (l : List Int) (hl : l = by32 n) (hp : u < pP) : execF EG2 Try.f32 [.agg (.flat .u8 l), F u] (ret1 (F (mlt u n))) := by
  have hu := lt256 hp
  have hlen : l.length = 32 := by rw [hl, byk_len]
  have hb : opBuild EG2 75 [0, 1] [F u, .agg (.flat .u8 ((List.replicate 32 0).set ((fun x : Nat × Operand => x.fst) (0, Operand.const (Value.int IntKind.u8 1)) * 1) 1))] = some (.agg (.flat .u8 (b2 u 1)), []) := by kernel_rfl
  obtain ⟨U, hU⟩ : ∃ U, U = by32 u := ⟨_, rfl⟩
  obtain ⟨B0, hB0⟩ : ∃ B0, B0 = b2 u 1 := ⟨_, rfl⟩
  rw [F, ← hU, ← hB0] at hb
  rw [F, ← hU]
  have hul : U.length = 32 := by rw [hU, byk_len]
  have hbl : B0.length = 64 := by rw [hB0, b2_len]
  ((conv => whnf); repeat ((first | refine ⟨_, rfl, ?_⟩ | refine ⟨by decide, ?_⟩ | refine ⟨rfl, ?_⟩ | refine ⟨fun _ => ?_, fun h => absurd h (by decide)⟩ | refine ⟨fun h => absurd h (by decide), fun _ => ?_⟩ | refine ⟨inI_of (by omega), ?_⟩ | refine ⟨⟨rfl, inI_of (by omega)⟩, ?_⟩ | refine ⟨⟨rfl, by decide⟩, ?_⟩ | (apply Exists.intro; refine ⟨?_, ?_⟩; ((try simp only); (try simp only [Nat.zero_add]); (try simp only [Nat.mul_one]); (try simp only [Int.toNat_natCast]); exact at_g (by omega))) | (apply Exists.intro; refine ⟨?_, ?_⟩; ((try simp only); (try simp only [Nat.zero_add]); (try simp only [Nat.mul_one]); (try simp only [Int.toNat_natCast]); exact put_flat (by omega))) | refine ⟨_, cut_all (by omega), ?_⟩ | refine ⟨_, lay_all (by omega) (by omega), ?_⟩ | refine ⟨_, lay_all (by (try simp only); (try simp only [List.length_replicate]); (try simp only [List.length_cons]); (try simp only [List.length_nil]); omega) (by omega), ?_⟩ | refine ⟨by omega, ?_⟩ | refine ⟨len_flat (by omega), ?_⟩ | refine ⟨apart_uv _ _ _, ?_⟩ | refine ⟨_, resSlot_own rfl (by omega) (by first | exact .inl rfl | exact .inr ⟨rfl, rfl⟩), ?_⟩ | refine ⟨(by kernel_rfl : regB _ = true), ?_⟩ | refine ⟨⟨rfl, inI_of (by omega), by decide⟩, ?_⟩ | (apply Exists.intro; refine ⟨?_, ?_⟩; ((try simp only); (try simp only [Nat.zero_add]); (try simp only [Nat.mul_one]); (try simp only [Int.toNat_natCast]); exact at_drop_g (by omega))) | (apply Exists.intro; refine ⟨?_, ?_⟩; ((try simp only); (try simp only [Nat.zero_add]); (try simp only [Nat.mul_one]); (try simp only [Int.toNat_natCast]); exact cut_rest (by omega)))); conv => whnf))
  refine runs_eq hb ?_
  ((conv => whnf); repeat ((first | refine ⟨_, rfl, ?_⟩ | refine ⟨by decide, ?_⟩ | refine ⟨rfl, ?_⟩ | refine ⟨fun _ => ?_, fun h => absurd h (by decide)⟩ | refine ⟨fun h => absurd h (by decide), fun _ => ?_⟩ | refine ⟨inI_of (by omega), ?_⟩ | refine ⟨⟨rfl, inI_of (by omega)⟩, ?_⟩ | refine ⟨⟨rfl, by decide⟩, ?_⟩ | (apply Exists.intro; refine ⟨?_, ?_⟩; ((try simp only); (try simp only [Nat.zero_add]); (try simp only [Nat.mul_one]); (try simp only [Int.toNat_natCast]); exact at_g (by omega))) | (apply Exists.intro; refine ⟨?_, ?_⟩; ((try simp only); (try simp only [Nat.zero_add]); (try simp only [Nat.mul_one]); (try simp only [Int.toNat_natCast]); exact put_flat (by omega))) | refine ⟨_, cut_all (by omega), ?_⟩ | refine ⟨_, lay_all (by omega) (by omega), ?_⟩ | refine ⟨_, lay_all (by (try simp only); (try simp only [List.length_replicate]); (try simp only [List.length_cons]); (try simp only [List.length_nil]); omega) (by omega), ?_⟩ | refine ⟨by omega, ?_⟩ | refine ⟨len_flat (by omega), ?_⟩ | refine ⟨apart_uv _ _ _, ?_⟩ | refine ⟨_, resSlot_own rfl (by omega) (by first | exact .inl rfl | exact .inr ⟨rfl, rfl⟩), ?_⟩ | refine ⟨(by kernel_rfl : regB _ = true), ?_⟩ | refine ⟨⟨rfl, inI_of (by omega), by decide⟩, ?_⟩ | (apply Exists.intro; refine ⟨?_, ?_⟩; ((try simp only); (try simp only [Nat.zero_add]); (try simp only [Nat.mul_one]); (try simp only [Int.toNat_natCast]); exact at_drop_g (by omega))) | (apply Exists.intro; refine ⟨?_, ?_⟩; ((try simp only); (try simp only [Nat.zero_add]); (try simp only [Nat.mul_one]); (try simp only [Int.toNat_natCast]); exact cut_rest (by omega)))); conv => whnf))
  refine .inl ⟨fun m st => ∃ (i : Nat) (A B U : List Int), m = i ∧ U = by32 u ∧ i ≤ 256 ∧ A = b2 (lad u n (256 - i)).x (lad u n (256 - i)).z ∧ B = b2 (lad u n (256 - i)).v (lad u n (256 - i)).w ∧ st = ⟨[.poison, .poison, .ptr 16 0, .ptr 24 0, .ptr 32 0, .ptr 40 0, .ptr 48 0, iv .i64 ((i : Int) - 1), .poison, .poison, .poison, .poison, .poison, .poison, .poison, .poison, .poison, .poison, .poison, .poison, .poison, .poison, .poison, .poison, .poison, .poison, .poison, .poison, .poison, .poison, .poison, .poison, .poison, .poison, .poison, .poison, .poison, .poison, .poison, .poison, .poison, .poison, .poison, .poison, .poison, .poison],
      [(16, ⟨.flat .u8 l, 23, false⟩), (24, ⟨.flat .u8 U, 23, false⟩), (32, ⟨.flat .u8 (by32 0), 23, false⟩), (40, ⟨.flat .u8 A, 75, false⟩), (48, ⟨.flat .u8 B, 75, false⟩)]⟩,
      ⟨[0, 1, 8, 9, 10, 11, 12, 13, 14, 15, 16, 17, 18, 19, 20, 21, 22, 23, 24, 25, 26, 27, 28, 29, 30, 31, 32, 33, 34, 35, 36, 37, 38, 39, 40, 41, 42, 43, 44, 45], [], 256, 256, b2 1 0, B0, U, rfl, hU, by omega, rfl, hB0, by kernel_rfl⟩, ?_⟩
  clear hb hB0 hbl B0 hul hU U
  rintro i _ ⟨_, A, B, U, rfl, hU, hi, hA, hB, rfl⟩
  cases i with
  | zero =>
    have hul : U.length = 32 := by rw [hU, byk_len]
    have lt := lad_lt n hp 256
    have c0 : (Cont.flat .u8 A).cut 0 32 = some (.flat .u8 (by32 (lad u n 256).x)) := by rw [hA, b2]; exact cut_pre (byk_len _ _) (by rw [byk_len]; decide)
    have c1 : (Cont.flat .u8 A).cut 32 32 = some (.flat .u8 (by32 (lad u n 256).z)) := by rw [hA, b2]; exact cut_suf (byk_len _ _) (byk_len _ _) (by decide)
    have f1 := q2_Inv (lt256 lt.2.1)
    have f2 := q2_Mul (lt256 lt.1) (pw_lt (lad u n 256).z e3P)
    clear hA hB
    conv => whnf
    refine ⟨fun h => absurd h (by decide), fun _ => ?_⟩
    ((conv => whnf); repeat ((first | refine ⟨_, c0, ?_⟩ | refine ⟨_, c1, ?_⟩ | ((with_reducible refine isN_EG2 55 ?_); refine ⟨_, f1, ?_⟩) | ((with_reducible refine isN_EG2 54 ?_); refine ⟨_, f2, ?_⟩) | refine ⟨_, rfl, ?_⟩ | refine ⟨by decide, ?_⟩ | refine ⟨rfl, ?_⟩ | refine ⟨fun _ => ?_, fun h => absurd h (by decide)⟩ | refine ⟨fun h => absurd h (by decide), fun _ => ?_⟩ | refine ⟨inI_of (by omega), ?_⟩ | refine ⟨⟨rfl, inI_of (by omega)⟩, ?_⟩ | refine ⟨⟨rfl, by decide⟩, ?_⟩ | (apply Exists.intro; refine ⟨?_, ?_⟩; ((try simp only); (try simp only [Nat.zero_add]); (try simp only [Nat.mul_one]); (try simp only [Int.toNat_natCast]); exact at_g (by omega))) | (apply Exists.intro; refine ⟨?_, ?_⟩; ((try simp only); (try simp only [Nat.zero_add]); (try simp only [Nat.mul_one]); (try simp only [Int.toNat_natCast]); exact put_flat (by omega))) | refine ⟨_, cut_all (by omega), ?_⟩ | refine ⟨_, lay_all (by omega) (by omega), ?_⟩ | refine ⟨_, lay_all (by (try simp only); (try simp only [List.length_replicate]); (try simp only [List.length_cons]); (try simp only [List.length_nil]); omega) (by omega), ?_⟩ | refine ⟨by omega, ?_⟩ | refine ⟨len_flat (by omega), ?_⟩ | refine ⟨apart_uv _ _ _, ?_⟩ | refine ⟨_, resSlot_own rfl (by omega) (by first | exact .inl rfl | exact .inr ⟨rfl, rfl⟩), ?_⟩ | refine ⟨(by kernel_rfl : regB _ = true), ?_⟩ | refine ⟨⟨rfl, inI_of (by omega), by decide⟩, ?_⟩ | (apply Exists.intro; refine ⟨?_, ?_⟩; ((try simp only); (try simp only [Nat.zero_add]); (try simp only [Nat.mul_one]); (try simp only [Int.toNat_natCast]); exact at_drop_g (by omega))) | (apply Exists.intro; refine ⟨?_, ?_⟩; ((try simp only); (try simp only [Nat.zero_add]); (try simp only [Nat.mul_one]); (try simp only [Int.toNat_natCast]); exact cut_rest (by omega)))); conv => whnf))
    rfl
  | succ j =>
    rw [down1]
    have hul : U.length = 32 := by rw [hU, byk_len]
    rw [show 256 - (j + 1) = 255 - j by omega] at hA hB
    have e1 := tdiv8k j (by omega)
    have e2 := down64 j (by omega)
    have eb := bit_k (l := l) (n := n) (i := j) (by rw [hl, g_byk (by omega)])
    have hs : lad u n (256 - j) = if Nat.testBit n j then swp (stp u (swp (lad u n (255 - j)))) else stp u (lad u n (255 - j)) := by
      rw [show 256 - j = 255 - j + 1 by omega, lad, show 255 - (255 - j) = j by omega]
    have h0 : decide ((j : Int) ≥ 0) = true := decide_eq_true (by omega)
    rcases hb : Nat.testBit n j with _ | _
    · rw [hb] at eb hs
      have q : (bits .and .u8 ((g l (j / 8)).fdiv (2 ^ min ((j : Int).tmod 8).toNat IntKind.u8.bits)) 1 == 1) = false := by rw [eb]; rfl
      have f1 := o_stp hu (s := lad u n (255 - j)) (lad_lt n hp _)
      obtain ⟨A', hA'⟩ : ∃ A', A' = b2 (stp u (lad u n (255 - j))).x (stp u (lad u n (255 - j))).z := ⟨_, rfl⟩
      obtain ⟨B', hB'⟩ : ∃ B', B' = b2 (stp u (lad u n (255 - j))).v (stp u (lad u n (255 - j))).w := ⟨_, rfl⟩
      have e1' : b2 (lad u n (255 - j)).x (lad u n (255 - j)).z = A := by rw [hA]
      have e2' : b2 (lad u n (255 - j)).v (lad u n (255 - j)).w = B := by rw [hB]
      rw [← hA', ← hB', e1', e2', F, ← hU] at f1
      have lA : A.length = 64 := by rw [hA, b2_len]
      have lB : B.length = 64 := by rw [hB, b2_len]
      have lA' : A'.length = 64 := by rw [hA', b2_len]
      have lB' : B'.length = 64 := by rw [hB', b2_len]
      ((conv => whnf); repeat ((first | refine ⟨fun _ => ?_, fun h => absurd ((h0).symm.trans h) (by decide)⟩ | refine ⟨fun h => absurd ((h0).symm.trans h) (by decide), fun _ => ?_⟩ | refine ⟨fun _ => ?_, fun h => absurd ((q).symm.trans h) (by decide)⟩ | refine ⟨fun h => absurd ((q).symm.trans h) (by decide), fun _ => ?_⟩ | refine ⟨tmod8_nn _, ?_⟩ | ((with_reducible refine isN_EG2 56 ?_); refine ⟨_, f1, ?_⟩) | refine ⟨_, rfl, ?_⟩ | refine ⟨by decide, ?_⟩ | refine ⟨rfl, ?_⟩ | refine ⟨fun _ => ?_, fun h => absurd h (by decide)⟩ | refine ⟨fun h => absurd h (by decide), fun _ => ?_⟩ | refine ⟨inI_of (by omega), ?_⟩ | refine ⟨⟨rfl, inI_of (by omega)⟩, ?_⟩ | refine ⟨⟨rfl, by decide⟩, ?_⟩ | refine ⟨by (try simp only); (try simp only [e1]); exact inI_of (by omega), ?_⟩ | refine ⟨⟨rfl, by (try simp only); (try simp only [e1]); exact inI_of (by omega)⟩, ?_⟩ | (apply Exists.intro; refine ⟨?_, ?_⟩; ((try simp only); (try simp only [e1]); (try simp only [Nat.zero_add]); (try simp only [Nat.mul_one]); (try simp only [Int.toNat_natCast]); (try simp only [e1]); (try simp only [Nat.zero_add]); (try simp only [Nat.mul_one]); (try simp only [Int.toNat_natCast]); exact at_g (by omega))) | (apply Exists.intro; refine ⟨?_, ?_⟩; ((try simp only); (try simp only [e1]); (try simp only [Nat.zero_add]); (try simp only [Nat.mul_one]); (try simp only [Int.toNat_natCast]); (try simp only [e1]); (try simp only [Nat.zero_add]); (try simp only [Nat.mul_one]); (try simp only [Int.toNat_natCast]); exact put_flat (by omega))) | refine ⟨_, cut_all (by omega), ?_⟩ | refine ⟨_, lay_all (by omega) (by omega), ?_⟩ | refine ⟨_, lay_all (by (try simp only); (try simp only [List.length_replicate]); (try simp only [List.length_cons]); (try simp only [List.length_nil]); omega) (by omega), ?_⟩ | refine ⟨by omega, ?_⟩ | refine ⟨len_flat (by omega), ?_⟩ | refine ⟨apart_uv _ _ _, ?_⟩ | refine ⟨_, resSlot_own rfl (by omega) (by first | exact .inl rfl | exact .inr ⟨rfl, rfl⟩), ?_⟩ | refine ⟨(by kernel_rfl : regB _ = true), ?_⟩ | refine ⟨⟨rfl, inI_of (by omega), by decide⟩, ?_⟩ | refine ⟨⟨rfl, by (try simp only); (try simp only [e1]); exact inI_of (by omega), by decide⟩, ?_⟩ | (apply Exists.intro; refine ⟨?_, ?_⟩; ((try simp only); (try simp only [e1]); (try simp only [Nat.zero_add]); (try simp only [Nat.mul_one]); (try simp only [Int.toNat_natCast]); (try simp only [e1]); (try simp only [Nat.zero_add]); (try simp only [Nat.mul_one]); (try simp only [Int.toNat_natCast]); exact at_drop_g (by omega))) | (apply Exists.intro; refine ⟨?_, ?_⟩; ((try simp only); (try simp only [e1]); (try simp only [Nat.zero_add]); (try simp only [Nat.mul_one]); (try simp only [Int.toNat_natCast]); (try simp only [e1]); (try simp only [Nat.zero_add]); (try simp only [Nat.mul_one]); (try simp only [Int.toNat_natCast]); exact cut_rest (by omega)))); conv => whnf))
      refine ⟨[0, 1, 8, 9, 10, 11, 12, 13, 14, 15, 16, 17, 18, 19, 20, 21, 22, 23, 24, 25, 26, 27, 28, 29, 30, 31, 32, 33, 34, 35, 36, 37, 38, 39, 40, 41, 42, 43, 44, 45], [], j, ?_, j, A', B', U, rfl, hU, by omega, ?_, ?_, ?_⟩
      · omega
      · rw [hs]; exact hA'
      · rw [hs]; exact hB'
      · rw [e2]; kernel_rfl
    · rw [hb] at eb hs
      have q : (bits .and .u8 ((g l (j / 8)).fdiv (2 ^ min ((j : Int).tmod 8).toNat IntKind.u8.bits)) 1 == 1) = true := by rw [eb]; rfl
      have f1 := o_stp hu (s := swp (lad u n (255 - j))) (swp_lt (lad_lt n hp _))
      obtain ⟨A', hA'⟩ : ∃ A', A' = b2 (stp u (swp (lad u n (255 - j)))).x (stp u (swp (lad u n (255 - j)))).z := ⟨_, rfl⟩
      obtain ⟨B', hB'⟩ : ∃ B', B' = b2 (stp u (swp (lad u n (255 - j)))).v (stp u (swp (lad u n (255 - j)))).w := ⟨_, rfl⟩
      have e1' : b2 (swp (lad u n (255 - j))).x (swp (lad u n (255 - j))).z = B := by rw [hB]; rfl
      have e2' : b2 (swp (lad u n (255 - j))).v (swp (lad u n (255 - j))).w = A := by rw [hA]; rfl
      rw [← hA', ← hB', e1', e2', F, ← hU] at f1
      have lA : A.length = 64 := by rw [hA, b2_len]
      have lB : B.length = 64 := by rw [hB, b2_len]
      have lA' : A'.length = 64 := by rw [hA', b2_len]
      have lB' : B'.length = 64 := by rw [hB', b2_len]
      ((conv => whnf); repeat ((first | refine ⟨fun _ => ?_, fun h => absurd ((h0).symm.trans h) (by decide)⟩ | refine ⟨fun h => absurd ((h0).symm.trans h) (by decide), fun _ => ?_⟩ | refine ⟨fun _ => ?_, fun h => absurd ((q).symm.trans h) (by decide)⟩ | refine ⟨fun h => absurd ((q).symm.trans h) (by decide), fun _ => ?_⟩ | refine ⟨tmod8_nn _, ?_⟩ | ((with_reducible refine isN_EG2 56 ?_); refine ⟨_, f1, ?_⟩) | refine ⟨_, rfl, ?_⟩ | refine ⟨by decide, ?_⟩ | refine ⟨rfl, ?_⟩ | refine ⟨fun _ => ?_, fun h => absurd h (by decide)⟩ | refine ⟨fun h => absurd h (by decide), fun _ => ?_⟩ | refine ⟨inI_of (by omega), ?_⟩ | refine ⟨⟨rfl, inI_of (by omega)⟩, ?_⟩ | refine ⟨⟨rfl, by decide⟩, ?_⟩ | refine ⟨by (try simp only); (try simp only [e1]); exact inI_of (by omega), ?_⟩ | refine ⟨⟨rfl, by (try simp only); (try simp only [e1]); exact inI_of (by omega)⟩, ?_⟩ | (apply Exists.intro; refine ⟨?_, ?_⟩; ((try simp only); (try simp only [e1]); (try simp only [Nat.zero_add]); (try simp only [Nat.mul_one]); (try simp only [Int.toNat_natCast]); (try simp only [e1]); (try simp only [Nat.zero_add]); (try simp only [Nat.mul_one]); (try simp only [Int.toNat_natCast]); exact at_g (by omega))) | (apply Exists.intro; refine ⟨?_, ?_⟩; ((try simp only); (try simp only [e1]); (try simp only [Nat.zero_add]); (try simp only [Nat.mul_one]); (try simp only [Int.toNat_natCast]); (try simp only [e1]); (try simp only [Nat.zero_add]); (try simp only [Nat.mul_one]); (try simp only [Int.toNat_natCast]); exact put_flat (by omega))) | refine ⟨_, cut_all (by omega), ?_⟩ | refine ⟨_, lay_all (by omega) (by omega), ?_⟩ | refine ⟨_, lay_all (by (try simp only); (try simp only [List.length_replicate]); (try simp only [List.length_cons]); (try simp only [List.length_nil]); omega) (by omega), ?_⟩ | refine ⟨by omega, ?_⟩ | refine ⟨len_flat (by omega), ?_⟩ | refine ⟨apart_uv _ _ _, ?_⟩ | refine ⟨_, resSlot_own rfl (by omega) (by first | exact .inl rfl | exact .inr ⟨rfl, rfl⟩), ?_⟩ | refine ⟨(by kernel_rfl : regB _ = true), ?_⟩ | refine ⟨⟨rfl, inI_of (by omega), by decide⟩, ?_⟩ | refine ⟨⟨rfl, by (try simp only); (try simp only [e1]); exact inI_of (by omega), by decide⟩, ?_⟩ | (apply Exists.intro; refine ⟨?_, ?_⟩; ((try simp only); (try simp only [e1]); (try simp only [Nat.zero_add]); (try simp only [Nat.mul_one]); (try simp only [Int.toNat_natCast]); (try simp only [e1]); (try simp only [Nat.zero_add]); (try simp only [Nat.mul_one]); (try simp only [Int.toNat_natCast]); exact at_drop_g (by omega))) | (apply Exists.intro; refine ⟨?_, ?_⟩; ((try simp only); (try simp only [e1]); (try simp only [Nat.zero_add]); (try simp only [Nat.mul_one]); (try simp only [Int.toNat_natCast]); (try simp only [e1]); (try simp only [Nat.zero_add]); (try simp only [Nat.mul_one]); (try simp only [Int.toNat_natCast]); exact cut_rest (by omega)))); conv => whnf))
      refine ⟨[0, 1, 8, 9, 10, 11, 12, 13, 14, 15, 16, 17, 18, 19, 20, 21, 22, 23, 24, 25, 26, 27, 28, 29, 30, 31, 32, 33, 34, 35, 36, 37, 38, 39, 40, 41, 42, 43, 44, 45], [], j, ?_, j, B', A', U, rfl, hU, by omega, ?_, ?_, ?_⟩
      · omega
      · rw [hs]; exact hB'
      · rw [hs]; exact hA'
      · rw [e2]; kernel_rfl
end Go.Proofs.Ytkennahakodfnaa
