/-
  Layer 6: the program's key schedule.
-/
import Derived.Test.YtgkccfjjjamhoaaA6B
namespace Go.Proofs.Ytgkccfjjjamhoaa
open Go.RowKit

theorem By.set {l : List Int} (h : By l) {i : Nat} {x : Int} (hx : 0 ≤ x ∧ x < 256) : By (l.set i x) := by
  intro y hy
  rcases List.mem_or_eq_of_mem_set hy with h1 | h1
  · exact h y h1
  · subst h1; exact hx
theorem By.upd {f : Nat → Int} {l : List Int} (h : By l) {i : Nat} (hf : ∀ j, j < i → 0 ≤ f j ∧ f j < 256) : By (upd f l i) := By.map fun j _ => by
  split
  · rename_i hj; exact hf j hj
  · exact h.g j
theorem By.zeros (n : Nat) : By (List.replicate n 0) := by
  intro x hx
  rw [List.eq_of_mem_replicate hx]
  omega
theorem dbl_byte {b : Int} (_hb : 0 ≤ b ∧ b < 256) : 0 ≤ dbl b ∧ dbl b < 256 := x8_byte (w8_byte _) (w8_byte _)

/-- The doubled power; the part of the schedule behind b. -/
def pw2 : Nat → Int
  | 0 => 1
  | i + 1 => dbl (pw2 i)
def nxF (b t : List Int) (r : Nat) : Int := x8 (g b r) (g t (g b (12 + (r + 1) % 4)).toNat)
def nx1 (b t : List Int) (p : Int) : List Int := (upd (nxF b t) b 4).set 0 (x8 (g (upd (nxF b t) b 4) 0) p)
def ch (l : List Int) : Nat → List Int
  | 0 => l
  | m + 1 => (ch l m).set (m + 4) (x8 (g (ch l m) (m + 4)) (g (ch l m) m))
def nxtP (b t : List Int) (p : Int) : List Int := ch (nx1 b t p) 12
def kkP (key t : List Int) : Nat → List Int
  | 0 => key
  | i + 1 => nxtP (kkP key t i) t (pw2 i)
def rT (key t : List Int) (i : Nat) : List Int := flatK (kkP key t) (i + 1) ++ List.replicate (160 - 16 * i) 0
theorem ch_len (l : List Int) : ∀ m, (ch l m).length = l.length
  | 0 => rfl
  | m + 1 => by rw [ch, List.length_set, ch_len l m]
theorem nx1_len (b t : List Int) (p : Int) : (nx1 b t p).length = b.length := by rw [nx1, List.length_set, upd_len]
theorem nxtP_len (b t : List Int) (p : Int) : (nxtP b t p).length = b.length := by rw [nxtP, ch_len, nx1_len]
theorem pw2_byte : ∀ i, 0 ≤ pw2 i ∧ pw2 i < 256
  | 0 => by decide
  | i + 1 => dbl_byte (pw2_byte i)
theorem nxF_byte {b t : List Int} (hb : By b) (ht : By t) (r : Nat) : 0 ≤ nxF b t r ∧ nxF b t r < 256 := x8_byte (hb.g _) (ht.g _)
theorem nx1_by {b t : List Int} {p : Int} (hb : By b) (ht : By t) (hp : 0 ≤ p ∧ p < 256) : By (nx1 b t p) := by
  have h := By.upd hb (f := nxF b t) (i := 4) (fun j _ => nxF_byte hb ht j)
  exact h.set (x8_byte (h.g 0) hp)
theorem ch_by {l : List Int} (h : By l) : ∀ m, By (ch l m)
  | 0 => h
  | m + 1 => (ch_by h m).set (x8_byte ((ch_by h m).g _) ((ch_by h m).g _))
section
variable {key t : List Int} (hk : key.length = 16) (hkb : By key) (htb : By t)
include hk in
theorem kk_len : ∀ i, (kkP key t i).length = 16
  | 0 => hk
  | i + 1 => by rw [kkP, nxtP_len, kk_len i]
include hkb htb in
theorem kk_by : ∀ i, By (kkP key t i)
  | 0 => hkb
  | i + 1 => ch_by (nx1_by (kk_by i) htb (pw2_byte i)) 12
include hk in
theorem rT_len {i : Nat} (hi : i ≤ 10) : (rT key t i).length = 176 := by
  rw [rT, List.length_append, flatK_len (kk_len hk), List.length_replicate]
  omega
include hkb htb in
theorem rT_by (i : Nat) : By (rT key t i) := (By.flatK (kk_by hkb htb) _).append (By.zeros _)
include hk in
theorem rT_cut {n i : Nat} (h : i ≤ n) : ((rT key t n).drop (16 * i)).take 16 = kkP key t i := flatK_cut (kk_len hk) (by omega) _
include hk in
theorem rT_lay {i : Nat} (hi : i < 10) : (rT key t i).take (16 * (i + 1)) ++ kkP key t (i + 1) ++ (rT key t i).drop (16 * (i + 1) + (kkP key t (i + 1)).length) = rT key t (i + 1) := by
  have hl := flatK_len (f := kkP key t) (kk_len hk) (i + 1)
  rw [kk_len hk]
  unfold rT
  rw [List.take_append_of_le_length (by omega), List.take_of_length_le (by omega)]
  rw [flatK_succ (kkP key t) (i + 1)]
  congr 1
  rw [List.drop_append, List.drop_of_length_le (by omega), List.nil_append, List.drop_replicate]
  congr 1
  omega
end

set_option maxRecDepth 100000 in
set_option maxHeartbeats 8000000 in
theorem sched_exec (key t : List Int) (hk : key.length = 16) (ht : t.length = 256) (hkb : By key) (htb : By t) : execF EB Try.f33 [arr8 key, arr8 t] (ret1 (arr8 (rT key t 10))) := by
  have lay0 : layOne (.flat .u8 (List.replicate 176 0)) (0 + Int.toNat 0 * 16) (.flat .u8 key) = some (.flat .u8 (rT key t 0)) := by
    rw [show 0 + Int.toNat 0 * 16 = 0 from rfl, lay_flat (by rw [List.length_replicate]; omega) (by omega)]
    have h1 : flatK (kkP key t) 1 = key := by
      rw [flatK_succ]; simp [flatK, kkP]
    rw [rT, h1, hk, List.take_zero, List.nil_append, List.drop_replicate]
  ((conv => whnf); repeat ((first | refine ⟨_, lay0, ?_⟩ | refine ⟨_, rfl, ?_⟩ | refine ⟨by decide, ?_⟩ | refine ⟨rfl, ?_⟩ | refine ⟨fun _ => ?_, fun h => absurd h (by decide)⟩ | refine ⟨fun h => absurd h (by decide), fun _ => ?_⟩ | refine ⟨inI_of (by omega), ?_⟩ | refine ⟨⟨rfl, inI_of (by omega)⟩, ?_⟩ | refine ⟨⟨rfl, by decide⟩, ?_⟩ | (apply Exists.intro; refine ⟨?_, ?_⟩; ((try simp only); (try simp only [Nat.zero_add]); (try simp only [Nat.mul_one]); (try simp only [Int.toNat_natCast]); exact at_g (by omega))) | (apply Exists.intro; refine ⟨?_, ?_⟩; ((try simp only); (try simp only [Nat.zero_add]); (try simp only [Nat.mul_one]); (try simp only [Int.toNat_natCast]); exact put_flat (by omega))) | refine ⟨_, cut_all (by omega), ?_⟩ | refine ⟨_, lay_all (by omega) (by omega), ?_⟩ | refine ⟨_, lay_all (by (try simp only); (try simp only [List.length_replicate]); (try simp only [List.length_cons]); (try simp only [List.length_nil]); omega) (by omega), ?_⟩ | refine ⟨by omega, ?_⟩ | refine ⟨len_flat (by omega), ?_⟩ | refine ⟨apart_uv _ _ _, ?_⟩ | refine ⟨_, resSlot_own rfl (by omega) (by first | exact .inl rfl | exact .inr ⟨rfl, rfl⟩), ?_⟩ | refine ⟨(by kernel_rfl : regB _ = true), ?_⟩ | refine ⟨⟨rfl, inI_of (by omega), by decide⟩, ?_⟩ | (apply Exists.intro; refine ⟨?_, ?_⟩; ((try simp only); (try simp only [Nat.zero_add]); (try simp only [Nat.mul_one]); (try simp only [Int.toNat_natCast]); exact at_drop_g (by omega))) | (apply Exists.intro; refine ⟨?_, ?_⟩; ((try simp only); (try simp only [Nat.zero_add]); (try simp only [Nat.mul_one]); (try simp only [Int.toNat_natCast]); exact cut_rest (by omega)))); conv => whnf))
  refine .inl ⟨fun n st => ∃ i : Nat, n = 10 - i ∧ i ≤ 10 ∧ st = ⟨[arr8 key, arr8 t, .ptr 16 0, .ptr 24 0, .ptr 32 0, .ptr 40 0, iv .u8 (pw2 i), .poison, .poison, .poison, .poison, .poison, .poison, .poison, iv .i64 i, .poison, .poison, .poison, .poison, .poison, .poison, .poison, .poison, .poison, .poison, .poison, .poison, .poison, .poison, .poison, .poison, .poison, .poison, .poison, .poison, .poison, .poison, .poison, .poison, .poison, .poison, .poison, .poison, .poison, .poison, .poison, .poison, .poison, .poison, .poison, .poison, .poison, .poison, .poison, .poison, .poison, .poison, .poison, .poison, .poison, .poison, .poison, .poison, .poison],
    [(16, ⟨.flat .u8 key, 54, false⟩), (24, ⟨.flat .u8 t, 51, false⟩), (32, ⟨.flat .u8 (List.replicate 176 0), 55, false⟩), (40, ⟨.flat .u8 (rT key t i), 55, false⟩)]⟩,
    ⟨[7, 8, 9, 10, 11, 12, 13, 15, 16, 17, 18, 19, 20, 21, 22, 23, 24, 25, 26, 27, 28, 29, 30, 31, 32, 33, 34, 35, 36, 37, 38, 39, 40, 41, 42, 43, 44, 45, 46, 47, 48, 49, 50, 51, 52, 53, 54, 55, 56, 57, 58, 59, 60, 61, 62, 63], [], 10, 0, rfl, by omega, by kernel_rfl⟩, ?_⟩
  rintro _ _ ⟨i, rfl, hi, rfl⟩
  have hl := rT_len (t := t) hk hi
  conv => whnf
  refine ⟨fun h => ?_, fun h => ?_⟩
  · have h := of_decide_eq_true h
    obtain ⟨b, hb⟩ : ∃ b, b = kkP key t i := ⟨_, rfl⟩
    have hbl : b.length = 16 := by rw [hb]; exact kk_len hk i
    have hbb : By b := by rw [hb]; exact kk_by hkb htb i
    have cutI : (Cont.flat .u8 (rT key t i)).cut (0 + (i : Int).toNat * 16) 16 = some (.flat .u8 b) := by
      rw [cut_flat (by omega), show 0 + (i : Int).toNat * 16 = 16 * i by omega, rT_cut hk (Nat.le_refl i), hb]
    ((conv => whnf); repeat ((first | refine ⟨_, cutI, ?_⟩ | refine ⟨_, rfl, ?_⟩ | refine ⟨by decide, ?_⟩ | refine ⟨rfl, ?_⟩ | refine ⟨fun _ => ?_, fun h => absurd h (by decide)⟩ | refine ⟨fun h => absurd h (by decide), fun _ => ?_⟩ | refine ⟨inI_of (by omega), ?_⟩ | refine ⟨⟨rfl, inI_of (by omega)⟩, ?_⟩ | refine ⟨⟨rfl, by decide⟩, ?_⟩ | (apply Exists.intro; refine ⟨?_, ?_⟩; ((try simp only); (try simp only [Nat.zero_add]); (try simp only [Nat.mul_one]); (try simp only [Int.toNat_natCast]); exact at_g (by omega))) | (apply Exists.intro; refine ⟨?_, ?_⟩; ((try simp only); (try simp only [Nat.zero_add]); (try simp only [Nat.mul_one]); (try simp only [Int.toNat_natCast]); exact put_flat (by omega))) | refine ⟨_, cut_all (by omega), ?_⟩ | refine ⟨_, lay_all (by omega) (by omega), ?_⟩ | refine ⟨_, lay_all (by (try simp only); (try simp only [List.length_replicate]); (try simp only [List.length_cons]); (try simp only [List.length_nil]); omega) (by omega), ?_⟩ | refine ⟨by omega, ?_⟩ | refine ⟨len_flat (by omega), ?_⟩ | refine ⟨apart_uv _ _ _, ?_⟩ | refine ⟨_, resSlot_own rfl (by omega) (by first | exact .inl rfl | exact .inr ⟨rfl, rfl⟩), ?_⟩ | refine ⟨(by kernel_rfl : regB _ = true), ?_⟩ | refine ⟨⟨rfl, inI_of (by omega), by decide⟩, ?_⟩ | (apply Exists.intro; refine ⟨?_, ?_⟩; ((try simp only); (try simp only [Nat.zero_add]); (try simp only [Nat.mul_one]); (try simp only [Int.toNat_natCast]); exact at_drop_g (by omega))) | (apply Exists.intro; refine ⟨?_, ?_⟩; ((try simp only); (try simp only [Nat.zero_add]); (try simp only [Nat.mul_one]); (try simp only [Int.toNat_natCast]); exact cut_rest (by omega)))); conv => whnf))
    refine .inl ⟨fun n st => ∃ j : Nat, n = 4 - j ∧ j ≤ 4 ∧ st = ⟨[arr8 key, arr8 t, .ptr 16 0, .ptr 24 0, .ptr 32 0, .ptr 40 0, iv .u8 (pw2 i), iv .i64 i, .ptr 64 0, .ptr 72 0, .poison, .poison, .poison, .poison, iv .i64 i, .poison, .poison, .poison, .poison, .poison, .poison, iv .i64 j, .poison, .poison, .poison, .poison, .poison, .poison, .poison, .poison, .poison, .poison, .poison, .poison, .poison, .poison, .poison, .poison, .poison, .poison, .poison, .poison, .poison, .poison, .poison, .poison, .poison, .poison, .poison, .poison, .poison, .poison, .poison, .poison, .poison, .poison, .poison, .poison, .poison, .poison, .poison, .poison, .poison, .poison],
      [(16, ⟨.flat .u8 key, 54, false⟩), (24, ⟨.flat .u8 t, 51, false⟩), (32, ⟨.flat .u8 (List.replicate 176 0), 55, false⟩), (40, ⟨.flat .u8 (rT key t i), 55, false⟩), (64, ⟨.flat .u8 b, 54, false⟩), (72, ⟨.flat .u8 (upd (nxF b t) b j), 54, false⟩)]⟩,
      ⟨[10, 11, 12, 13, 15, 16, 17, 18, 19, 20, 22, 23, 24, 25, 26, 27, 28, 29, 30, 31, 32, 33, 34, 35, 36, 37, 38, 39, 40, 41, 42, 43, 44, 45, 46, 47, 48, 49, 50, 51, 52, 53, 54, 55, 56, 57, 58, 59, 60, 61, 62, 63], [], 4, 0, rfl, by omega, by rw [upd_zero]; kernel_rfl⟩, ?_⟩
    rintro _ _ ⟨j, rfl, hj, rfl⟩
    have hul := upd_len (nxF b t) b j
    conv => whnf
    refine ⟨fun h2 => ?_, fun h2 => ?_⟩
    · have h2 := of_decide_eq_true h2
      have e3 : IntKind.i64.wrap (12 + (IntKind.i64.wrap ((j : Int) + 1)).tmod 4) = ((12 + (j + 1) % 4 : Nat) : Int) := by
        have : j = 0 ∨ j = 1 ∨ j = 2 ∨ j = 3 := by omega
        rcases this with rfl | rfl | rfl | rfl <;> rfl
      have hg := hbb.g (12 + (j + 1) % 4)
      ((conv => whnf); repeat ((first | refine ⟨_, rfl, ?_⟩ | refine ⟨by decide, ?_⟩ | refine ⟨rfl, ?_⟩ | refine ⟨fun _ => ?_, fun h => absurd h (by decide)⟩ | refine ⟨fun h => absurd h (by decide), fun _ => ?_⟩ | refine ⟨inI_of (by omega), ?_⟩ | refine ⟨⟨rfl, inI_of (by omega)⟩, ?_⟩ | refine ⟨⟨rfl, by decide⟩, ?_⟩ | refine ⟨by (try simp only); (try simp only [e3]); exact inI_of (by omega), ?_⟩ | refine ⟨⟨rfl, by (try simp only); (try simp only [e3]); exact inI_of (by omega)⟩, ?_⟩ | (apply Exists.intro; refine ⟨?_, ?_⟩; ((try simp only); (try simp only [e3]); (try simp only [Nat.zero_add]); (try simp only [Nat.mul_one]); (try simp only [Int.toNat_natCast]); (try simp only [e3]); (try simp only [Nat.zero_add]); (try simp only [Nat.mul_one]); (try simp only [Int.toNat_natCast]); exact at_g (by omega))) | (apply Exists.intro; refine ⟨?_, ?_⟩; ((try simp only); (try simp only [e3]); (try simp only [Nat.zero_add]); (try simp only [Nat.mul_one]); (try simp only [Int.toNat_natCast]); (try simp only [e3]); (try simp only [Nat.zero_add]); (try simp only [Nat.mul_one]); (try simp only [Int.toNat_natCast]); exact put_flat (by omega))) | refine ⟨_, cut_all (by omega), ?_⟩ | refine ⟨_, lay_all (by omega) (by omega), ?_⟩ | refine ⟨_, lay_all (by (try simp only); (try simp only [List.length_replicate]); (try simp only [List.length_cons]); (try simp only [List.length_nil]); omega) (by omega), ?_⟩ | refine ⟨by omega, ?_⟩ | refine ⟨len_flat (by omega), ?_⟩ | refine ⟨apart_uv _ _ _, ?_⟩ | refine ⟨_, resSlot_own rfl (by omega) (by first | exact .inl rfl | exact .inr ⟨rfl, rfl⟩), ?_⟩ | refine ⟨(by kernel_rfl : regB _ = true), ?_⟩ | refine ⟨⟨rfl, inI_of (by omega), by decide⟩, ?_⟩ | refine ⟨⟨rfl, by (try simp only); (try simp only [e3]); exact inI_of (by omega), by decide⟩, ?_⟩ | (apply Exists.intro; refine ⟨?_, ?_⟩; ((try simp only); (try simp only [e3]); (try simp only [Nat.zero_add]); (try simp only [Nat.mul_one]); (try simp only [Int.toNat_natCast]); (try simp only [e3]); (try simp only [Nat.zero_add]); (try simp only [Nat.mul_one]); (try simp only [Int.toNat_natCast]); exact at_drop_g (by omega))) | (apply Exists.intro; refine ⟨?_, ?_⟩; ((try simp only); (try simp only [e3]); (try simp only [Nat.zero_add]); (try simp only [Nat.mul_one]); (try simp only [Int.toNat_natCast]); (try simp only [e3]); (try simp only [Nat.zero_add]); (try simp only [Nat.mul_one]); (try simp only [Int.toNat_natCast]); exact cut_rest (by omega)))); conv => whnf))
      have e1 : IntKind.i64.wrap ((j : Int) + 1) = ((j + 1 : Nat) : Int) := by rw [wrap64 (by omega)]; omega
      have e2 := upd_set (nxF b t) b (i := j) (by omega)
      have e4 : g (upd (nxF b t) b j) j = g b j := by rw [g_upd (by omega), if_neg (by omega)]
      rw [e4]
      refine ⟨[10, 11, 12, 13, 15, 16, 17, 18, 19, 20, 22, 23, 24, 25, 26, 27, 28, 29, 30, 31, 32, 33, 34, 35, 36, 37, 38, 39, 40, 41, 42, 43, 44, 45, 46, 47, 48, 49, 50, 51, 52, 53, 54, 55, 56, 57, 58, 59, 60, 61, 62, 63], [], _, ?_, j + 1, rfl, by omega, ?_⟩
      · omega
      · rw [← e1, ← e2]; kernel_rfl
    · have h2 := of_decide_eq_false h2
      have hj' : j = 4 := by omega
      subst hj'
      clear h2
      have hnl := nx1_len b t (pw2 i)
      ((conv => whnf); repeat ((first | refine ⟨_, rfl, ?_⟩ | refine ⟨by decide, ?_⟩ | refine ⟨rfl, ?_⟩ | refine ⟨fun _ => ?_, fun h => absurd h (by decide)⟩ | refine ⟨fun h => absurd h (by decide), fun _ => ?_⟩ | refine ⟨inI_of (by omega), ?_⟩ | refine ⟨⟨rfl, inI_of (by omega)⟩, ?_⟩ | refine ⟨⟨rfl, by decide⟩, ?_⟩ | (apply Exists.intro; refine ⟨?_, ?_⟩; ((try simp only); (try simp only [Nat.zero_add]); (try simp only [Nat.mul_one]); (try simp only [Int.toNat_natCast]); exact at_g (by omega))) | (apply Exists.intro; refine ⟨?_, ?_⟩; ((try simp only); (try simp only [Nat.zero_add]); (try simp only [Nat.mul_one]); (try simp only [Int.toNat_natCast]); exact put_flat (by omega))) | refine ⟨_, cut_all (by omega), ?_⟩ | refine ⟨_, lay_all (by omega) (by omega), ?_⟩ | refine ⟨_, lay_all (by (try simp only); (try simp only [List.length_replicate]); (try simp only [List.length_cons]); (try simp only [List.length_nil]); omega) (by omega), ?_⟩ | refine ⟨by omega, ?_⟩ | refine ⟨len_flat (by omega), ?_⟩ | refine ⟨apart_uv _ _ _, ?_⟩ | refine ⟨_, resSlot_own rfl (by omega) (by first | exact .inl rfl | exact .inr ⟨rfl, rfl⟩), ?_⟩ | refine ⟨(by kernel_rfl : regB _ = true), ?_⟩ | refine ⟨⟨rfl, inI_of (by omega), by decide⟩, ?_⟩ | (apply Exists.intro; refine ⟨?_, ?_⟩; ((try simp only); (try simp only [Nat.zero_add]); (try simp only [Nat.mul_one]); (try simp only [Int.toNat_natCast]); exact at_drop_g (by omega))) | (apply Exists.intro; refine ⟨?_, ?_⟩; ((try simp only); (try simp only [Nat.zero_add]); (try simp only [Nat.mul_one]); (try simp only [Int.toNat_natCast]); exact cut_rest (by omega)))); conv => whnf))
      refine .inl ⟨fun n st => ∃ m : Nat, n = 12 - m ∧ m ≤ 12 ∧ st = ⟨[arr8 key, arr8 t, .ptr 16 0, .ptr 24 0, .ptr 32 0, .ptr 40 0, iv .u8 (pw2 i), iv .i64 i, .ptr 64 0, .ptr 72 0, .poison, iv .i64 (m + 4 : Nat), .poison, .poison, iv .i64 i, .poison, .poison, .poison, .poison, .poison, .poison, .poison, .poison, .poison, .poison, .poison, .poison, .poison, .poison, .poison, .poison, .poison, .poison, .poison, .poison, .poison, .poison, .poison, .poison, .poison, .poison, .poison, .poison, .poison, .poison, .poison, .poison, .poison, .poison, .poison, .poison, .poison, .poison, .poison, .poison, .poison, .poison, .poison, .poison, .poison, .poison, .poison, .poison, .poison],
        [(16, ⟨.flat .u8 key, 54, false⟩), (24, ⟨.flat .u8 t, 51, false⟩), (32, ⟨.flat .u8 (List.replicate 176 0), 55, false⟩), (40, ⟨.flat .u8 (rT key t i), 55, false⟩), (64, ⟨.flat .u8 b, 54, false⟩), (72, ⟨.flat .u8 (ch (nx1 b t (pw2 i)) m), 54, false⟩)]⟩,
        ⟨[10, 12, 13, 15, 16, 17, 18, 19, 20, 21, 22, 23, 24, 25, 26, 27, 28, 29, 30, 31, 32, 33, 34, 35, 36, 37, 38, 39, 40, 41, 42, 43, 44, 45, 46, 47, 48, 49, 50, 51, 52, 53, 54, 55, 56, 57, 58, 59, 60, 61, 62, 63], [], 12, 0, rfl, by omega, by kernel_rfl⟩, ?_⟩
      rintro _ _ ⟨m, rfl, hm, rfl⟩
      have hcl := ch_len (nx1 b t (pw2 i)) m
      conv => whnf
      refine ⟨fun h2 => ?_, fun h2 => ?_⟩
      · have h2 := of_decide_eq_true h2
        have e3 : IntKind.i64.wrap (((m + 4 : Nat) : Int) - 4) = (m : Int) := by rw [wrap64 (by omega)]; omega
        ((conv => whnf); repeat ((first | refine ⟨_, rfl, ?_⟩ | refine ⟨by decide, ?_⟩ | refine ⟨rfl, ?_⟩ | refine ⟨fun _ => ?_, fun h => absurd h (by decide)⟩ | refine ⟨fun h => absurd h (by decide), fun _ => ?_⟩ | refine ⟨inI_of (by omega), ?_⟩ | refine ⟨⟨rfl, inI_of (by omega)⟩, ?_⟩ | refine ⟨⟨rfl, by decide⟩, ?_⟩ | refine ⟨by (try simp only); (try simp only [e3]); exact inI_of (by omega), ?_⟩ | refine ⟨⟨rfl, by (try simp only); (try simp only [e3]); exact inI_of (by omega)⟩, ?_⟩ | (apply Exists.intro; refine ⟨?_, ?_⟩; ((try simp only); (try simp only [e3]); (try simp only [Nat.zero_add]); (try simp only [Nat.mul_one]); (try simp only [Int.toNat_natCast]); (try simp only [e3]); (try simp only [Nat.zero_add]); (try simp only [Nat.mul_one]); (try simp only [Int.toNat_natCast]); exact at_g (by omega))) | (apply Exists.intro; refine ⟨?_, ?_⟩; ((try simp only); (try simp only [e3]); (try simp only [Nat.zero_add]); (try simp only [Nat.mul_one]); (try simp only [Int.toNat_natCast]); (try simp only [e3]); (try simp only [Nat.zero_add]); (try simp only [Nat.mul_one]); (try simp only [Int.toNat_natCast]); exact put_flat (by omega))) | refine ⟨_, cut_all (by omega), ?_⟩ | refine ⟨_, lay_all (by omega) (by omega), ?_⟩ | refine ⟨_, lay_all (by (try simp only); (try simp only [List.length_replicate]); (try simp only [List.length_cons]); (try simp only [List.length_nil]); omega) (by omega), ?_⟩ | refine ⟨by omega, ?_⟩ | refine ⟨len_flat (by omega), ?_⟩ | refine ⟨apart_uv _ _ _, ?_⟩ | refine ⟨_, resSlot_own rfl (by omega) (by first | exact .inl rfl | exact .inr ⟨rfl, rfl⟩), ?_⟩ | refine ⟨(by kernel_rfl : regB _ = true), ?_⟩ | refine ⟨⟨rfl, inI_of (by omega), by decide⟩, ?_⟩ | refine ⟨⟨rfl, by (try simp only); (try simp only [e3]); exact inI_of (by omega), by decide⟩, ?_⟩ | (apply Exists.intro; refine ⟨?_, ?_⟩; ((try simp only); (try simp only [e3]); (try simp only [Nat.zero_add]); (try simp only [Nat.mul_one]); (try simp only [Int.toNat_natCast]); (try simp only [e3]); (try simp only [Nat.zero_add]); (try simp only [Nat.mul_one]); (try simp only [Int.toNat_natCast]); exact at_drop_g (by omega))) | (apply Exists.intro; refine ⟨?_, ?_⟩; ((try simp only); (try simp only [e3]); (try simp only [Nat.zero_add]); (try simp only [Nat.mul_one]); (try simp only [Int.toNat_natCast]); (try simp only [e3]); (try simp only [Nat.zero_add]); (try simp only [Nat.mul_one]); (try simp only [Int.toNat_natCast]); exact cut_rest (by omega)))); conv => whnf))
        have e1 : IntKind.i64.wrap (((m + 4 : Nat) : Int) + 1) = ((m + 1 + 4 : Nat) : Int) := by rw [wrap64 (by omega)]; omega
        refine ⟨[10, 12, 13, 15, 16, 17, 18, 19, 20, 21, 22, 23, 24, 25, 26, 27, 28, 29, 30, 31, 32, 33, 34, 35, 36, 37, 38, 39, 40, 41, 42, 43, 44, 45, 46, 47, 48, 49, 50, 51, 52, 53, 54, 55, 56, 57, 58, 59, 60, 61, 62, 63], [], _, ?_, m + 1, rfl, by omega, ?_⟩
        · omega
        · rw [← e1]; kernel_rfl
      · have h2 := of_decide_eq_false h2
        have hm' : m = 12 := by omega
        subst hm'
        clear h2
        have e1 : IntKind.i64.wrap ((i : Int) + 1) = ((i + 1 : Nat) : Int) := by rw [wrap64 (by omega)]; omega
        have layI : layOne (.flat .u8 (rT key t i)) (0 + (IntKind.i64.wrap ((i : Int) + 1)).toNat * 16) (.flat .u8 (ch (nx1 b t (pw2 i)) 12)) = some (.flat .u8 (rT key t (i + 1))) := by
          have hn : ch (nx1 b t (pw2 i)) 12 = kkP key t (i + 1) := by rw [hb]; rfl
          have hkl := kk_len (t := t) hk (i + 1)
          rw [hn, e1, show 0 + ((i + 1 : Nat) : Int).toNat * 16 = 16 * (i + 1) by omega, lay_flat (by omega) (by omega), rT_lay hk (by omega)]
        obtain ⟨nb, hnb⟩ : ∃ nb, nb = ch (nx1 b t (pw2 i)) 12 := ⟨_, rfl⟩
        rw [← hnb] at layI hcl ⊢
        ((conv => whnf); repeat ((first | refine ⟨_, layI, ?_⟩ | refine ⟨_, rfl, ?_⟩ | refine ⟨by decide, ?_⟩ | refine ⟨rfl, ?_⟩ | refine ⟨fun _ => ?_, fun h => absurd h (by decide)⟩ | refine ⟨fun h => absurd h (by decide), fun _ => ?_⟩ | refine ⟨inI_of (by omega), ?_⟩ | refine ⟨⟨rfl, inI_of (by omega)⟩, ?_⟩ | refine ⟨⟨rfl, by decide⟩, ?_⟩ | refine ⟨by (try simp only); (try simp only [e1]); exact inI_of (by omega), ?_⟩ | refine ⟨⟨rfl, by (try simp only); (try simp only [e1]); exact inI_of (by omega)⟩, ?_⟩ | (apply Exists.intro; refine ⟨?_, ?_⟩; ((try simp only); (try simp only [e1]); (try simp only [Nat.zero_add]); (try simp only [Nat.mul_one]); (try simp only [Int.toNat_natCast]); (try simp only [e1]); (try simp only [Nat.zero_add]); (try simp only [Nat.mul_one]); (try simp only [Int.toNat_natCast]); exact at_g (by omega))) | (apply Exists.intro; refine ⟨?_, ?_⟩; ((try simp only); (try simp only [e1]); (try simp only [Nat.zero_add]); (try simp only [Nat.mul_one]); (try simp only [Int.toNat_natCast]); (try simp only [e1]); (try simp only [Nat.zero_add]); (try simp only [Nat.mul_one]); (try simp only [Int.toNat_natCast]); exact put_flat (by omega))) | refine ⟨_, cut_all (by omega), ?_⟩ | refine ⟨_, lay_all (by omega) (by omega), ?_⟩ | refine ⟨_, lay_all (by (try simp only); (try simp only [List.length_replicate]); (try simp only [List.length_cons]); (try simp only [List.length_nil]); omega) (by omega), ?_⟩ | refine ⟨by omega, ?_⟩ | refine ⟨len_flat (by omega), ?_⟩ | refine ⟨apart_uv _ _ _, ?_⟩ | refine ⟨_, resSlot_own rfl (by omega) (by first | exact .inl rfl | exact .inr ⟨rfl, rfl⟩), ?_⟩ | refine ⟨(by kernel_rfl : regB _ = true), ?_⟩ | refine ⟨⟨rfl, inI_of (by omega), by decide⟩, ?_⟩ | refine ⟨⟨rfl, by (try simp only); (try simp only [e1]); exact inI_of (by omega), by decide⟩, ?_⟩ | (apply Exists.intro; refine ⟨?_, ?_⟩; ((try simp only); (try simp only [e1]); (try simp only [Nat.zero_add]); (try simp only [Nat.mul_one]); (try simp only [Int.toNat_natCast]); (try simp only [e1]); (try simp only [Nat.zero_add]); (try simp only [Nat.mul_one]); (try simp only [Int.toNat_natCast]); exact at_drop_g (by omega))) | (apply Exists.intro; refine ⟨?_, ?_⟩; ((try simp only); (try simp only [e1]); (try simp only [Nat.zero_add]); (try simp only [Nat.mul_one]); (try simp only [Int.toNat_natCast]); (try simp only [e1]); (try simp only [Nat.zero_add]); (try simp only [Nat.mul_one]); (try simp only [Int.toNat_natCast]); exact cut_rest (by omega)))); conv => whnf))
        refine ⟨[7, 8, 9, 10, 11, 12, 13, 15, 16, 17, 18, 19, 20, 21, 22, 23, 24, 25, 26, 27, 28, 29, 30, 31, 32, 33, 34, 35, 36, 37, 38, 39, 40, 41, 42, 43, 44, 45, 46, 47, 48, 49, 50, 51, 52, 53, 54, 55, 56, 57, 58, 59, 60, 61, 62, 63], [64, 72], _, ?_, i + 1, rfl, by omega, ?_⟩
        · omega
        · rw [← e1]; kernel_rfl
  · have h := of_decide_eq_false h
    have hi' : i = 10 := by omega
    subst hi'
    obtain ⟨R, hR⟩ : ∃ R, R = rT key t 10 := ⟨_, rfl⟩
    rw [← hR] at hl ⊢
    ((conv => whnf); repeat ((first | refine ⟨_, rfl, ?_⟩ | refine ⟨by decide, ?_⟩ | refine ⟨rfl, ?_⟩ | refine ⟨fun _ => ?_, fun h => absurd h (by decide)⟩ | refine ⟨fun h => absurd h (by decide), fun _ => ?_⟩ | refine ⟨inI_of (by omega), ?_⟩ | refine ⟨⟨rfl, inI_of (by omega)⟩, ?_⟩ | refine ⟨⟨rfl, by decide⟩, ?_⟩ | (apply Exists.intro; refine ⟨?_, ?_⟩; ((try simp only); (try simp only [Nat.zero_add]); (try simp only [Nat.mul_one]); (try simp only [Int.toNat_natCast]); exact at_g (by omega))) | (apply Exists.intro; refine ⟨?_, ?_⟩; ((try simp only); (try simp only [Nat.zero_add]); (try simp only [Nat.mul_one]); (try simp only [Int.toNat_natCast]); exact put_flat (by omega))) | refine ⟨_, cut_all (by omega), ?_⟩ | refine ⟨_, lay_all (by omega) (by omega), ?_⟩ | refine ⟨_, lay_all (by (try simp only); (try simp only [List.length_replicate]); (try simp only [List.length_cons]); (try simp only [List.length_nil]); omega) (by omega), ?_⟩ | refine ⟨by omega, ?_⟩ | refine ⟨len_flat (by omega), ?_⟩ | refine ⟨apart_uv _ _ _, ?_⟩ | refine ⟨_, resSlot_own rfl (by omega) (by first | exact .inl rfl | exact .inr ⟨rfl, rfl⟩), ?_⟩ | refine ⟨(by kernel_rfl : regB _ = true), ?_⟩ | refine ⟨⟨rfl, inI_of (by omega), by decide⟩, ?_⟩ | (apply Exists.intro; refine ⟨?_, ?_⟩; ((try simp only); (try simp only [Nat.zero_add]); (try simp only [Nat.mul_one]); (try simp only [Int.toNat_natCast]); exact at_drop_g (by omega))) | (apply Exists.intro; refine ⟨?_, ?_⟩; ((try simp only); (try simp only [Nat.zero_add]); (try simp only [Nat.mul_one]); (try simp only [Int.toNat_natCast]); exact cut_rest (by omega)))); conv => whnf))
    rfl
end Go.Proofs.Ytgkccfjjjamhoaa
