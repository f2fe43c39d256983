/-
  Layer 6: the program's small functions, by the machine of plain values.
-/
import Derived.Test.YtgkccfjjjamhoaaLst
import Derived.Test.YtgkccfjjjamhoaaTypes
namespace Go.Proofs.Ytgkccfjjjamhoaa
open Go.RowKit

theorem len16 {l : List Int} (h : l.length = 16) : ∃ a0 a1 a2 a3 a4 a5 a6 a7 a8 a9 a10 a11 a12 a13 a14 a15, l = [a0, a1, a2, a3, a4, a5, a6, a7, a8, a9, a10, a11, a12, a13, a14, a15] := by
  match l, h with
  | [a0, a1, a2, a3, a4, a5, a6, a7, a8, a9, a10, a11, a12, a13, a14, a15], _ => exact ⟨a0, a1, a2, a3, a4, a5, a6, a7, a8, a9, a10, a11, a12, a13, a14, a15, rfl⟩


def dbl (b : Int) : Int := x8 (IntKind.u8.wrap (b * 2 ^ 1)) (IntKind.u8.wrap (b.fdiv (2 ^ 7) * 27))
def rotL (b : Int) (m : Nat) : Int := bits .or .u8 (IntKind.u8.wrap (b * 2 ^ m)) (b.fdiv (2 ^ (8 - m)))
def subP (b : Int) : Int := x8 (x8 (x8 (x8 (x8 b 99) (rotL b 1)) (rotL b 2)) (rotL b 3)) (rotL b 4)

def plusP (a b : List Int) : List Int := (List.range 16).map fun i => x8 (g a i) (g b i)
def shiftP (l : List Int) : List Int := (List.range 16).map fun i => g l ((i + 4 * (i % 4)) % 16)
def unshiftP (l : List Int) : List Int := (List.range 16).map fun i => g l ((i + 12 * (i % 4)) % 16)
def mixAt (l : List Int) (c r : Nat) : Int := x8 (g l (c + r)) (x8 (x8 (x8 (x8 (g l c) (g l (c + 1))) (g l (c + 2))) (g l (c + 3))) (dbl (x8 (g l (c + r)) (g l (c + (r + 1) % 4)))))
def mixP (l : List Int) : List Int := (List.range 16).map fun i => mixAt l (i / 4 * 4) (i % 4)

def E0 : Env := ⟨tyL, fun _ _ => none, false, noWk, noOrw⟩
theorem E0_ok : EnvOk Try.prog E0 := ⟨tyL_ok, (fun _ _ _ h => by cases h), noOrw_ok⟩

theorem dbl_call (b : Int) : CallOk Try.prog 51 [iv .u8 b] (ret1 (iv .u8 (dbl b))) :=
  runF_ok follows_ok E0_ok Try.func51 (fuel := 100) (by kernel_rfl)
theorem rot8_call (b n : Int) (m : Nat) (h : n = m) (h1 : 1 ≤ m) (h2 : m ≤ 4) : CallOk Try.prog 61 [iv .u8 b, iv .i64 n] (ret1 (iv .u8 (rotL b m))) := by
  subst h
  have hm : m = 1 ∨ m = 2 ∨ m = 3 ∨ m = 4 := by omega
  rcases hm with rfl | rfl | rfl | rfl <;> exact runF_ok follows_ok E0_ok Try.func61 (fuel := 100) (by kernel_rfl)
theorem from_call (m : Nat) (h : m < 16) : CallOk Try.prog 53 [iv .i64 m] (ret1 (iv .i64 ((m + 4 * (m % 4)) % 16 : Nat))) := by
  have hm : m = 0 ∨ m = 1 ∨ m = 2 ∨ m = 3 ∨ m = 4 ∨ m = 5 ∨ m = 6 ∨ m = 7 ∨ m = 8 ∨ m = 9 ∨ m = 10 ∨ m = 11 ∨ m = 12 ∨ m = 13 ∨ m = 14 ∨ m = 15 := by omega
  rcases hm with rfl | rfl | rfl | rfl | rfl | rfl | rfl | rfl | rfl | rfl | rfl | rfl | rfl | rfl | rfl | rfl <;> exact runF_ok follows_ok E0_ok Try.func53 (fuel := 100) (by kernel_rfl)

def orcA (f : Nat) (ds : List LV) : Option LRes :=
  match f with
  | 51 => match ds with
    | [.v (.int .u8 b)] => some (ret1 (iv .u8 (dbl b)))
    | _ => none
  | 61 => match ds with
    | [.v (.int .u8 b), .v (.int .i64 (.ofNat m))] => if 1 ≤ m ∧ m ≤ 4 then some (ret1 (iv .u8 (rotL b m))) else none
    | _ => none
  | 53 => match ds with
    | [.v (.int .i64 (.ofNat m))] => if m < 16 then some (ret1 (iv .i64 ((m + 4 * (m % 4)) % 16 : Nat))) else none
    | _ => none
  | _ => none
theorem orcA_ok : Known Try.prog orcA := by
  intro f ds r h
  unfold orcA at h
  split at h
  · split at h
    · cases h
      exact ⟨⟨_, Try.func51, name_ne _ (by kernel_rfl), rfl⟩, dbl_call _⟩
    · cases h
  · split at h
    · split at h
      · rename_i hc
        cases h
        exact ⟨⟨_, Try.func61, name_ne _ (by kernel_rfl), rfl⟩, rot8_call _ _ _ rfl hc.1 hc.2⟩
      · cases h
    · cases h
  · split at h
    · split at h
      · rename_i hc
        cases h
        exact ⟨⟨_, Try.func53, name_ne _ (by kernel_rfl), rfl⟩, from_call _ hc⟩
      · cases h
    · cases h
  · cases h
def EA : Env := ⟨tyL, orcA, false, noWk, noOrw⟩
theorem EA_ok : EnvOk Try.prog EA := ⟨tyL_ok, orcA_ok, noOrw_ok⟩

theorem sub_call (b : Int) : CallOk Try.prog 52 [iv .u8 b] (ret1 (iv .u8 (subP b))) :=
  runF_ok follows_ok EA_ok Try.func52 (fuel := 100) (by kernel_rfl)
theorem plus_call (a b : List Int) (ha : a.length = 16) (hb : b.length = 16) : CallOk Try.prog 35 [arr8 a, arr8 b] (ret1 (arr8 (plusP a b))) := by
  obtain ⟨a0, a1, a2, a3, a4, a5, a6, a7, a8, a9, a10, a11, a12, a13, a14, a15, rfl⟩ := len16 ha
  obtain ⟨b0, b1, b2, b3, b4, b5, b6, b7, b8, b9, b10, b11, b12, b13, b14, b15, rfl⟩ := len16 hb
  exact runF_ok follows_ok EA_ok Try.func35 (fuel := 100) (by kernel_rfl)
theorem shift_call (a : List Int) (ha : a.length = 16) : CallOk Try.prog 36 [arr8 a] (ret1 (arr8 (shiftP a))) := by
  obtain ⟨a0, a1, a2, a3, a4, a5, a6, a7, a8, a9, a10, a11, a12, a13, a14, a15, rfl⟩ := len16 ha
  exact runF_ok follows_ok EA_ok Try.func36 (fuel := 100) (by kernel_rfl)
theorem mix_call (a : List Int) (ha : a.length = 16) : CallOk Try.prog 38 [arr8 a] (ret1 (arr8 (mixP a))) := by
  obtain ⟨a0, a1, a2, a3, a4, a5, a6, a7, a8, a9, a10, a11, a12, a13, a14, a15, rfl⟩ := len16 ha
  exact runF_ok follows_ok EA_ok Try.func38 (fuel := 100) (by kernel_rfl)
theorem read_call (a : List Int) (n : Nat) (c : Option Nat) (ha : a.length = 16) (hn : n = 16) : CallOk Try.prog 34 [.im 1 n c (.flat .u8 a)] (ret1 (arr8 a)) := by
  subst hn
  obtain ⟨a0, a1, a2, a3, a4, a5, a6, a7, a8, a9, a10, a11, a12, a13, a14, a15, rfl⟩ := len16 ha
  exact runF_ok follows_ok EA_ok Try.func34 (fuel := 100) (by kernel_rfl)
end Go.Proofs.Ytgkccfjjjamhoaa
