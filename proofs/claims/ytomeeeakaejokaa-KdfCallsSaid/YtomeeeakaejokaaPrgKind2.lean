/-
  The program's two kinds, made.
-/
import Derived.Test.YtomeeeakaejokaaPrgKind
namespace Go.Proofs.Ytomeeeakaejokaa
open Go.RowKit

theorem of_map (f : Int → Option Int) (ps vs : List Int) (m : Nat) (h : (ps.take m).map f = vs.map some) (hm : m ≤ ps.length) : ∀ i, i < vs.length → f (ps.getD i 0) = some (vs.getD i 0) := by
  intro i hi
  have h1 := congrArg (fun l => l[i]?) h
  have hl := congrArg List.length h
  simp only [List.length_map, List.length_take] at hl
  have hi' : i < ps.length := by omega
  simp only [List.getElem?_map, List.getElem?_take] at h1
  rw [if_pos (by omega), List.getElem?_eq_getElem hi', List.getElem?_eq_getElem hi] at h1
  simpa [List.getD_eq_getElem?_getD, List.getElem?_eq_getElem hi', List.getElem?_eq_getElem hi] using h1

def isU (k : IntKind) : Option Value → Bool
  | some (.int k' _) => k' == k
  | _ => false
theorem isU_spec {k : IntKind} {o : Option Value} (h : isU k o = true) : ∃ x, o = some (.int k x) := by
  unfold isU at h
  split at h
  · rw [beq_iff_eq] at h; subst h; exact ⟨_, rfl⟩
  · cases h


def fn (f : Nat) : Value := .func (.func f) #[] #[]

def start32 : List Int := refIs.map (· / 4294967296)
def keys32 : List Int := (refKs.take 64).map (· / 4294967296)
def kind32Of (s k : List Int) : Array Value := #[.int .i64 4, .int .i64 64] ++ wordsOf .u32 s ++ wordsOf .u32 k ++ #[fn 42, fn 44, fn 45, fn 46]
def kind32 : Array Value := kind32Of start32 (keys32 ++ List.replicate 16 0)
def kind32_0 : Array Value := kind32Of (List.replicate 8 0) (List.replicate 80 0)
def kind32_1 : Array Value := kind32Of start32 (List.replicate 80 0)
theorem kind32_over1 : overTo .u32 kind32_0 2 start32 8 = kind32_1 := by kernel_rfl
theorem kind32_over2 : overTo .u32 kind32_1 10 keys32 64 = kind32 := by kernel_rfl
theorem kind32_at0 : ∀ i, i < 8 → ∃ x, kind32_0[2 + i]? = some (.int .u32 x) := fun i hi => isU_spec ((show ∀ i : Fin 8, isU .u32 kind32_0[2 + i.val]? = true by decide +kernel) ⟨i, hi⟩)
theorem kind32_at1 : ∀ i, i < 64 → ∃ x, kind32_1[10 + i]? = some (.int .u32 x) := fun i hi => isU_spec ((show ∀ i : Fin 64, isU .u32 kind32_1[10 + i.val]? = true by decide +kernel) ⟨i, hi⟩)
theorem start32_fracs : ∀ i, i < start32.length → frac32W (primes80.getD i 0) 2 = some (start32.getD i 0) :=
  of_map (frac32W · 2) primes80 start32 8 (by rw [fracs32_squares, start32, List.map_map]; rfl) (by decide)
theorem keys32_fracs : ∀ i, i < keys32.length → frac32W (primes80.getD i 0) 3 = some (keys32.getD i 0) :=
  of_map (frac32W · 3) primes80 keys32 64 (by rw [fracs32_cubes, keys32, List.map_map]; rfl) (by decide)
theorem roots32_start (g c : Nat) (w : World) (hg : w.heap[g]? = some (.cells kind32_0 56 (0, 0))) :
    Calls Try.prog 47 #[.slice (some ⟨g, 2, none⟩) 8 c, .int .i64 2, .func (.func 48) #[] #[]] w (fun e w' =>
      e = .returned (.tuple #[]) ∧ w'.heap[g]? = some (.cells kind32_1 56 (0, 0)) ∧ Keeps (· = g) w w') := by
  have h := roots32_any 2 (.inl rfl) start32 start32_fracs (by decide) kind32_0 56 g 2 c w hg (fun i hi => kind32_at0 i hi)
  unfold RootsPost at h
  rw [show start32.length = 8 from rfl, kind32_over1] at h
  exact h
theorem roots32_keys (g c : Nat) (w : World) (hg : w.heap[g]? = some (.cells kind32_1 56 (0, 0))) :
    Calls Try.prog 47 #[.slice (some ⟨g, 10, none⟩) 64 c, .int .i64 3, .func (.func 48) #[] #[]] w (fun e w' =>
      e = .returned (.tuple #[]) ∧ w'.heap[g]? = some (.cells kind32 56 (0, 0)) ∧ Keeps (· = g) w w') := by
  have h := roots32_any 3 (.inr rfl) keys32 keys32_fracs (by decide) kind32_1 56 g 10 c w hg (fun i hi => kind32_at1 i hi)
  unfold RootsPost at h
  rw [show keys32.length = 64 from rfl, kind32_over2] at h
  exact h
theorem kind32_size : kind32.size = 94 := by kernel_rfl
theorem kind32_c0 : kind32[0]? = some (.int .i64 4) := by kernel_rfl
theorem kind32_c1 : kind32[1]? = some (.int .i64 64) := by kernel_rfl
theorem kind32_m1 : kind32[90]? = some (.func (.func 42) #[] #[]) := by kernel_rfl
theorem kind32_m0 : kind32[91]? = some (.func (.func 44) #[] #[]) := by kernel_rfl
theorem kind32_t1 : kind32[92]? = some (.func (.func 45) #[] #[]) := by kernel_rfl
theorem kind32_t0 : kind32[93]? = some (.func (.func 46) #[] #[]) := by kernel_rfl
theorem kind32_key : ∀ t, t < 64 → kind32[10 + t]? = some (.int .u32 (keys32.getD t 0)) := fun t h => by
  have h1 : kind32 = ((#[.int .i64 4, .int .i64 64] : Array Value) ++ wordsOf .u32 start32) ++ (wordsOf .u32 keys32 ++ (wordsOf .u32 (List.replicate 16 0) ++ #[fn 42, fn 44, fn 45, fn 46])) := by kernel_rfl
  have h2 : ((#[.int .i64 4, .int .i64 64] : Array Value) ++ wordsOf .u32 start32).size = 10 := by kernel_rfl
  rw [h1, Array.getElem?_append_right (by omega), h2, Nat.add_sub_cancel_left, Array.getElem?_append_left (by rw [wordsOf_size]; exact h), wordsOf_get _ _ _ h]

def start64 : List Int := refIs
def keys64 : List Int := refKs
theorem start64_fracs : ∀ i, i < start64.length → frac64W (primes80.getD i 0) 2 = some (start64.getD i 0) :=
  of_map (frac64W · 2) primes80 start64 8 (fracs64_squares) (by decide)
theorem keys64_fracs : ∀ i, i < keys64.length → frac64W (primes80.getD i 0) 3 = some (keys64.getD i 0) :=
  of_map (frac64W · 3) primes80 keys64 80 (by rw [show primes80.take 80 = primes80 from rfl]; exact fracs64_cubes) (by decide)
end Go.Proofs.Ytomeeeakaejokaa
