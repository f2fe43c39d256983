/-
  The answer of layer 4: one block of SHA-512.
-/
import Derived.Test.YtomeeeakaejokaaRefB256
namespace Go.Proofs.Ytomeeeakaejokaa
open Go.RowKit

/-- The first i bytes of the word of a block that begins at byte 8 t. -/
def part64 (b : List Int) (t : Nat) : Nat → Int
  | 0 => 0
  | i + 1 => bits .or .u64 (part64 b t i * 256 % 18446744073709551616) (b.getD (8 * t + i) 0)
def word64 (b : List Int) (t : Nat) : Int := part64 b t 8
def next64 (l : List Int) (t : Nat) : Int :=
  (bits .xor .u64 (bits .xor .u64 (ror64 (l.getD (t - 2) 0) 19) (ror64 (l.getD (t - 2) 0) 61)) (l.getD (t - 2) 0 / 64) + l.getD (t - 7) 0 +
    bits .xor .u64 (bits .xor .u64 (ror64 (l.getD (t - 15) 0) 1) (ror64 (l.getD (t - 15) 0) 8)) (l.getD (t - 15) 0 / 128) + l.getD (t - 16) 0) % 18446744073709551616
/-- The first t words of the schedule. -/
def sched64 (b : List Int) : Nat → List Int
  | 0 => []
  | t + 1 => sched64 b t ++ [if t < 16 then word64 b t else next64 (sched64 b t) t]
theorem sched64_len (b : List Int) : ∀ t, (sched64 b t).length = t
  | 0 => rfl
  | t + 1 => by simp [sched64, sched64_len b t]

/-- The cells of the schedule's array, t words of it made. -/
def schedCells64 (b : List Int) (t : Nat) : List Int := sched64 b t ++ List.replicate (80 - t) 0


theorem schedCells64_set (b : List Int) (t : Nat) (x : Int) (h : t < 80) (hx : x = if t < 16 then word64 b t else next64 (sched64 b t) t) : (schedCells64 b t).set t x = schedCells64 b (t + 1) := by
  have h1 := set_pad (sched64 b t) 80 x (by rw [sched64_len]; exact h)
  rw [sched64_len] at h1
  rw [schedCells64, h1, schedCells64, sched64, hx]
theorem schedCells64_len (b : List Int) (t : Nat) (h : t ≤ 80) : (schedCells64 b t).length = 80 := by simp [schedCells64, sched64_len]; omega
theorem schedCells64_old (b : List Int) (t i : Nat) (h : i < t) : (schedCells64 b t).getD i 0 = (sched64 b t).getD i 0 := by
  simp [schedCells64, List.getD_eq_getElem?_getD, List.getElem?_append, sched64_len, h]
theorem schedCells64_new (b : List Int) (t i : Nat) (h : t ≤ i) : (schedCells64 b t).getD i 0 = 0 := by
  rw [schedCells64, List.getD_eq_getElem?_getD, List.getElem?_append_right (by rw [sched64_len]; exact h), List.getElem?_replicate]
  split <;> rfl

def Sched512 (b : List Int) (gw : Nat) (w2 : World) (i : Value) (wr : World) : Prop :=
  ∃ t : Nat, i = .int .i64 t ∧ t ≤ 80 ∧ wr.heap[gw]? = some (.cells (wordsOf .u64 (schedCells64 b t)) 66 (0, 0)) ∧ Keeps (· = gw) w2 wr

def sumE64 (s : W8) (k w : Int) : Int :=
  s.h + bits .xor .u64 (bits .xor .u64 (ror64 s.e 14) (ror64 s.e 18)) (ror64 s.e 41) +
    bits .xor .u64 (bits .and .u64 s.e s.f) (bits .and .u64 (bits .xor .u64 IntKind.u64.max s.e) s.g) + k + w
def sumA64 (s : W8) : Int :=
  bits .xor .u64 (bits .xor .u64 (ror64 s.a 28) (ror64 s.a 34)) (ror64 s.a 39) +
    bits .xor .u64 (bits .xor .u64 (bits .and .u64 s.a s.b) (bits .and .u64 s.a s.c)) (bits .and .u64 s.b s.c)
/-- The schedule's cells while word t is made, i bytes of it read. -/
def schedPart (b : List Int) (t i : Nat) : List Int := (sched64 b t ++ [part64 b t i]) ++ List.replicate (80 - (t + 1)) 0
theorem schedPart_zero (b : List Int) (t : Nat) (h : t < 80) : schedPart b t 0 = schedCells64 b t := by
  rw [schedPart, schedCells64, show 80 - t = (80 - (t + 1)) + 1 by omega, List.replicate_succ, List.append_assoc]; rfl
theorem schedPart_full (b : List Int) (t : Nat) (h : t < 16) : schedPart b t 8 = schedCells64 b (t + 1) := by
  rw [schedPart, schedCells64, sched64, if_pos h]; rfl
theorem schedPart_len (b : List Int) (t i : Nat) (h : t < 80) : (schedPart b t i).length = 80 := by simp [schedPart, sched64_len]; omega
theorem schedPart_get (b : List Int) (t i : Nat) : (schedPart b t i).getD t 0 = part64 b t i := by
  rw [schedPart, List.append_assoc, List.getD_eq_getElem?_getD, List.getElem?_append_right (by rw [sched64_len]; exact Nat.le_refl _), sched64_len]; simp
theorem schedPart_set (b : List Int) (t i : Nat) (x : Int) (hx : x = part64 b t (i + 1)) : (schedPart b t i).set t x = schedPart b t (i + 1) := by
  subst hx
  rw [schedPart, schedPart, List.append_assoc, List.set_append_right _ _ (by rw [sched64_len]; exact Nat.le_refl _), sched64_len]; simp
def Bytes512 (b : List Int) (t gw : Nat) (wo : World) (i : Value) (wr : World) : Prop :=
  ∃ k : Nat, i = .int .i64 k ∧ k ≤ 8 ∧ wr.heap[gw]? = some (.cells (wordsOf .u64 (schedPart b t k)) 66 (0, 0)) ∧ Keeps (· = gw) wo wr
/-- One round. -/
def step64 (s : W8) (k w : Int) : W8 := ⟨(sumE64 s k w + sumA64 s) % 18446744073709551616, s.a, s.b, s.c, (s.d + sumE64 s k w) % 18446744073709551616, s.e, s.f, s.g⟩
def state64 (h : W8) (b : List Int) : Nat → W8
  | 0 => h
  | t + 1 => step64 (state64 h b t) (refKs.getD t 0) ((sched64 b 80).getD t 0)
def Rounds512 (h : W8) (b : List Int) (gs : Nat) (w3 : World) (i : Value) (wr : World) : Prop :=
  ∃ t : Nat, i = .int .i64 t ∧ t ≤ 80 ∧ wr.heap[gs]? = some (.cells ((state64 h b t).cells .u64) 58 (0, 0)) ∧ Keeps (· = gs) w3 wr

/-- What a block makes of the eight words. -/
def block64 (h : W8) (b : List Int) : W8 := add8 18446744073709551616 h (state64 h b 80)
def Adds512 (h s : W8) (gh : Nat) (w4 : World) (i : Value) (wr : World) : Prop :=
  ∃ t : Nat, i = .int .i64 t ∧ t ≤ 8 ∧ wr.heap[gh]? = some (.cells (wordsOf .u64 (sumTo 18446744073709551616 h s t)) 58 (0, 0)) ∧ Keeps (· = gh) w4 wr
def Blk512Post (h : W8) (b : List Int) (w : World) (e : Ending) (w' : World) : Prop :=
  e = .returned (.agg ((block64 h b).cells .u64)) ∧ Keeps (fun _ => False) w w'

end Go.Proofs.Ytomeeeakaejokaa
