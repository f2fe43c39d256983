/-
  The answer of layer 4: SHA-512 of any bytes.
-/
import Derived.Test.YtomeeeakaejokaaRefB512
namespace Go.Proofs.Ytomeeeakaejokaa
open Go.RowKit

/-- The eight words behind the first n blocks of p. -/
def chain64 (p : List Int) : Nat → W8
  | 0 => ⟨7640891576956012808, 13503953896175478587, 4354685564936845355, 11912009170470909681, 5840696475078001361, 11170449401992604703, 2270897969802886507, 6620516959819538809⟩
  | n + 1 => block64 (chain64 p n) ((p.drop (128 * n)).take 128)
/-- The first j of a word's eight bytes, the highest first. -/
def outWord64 (x : Int) (j : Nat) : List Int := (List.range j).map fun i => byteAt x (7 - i)
theorem outWord64_len (x : Int) (j : Nat) : (outWord64 x j).length = j := by simp [outWord64]
theorem outWord64_succ (x : Int) (q : Nat) (hq : q < 8) : outWord64 x (7 - q) ++ [byteAt x q] = outWord64 x (8 - q) := by
  rw [show 8 - q = (7 - q) + 1 by omega, outWord64, outWord64, List.range_succ, List.map_append, show 7 - q = 7 - q from rfl]
  simp [show 7 - (7 - q) = q by omega]
/-- The bytes of the first i words. -/
def outs64 (l : List Int) : Nat → List Int
  | 0 => []
  | i + 1 => outs64 l i ++ outWord64 (l.getD i 0) 8
theorem outs64_len (l : List Int) : ∀ i, (outs64 l i).length = 8 * i
  | 0 => rfl
  | i + 1 => by rw [outs64, List.length_append, outs64_len l i, outWord64_len]; omega
def padded512 (b : List Int) : List Int := padL b ((239 - b.length % 128) % 128 + 8) 8
def sha512 (b : List Int) : List Int := outs64 (chain64 (padded512 b) ((padded512 b).length / 128)).list 8

def Sum512Post (b : List Int) (w : World) (e : Ending) (w' : World) : Prop :=
  ∃ v, e = .returned v ∧ OwnI .u8 5 w.heap.size w' v (sha512 b) ∧ Keeps (fun _ => False) w w'
def Chain512 (p : List Int) (g3 : Nat) (wp : World) (i : Value) (wr : World) : Prop :=
  ∃ n : Nat, i = .int .i64 ((128 * n : Nat) : Int) ∧ 128 * n ≤ p.length ∧ wr.heap[g3]? = some (.cells ((chain64 p n).cells .u64) 58 (0, 0)) ∧ Keeps (· = g3) wp wr
def Word512 (l : List Int) (n : Nat) (x : Int) (base : Nat) (wp : World) (v i : Value) (wr : World) : Prop :=
  ∃ k : Nat, k ≤ 8 ∧ i = .int .i64 ((k : Int) - 1) ∧ OwnI .u8 5 base wr v (outs64 l n ++ outWord64 x (8 - k)) ∧ Keeps (fun g => base ≤ g) wp wr
def Outs512 (l : List Int) (base : Nat) (wp : World) (v i : Value) (wr : World) : Prop :=
  ∃ n : Nat, i = .int .i64 n ∧ n ≤ 8 ∧ OwnI .u8 5 base wr v (outs64 l n) ∧ Keeps (fun g => base ≤ g) wp wr

end Go.Proofs.Ytomeeeakaejokaa
