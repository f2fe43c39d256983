/-
  The statements of layer 4, over what the program's functions promise: the sanity check, ShaBlocks.
-/
import Derived.Test.YtomeeeakaejokaaRefSum256
import Derived.Test.YtomeeeakaejokaaRefSum512
import Derived.Test.YtomeeeakaejokaaSome
import Derived.Lib.SlBytesConst
namespace Go.Proofs.Ytomeeeakaejokaa
open Go.RowKit

/-- What the program's four functions are asked to be. -/
def PSum256 : Prop := ∀ (a : Option Addr) (c : Nat) (b : List Int) (w : World), b.length ≤ 1000000 → CapOk a c b.length → RowAt (fun _ => True) .u8 w a b →
  Calls Try.prog 23 #[.slice a b.length c] w (Sum256Post b w)
def blocks256 (n : Int) : Int := if n < 0 then 0 else (n + 72) / 64
def blocks512 (n : Int) : Int := if n < 0 then 0 else (n + 144) / 128
def PBlocks256 : Prop := ∀ (n : Int) (w : World), n ≤ 1099511627776 → Calls Try.prog 24 #[.int .i64 n] w fun e w' => e = .returned (.int .i64 (blocks256 n)) ∧ w = w'
theorem sha256_len (b : List Int) : (sha256 b).length = 32 := by rw [sha256, outs32_len]
theorem sha512_len (b : List Int) : (sha512 b).length = 64 := by rw [sha512, outs64_len]

set_option maxRecDepth 1000000 in
theorem abc0 : (sha256 [97, 98, 99]).getD 0 0 = 186 := by kernel_rfl
set_option maxRecDepth 1000000 in
theorem abc1 : (sha256 [97, 98, 99]).getD 1 0 = 120 := by kernel_rfl
set_option maxRecDepth 1000000 in
theorem abc31 : (sha256 [97, 98, 99]).getD 31 0 = 173 := by kernel_rfl

theorem refB256 (n : Int) (w : World) (hn : n ≤ 1099511627776) : Calls Try.prog 32 #[.int .i64 n] w fun e w' => e = .returned (.int .i64 (blocks256 n)) ∧ w = w' := refBlocks256_any n w (by omega)
end Go.Proofs.Ytomeeeakaejokaa
