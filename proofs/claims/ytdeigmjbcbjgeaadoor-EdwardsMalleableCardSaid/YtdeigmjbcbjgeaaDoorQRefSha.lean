/-
  The answer of layer 4: its constants and initial values, numbers of blocks, rotations.
-/
import Derived.Deep.WholeRow
import Derived.Test.YtdeigmjbcbjgeaaDoorQBytes
import Derived.Test.YtdeigmjbcbjgeaaDoorQWord
namespace Go.Proofs.YtdeigmjbcbjgeaaDoor
open Go.RowKit

/-- The 80 constants of the answer, and its eight initial values. -/
def refKs : List Int := [4794697086780616226, 8158064640168781261, 13096744586834688815, 16840607885511220156, 4131703408338449720, 6480981068601479193, 10538285296894168987, 12329834152419229976, 15566598209576043074, 1334009975649890238, 2608012711638119052, 6128411473006802146, 8268148722764581231, 9286055187155687089, 11230858885718282805, 13951009754708518548, 16472876342353939154, 17275323862435702243, 1135362057144423861, 2597628984639134821, 3308224258029322869, 5365058923640841347, 6679025012923562964, 8573033837759648693, 10970295158949994411, 12119686244451234320, 12683024718118986047, 13788192230050041572, 14330467153632333762, 15395433587784984357, 489312712824947311, 1452737877330783856, 2861767655752347644, 3322285676063803686, 5560940570517711597, 5996557281743188959, 7280758554555802590, 8532644243296465576, 9350256976987008742, 10552545826968843579, 11727347734174303076, 12113106623233404929, 14000437183269869457, 14369950271660146224, 15101387698204529176, 15463397548674623760, 17586052441742319658, 1182934255886127544, 1847814050463011016, 2177327727835720531, 2830643537854262169, 3796741975233480872, 4115178125766777443, 5681478168544905931, 6601373596472566643, 7507060721942968483, 8399075790359081724, 8693463985226723168, 9568029438360202098, 10144078919501101548, 10430055236837252648, 11840083180663258601, 13761210420658862357, 14299343276471374635, 14566680578165727644, 15097957966210449927, 16922976911328602910, 17689382322260857208, 500013540394364858, 748580250866718886, 1242879168328830382, 1977374033974150939, 2944078676154940804, 3659926193048069267, 4368137639120453308, 4836135668995329356, 5532061633213252278, 6448918945643986474, 6902733635092675308, 7801388544844847127]
def refIs : List Int := [7640891576956012808, 13503953896175478587, 4354685564936845355, 11912009170470909681, 5840696475078001361, 11170449401992604703, 2270897969802886507, 6620516959819538809]

theorem wpList_build_to {P : Program} {ops : Array Oper} {rest : List Oper} {o : Oper} {a : Act} {w : World} {Q : Exit → Act → World → Prop} (hg : o.guard = none) (t : TypeId) (parts : Array (Nat × Operand)) (ho : o.op = .build t parts)
    (cs : Array Value) (hf : P.built t (parts.map fun (i, x) => (i, a.eval x)).toList = some cs)
    (h : wpList P ops Q rest (a.put o.dst (.agg cs)) w) : wpList P ops Q (o :: rest) a w :=
  wpList_build hg t parts ho (by rw [hf]; rfl) (by rw [hf]; exact h)

theorem run_index_words {P : Program} (t e : TypeId) (k : IntKind) (l : List Int) (hu : P.underlying t = some (.array l.length e)) (he : ∀ w, (isAgg e).run P w = .ok false w) (hs : (P.info? e).map (·.size) = some 1) (i : Nat) (h : i < l.length) (w : World) :
    (Instr.index t (.agg (wordsOf k l)) (.int .i64 (i : Int))).run P w = .ok (.int k (l.getD i 0)) w := by
  have hi : (0 ≤ (i : Int) ∧ (i : Int) < (l.length : Int)) := by omega
  have hsz : ∀ w, (sizeOf e).run P w = .ok 1 w := fun w => by
    cases hq : P.info? e with
    | none => simp [hq] at hs
    | some j => simp [hq] at hs; simp [sizeOf, typeInfo, hq, hs]
  have hg := wordsOf_get k l i h
  simp [Instr.index, asIntOf, run_underlying hu, hi, hsz, part, he, h, hg]

end Go.Proofs.YtdeigmjbcbjgeaaDoor
/-
  The answer of layer 4: padding.
-/
namespace Go.Proofs.YtdeigmjbcbjgeaaDoor
open Go.RowKit

theorem info_u8p : (Tryd.prog.info? 5).map (fun i => (i.zero, i.size, i.bytes)) = some (some (.int .u8 0), 1, 1) := by kernel_rfl

/-- The message, the byte 128, i zeros. -/
def padA (b : List Int) (i : Nat) : List Int := b ++ 128 :: List.replicate i 0
theorem padA_len (b : List Int) (i : Nat) : (padA b i).length = b.length + 1 + i := by simp [padA]; omega
def byteAt (N : Int) (i : Nat) : Int := N / 2 ^ (8 * i) % 256
theorem byteAt_wf (N : Int) (i : Nat) : (Lit.int .u8 (byteAt N i)).wf = true := wf_u8_mk (by unfold byteAt; omega) (by unfold byteAt; omega)
/-- The first j of the eight low bytes of N, the highest first. -/
def lenBytes (N : Int) (j : Nat) : List Int := (List.range j).map fun i => byteAt N (7 - i)
theorem lenBytes_len (N : Int) (j : Nat) : (lenBytes N j).length = j := by simp [lenBytes]
/-- The padded message, of z zeros. -/
def padL (b : List Int) (z j : Nat) : List Int := padA b z ++ lenBytes ((b.length : Int) * 8) j
end Go.Proofs.YtdeigmjbcbjgeaaDoor
