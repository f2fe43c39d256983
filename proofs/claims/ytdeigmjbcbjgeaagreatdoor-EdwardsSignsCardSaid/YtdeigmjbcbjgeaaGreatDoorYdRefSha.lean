/-
  The answer of layer 4: its constants and initial values, numbers of blocks, rotations.
-/
import Derived.Deep.WholeRow
import Derived.Test.YtdeigmjbcbjgeaaGreatDoorYdBytes
import Derived.Test.YtdeigmjbcbjgeaaGreatDoorYdWord
namespace Go.Proofs.YtdeigmjbcbjgeaaGreatDoor
open Go.RowKit

/-- The 80 constants of the answer, and its eight initial values. -/
def refKs : List Int := [4794697086780616226, 8158064640168781261, 13096744586834688815, 16840607885511220156, 4131703408338449720, 6480981068601479193, 10538285296894168987, 12329834152419229976, 15566598209576043074, 1334009975649890238, 2608012711638119052, 6128411473006802146, 8268148722764581231, 9286055187155687089, 11230858885718282805, 13951009754708518548, 16472876342353939154, 17275323862435702243, 1135362057144423861, 2597628984639134821, 3308224258029322869, 5365058923640841347, 6679025012923562964, 8573033837759648693, 10970295158949994411, 12119686244451234320, 12683024718118986047, 13788192230050041572, 14330467153632333762, 15395433587784984357, 489312712824947311, 1452737877330783856, 2861767655752347644, 3322285676063803686, 5560940570517711597, 5996557281743188959, 7280758554555802590, 8532644243296465576, 9350256976987008742, 10552545826968843579, 11727347734174303076, 12113106623233404929, 14000437183269869457, 14369950271660146224, 15101387698204529176, 15463397548674623760, 17586052441742319658, 1182934255886127544, 1847814050463011016, 2177327727835720531, 2830643537854262169, 3796741975233480872, 4115178125766777443, 5681478168544905931, 6601373596472566643, 7507060721942968483, 8399075790359081724, 8693463985226723168, 9568029438360202098, 10144078919501101548, 10430055236837252648, 11840083180663258601, 13761210420658862357, 14299343276471374635, 14566680578165727644, 15097957966210449927, 16922976911328602910, 17689382322260857208, 500013540394364858, 748580250866718886, 1242879168328830382, 1977374033974150939, 2944078676154940804, 3659926193048069267, 4368137639120453308, 4836135668995329356, 5532061633213252278, 6448918945643986474, 6902733635092675308, 7801388544844847127]
def refIs : List Int := [7640891576956012808, 13503953896175478587, 4354685564936845355, 11912009170470909681, 5840696475078001361, 11170449401992604703, 2270897969802886507, 6620516959819538809]

set_option maxHeartbeats 400000 in
theorem refInitial_any (w : World) :
    Calls Tryz.prog 68 #[] w fun e w' => e = .returned (.agg (wordsOf .u64 refIs)) ∧ Keeps (fun _ => False) w w' := by
  go_enter Tryz.func68, Tryz.ntmps68
  go_wp2
  refine bodyPost_ret (v := .agg (wordsOf .u64 refIs)) (results_cell_row rfl _ _ w.heap.size 86 (wordsOf .u64 refIs) (0, 0) _ rfl (heap_alloc_last _ _) Tryz.underlying86 rfl (by kernel_rfl)) rfl ?_
  exact ⟨rfl, (Keeps.refl _ _).alloc _⟩

theorem wpList_build_to {P : Program} {ops : Array Oper} {rest : List Oper} {o : Oper} {a : Act} {w : World} {Q : Exit → Act → World → Prop} (hg : o.guard = none) (t : TypeId) (parts : Array (Nat × Operand)) (ho : o.op = .build t parts)
    (cs : Array Value) (hf : P.built t (parts.map fun (i, x) => (i, a.eval x)).toList = some cs)
    (h : wpList P ops Q rest (a.put o.dst (.agg cs)) w) : wpList P ops Q (o :: rest) a w :=
  wpList_build hg t parts ho (by rw [hf]; rfl) (by rw [hf]; exact h)

theorem zero80 : (Tryz.prog.info? 112).map (fun i => (i.zero, i.size)) = some (some (.agg (Array.replicate 80 (.int .u64 0))), 80) := by kernel_rfl

set_option maxHeartbeats 1000000 in
set_option maxRecDepth 100000 in
theorem refConstants_any (w : World) :
    Calls Tryz.prog 103 #[] w fun e w' => e = .returned (.agg (wordsOf .u64 refKs)) ∧ Keeps (fun _ => False) w w' := by
  obtain ⟨hz, hs⟩ := zero_of_info zero80
  generalize hZ : Array.replicate 80 (Value.int .u64 0) = Z at hz
  have HZ := hid hZ.symm
  clear hZ
  go_enter Tryz.func103, Tryz.ntmps103
  go_wp2_with (first
    | (refine wpList_build_to rfl _ _ rfl (wordsOf .u64 refKs) (by kernel_rfl) ?_)
    | (refine wpList_store_row rfl _ _ _ rfl w.heap.size (wordsOf .u64 refKs) rfl rfl _ Z (heap_alloc_last _ _) (by kernel_rfl) (by rw [HZ.out]; kernel_rfl) (by kernel_rfl) ?_))
  rw [World.setRow_alloc_new]
  refine bodyPost_ret (v := .agg (wordsOf .u64 refKs)) (results_cell_row rfl _ _ w.heap.size 112 (wordsOf .u64 refKs) (0, 0) _ rfl (heap_alloc_last _ _) Tryz.underlying112 rfl (by kernel_rfl)) rfl ?_
  exact ⟨rfl, (Keeps.refl _ _).alloc _⟩

theorem run_index_words {P : Program} (t e : TypeId) (k : IntKind) (l : List Int) (hu : P.underlying t = some (.array l.length e)) (he : ∀ w, (isAgg e).run P w = .ok false w) (hs : (P.info? e).map (·.size) = some 1) (i : Nat) (h : i < l.length) (w : World) :
    (Instr.index t (.agg (wordsOf k l)) (.int .i64 (i : Int))).run P w = .ok (.int k (l.getD i 0)) w := by
  have hi : (0 ≤ (i : Int) ∧ (i : Int) < (l.length : Int)) := by omega
  have hsz : ∀ w, (sizeOf e).run P w = .ok 1 w := fun w => by
    cases hq : P.info? e with
    | none => simp [hq] at hs
    | some j => simp [hq] at hs; simp [sizeOf, typeInfo, hq, hs]
  have hg := wordsOf_get k l i h
  simp [Instr.index, asIntOf, run_underlying hu, hi, hsz, part, he, h, hg]

end Go.Proofs.YtdeigmjbcbjgeaaGreatDoor
/-
  The answer of layer 4: padding.
-/
namespace Go.Proofs.YtdeigmjbcbjgeaaGreatDoor
open Go.RowKit

theorem info_u8p : (Tryz.prog.info? 5).map (fun i => (i.zero, i.size, i.bytes)) = some (some (.int .u8 0), 1, 1) := by kernel_rfl

/-- The message, the byte 128, i zeros. -/
def padA (b : List Int) (i : Nat) : List Int := b ++ 128 :: List.replicate i 0
theorem padA_len (b : List Int) (i : Nat) : (padA b i).length = b.length + 1 + i := by simp [padA]; omega
theorem padA_succ (b : List Int) (i : Nat) : padA b i ++ [0] = padA b (i + 1) := by
  simp [padA, List.replicate_succ']
theorem padA_zero (b : List Int) : b ++ [128] = padA b 0 := by simp [padA]
def byteAt (N : Int) (i : Nat) : Int := N / 2 ^ (8 * i) % 256
theorem byteAt_wf (N : Int) (i : Nat) : (Lit.int .u8 (byteAt N i)).wf = true := wf_u8_mk (by unfold byteAt; omega) (by unfold byteAt; omega)
/-- The first j of the eight low bytes of N, the highest first. -/
def lenBytes (N : Int) (j : Nat) : List Int := (List.range j).map fun i => byteAt N (7 - i)
theorem lenBytes_len (N : Int) (j : Nat) : (lenBytes N j).length = j := by simp [lenBytes]
theorem lenBytes_succ (N : Int) (j : Nat) : lenBytes N (j + 1) = lenBytes N j ++ [byteAt N (7 - j)] := by simp [lenBytes, List.range_succ]
/-- The padded message, of z zeros. -/
def padL (b : List Int) (z j : Nat) : List Int := padA b z ++ lenBytes ((b.length : Int) * 8) j
theorem padL_len (b : List Int) (z j : Nat) : (padL b z j).length = b.length + 1 + z + j := by simp [padL, padA_len, lenBytes_len]
theorem padL_succ (b : List Int) (z q : Nat) (hq : q < 8) : padL b z (7 - q) ++ [byteAt ((b.length : Int) * 8) q] = padL b z (8 - q) := by
  rw [show 8 - q = (7 - q) + 1 by omega, padL, padL, lenBytes_succ, show 7 - (7 - q) = q by omega, List.append_assoc]

def PadPost (b : List Int) (z : Nat) (w : World) (e : Ending) (w' : World) : Prop :=
  ∃ v, e = .returned v ∧ OwnI .u8 5 w.heap.size w' v (padL b z 8) ∧ Keeps (fun _ => False) w w'
def PadLoop1 (b : List Int) (y z : Nat) (w : World) (v : Value) (wr : World) : Prop :=
  ∃ i, y ≤ i ∧ i ≤ z ∧ OwnI .u8 5 w.heap.size wr v (padA b i) ∧ Keeps (fun _ => False) w wr
def PadLoop3 (b : List Int) (z : Nat) (w : World) (v i : Value) (wr : World) : Prop :=
  ∃ k : Nat, k ≤ 8 ∧ i = .int .i64 ((k : Int) - 1) ∧ OwnI .u8 5 w.heap.size wr v (padL b z (8 - k)) ∧ Keeps (fun _ => False) w wr

def ownLen : Value → Nat
  | .slice _ n _ => n
  | _ => 0

-- THE WALKS

set_option maxHeartbeats 1000000 in
set_option maxRecDepth 100000 in
theorem refPad128 (a : Option Addr) (c : Nat) (b : List Int) (w : World) (hb : b.length ≤ 1000000000) (hc : a = none → c = 0) (hr : RowAt (fun _ => True) .u8 w a b) :
    Calls Tryz.prog 69 #[.slice a b.length c, .int .i64 128] w (PadPost b ((239 - b.length % 128) % 128 + 8) w) := by
  obtain ⟨i0, hi, hz0, hz1, hz2⟩ := info_parts info_u8p
  obtain ⟨y, hy⟩ : ∃ y, y = (239 - b.length % 128) % 128 := ⟨_, rfl⟩
  obtain ⟨z, hz⟩ : ∃ z, z = (239 - b.length % 128) % 128 + 8 := ⟨_, rfl⟩
  rw [← hz]
  go_enter Tryz.func69, Tryz.ntmps69
  go_wp2_with (at_builtin; (refine wpList_pour rfl _ _ 33 rfl .u8 w.heap.size 5 i0 1 Tryz.underlying33 hi hz0 hz1 hz2 (.slice none 0 0) [] rfl (OwnI.nil _ _ _ _) a c b rfl hc (fun _ => True) hr (by simp; omega) (by omega) (Nat.le_refl _) ?_))
  intro v1 w1 hown1 hk1
  go_wp2_with (at_builtin; (refine wpList_push rfl _ _ 33 rfl .u8 w.heap.size 5 i0 1 Tryz.underlying33 hi hz0 hz1 hz2 v1 ([] ++ b) 128 rfl hown1 rfl (by decide) (by simp; omega) (by omega) hk1.size ?_))
  intro v2 w2 hown2 hk2 _
  have H1 := hid (show (b.length + 1 + y) % 128 = 112 by omega)
  have H2 := hid (show ∀ i, 0 ≤ i → i < y → ¬ (b.length + 1 + i) % 128 = 112 from fun i _ hi => by omega)
  have H3 := hid (show (b.length + 1 + z) % 128 = 120 by omega)
  have H4 := hid (show ∀ i, y ≤ i → i < z → ¬ (b.length + 1 + i) % 128 = 120 from fun i _ hi => by omega)
  have hyz : y ≤ z := by omega
  have hz3 : z < 200 := by omega
  clear hz hy
  go_wp2
  go_loopw [5] (fun v wr => PadLoop1 b 0 y w v wr) (fun v _ => b.length + 300 - ownLen v)
  case atStart =>
    refine ⟨0, by omega, by omega, by rw [← padA_zero]; exact hown2, ?_⟩
    exact (hk1.mono (fun i _ h => by simp [Value.ownBlock] at h)).step hk2 (fun i hi h => absurd (hown1.base i h).1 (by omega))
  case round =>
    obtain ⟨i, hiy, hiz, hown, hkr⟩ := hrel
    obtain ⟨a5, c5, rfl, hrow⟩ := hown.row
    have hL := padA_len b i
    rw [hL] at hown ⊢
    clear hL hrow
    by_cases hlt : i < y
    · have hne : ¬ ((b.length : Int) + 1 + i) % 128 = 112 := by have := H2.out i hiy hlt; omega
      clear H1 H2 H3 H4
      go_wp2_with (at_builtin; (refine wpList_push rfl _ _ 33 rfl .u8 w.heap.size 5 i0 1 Tryz.underlying33 hi hz0 hz1 hz2 (.slice a5 (b.length + 1 + i) c5) (padA b i) 0 rfl hown rfl (by decide) (by simp only [padA_len]; omega) (by omega) hkr.size ?_))
      intro v' w3 hown3 hk3 _
      go_wp2
      go_roundw
      case rel =>
        rw [padA_succ] at hown3
        exact ⟨i + 1, by omega, hlt, hown3, hkr.step hk3 (fun i hi hb => absurd (hown.base i hb).1 (by omega))⟩
      case measure =>
        obtain ⟨a6, c6, e6, _⟩ := hown3.row
        rw [e6]
        simp [ownLen, padA_len]
        omega
    · have heq : i = y := by omega
      subst heq
      have heq' : ((b.length : Int) + 1 + i) % 128 = 112 := by have := H1.out; omega
      clear H1 H2 hown1 hk1 hown2 hk2
      go_wp2_with fail
      clear heq'
      have H1 := trivial; have H2 := trivial
      go_loopw [5] (fun v wr => PadLoop1 b i z w v wr) (fun v _ => b.length + 300 - ownLen v)
      case atStart => exact ⟨i, by omega, hyz, hown, hkr⟩
      case round =>
        rename Nat => y0
        clear hkr hown
        obtain ⟨i, hiy, hiz, hown, hkr⟩ := hrel
        obtain ⟨a5, c5, rfl, hrow⟩ := hown.row
        have hL := padA_len b i
        rw [hL] at hown ⊢
        clear hL hrow
        by_cases hlt : i < z
        · have hne : ¬ ((b.length : Int) + 1 + i) % 128 = 120 := by have := H4.out i hiy hlt; omega
          clear H1 H2 H3 H4
          go_wp2_with (at_builtin; (refine wpList_push rfl _ _ 33 rfl .u8 w.heap.size 5 i0 1 Tryz.underlying33 hi hz0 hz1 hz2 (.slice a5 (b.length + 1 + i) c5) (padA b i) 0 rfl hown rfl (by decide) (by simp only [padA_len]; omega) (by omega) hkr.size ?_))
          intro v' w3 hown3 hk3 _
          go_wp2
          go_roundw
          case rel =>
            rw [padA_succ] at hown3
            exact ⟨i + 1, by omega, hlt, hown3, hkr.step hk3 (fun i hi hb => absurd (hown.base i hb).1 (by omega))⟩
          case measure =>
            obtain ⟨a6, c6, e6, _⟩ := hown3.row
            rw [e6]
            simp [ownLen, padA_len]
            omega
        · have heq : i = z := by omega
          subst heq
          have heq' : ((b.length : Int) + 1 + i) % 128 = 120 := by have := H3.out; omega
          clear H1 H2 H3 H4
          have hown : OwnI .u8 5 w.heap.size wr (.slice a5 (b.length + 1 + i) c5) (padL b i 0) := by simpa [padL, lenBytes] using hown
          go_wp2_with fail
          clear heq'
          go_loopw [5, 7] (fun v j wr => PadLoop3 b i w v j wr) (fun _ j _ => (intOf j + 1).toNat)
          case atStart => exact ⟨8, by omega, rfl, hown, hkr⟩
          case round =>
            clear hkr hown
            obtain ⟨k, hk8, rfl, hown, hkr⟩ := hrel
            rcases k with _ | q
            · go_wp2_with fail
              go_ret
              exact ⟨_, rfl, hown, hkr⟩
            · have hq : (((q + 1 : Nat) : Int) - 1) = q := by omega
              rw [hq]
              clear hq
              go_wp2_with (at_builtin; (refine wpList_push rfl _ _ 33 rfl .u8 w.heap.size 5 i0 1 Tryz.underlying33 hi hz0 hz1 hz2 u5 (padL b i (8 - (q + 1))) (byteAt ((b.length : Int) * 8) q) rfl hown rfl (byteAt_wf _ _) (by simp only [padL_len]; omega) (by omega) hkr.size ?_))
              intro v' w3 hown3 hk3 _
              go_wp2
              go_roundw
              case rel =>
                rw [padL_succ b i q (by omega)] at hown3
                exact ⟨q, by omega, rfl, hown3, hkr.step hk3 (fun i hi hb => absurd (hown.base i hb).1 (by omega))⟩
              case measure => simp [intOf]
end Go.Proofs.YtdeigmjbcbjgeaaGreatDoor
