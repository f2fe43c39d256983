/-
  The answer of layer 4: padding.
-/
import Derived.Test.YtomeeeakaejokaaRefSha
namespace Go.Proofs.Ytomeeeakaejokaa
open Go.RowKit

theorem info_u8p : (Try.prog.info? 5).map (fun i => (i.zero, i.size, i.bytes)) = some (some (.int .u8 0), 1, 1) := by kernel_rfl

/-- The message, the byte 128, i zeros. -/
def padA (b : List Int) (i : Nat) : List Int := b ++ 128 :: List.replicate i 0
theorem padA_len (b : List Int) (i : Nat) : (padA b i).length = b.length + 1 + i := by simp [padA]; omega
theorem padA_succ (b : List Int) (i : Nat) : padA b i ++ [0] = padA b (i + 1) := by
  simp [padA, List.replicate_succ']
theorem padA_zero (b : List Int) : b ++ [128] = padA b 0 := by simp [padA]
def byteAt (N : Int) (i : Nat) : Int := N / 2 ^ (8 * i) % 256
theorem byteAt_wf (N : Int) (i : Nat) : (Lit.int .u8 (byteAt N i)).wf = true := wf_u8_mk (by unfold byteAt; omega) (by unfold byteAt; omega)
/-- The first j of the eight low bytes of N, the highest first. -/
def lenBytes (N : Int) (j : Nat) : List Int := (List.range j).map fun i => byteAt N (7 - i)
theorem lenBytes_len (N : Int) (j : Nat) : (lenBytes N j).length = j := by simp [lenBytes]
theorem lenBytes_succ (N : Int) (j : Nat) : lenBytes N (j + 1) = lenBytes N j ++ [byteAt N (7 - j)] := by simp [lenBytes, List.range_succ]
/-- The padded message, of z zeros. -/
def padL (b : List Int) (z j : Nat) : List Int := padA b z ++ lenBytes ((b.length : Int) * 8) j
theorem padL_len (b : List Int) (z j : Nat) : (padL b z j).length = b.length + 1 + z + j := by simp [padL, padA_len, lenBytes_len]
theorem padL_succ (b : List Int) (z q : Nat) (hq : q < 8) : padL b z (7 - q) ++ [byteAt ((b.length : Int) * 8) q] = padL b z (8 - q) := by
  rw [show 8 - q = (7 - q) + 1 by omega, padL, padL, lenBytes_succ, show 7 - (7 - q) = q by omega, List.append_assoc]

def PadPost (b : List Int) (z : Nat) (w : World) (e : Ending) (w' : World) : Prop :=
  ∃ v, e = .returned v ∧ OwnI .u8 5 w.heap.size w' v (padL b z 8) ∧ Keeps (fun _ => False) w w'
def PadLoop1 (b : List Int) (y z : Nat) (w : World) (v : Value) (wr : World) : Prop :=
  ∃ i, y ≤ i ∧ i ≤ z ∧ OwnI .u8 5 w.heap.size wr v (padA b i) ∧ Keeps (fun _ => False) w wr
def PadLoop3 (b : List Int) (z : Nat) (w : World) (v i : Value) (wr : World) : Prop :=
  ∃ k : Nat, k ≤ 8 ∧ i = .int .i64 ((k : Int) - 1) ∧ OwnI .u8 5 w.heap.size wr v (padL b z (8 - k)) ∧ Keeps (fun _ => False) w wr

def ownLen : Value → Nat
  | .slice _ n _ => n
  | _ => 0

-- THE WALKS

set_option maxHeartbeats 1000000 in
set_option maxRecDepth 100000 in
theorem refPad64 (a : Option Addr) (c : Nat) (b : List Int) (w : World) (hb : b.length ≤ 1000000000) (hc : a = none → c = 0) (hr : RowAt (fun _ => True) .u8 w a b) :
    Calls Try.prog 37 #[.slice a b.length c, .int .i64 64] w (PadPost b ((119 - b.length % 64) % 64) w) := by
  obtain ⟨i0, hi, hz0, hz1, hz2⟩ := info_parts info_u8p
  obtain ⟨y, hy⟩ : ∃ y, y = (119 - b.length % 64) % 64 := ⟨_, rfl⟩
  obtain ⟨z, hz⟩ : ∃ z, z = (119 - b.length % 64) % 64 := ⟨_, rfl⟩
  rw [← hz]
  go_enter Try.func37, Try.ntmps37
  go_wp2_with (at_builtin; (refine wpList_pour rfl _ _ 22 rfl .u8 w.heap.size 5 i0 1 Try.underlying22 hi hz0 hz1 hz2 (.slice none 0 0) [] rfl (OwnI.nil _ _ _ _) a c b rfl hc (fun _ => True) hr (by simp; omega) (by omega) (Nat.le_refl _) ?_))
  intro v1 w1 hown1 hk1
  go_wp2_with (at_builtin; (refine wpList_push rfl _ _ 22 rfl .u8 w.heap.size 5 i0 1 Try.underlying22 hi hz0 hz1 hz2 v1 ([] ++ b) 128 rfl hown1 rfl (by decide) (by simp; omega) (by omega) hk1.size ?_))
  intro v2 w2 hown2 hk2 _
  have H1 := hid (show (b.length + 1 + y) % 64 = 56 by omega)
  have H2 := hid (show ∀ i, 0 ≤ i → i < y → ¬ (b.length + 1 + i) % 64 = 56 from fun i _ hi => by omega)
  have H3 := hid (show (b.length + 1 + z) % 64 = 56 by omega)
  have H4 := hid (show ∀ i, y ≤ i → i < z → ¬ (b.length + 1 + i) % 64 = 56 from fun i _ hi => by omega)
  have hyz : y ≤ z := by omega
  have hz3 : z < 200 := by omega
  clear hz hy
  go_wp2
  go_loopw [5] (fun v wr => PadLoop1 b 0 y w v wr) (fun v _ => b.length + 300 - ownLen v)
  case atStart =>
    refine ⟨0, by omega, by omega, by rw [← padA_zero]; exact hown2, ?_⟩
    exact (hk1.mono (fun i _ h => by simp [Value.ownBlock] at h)).step hk2 (fun i hi h => absurd (hown1.base i h).1 (by omega))
  case round =>
    obtain ⟨i, hiy, hiz, hown, hkr⟩ := hrel
    obtain ⟨a5, c5, rfl, hrow⟩ := hown.row
    have hL := padA_len b i
    rw [hL] at hown ⊢
    clear hL hrow
    by_cases hlt : i < y
    · have hne : ¬ ((b.length : Int) + 1 + i) % 64 = 56 := by have := H2.out i hiy hlt; omega
      clear H1 H2 H3 H4
      go_wp2_with (at_builtin; (refine wpList_push rfl _ _ 22 rfl .u8 w.heap.size 5 i0 1 Try.underlying22 hi hz0 hz1 hz2 (.slice a5 (b.length + 1 + i) c5) (padA b i) 0 rfl hown rfl (by decide) (by simp only [padA_len]; omega) (by omega) hkr.size ?_))
      intro v' w3 hown3 hk3 _
      go_wp2
      go_roundw
      case rel =>
        rw [padA_succ] at hown3
        exact ⟨i + 1, by omega, hlt, hown3, hkr.step hk3 (fun i hi hb => absurd (hown.base i hb).1 (by omega))⟩
      case measure =>
        obtain ⟨a6, c6, e6, _⟩ := hown3.row
        rw [e6]
        simp [ownLen, padA_len]
        omega
    · have heq : i = y := by omega
      subst heq
      have heq' : ((b.length : Int) + 1 + i) % 64 = 56 := by have := H1.out; omega
      clear H1 H2 hown1 hk1 hown2 hk2
      go_wp2_with fail
      clear heq'
      have H1 := trivial; have H2 := trivial
      go_loopw [5] (fun v wr => PadLoop1 b i z w v wr) (fun v _ => b.length + 300 - ownLen v)
      case atStart => exact ⟨i, by omega, hyz, hown, hkr⟩
      case round =>
        rename Nat => y0
        clear hkr hown
        obtain ⟨i, hiy, hiz, hown, hkr⟩ := hrel
        obtain ⟨a5, c5, rfl, hrow⟩ := hown.row
        have hL := padA_len b i
        rw [hL] at hown ⊢
        clear hL hrow
        by_cases hlt : i < z
        · have hne : ¬ ((b.length : Int) + 1 + i) % 64 = 56 := by have := H4.out i hiy hlt; omega
          clear H1 H2 H3 H4
          go_wp2_with (at_builtin; (refine wpList_push rfl _ _ 22 rfl .u8 w.heap.size 5 i0 1 Try.underlying22 hi hz0 hz1 hz2 (.slice a5 (b.length + 1 + i) c5) (padA b i) 0 rfl hown rfl (by decide) (by simp only [padA_len]; omega) (by omega) hkr.size ?_))
          intro v' w3 hown3 hk3 _
          go_wp2
          go_roundw
          case rel =>
            rw [padA_succ] at hown3
            exact ⟨i + 1, by omega, hlt, hown3, hkr.step hk3 (fun i hi hb => absurd (hown.base i hb).1 (by omega))⟩
          case measure =>
            obtain ⟨a6, c6, e6, _⟩ := hown3.row
            rw [e6]
            simp [ownLen, padA_len]
            omega
        · have heq : i = z := by omega
          subst heq
          have heq' : ((b.length : Int) + 1 + i) % 64 = 56 := by have := H3.out; omega
          clear H1 H2 H3 H4
          have hown : OwnI .u8 5 w.heap.size wr (.slice a5 (b.length + 1 + i) c5) (padL b i 0) := by simpa [padL, lenBytes] using hown
          go_wp2_with fail
          clear heq'
          go_loopw [5, 7] (fun v j wr => PadLoop3 b i w v j wr) (fun _ j _ => (intOf j + 1).toNat)
          case atStart => exact ⟨8, by omega, rfl, hown, hkr⟩
          case round =>
            clear hkr hown
            obtain ⟨k, hk8, rfl, hown, hkr⟩ := hrel
            rcases k with _ | q
            · go_wp2_with fail
              go_ret
              exact ⟨_, rfl, hown, hkr⟩
            · have hq : (((q + 1 : Nat) : Int) - 1) = q := by omega
              rw [hq]
              clear hq
              go_wp2_with (at_builtin; (refine wpList_push rfl _ _ 22 rfl .u8 w.heap.size 5 i0 1 Try.underlying22 hi hz0 hz1 hz2 u5 (padL b i (8 - (q + 1))) (byteAt ((b.length : Int) * 8) q) rfl hown rfl (byteAt_wf _ _) (by simp only [padL_len]; omega) (by omega) hkr.size ?_))
              intro v' w3 hown3 hk3 _
              go_wp2
              go_roundw
              case rel =>
                rw [padL_succ b i q (by omega)] at hown3
                exact ⟨q, by omega, rfl, hown3, hkr.step hk3 (fun i hi hb => absurd (hown.base i hb).1 (by omega))⟩
              case measure => simp [intOf]

set_option maxHeartbeats 1000000 in
set_option maxRecDepth 100000 in
theorem refPad128 (a : Option Addr) (c : Nat) (b : List Int) (w : World) (hb : b.length ≤ 1000000000) (hc : a = none → c = 0) (hr : RowAt (fun _ => True) .u8 w a b) :
    Calls Try.prog 37 #[.slice a b.length c, .int .i64 128] w (PadPost b ((239 - b.length % 128) % 128 + 8) w) := by
  obtain ⟨i0, hi, hz0, hz1, hz2⟩ := info_parts info_u8p
  obtain ⟨y, hy⟩ : ∃ y, y = (239 - b.length % 128) % 128 := ⟨_, rfl⟩
  obtain ⟨z, hz⟩ : ∃ z, z = (239 - b.length % 128) % 128 + 8 := ⟨_, rfl⟩
  rw [← hz]
  go_enter Try.func37, Try.ntmps37
  go_wp2_with (at_builtin; (refine wpList_pour rfl _ _ 22 rfl .u8 w.heap.size 5 i0 1 Try.underlying22 hi hz0 hz1 hz2 (.slice none 0 0) [] rfl (OwnI.nil _ _ _ _) a c b rfl hc (fun _ => True) hr (by simp; omega) (by omega) (Nat.le_refl _) ?_))
  intro v1 w1 hown1 hk1
  go_wp2_with (at_builtin; (refine wpList_push rfl _ _ 22 rfl .u8 w.heap.size 5 i0 1 Try.underlying22 hi hz0 hz1 hz2 v1 ([] ++ b) 128 rfl hown1 rfl (by decide) (by simp; omega) (by omega) hk1.size ?_))
  intro v2 w2 hown2 hk2 _
  have H1 := hid (show (b.length + 1 + y) % 128 = 112 by omega)
  have H2 := hid (show ∀ i, 0 ≤ i → i < y → ¬ (b.length + 1 + i) % 128 = 112 from fun i _ hi => by omega)
  have H3 := hid (show (b.length + 1 + z) % 128 = 120 by omega)
  have H4 := hid (show ∀ i, y ≤ i → i < z → ¬ (b.length + 1 + i) % 128 = 120 from fun i _ hi => by omega)
  have hyz : y ≤ z := by omega
  have hz3 : z < 200 := by omega
  clear hz hy
  go_wp2
  go_loopw [5] (fun v wr => PadLoop1 b 0 y w v wr) (fun v _ => b.length + 300 - ownLen v)
  case atStart =>
    refine ⟨0, by omega, by omega, by rw [← padA_zero]; exact hown2, ?_⟩
    exact (hk1.mono (fun i _ h => by simp [Value.ownBlock] at h)).step hk2 (fun i hi h => absurd (hown1.base i h).1 (by omega))
  case round =>
    obtain ⟨i, hiy, hiz, hown, hkr⟩ := hrel
    obtain ⟨a5, c5, rfl, hrow⟩ := hown.row
    have hL := padA_len b i
    rw [hL] at hown ⊢
    clear hL hrow
    by_cases hlt : i < y
    · have hne : ¬ ((b.length : Int) + 1 + i) % 128 = 112 := by have := H2.out i hiy hlt; omega
      clear H1 H2 H3 H4
      go_wp2_with (at_builtin; (refine wpList_push rfl _ _ 22 rfl .u8 w.heap.size 5 i0 1 Try.underlying22 hi hz0 hz1 hz2 (.slice a5 (b.length + 1 + i) c5) (padA b i) 0 rfl hown rfl (by decide) (by simp only [padA_len]; omega) (by omega) hkr.size ?_))
      intro v' w3 hown3 hk3 _
      go_wp2
      go_roundw
      case rel =>
        rw [padA_succ] at hown3
        exact ⟨i + 1, by omega, hlt, hown3, hkr.step hk3 (fun i hi hb => absurd (hown.base i hb).1 (by omega))⟩
      case measure =>
        obtain ⟨a6, c6, e6, _⟩ := hown3.row
        rw [e6]
        simp [ownLen, padA_len]
        omega
    · have heq : i = y := by omega
      subst heq
      have heq' : ((b.length : Int) + 1 + i) % 128 = 112 := by have := H1.out; omega
      clear H1 H2 hown1 hk1 hown2 hk2
      go_wp2_with fail
      clear heq'
      have H1 := trivial; have H2 := trivial
      go_loopw [5] (fun v wr => PadLoop1 b i z w v wr) (fun v _ => b.length + 300 - ownLen v)
      case atStart => exact ⟨i, by omega, hyz, hown, hkr⟩
      case round =>
        rename Nat => y0
        clear hkr hown
        obtain ⟨i, hiy, hiz, hown, hkr⟩ := hrel
        obtain ⟨a5, c5, rfl, hrow⟩ := hown.row
        have hL := padA_len b i
        rw [hL] at hown ⊢
        clear hL hrow
        by_cases hlt : i < z
        · have hne : ¬ ((b.length : Int) + 1 + i) % 128 = 120 := by have := H4.out i hiy hlt; omega
          clear H1 H2 H3 H4
          go_wp2_with (at_builtin; (refine wpList_push rfl _ _ 22 rfl .u8 w.heap.size 5 i0 1 Try.underlying22 hi hz0 hz1 hz2 (.slice a5 (b.length + 1 + i) c5) (padA b i) 0 rfl hown rfl (by decide) (by simp only [padA_len]; omega) (by omega) hkr.size ?_))
          intro v' w3 hown3 hk3 _
          go_wp2
          go_roundw
          case rel =>
            rw [padA_succ] at hown3
            exact ⟨i + 1, by omega, hlt, hown3, hkr.step hk3 (fun i hi hb => absurd (hown.base i hb).1 (by omega))⟩
          case measure =>
            obtain ⟨a6, c6, e6, _⟩ := hown3.row
            rw [e6]
            simp [ownLen, padA_len]
            omega
        · have heq : i = z := by omega
          subst heq
          have heq' : ((b.length : Int) + 1 + i) % 128 = 120 := by have := H3.out; omega
          clear H1 H2 H3 H4
          have hown : OwnI .u8 5 w.heap.size wr (.slice a5 (b.length + 1 + i) c5) (padL b i 0) := by simpa [padL, lenBytes] using hown
          go_wp2_with fail
          clear heq'
          go_loopw [5, 7] (fun v j wr => PadLoop3 b i w v j wr) (fun _ j _ => (intOf j + 1).toNat)
          case atStart => exact ⟨8, by omega, rfl, hown, hkr⟩
          case round =>
            clear hkr hown
            obtain ⟨k, hk8, rfl, hown, hkr⟩ := hrel
            rcases k with _ | q
            · go_wp2_with fail
              go_ret
              exact ⟨_, rfl, hown, hkr⟩
            · have hq : (((q + 1 : Nat) : Int) - 1) = q := by omega
              rw [hq]
              clear hq
              go_wp2_with (at_builtin; (refine wpList_push rfl _ _ 22 rfl .u8 w.heap.size 5 i0 1 Try.underlying22 hi hz0 hz1 hz2 u5 (padL b i (8 - (q + 1))) (byteAt ((b.length : Int) * 8) q) rfl hown rfl (byteAt_wf _ _) (by simp only [padL_len]; omega) (by omega) hkr.size ?_))
              intro v' w3 hown3 hk3 _
              go_wp2
              go_roundw
              case rel =>
                rw [padL_succ b i q (by omega)] at hown3
                exact ⟨q, by omega, rfl, hown3, hkr.step hk3 (fun i hi hb => absurd (hown.base i hb).1 (by omega))⟩
              case measure => simp [intOf]
end Go.Proofs.Ytomeeeakaejokaa
