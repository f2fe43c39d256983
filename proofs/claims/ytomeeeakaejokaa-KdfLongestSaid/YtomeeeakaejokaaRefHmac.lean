/-
  The answer of layer 5: HMAC.
-/
import Derived.Test.YtomeeeakaejokaaRefSum256
import Derived.OpenShut
namespace Go.Proofs.Ytomeeeakaejokaa
open Go.RowKit

def xorAll (c : Int) (l : List Int) : List Int := l.map (bits .xor .u8 · c)
/-- A key as HMAC uses it: hashed if it is longer than a block, filled with zeros. -/
def hkey0 (key : List Int) : List Int := if key.length > 64 then sha256 key else key
def hfill (k : List Int) (n : Nat) : List Int := k ++ List.replicate n 0
def hkey (key : List Int) : List Int := hfill (hkey0 key) (64 - (hkey0 key).length)
def hmac (key b : List Int) : List Int := sha256 (xorAll 92 (hkey key) ++ sha256 (xorAll 54 (hkey key) ++ b))
theorem sha256_length (b : List Int) : (sha256 b).length = 32 := by rw [sha256, outs32_len]
theorem hkey0_len (key : List Int) : (hkey0 key).length ≤ 64 := by
  unfold hkey0
  split
  · rw [sha256_length]; omega
  · omega
theorem hkey_len (key : List Int) : (hkey key).length = 64 := by have := hkey0_len key; simp [hkey, hfill]; omega
theorem xorAll_len (c : Int) (l : List Int) : (xorAll c l).length = l.length := by simp [xorAll]
theorem hfill_len (k : List Int) (n : Nat) : (hfill k n).length = k.length + n := by simp [hfill]
theorem hfill_succ (k : List Int) (n : Nat) : hfill k n ++ [0] = hfill k (n + 1) := by simp [hfill, List.replicate_succ']
theorem xorAll_take (c : Int) (l : List Int) (i : Nat) (h : i < l.length) : xorAll c (l.take i) ++ [bits .xor .u8 (l.getD i 0) c] = xorAll c (l.take (i + 1)) := by
  rw [List.take_add_one, xorAll, xorAll, List.map_append, List.getElem?_eq_getElem h, List.getD_eq_getElem?_getD, List.getElem?_eq_getElem h]; rfl

def HmacPost (key b : List Int) (w : World) (e : Ending) (w' : World) : Prop :=
  ∃ v, e = .returned v ∧ OwnI .u8 5 w.heap.size w' v (hmac key b) ∧ Keeps (fun _ => False) w w'
def HmacFill (k0 : List Int) (w : World) (v : Value) (wr : World) : Prop :=
  ∃ n, k0.length + n ≤ 64 ∧ OwnI .u8 5 w.heap.size wr v (hfill k0 n) ∧ Keeps (fun _ => False) w wr
def HmacXor (K : List Int) (wl : World) (u v c : Value) (wr : World) : Prop :=
  ∃ i : Nat, c = .int .i64 i ∧ i ≤ 64 ∧ OwnI .u8 5 wl.heap.size wr u (xorAll 54 (K.take i)) ∧ OwnI .u8 5 wl.heap.size wr v (xorAll 92 (K.take i)) ∧
    (∀ g, u.ownBlock = some g → v.ownBlock ≠ some g) ∧ Keeps (fun _ => False) wl wr

set_option maxHeartbeats 2000000 in
set_option maxRecDepth 100000 in
theorem refHMAC_any (a : Option Addr) (c : Nat) (key : List Int) (a' : Option Addr) (c' : Nat) (b : List Int) (w : World) (hk : key.length ≤ 1000000) (hb : b.length ≤ 1000000)
    (hc : a = none → c = 0) (hr : RowAt (fun _ => True) .u8 w a key) (hc' : a' = none → c' = 0) (hr' : RowAt (fun _ => True) .u8 w a' b) :
    Calls Try.prog 14 #[.slice a key.length c, .slice a' b.length c'] w (HmacPost key b w) := by
  obtain ⟨i0, hi, hz0, hz1, hz2⟩ := info_parts info_u8p
  have hrw : RowAt (· < w.heap.size) .u8 w a' b := hr'.mono (fun i hi _ => hi)
  clear hr'
  by_cases hl : key.length > 64
  · have hl' : (key.length : Int) > 64 := by omega
    go_enter Try.func14, Try.ntmps14
    go_wp2_with (at_builtin; (refine wpList_pour rfl _ _ 22 rfl .u8 w.heap.size 5 i0 1 Try.underlying22 hi hz0 hz1 hz2 (.slice none 0 0) [] rfl (OwnI.nil _ _ _ _) a c key rfl hc (fun _ => True) hr (by simp; omega) (by omega) (Nat.le_refl _) ?_))
    intro v1 w1 hown1 hk1
    have kp1 : Keeps (fun _ => False) w w1 := hk1.mono (fun i _ h => by simp [Value.ownBlock] at h)
    obtain ⟨a1, c1, rfl, hc1, hr1⟩ := hown1.opened
    have hr1' : RowAt (fun _ => True) .u8 w1 a1 key := hr1.mono (fun _ _ _ => trivial)

    clear hown1 hk1 hr1
    go_wp2_with fail
    refine (refSum256_any a1 c1 key w1 (by omega) hc1.1 hr1').mono ?_
    rintro e w2 ⟨v2, rfl, hown2, hk2⟩
    have kpk : Keeps (fun _ => False) w w2 := kp1.trans hk2
    have hownk : OwnI .u8 5 w.heap.size w2 v2 (hkey0 key) := by rw [hkey0, if_pos hl]; exact hown2.lower kp1.size
    clear hown2 hk2 kp1 hr1' hc1
    obtain ⟨k0, hk0⟩ : ∃ k0, k0 = hkey0 key := ⟨_, rfl⟩
    have HK0 := hid hk0
    have hk0l : k0.length ≤ 64 := by rw [hk0]; exact hkey0_len key
    rw [← hk0] at hownk
    clear hk0
    go_wp2_with fail
    go_loopw [5] (fun v wr => HmacFill k0 w v wr) (fun v _ => 100 - ownLen v)
    case atStart => exact ⟨0, by omega, by simpa [hfill] using hownk, kpk⟩
    case round =>
      clear hownk kpk
      obtain ⟨n, hn, hown, hkr⟩ := hrel
      obtain ⟨a5, c5, rfl, hc5, hr5⟩ := hown.opened
      have hL := hfill_len k0 n
      rw [hL] at hown ⊢
      by_cases hlt : k0.length + n < 64
      · have hlt' : (k0.length : Int) + (n : Int) < 64 := by omega
        go_wp2_with (at_builtin; (refine wpList_push rfl _ _ 22 rfl .u8 w.heap.size 5 i0 1 Try.underlying22 hi hz0 hz1 hz2 (.slice a5 (k0.length + n) c5) (hfill k0 n) 0 rfl hown rfl (by decide) (by rw [hfill_len]; omega) (by omega) hkr.size ?_))
        intro v' w3 hown3 hk3 _
        go_wp2
        go_roundw
        case rel =>
          rw [hfill_succ] at hown3
          exact ⟨n + 1, by omega, hown3, hkr.step hk3 (fun i hi hb => absurd (hown.base i hb).1 (by omega))⟩
        case measure =>
          obtain ⟨a6, c6, e6, _⟩ := hown3.row
          rw [e6]
          simp only [ownLen, List.length_append, hfill_len, List.length_cons, List.length_nil]
          omega
      · have hlt' : ¬ (k0.length : Int) + (n : Int) < 64 := by omega
        have hK : hfill k0 n = hkey key := by rw [hkey, ← HK0.out]; congr 1; omega
        rw [hK] at hown hr5 hL
        rw [hkey_len] at hL
        obtain ⟨K, hKK⟩ : ∃ K, K = hkey key := ⟨_, rfl⟩
        have HKK := hid hKK
        have hKl : K.length = 64 := by rw [hKK]; exact hkey_len key
        rw [← hKK] at hown hr5
        clear hKK hK
        have hL' : (k0.length : Int) + (n : Int) = 64 := by omega
        rw [show k0.length + n = 64 by omega]
        obtain ⟨wl, rfl⟩ : ∃ wl : World, wl = wr := ⟨_, rfl⟩
        obtain ⟨g5, rfl, hg5b, hg5l, hcell⟩ : ∃ g, a5 = some ⟨g, 0, none⟩ ∧ w.heap.size ≤ g ∧ g < wl.heap.size ∧ ∀ j, j < 64 → wl.cell? ⟨g, j, none⟩ = some (.int .u8 (K.getD j 0)) := by
          obtain ⟨g, cc, e1, h1, h2, _, _, h3⟩ := hown.look (by omega)
          injection e1 with e1 _ _
          exact ⟨g, e1, h1, h2, fun j hj => h3 j (by omega)⟩
        have HCELL := hid hcell
        have hwfK := hown.2.1
        clear hcell hown hr5 hL hL' hlt hlt'
        have hle := hkr.size
        go_wp2_with fail
        go_loopw [6, 7, 25] (fun u v c wr => HmacXor K wl u v c wr) (fun _ _ c _ => 64 - (intOf c).toNat)
        case atStart => exact ⟨0, rfl, by omega, OwnI.nil _ _ _ _, OwnI.nil _ _ _ _, fun g h => by simp [Value.ownBlock] at h, Keeps.refl _ _⟩
        case round =>
          obtain ⟨i, rfl, hi64, hu, hv, huv, hkx⟩ := hrel
          by_cases hi' : i < 64
          · have hi'' : (i : Int) < 64 := by omega
            have cx : wr.cell? ⟨g5, i, none⟩ = some (.int .u8 (K.getD i 0)) := (hkx.cell (p := ⟨g5, i, none⟩) hg5l (fun h => h)).trans (HCELL.out i hi')
            have X1 := hid (xorAll_take 54 K i (by omega))
            have X2 := hid (xorAll_take 92 K i (by omega))
            generalize K.getD i 0 = z at cx X1 X2
            have hlx := hkx.size
            go_wp2_with (at_builtin; (refine wpList_push_at rfl _ _ 22 rfl .u8 wl.heap.size 5 i0 1 Try.underlying22 hi hz0 hz1 hz2 u6 (xorAll 54 (K.take i)) (bits .xor .u8 z 54) rfl hu rfl (wf_bits _ _ _ _) (by rw [xorAll_len, List.length_take]; omega) (by omega) hlx ?_))
            intro u' w3 hu3 hk3 hat3
            have hv3 := hv.keeps hk3 (fun g hg e => huv g e hg)
            have huv3 : ∀ g, u'.ownBlock = some g → u7.ownBlock ≠ some g := by
              intro g hg e
              rcases hat3 with h | ⟨g', h, hge⟩
              · exact huv g (h ▸ hg) e
              · rw [h] at hg; injection hg with hg; have := (hv.base g e).2; omega
            have hk3s : wl.heap.size ≤ w3.heap.size := by have := hk3.size; omega
            go_wp2_with (at_builtin; (refine wpList_push_at rfl _ _ 22 rfl .u8 wl.heap.size 5 i0 1 Try.underlying22 hi hz0 hz1 hz2 u7 (xorAll 92 (K.take i)) (bits .xor .u8 z 92) rfl hv3 rfl (wf_bits _ _ _ _) (by rw [xorAll_len, List.length_take]; omega) (by omega) hk3s ?_))
            intro v' w4 hv4 hk4 hat4
            have hu4 := hu3.keeps hk4 (fun g hg e => huv3 g hg e)
            go_wp2
            go_roundw
            case rel =>
              rw [X1.out] at hu4
              rw [X2.out] at hv4
              refine ⟨i + 1, rfl, by omega, hu4, hv4, fun g hg e => ?_, (hkx.step hk3 (fun j hj h => absurd (hu.base j h).1 (by omega))).step hk4 (fun j hj h => absurd (hv3.base j h).1 (by omega))⟩
              rcases hat4 with h | ⟨g', h, hge⟩
              · exact huv3 g hg (h ▸ e)
              · rw [h] at e; injection e with e; have := (hu3.base g hg).2; omega
            case measure => simp [intOf]; omega
          · have h64 : i = 64 := by omega
            subst h64
            have hT : K.take 64 = K := List.take_of_length_le (by omega)
            rw [hT] at hu hv
            have hlx := hkx.size
            have hrb := hrw.keeps (hkr.trans hkx) (fun _ _ h => h)
            go_wp2_with (at_builtin; (refine wpList_pour rfl _ _ 22 rfl .u8 wl.heap.size 5 i0 1 Try.underlying22 hi hz0 hz1 hz2 u6 (xorAll 54 K) rfl hu a' c' b rfl hc' (· < w.heap.size) hrb (by rw [xorAll_len]; omega) (by omega) hlx ?_))
            intro u8 w3 hu3 hk3
            have hv3 := hv.keeps hk3 (fun g hg e => huv g e hg)
            obtain ⟨L1, hL1⟩ : ∃ L1, L1 = xorAll 54 K ++ b := ⟨_, rfl⟩
            rw [← hL1] at hu3
            have hl1 : L1.length ≤ 1000064 := by rw [hL1, List.length_append, xorAll_len]; omega
            have HL1 := hid hL1
            clear hL1
            obtain ⟨a8, c8, rfl, hc8, hr8⟩ := hu3.opened
            have hk3s : wl.heap.size ≤ w3.heap.size := by have := hk3.size; omega
            go_wp2_with fail
            refine (refSum256_any a8 c8 L1 w3 (by omega) hc8.1 (hr8.mono (fun _ _ _ => trivial))).mono ?_
            rintro e w4 ⟨v4, rfl, ho4, hk4⟩
            obtain ⟨S1, hS1⟩ : ∃ S1, S1 = sha256 L1 := ⟨_, rfl⟩
            rw [← hS1] at ho4
            have hs1 : S1.length ≤ 32 := by rw [hS1, sha256_length]; omega
            have HS1 := hid hS1
            clear hS1
            obtain ⟨a9, c9, rfl, hc9, hr9⟩ := ho4.opened
            have hv4 := hv3.keeps hk4 (fun _ _ h => h)
            have hk4s : wl.heap.size ≤ w4.heap.size := by have := hk4.size; omega
            go_wp2_with (at_builtin; (refine wpList_pour rfl _ _ 22 rfl .u8 wl.heap.size 5 i0 1 Try.underlying22 hi hz0 hz1 hz2 u7 (xorAll 92 K) rfl hv4 a9 c9 S1 rfl hc9.1 (w3.heap.size ≤ ·) hr9 (by rw [xorAll_len]; omega) (by omega) hk4s ?_))
            intro v5 w5 ho5 hk5
            obtain ⟨L2, hL2⟩ : ∃ L2, L2 = xorAll 92 K ++ S1 := ⟨_, rfl⟩
            rw [← hL2] at ho5
            have hl2 : L2.length ≤ 1000064 := by rw [hL2, List.length_append, xorAll_len]; omega
            have HL2 := hid hL2
            clear hL2
            obtain ⟨a10, c10, rfl, hc10, hr10⟩ := ho5.opened
            go_wp2_with fail
            refine (refSum256_any a10 c10 L2 w5 (by omega) hc10.1 (hr10.mono (fun _ _ _ => trivial))).mono ?_
            rintro e w6 ⟨v6, rfl, ho6, hk6⟩
            go_wp2_with fail
            go_ret
            have kAll : Keeps (fun _ => False) w w6 := (((((hkr.trans hkx).step hk3 (fun j hj h => absurd (hu.base j h).1 (by omega))).trans hk4).step hk5 (fun j hj h => absurd (hv4.base j h).1 (by omega))).trans hk6)
            refine ⟨_, rfl, ?_, kAll⟩
            rw [hmac, ← HKK.out, ← HL1.out, ← HS1.out, ← HL2.out]
            exact ho6.lower (by have := hk5.size; omega)
  · have hl' : ¬ (key.length : Int) > 64 := by omega
    go_enter Try.func14, Try.ntmps14
    go_wp2_with (at_builtin; (refine wpList_pour rfl _ _ 22 rfl .u8 w.heap.size 5 i0 1 Try.underlying22 hi hz0 hz1 hz2 (.slice none 0 0) [] rfl (OwnI.nil _ _ _ _) a c key rfl hc (fun _ => True) hr (by simp; omega) (by omega) (Nat.le_refl _) ?_))
    intro v1 w1 hown1 hk1
    have kpk : Keeps (fun _ => False) w w1 := hk1.mono (fun i _ h => by simp [Value.ownBlock] at h)
    obtain ⟨a1, c1, rfl, hc1, hr1⟩ := hown1.opened
    have hownk : OwnI .u8 5 w.heap.size w1 (.slice a1 key.length c1) (hkey0 key) := by rw [hkey0, if_neg hl]; exact hown1
    clear hown1 hk1 hr1
    obtain ⟨k0, hk0⟩ : ∃ k0, k0 = hkey0 key := ⟨_, rfl⟩
    have HK0 := hid hk0
    have hk0l : k0.length ≤ 64 := by rw [hk0]; exact hkey0_len key
    rw [← hk0] at hownk
    clear hk0
    go_wp2_with fail
    go_loopw [5] (fun v wr => HmacFill k0 w v wr) (fun v _ => 100 - ownLen v)
    case atStart => exact ⟨0, by omega, by simpa [hfill] using hownk, kpk⟩
    case round =>
      clear hownk kpk
      obtain ⟨n, hn, hown, hkr⟩ := hrel
      obtain ⟨a5, c5, rfl, hc5, hr5⟩ := hown.opened
      have hL := hfill_len k0 n
      rw [hL] at hown ⊢
      by_cases hlt : k0.length + n < 64
      · have hlt' : (k0.length : Int) + (n : Int) < 64 := by omega
        go_wp2_with (at_builtin; (refine wpList_push rfl _ _ 22 rfl .u8 w.heap.size 5 i0 1 Try.underlying22 hi hz0 hz1 hz2 (.slice a5 (k0.length + n) c5) (hfill k0 n) 0 rfl hown rfl (by decide) (by rw [hfill_len]; omega) (by omega) hkr.size ?_))
        intro v' w3 hown3 hk3 _
        go_wp2
        go_roundw
        case rel =>
          rw [hfill_succ] at hown3
          exact ⟨n + 1, by omega, hown3, hkr.step hk3 (fun i hi hb => absurd (hown.base i hb).1 (by omega))⟩
        case measure =>
          obtain ⟨a6, c6, e6, _⟩ := hown3.row
          rw [e6]
          simp only [ownLen, List.length_append, hfill_len, List.length_cons, List.length_nil]
          omega
      · have hlt' : ¬ (k0.length : Int) + (n : Int) < 64 := by omega
        have hK : hfill k0 n = hkey key := by rw [hkey, ← HK0.out]; congr 1; omega
        rw [hK] at hown hr5 hL
        rw [hkey_len] at hL
        obtain ⟨K, hKK⟩ : ∃ K, K = hkey key := ⟨_, rfl⟩
        have HKK := hid hKK
        have hKl : K.length = 64 := by rw [hKK]; exact hkey_len key
        rw [← hKK] at hown hr5
        clear hKK hK
        have hL' : (k0.length : Int) + (n : Int) = 64 := by omega
        rw [show k0.length + n = 64 by omega]
        obtain ⟨wl, rfl⟩ : ∃ wl : World, wl = wr := ⟨_, rfl⟩
        obtain ⟨g5, rfl, hg5b, hg5l, hcell⟩ : ∃ g, a5 = some ⟨g, 0, none⟩ ∧ w.heap.size ≤ g ∧ g < wl.heap.size ∧ ∀ j, j < 64 → wl.cell? ⟨g, j, none⟩ = some (.int .u8 (K.getD j 0)) := by
          obtain ⟨g, cc, e1, h1, h2, _, _, h3⟩ := hown.look (by omega)
          injection e1 with e1 _ _
          exact ⟨g, e1, h1, h2, fun j hj => h3 j (by omega)⟩
        have HCELL := hid hcell
        have hwfK := hown.2.1
        clear hcell hown hr5 hL hL' hlt hlt'
        have hle := hkr.size
        go_wp2_with fail
        go_loopw [6, 7, 25] (fun u v c wr => HmacXor K wl u v c wr) (fun _ _ c _ => 64 - (intOf c).toNat)
        case atStart => exact ⟨0, rfl, by omega, OwnI.nil _ _ _ _, OwnI.nil _ _ _ _, fun g h => by simp [Value.ownBlock] at h, Keeps.refl _ _⟩
        case round =>
          obtain ⟨i, rfl, hi64, hu, hv, huv, hkx⟩ := hrel
          by_cases hi' : i < 64
          · have hi'' : (i : Int) < 64 := by omega
            have cx : wr.cell? ⟨g5, i, none⟩ = some (.int .u8 (K.getD i 0)) := (hkx.cell (p := ⟨g5, i, none⟩) hg5l (fun h => h)).trans (HCELL.out i hi')
            have X1 := hid (xorAll_take 54 K i (by omega))
            have X2 := hid (xorAll_take 92 K i (by omega))
            generalize K.getD i 0 = z at cx X1 X2
            have hlx := hkx.size
            go_wp2_with (at_builtin; (refine wpList_push_at rfl _ _ 22 rfl .u8 wl.heap.size 5 i0 1 Try.underlying22 hi hz0 hz1 hz2 u6 (xorAll 54 (K.take i)) (bits .xor .u8 z 54) rfl hu rfl (wf_bits _ _ _ _) (by rw [xorAll_len, List.length_take]; omega) (by omega) hlx ?_))
            intro u' w3 hu3 hk3 hat3
            have hv3 := hv.keeps hk3 (fun g hg e => huv g e hg)
            have huv3 : ∀ g, u'.ownBlock = some g → u7.ownBlock ≠ some g := by
              intro g hg e
              rcases hat3 with h | ⟨g', h, hge⟩
              · exact huv g (h ▸ hg) e
              · rw [h] at hg; injection hg with hg; have := (hv.base g e).2; omega
            have hk3s : wl.heap.size ≤ w3.heap.size := by have := hk3.size; omega
            go_wp2_with (at_builtin; (refine wpList_push_at rfl _ _ 22 rfl .u8 wl.heap.size 5 i0 1 Try.underlying22 hi hz0 hz1 hz2 u7 (xorAll 92 (K.take i)) (bits .xor .u8 z 92) rfl hv3 rfl (wf_bits _ _ _ _) (by rw [xorAll_len, List.length_take]; omega) (by omega) hk3s ?_))
            intro v' w4 hv4 hk4 hat4
            have hu4 := hu3.keeps hk4 (fun g hg e => huv3 g hg e)
            go_wp2
            go_roundw
            case rel =>
              rw [X1.out] at hu4
              rw [X2.out] at hv4
              refine ⟨i + 1, rfl, by omega, hu4, hv4, fun g hg e => ?_, (hkx.step hk3 (fun j hj h => absurd (hu.base j h).1 (by omega))).step hk4 (fun j hj h => absurd (hv3.base j h).1 (by omega))⟩
              rcases hat4 with h | ⟨g', h, hge⟩
              · exact huv3 g hg (h ▸ e)
              · rw [h] at e; injection e with e; have := (hu3.base g hg).2; omega
            case measure => simp [intOf]; omega
          · have h64 : i = 64 := by omega
            subst h64
            have hT : K.take 64 = K := List.take_of_length_le (by omega)
            rw [hT] at hu hv
            have hlx := hkx.size
            have hrb := hrw.keeps (hkr.trans hkx) (fun _ _ h => h)
            go_wp2_with (at_builtin; (refine wpList_pour rfl _ _ 22 rfl .u8 wl.heap.size 5 i0 1 Try.underlying22 hi hz0 hz1 hz2 u6 (xorAll 54 K) rfl hu a' c' b rfl hc' (· < w.heap.size) hrb (by rw [xorAll_len]; omega) (by omega) hlx ?_))
            intro u8 w3 hu3 hk3
            have hv3 := hv.keeps hk3 (fun g hg e => huv g e hg)
            obtain ⟨L1, hL1⟩ : ∃ L1, L1 = xorAll 54 K ++ b := ⟨_, rfl⟩
            rw [← hL1] at hu3
            have hl1 : L1.length ≤ 1000064 := by rw [hL1, List.length_append, xorAll_len]; omega
            have HL1 := hid hL1
            clear hL1
            obtain ⟨a8, c8, rfl, hc8, hr8⟩ := hu3.opened
            have hk3s : wl.heap.size ≤ w3.heap.size := by have := hk3.size; omega
            go_wp2_with fail
            refine (refSum256_any a8 c8 L1 w3 (by omega) hc8.1 (hr8.mono (fun _ _ _ => trivial))).mono ?_
            rintro e w4 ⟨v4, rfl, ho4, hk4⟩
            obtain ⟨S1, hS1⟩ : ∃ S1, S1 = sha256 L1 := ⟨_, rfl⟩
            rw [← hS1] at ho4
            have hs1 : S1.length ≤ 32 := by rw [hS1, sha256_length]; omega
            have HS1 := hid hS1
            clear hS1
            obtain ⟨a9, c9, rfl, hc9, hr9⟩ := ho4.opened
            have hv4 := hv3.keeps hk4 (fun _ _ h => h)
            have hk4s : wl.heap.size ≤ w4.heap.size := by have := hk4.size; omega
            go_wp2_with (at_builtin; (refine wpList_pour rfl _ _ 22 rfl .u8 wl.heap.size 5 i0 1 Try.underlying22 hi hz0 hz1 hz2 u7 (xorAll 92 K) rfl hv4 a9 c9 S1 rfl hc9.1 (w3.heap.size ≤ ·) hr9 (by rw [xorAll_len]; omega) (by omega) hk4s ?_))
            intro v5 w5 ho5 hk5
            obtain ⟨L2, hL2⟩ : ∃ L2, L2 = xorAll 92 K ++ S1 := ⟨_, rfl⟩
            rw [← hL2] at ho5
            have hl2 : L2.length ≤ 1000064 := by rw [hL2, List.length_append, xorAll_len]; omega
            have HL2 := hid hL2
            clear hL2
            obtain ⟨a10, c10, rfl, hc10, hr10⟩ := ho5.opened
            go_wp2_with fail
            refine (refSum256_any a10 c10 L2 w5 (by omega) hc10.1 (hr10.mono (fun _ _ _ => trivial))).mono ?_
            rintro e w6 ⟨v6, rfl, ho6, hk6⟩
            go_wp2_with fail
            go_ret
            have kAll : Keeps (fun _ => False) w w6 := (((((hkr.trans hkx).step hk3 (fun j hj h => absurd (hu.base j h).1 (by omega))).trans hk4).step hk5 (fun j hj h => absurd (hv4.base j h).1 (by omega))).trans hk6)
            refine ⟨_, rfl, ?_, kAll⟩
            rw [hmac, ← HKK.out, ← HL1.out, ← HS1.out, ← HL2.out]
            exact ho6.lower (by have := hk5.size; omega)
end Go.Proofs.Ytomeeeakaejokaa
