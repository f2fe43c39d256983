/-
  The answer of layer 5: Expand.
-/
import Derived.Test.YtomeeeakaejokaaRefJoin
import Derived.Test.YtomeeeakaejokaaRefHmac
import Derived.Test.YtomeeeakaejokaaRel
namespace Go.Proofs.Ytomeeeakaejokaa
open Go.RowKit

/-- The k-th part of what is derived. -/
def ekey (prk info : List Int) : Nat → List Int
  | 0 => []
  | k + 1 => hmac prk [ekey prk info k, info, [((k + 1 : Nat) : Int)]].flatten
def eout (prk info : List Int) : Nat → List Int
  | 0 => []
  | k + 1 => eout prk info k ++ ekey prk info (k + 1)
theorem hmac_len (key b : List Int) : (hmac key b).length = 32 := by rw [hmac, sha256_length]
theorem ekey_le (prk info : List Int) : ∀ k, (ekey prk info k).length ≤ 32
  | 0 => by simp [ekey]
  | k + 1 => by rw [ekey, hmac_len]; omega
theorem eout_len (prk info : List Int) : ∀ k, (eout prk info k).length = 32 * k
  | 0 => rfl
  | k + 1 => by rw [eout, List.length_append, eout_len prk info k, ekey, hmac_len]; omega

theorem RowAt.take {F : Nat → Prop} {k : IntKind} {w : World} {a : Option Addr} {l : List Int} (h : RowAt F k w a l) (n : Nat) : RowAt F k w a (l.take n) := by
  obtain ⟨h1, h2, h3⟩ := h
  refine ⟨by simp; omega, fun x hx => h2 x (List.mem_of_mem_take hx), ?_⟩
  rcases h3 with rfl | ⟨g, off, ha, hf, hg, hc⟩
  · exact .inl (by simp)
  · refine .inr ⟨g, off, ha, hf, hg, fun j hj => ?_⟩
    have hj' : j < n ∧ j < l.length := by simp at hj; omega
    rw [hc j hj'.2]
    simp [List.getD_eq_getElem?_getD, hj'.1]
theorem OwnI.cap {k : IntKind} {t base : Nat} {w : World} {a : Option Addr} {n c : Nat} {l : List Int} (h : OwnI k t base w (.slice a n c) l) : n ≤ c := by
  rcases h.1.2 with ⟨h1, _⟩ | ⟨g, cap, cur, h1, _, _, hnc, _⟩
  · injection h1; omega
  · injection h1; omega

def ExpandPost (prk info : List Int) (n : Nat) (w : World) (e : Ending) (w' : World) : Prop :=
  ∃ v, e = .returned (.tuple #[v, .int .i64 0]) ∧ RowIs .u8 ((eout prk info ((n + 31) / 32)).take n) v w' ∧ Keeps (fun _ => False) w w'
def ExpandLoop (prk info : List Int) (n : Nat) (w : World) (o t k : Value) (wr : World) : Prop :=
  ∃ j : Nat, k = .int .i64 ((j : Int) + 1) ∧ j ≤ 255 ∧ (j = 0 ∨ 32 * j < n + 32) ∧ OwnI .u8 5 w.heap.size wr o (eout prk info j) ∧ RowIs .u8 (ekey prk info j) t wr ∧ Keeps (fun _ => False) w wr

set_option maxHeartbeats 2000000 in
set_option maxRecDepth 100000 in
theorem refExpand_any (a : Option Addr) (c : Nat) (prk : List Int) (a' : Option Addr) (c' : Nat) (info : List Int) (n : Nat) (w : World) (hk : prk.length ≤ 100000) (hb : info.length ≤ 100000) (hn : n ≤ 8160)
    (hc : a = none → c = 0) (hr : RowAt (fun _ => True) .u8 w a prk) (hc' : a' = none → c' = 0) (hr' : RowAt (fun _ => True) .u8 w a' info) :
    Calls Try.prog 18 #[.slice a prk.length c, .slice a' info.length c', .int .i64 n] w (ExpandPost prk info n w) := by
  obtain ⟨i0, hi, hz0, hz1, hz2⟩ := info_parts info_u8p
  have hn' : (n : Int) ≤ 8160 := by omega
  go_enter Try.func18, Try.ntmps18
  go_wp2_with fail
  go_loopw [8, 9, 10] (fun o t k wr => ExpandLoop prk info n w o t k wr) (fun _ _ k _ => 1000 - (intOf k).toNat)
  case atStart => exact ⟨0, rfl, by omega, .inl rfl, OwnI.nil _ _ _ _, ⟨none, 0, rfl, ⟨fun _ => rfl, by simp [ekey]⟩, by simp [ekey], by simp [ekey], .inl rfl⟩, Keeps.refl _ _⟩
  case round =>
    obtain ⟨j, rfl, hj, hjn, hown, ⟨at', ct, rfl, hct, hrt⟩, hkr⟩ := hrel
    obtain ⟨ao, co, rfl, hco, hro⟩ := hown.opened
    have hL := eout_len prk info j
    rw [hL] at hown ⊢
    by_cases hlt : 32 * j < n
    · have hlt' : 32 * (j : Int) < (n : Int) := by omega
      have hj254 : j ≤ 254 := by omega
      go_wp2_with fail
      obtain ⟨T, hT⟩ : ∃ T, T = ekey prk info j := ⟨_, rfl⟩
      have hTl : T.length ≤ 32 := by rw [hT]; exact ekey_le prk info j
      have HX := hid (show ekey prk info (j + 1) = hmac prk [T, info, [((j + 1 : Nat) : Int)]].flatten by rw [ekey, ← hT])
      rw [← hT] at hrt ⊢
      clear hT
      obtain ⟨W1, hW1⟩ : ∃ W1, W1 = wr.alloc (Obj.cells #[.int .u8 ((j : Int) + 1)] 5) := ⟨_, rfl⟩
      obtain ⟨W2, hW2⟩ : ∃ W2, W2 = W1.alloc (Obj.cells #[.slice at' T.length ct, .slice a' info.length c', .slice (some ⟨wr.heap.size, 0, none⟩) 1 1] 22) := ⟨_, rfl⟩
      have hs1 : W1.heap.size = wr.heap.size + 1 := by rw [hW1, World.size_alloc]
      have hs2 : W2.heap.size = wr.heap.size + 2 := by rw [hW2, World.size_alloc, hs1]
      have k1 : Keeps (fun _ => False) wr W1 := by rw [hW1]; exact (Keeps.refl _ _).alloc _
      have k2 : Keeps (fun _ => False) wr W2 := by rw [hW2]; exact k1.alloc _
      have k12 : Keeps (fun _ => False) W1 W2 := by rw [hW2]; exact (Keeps.refl _ _).alloc _
      have hx : RowAt (fun _ => True) .u8 W1 (some ⟨wr.heap.size, 0, none⟩) [((j + 1 : Nat) : Int)] := by
        rw [hW1]
        exact RowAt.new .u8 wr 5 [((j + 1 : Nat) : Int)] (fun y hy => by simp at hy; subst hy; exact wf_u8_mk (by omega) (by omega)) (by simp)
      have hblk : W2.heap[W1.heap.size]? = some (.cells #[.slice at' T.length ct, .slice a' info.length c', .slice (some ⟨wr.heap.size, 0, none⟩) 1 1] 22 (0, 0)) := by rw [hW2]; exact heap_alloc_last _ _
      rw [hs1] at hblk
      have hsl : SlicesAt W2 (wr.heap.size + 1) 0 [T, info, [((j + 1 : Nat) : Int)]] := by
        refine ⟨by omega, fun i hi => ?_⟩
        match i, hi with
        | 0, _ => exact ⟨at', ct, by rw [cell_of_row _ _ _ _ _ _ hblk]; rfl, hct.1, hrt.keeps k2 (fun _ _ h => h)⟩
        | 1, _ => exact ⟨a', c', by rw [cell_of_row _ _ _ _ _ _ hblk]; rfl, hc', hr'.keeps (hkr.trans k2) (fun _ _ h => h)⟩
        | 2, _ => exact ⟨some ⟨wr.heap.size, 0, none⟩, 1, by rw [cell_of_row _ _ _ _ _ _ hblk]; rfl, (fun h => by cases h), hx.keeps k12 (fun _ _ h => h)⟩
        | i + 3, h => exact absurd h (by simp)
      have hfl : [T, info, [((j + 1 : Nat) : Int)]].flatten.length ≤ 200000 := by simp; omega
      have hj1 := refJoin_any (wr.heap.size + 1) 0 3 [T, info, [((j + 1 : Nat) : Int)]] W2 (by simp) (by omega) hsl
      rw [show ([T, info, [((j + 1 : Nat) : Int)]] : List (List Int)).length = 3 from rfl] at hj1
      rw [← hW1, ← hW2]
      refine hj1.mono ?_
      rintro e w3 ⟨v3, rfl, ho3, hk3⟩
      obtain ⟨M, hM⟩ : ∃ M, M = [T, info, [((j + 1 : Nat) : Int)]].flatten := ⟨_, rfl⟩
      rw [← hM] at ho3 hfl HX
      obtain ⟨a3, c3, rfl, hc3, hr3⟩ := ho3.opened
      have k3 := (hkr.trans k2).trans hk3
      have hown3 := hown.keeps (k2.trans hk3) (fun _ _ h => h)
      have hob : ∀ g, (Value.slice ao (32 * j) co).ownBlock = some g → g < w3.heap.size := fun g e => (hown3.base g e).2
      have hszk : wr.heap.size ≤ w3.heap.size := (k2.trans hk3).size
      clear hj1 hsl hblk hx hM hW1 hW2 k1 k2 k12 hk3 ho3 hs1 hs2 hown hrt hro
      go_wp2_with fail
      refine (refHMAC_any a c prk a3 c3 M w3 (by omega) (by omega) hc (hr.keeps k3 (fun _ _ h => h)) hc3.1 (hr3.mono (fun _ _ _ => trivial))).mono ?_
      rintro e w4 ⟨v4, rfl, ho4, hk4⟩
      rw [← HX.out] at ho4
      obtain ⟨a4, c4, rfl, hc4, hr4⟩ := ho4.opened
      have hown4 := hown3.keeps hk4 (fun _ _ h => h)
      have k4 := k3.trans hk4
      have hT1 := ekey_le prk info (j + 1)
      obtain ⟨T1, hTT⟩ : ∃ T1, T1 = ekey prk info (j + 1) := ⟨_, rfl⟩
      rw [← hTT] at hr4 hT1 ⊢
      have HTT := hid hTT
      clear hTT hr3 hown3 ho4
      go_wp2_with (at_builtin; (refine wpList_pour rfl _ _ 22 rfl .u8 w.heap.size 5 i0 1 Try.underlying22 hi hz0 hz1 hz2 (.slice ao (32 * j) co) (eout prk info j) rfl hown4 a4 c4 T1 rfl hc4.1 (w3.heap.size ≤ ·) hr4 (by rw [eout_len]; omega) (by omega) k4.size ?_))
      intro v5 w5 ho5 hk5
      have hr5 := hr4.keeps hk5 (fun g hg e => by have := hob g e; omega)
      go_wp2
      go_roundw
      case rel =>
        refine ⟨j + 1, by congr 1, by omega, .inr (by omega), ?_, ⟨a4, c4, by rw [HTT.out], hc4, ?_⟩, k4.step hk5 (fun i hi hb => absurd (hown4.base i hb).1 (by omega))⟩
        · rw [eout, ← HTT.out]; exact ho5
        · rw [← HTT.out]; exact hr5.mono (fun _ _ _ => trivial)
      case measure => simp [intOf]; omega
    · have hlt' : ¬ 32 * (j : Int) < (n : Int) := by omega
      have hcap := hown.cap
      have hnj : (n + 31) / 32 = j := by omega
      have hncap : n ≤ co := by omega
      have HNJ := hid hnj
      have hro' := hro.take n
      have hlen : ((eout prk info j).take n).length = n := by rw [List.length_take, eout_len]; omega
      have HL := hid hlen
      clear hlen hnj hown hL hrt hro
      go_wp2_with fail
      go_ret2
      refine ⟨_, rfl, ?_, hkr⟩
      rw [HNJ.out]
      exact ⟨ao, co, by rw [HL.out]; rfl, ⟨hco.1, by rw [HL.out]; exact hncap⟩, hro'.mono (fun _ _ _ => trivial)⟩
end Go.Proofs.Ytomeeeakaejokaa
