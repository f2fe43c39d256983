/-
  The program's layer 5: a key filled to a block, hashes of joined parts, HMAC.
-/
import Derived.Test.YtomeeeakaejokaaPrgKdfA
import Derived.Test.YtomeeeakaejokaaPrgSha
namespace Go.Proofs.Ytomeeeakaejokaa
open Go.RowKit

theorem zero64b : (Try.prog.info? 44).map (fun i => (i.zero, i.size)) = some (some (.agg (Array.replicate 64 (.int .u8 0))), 64) := by kernel_rfl

set_option maxHeartbeats 2000000 in
set_option maxRecDepth 100000 in
theorem fill_any (a : Option Addr) (c : Nat) (key : List Int) (w : World) (hk : key.length ≤ 1000000) (hc : CapOk a c key.length) (hr : RowAt (fun _ => True) .u8 w a key) :
    Calls Try.prog 26 #[.slice a key.length c] w (fun e w' => e = .returned (.agg (wordsOf .u8 (hkey key))) ∧ Keeps (fun _ => False) w w') := by
  obtain ⟨hz, hs⟩ := zero_of_info zero64b
  have HSZ := hid (show (Try.prog.info? 5).map (·.size) = some 1 by kernel_rfl)
  obtain ⟨Z, hZ⟩ : ∃ Z, Z = Array.replicate 64 (Value.int .u8 0) := ⟨_, rfl⟩
  rw [← hZ] at hz
  have HZ := hid (show Z = (List.replicate 64 (Value.int .u8 0)).toArray by rw [hZ]; rfl)
  clear hZ
  have k1 : Keeps (fun _ => False) w (w.alloc (.cells Z 44)) := (Keeps.refl _ w).alloc _
  have hz1 : (w.alloc (.cells Z 44)).heap[w.heap.size]? = some (.cells Z 44 (0, 0)) := heap_alloc_last _ _
  obtain ⟨W1, hW1⟩ : ∃ W1, W1 = w.alloc (.cells Z 44) := ⟨_, rfl⟩
  have hW1s : W1.heap.size = w.heap.size + 1 := by rw [hW1, World.size_alloc]
  rw [← hW1] at k1 hz1
  have HW1 := hid hW1
  have hr1 := hr.keeps k1 (fun _ _ h => h)
  clear hW1
  by_cases hl : key.length > 64
  · have hl' : (key.length : Int) > 64 := by omega
    have HC := hid (prgSum256 a c key W1 hk hc hr1)
    go_enter Try.func26, Try.ntmps26
    go_wp2_with fail
    rw [← HW1.out]
    refine (HC.out).mono ?_
    rintro e w2 ⟨v, rfl, hown, hk2'⟩
    obtain ⟨a2, c2, rfl, hc2, hr2⟩ := hown.opened
    obtain ⟨k0, hk0⟩ : ∃ k0, k0 = hkey0 key := ⟨_, rfl⟩
    have HK0 := hid hk0
    have hks : sha256 key = k0 := by rw [hk0, hkey0, if_pos hl]
    rw [hks] at hr2 hc2 ⊢
    have hk2lt : w.heap.size < w2.heap.size := by have := hk2'.size; omega
    have hz2 : w2.heap[w.heap.size]? = some (.cells Z 44 (0, 0)) := by rw [hk2'.block _ (by omega) (fun h => h)]; exact hz1
    have hk2 : Keeps (fun _ => False) w w2 := k1.trans hk2'
    have HKL := hid (show k0.length ≤ 64 by rw [hk0]; exact hkey0_len key)
    clear hk0 hks hown hk2' hz1 k1 hr1 hl hl' HC
    have hk0l : k0.length ≤ 64 := HKL.out
    have HF := hid (show wordsOf .u8 (hkey key) = (splice (List.replicate 64 (Value.int .u8 0)) 0 (k0.map (Value.int .u8))).toArray by rw [splice_zero, hkey, hfill, ← HK0.out])
    obtain ⟨X, hX⟩ : ∃ X, X = k0.map (Value.int .u8) := ⟨_, rfl⟩
    have hXl : X.length = k0.length := by rw [hX, List.length_map]
    have HX := hid hX
    have HXL := hid hXl
    have HXS := hid (show 0 < X.length → ∃ ad, a2 = some ad ∧ ∀ j v, X[j]? = some v → (w2.alloc (.cells Z 44)).cell? (ad.add j) = some v from fun hp => by
      rcases hr2.2.2 with h0 | ⟨g, off, h1, _, h2, h3⟩
      · rw [HXL.out, h0] at hp; exact absurd hp (by simp)
      · refine ⟨_, h1, fun j v hj => ?_⟩
        rw [HX.out, List.getElem?_map] at hj
        rcases hq : k0[j]? with _ | y
        · simp [hq] at hj
        · simp [hq] at hj
          have hjl : j < k0.length := (List.getElem?_eq_some_iff.1 hq).1
          rw [add_block_none, World.cell?_alloc_lt _ _ _ h2, h3 j hjl, ← hj]
          simp [List.getD_eq_getElem?_getD, hq])
    rw [← HX.out] at HF
    clear hX hXl
    have hgs : w.heap.size ≤ w2.heap.size := hk2.size
    go_wp2_with (first
      | ((with_reducible show wpList _ _ _ (Oper.mk (some 11) _ _ _ _ _ :: _) _ _); refine Hid.out ?_))
    refine hid ?_
    refine wpList_copy_splice rfl _ _ 22 22 rfl 5 Try.underlying22 HSZ.out _ _ 64 64 _ _ rfl rfl w2.heap.size 0 (List.replicate 64 (Value.int .u8 0)) 44 (by rw [← HZ.out]; exact heap_alloc_last _ _) X (by rw [HXL.out]; show _ = min _ 64; rw [Nat.min_eq_left hk0l]) (fun hp => ⟨rfl, HXS.out hp⟩) (by rw [List.length_replicate, HXL.out]; omega) (by intro v hv; rw [HX.out] at hv; simp at hv; obtain ⟨_, _, rfl⟩ := hv; rfl) w2.heap.size w2 (Below.alloc (Below.refl _ _) (Nat.le_refl _) _) (Nat.le_refl _) ?_
    intro w3 HG3 hB3
    have hk3 := keeps_of_below hB3
    have hg3 := HG3.out
    rw [← HF.out] at hg3
    have h64 : (wordsOf .u8 (hkey key)).size = 64 := by rw [wordsOf_size, hkey_len]
    have hall : (wordsOf .u8 (hkey key)).all (·.oneCell') = true := words_one _ _
    obtain ⟨KK, hKK⟩ : ∃ KK, KK = wordsOf .u8 (hkey key) := ⟨_, rfl⟩
    rw [← hKK] at hg3 h64 hall
    have HKK := hid hKK
    have H64 := hid (show some 64 = some KK.size by rw [h64])
    have HALL := hid hall
    clear hKK h64 hall
    obtain ⟨ge, hge⟩ : ∃ ge, ge = w2.heap.size := ⟨_, rfl⟩
    rw [← hge] at hg3 ⊢
    have HGE := hid hge
    have hgw : w3.heap[w.heap.size]? = some (.cells Z 44 (0, 0)) := by rw [hk3.block _ hk2lt (fun h => h)]; exact hz2
    have kf : Keeps (fun _ => False) w w3 := hk2.trans hk3
    clear HG3 hB3 hge hk3 HXS hz2 hr2
    go_wp2_with (first
      | (refine wpList_load_row rfl _ _ rfl ge rfl _ _ (0, 0) _ hg3 Try.underlying44 rfl ((show (Try.prog.info? 44).map (·.size) = some 64 by kernel_rfl).trans H64.out) ?_)
      | (refine wpList_store_row rfl _ _ _ rfl w.heap.size _ rfl rfl _ _ hgw ((show (Try.prog.info? 44).map (·.size) = some 64 by kernel_rfl).trans H64.out) (by rw [HZ.out]; exact Option.some.inj H64.out) HALL.out ?_))
    refine bodyPost_ret (v := .agg KK) (results_cell_row rfl _ _ w.heap.size 44 KK (0, 0) _ rfl (setRow_heap _ _ _ _ _ _ hgw) Try.underlying44 rfl ((show (Try.prog.info? 44).map (·.size) = some 64 by kernel_rfl).trans H64.out)) rfl ?_
    exact ⟨by rw [HKK.out], Keeps.setRow kf _ _ (fun hi => absurd hi (by omega))⟩
  · have hl' : ¬ (key.length : Int) > 64 := by omega
    have HK0 := hid (show key = hkey0 key by rw [hkey0, if_neg hl])
    have HKL := hid (show key.length ≤ 64 by omega)
    have hr2 : RowAt (fun _ => True) .u8 W1 a key := hr1
    have hk2lt : w.heap.size < W1.heap.size := by omega
    have hz2 := hz1
    have hk2 := k1
    have HS1 := hid hW1s
    clear hz1 k1 hr1 hl
    have hk0l : key.length ≤ 64 := HKL.out
    have HF := hid (show wordsOf .u8 (hkey key) = (splice (List.replicate 64 (Value.int .u8 0)) 0 (key.map (Value.int .u8))).toArray by rw [splice_zero, hkey, hfill, ← HK0.out])
    obtain ⟨X, hX⟩ : ∃ X, X = key.map (Value.int .u8) := ⟨_, rfl⟩
    have hXl : X.length = key.length := by rw [hX, List.length_map]
    have HX := hid hX
    have HXL := hid hXl
    have HXS := hid (show 0 < X.length → ∃ ad, a = some ad ∧ ∀ j v, X[j]? = some v → (W1.alloc (.cells Z 44)).cell? (ad.add j) = some v from fun hp => by
      rcases hr2.2.2 with h0 | ⟨g, off, h1, _, h2, h3⟩
      · rw [HXL.out, h0] at hp; exact absurd hp (by simp)
      · refine ⟨_, h1, fun j v hj => ?_⟩
        rw [HX.out, List.getElem?_map] at hj
        rcases hq : key[j]? with _ | y
        · simp [hq] at hj
        · simp [hq] at hj
          have hjl : j < key.length := (List.getElem?_eq_some_iff.1 hq).1
          rw [add_block_none, World.cell?_alloc_lt _ _ _ h2, h3 j hjl, ← hj]
          simp [List.getD_eq_getElem?_getD, hq])
    rw [← HX.out] at HF
    clear hX hXl
    have hgs : w.heap.size ≤ W1.heap.size := hk2.size
    clear hW1s
    go_enter Try.func26, Try.ntmps26
    go_wp2_with (first
      | ((with_reducible show wpList _ _ _ (Oper.mk (some 11) _ _ _ _ _ :: _) _ _); refine Hid.out ?_))
    rw [← HW1.out, ← HS1.out]
    refine hid ?_
    refine wpList_copy_splice rfl _ _ 22 22 rfl 5 Try.underlying22 HSZ.out _ _ 64 64 _ _ rfl rfl W1.heap.size 0 (List.replicate 64 (Value.int .u8 0)) 44 (by rw [← HZ.out]; exact heap_alloc_last _ _) X (by rw [HXL.out]; show _ = min _ 64; rw [Nat.min_eq_left hk0l]) (fun hp => ⟨rfl, HXS.out hp⟩) (by rw [List.length_replicate, HXL.out]; omega) (by intro v hv; rw [HX.out] at hv; simp at hv; obtain ⟨_, _, rfl⟩ := hv; rfl) W1.heap.size W1 (Below.alloc (Below.refl _ _) (Nat.le_refl _) _) (Nat.le_refl _) ?_
    intro w3 HG3 hB3
    have hk3 := keeps_of_below hB3
    have hg3 := HG3.out
    rw [← HF.out] at hg3
    have h64 : (wordsOf .u8 (hkey key)).size = 64 := by rw [wordsOf_size, hkey_len]
    have hall : (wordsOf .u8 (hkey key)).all (·.oneCell') = true := words_one _ _
    obtain ⟨KK, hKK⟩ : ∃ KK, KK = wordsOf .u8 (hkey key) := ⟨_, rfl⟩
    rw [← hKK] at hg3 h64 hall
    have HKK := hid hKK
    have H64 := hid (show some 64 = some KK.size by rw [h64])
    have HALL := hid hall
    clear hKK h64 hall
    obtain ⟨ge, hge⟩ : ∃ ge, ge = W1.heap.size := ⟨_, rfl⟩
    rw [← hge] at hg3 ⊢
    have HGE := hid hge
    have hgw : w3.heap[w.heap.size]? = some (.cells Z 44 (0, 0)) := by rw [hk3.block _ hk2lt (fun h => h)]; exact hz2
    have kf : Keeps (fun _ => False) w w3 := hk2.trans hk3
    clear HG3 hB3 hge hk3 HXS hz2 hr2
    go_wp2_with (first
      | (refine wpList_load_row rfl _ _ rfl ge rfl _ _ (0, 0) _ hg3 Try.underlying44 rfl ((show (Try.prog.info? 44).map (·.size) = some 64 by kernel_rfl).trans H64.out) ?_)
      | (refine wpList_store_row rfl _ _ _ rfl w.heap.size _ rfl rfl _ _ hgw ((show (Try.prog.info? 44).map (·.size) = some 64 by kernel_rfl).trans H64.out) (by rw [HZ.out]; exact Option.some.inj H64.out) HALL.out ?_))
    refine bodyPost_ret (v := .agg KK) (results_cell_row rfl _ _ w.heap.size 44 KK (0, 0) _ rfl (setRow_heap _ _ _ _ _ _ hgw) Try.underlying44 rfl ((show (Try.prog.info? 44).map (·.size) = some 64 by kernel_rfl).trans H64.out)) rfl ?_
    exact ⟨by rw [HKK.out], Keeps.setRow kf _ _ (fun hi => absurd hi (by omega))⟩


theorem RowIs.opened {k : IntKind} {l : List Int} {v : Value} {w : World} (h : RowIs k l v w) : ∃ a c, v = .slice a l.length c ∧ CapOk a c l.length ∧ RowAt (fun _ => True) k w a l := h

/-- Two byte strings, one after the other, hashed. -/
theorem hash2_any (a : Option Addr) (c : Nat) (x : List Int) (a' : Option Addr) (c' : Nat) (y : List Int) (w : World) (hx : x.length ≤ 400000) (hy : y.length ≤ 400000)
    (hc : CapOk a c x.length) (hr : RowAt (fun _ => True) .u8 w a x) (hc' : CapOk a' c' y.length) (hr' : RowAt (fun _ => True) .u8 w a' y) :
    Calls Try.prog 27 #[.slice (some ⟨w.heap.size, 0, none⟩) 2 2] (w.alloc (.cells #[.slice a x.length c, .slice a' y.length c'] 22)) (fun e w' =>
      ∃ v, e = .returned v ∧ OwnI .u8 5 w.heap.size w' v (sha256 (x ++ y)) ∧ Keeps (fun _ => False) w w') := by
  obtain ⟨W1, hW1⟩ : ∃ W1, W1 = w.alloc (.cells #[.slice a x.length c, .slice a' y.length c'] 22) := ⟨_, rfl⟩
  have k1 : Keeps (fun _ => False) w W1 := by rw [hW1]; exact (Keeps.refl _ _).alloc _
  have hsz : W1.heap.size = w.heap.size + 1 := by rw [hW1, World.size_alloc]
  have hblk : W1.heap[w.heap.size]? = some (.cells #[.slice a x.length c, .slice a' y.length c'] 22 (0, 0)) := by rw [hW1]; exact heap_alloc_last _ _
  have hsl : SlicesAt W1 w.heap.size 0 [x, y] := by
    refine ⟨by omega, fun i hi => ?_⟩
    match i, hi with
    | 0, _ => exact ⟨a, c, by rw [cell_of_row _ _ _ _ _ _ hblk]; rfl, hc.1, hr.keeps k1 (fun _ _ h => h)⟩
    | 1, _ => exact ⟨a', c', by rw [cell_of_row _ _ _ _ _ _ hblk]; rfl, hc'.1, hr'.keeps k1 (fun _ _ h => h)⟩
    | i + 2, h => exact absurd h (by simp)
  have hj := concat_any w.heap.size 0 2 [x, y] W1 (by simp) (by simp; omega) hsl
  rw [show ([x, y] : List (List Int)).length = 2 from rfl] at hj
  rw [← hW1]
  have HJ := hid hj
  clear hj hsl hblk hW1 hr hr' hc hc'
  have hs1 : w.heap.size ≤ W1.heap.size := k1.size
  clear hsz
  go_enter Try.func27, Try.ntmps27
  go_wp2_with fail
  refine (HJ.out).mono ?_
  rintro e w2 ⟨v2, rfl, ho2, hk2⟩
  have hfl : [x, y].flatten = x ++ y := by simp
  rw [hfl] at ho2
  obtain ⟨L, hL⟩ : ∃ L, L = x ++ y := ⟨_, rfl⟩
  have hl : L.length ≤ 800000 := by rw [hL, List.length_append]; omega
  have HL := hid hL
  rw [← hL] at ho2
  clear hL hfl
  obtain ⟨a2, c2, rfl, hc2, hr2⟩ := ho2.opened
  go_wp2_with fail
  refine (prgSum256 a2 c2 L w2 (by omega) hc2 (hr2.mono (fun _ _ _ => trivial))).mono ?_
  rintro e w3 ⟨v3, rfl, ho3, hk3⟩
  go_wp2_with fail
  go_ret
  exact ⟨_, rfl, by rw [← HL.out]; exact ho3.lower (Nat.le_trans hs1 hk2.size), (k1.trans hk2).trans hk3⟩

set_option maxHeartbeats 2000000 in
set_option maxRecDepth 100000 in
theorem prgHMAC_any (a : Option Addr) (c : Nat) (key : List Int) (a' : Option Addr) (c' : Nat) (b : List Int) (w : World) (hk : key.length ≤ 300000) (hb : b.length ≤ 300000)
    (hc : CapOk a c key.length) (hr : RowAt (fun _ => True) .u8 w a key) (hc' : CapOk a' c' b.length) (hr' : RowAt (fun _ => True) .u8 w a' b) :
    Calls Try.prog 13 #[.slice a key.length c, .slice a' b.length c'] w (HmacPost key b w) := by
  have HF := hid (fill_any a c key w (by omega) hc hr)
  obtain ⟨hz, hs⟩ := zero_of_info zero64b
  obtain ⟨Z, hZ⟩ : ∃ Z, Z = Array.replicate 64 (Value.int .u8 0) := ⟨_, rfl⟩
  rw [← hZ] at hz
  have HZ := hid (show Z.size = 64 by rw [hZ]; simp)
  obtain ⟨K, hK⟩ : ∃ K, K = hkey key := ⟨_, rfl⟩
  have hKl : K.length = 64 := by rw [hK]; exact hkey_len key
  have HM1 := hid (fun W => mask_any 54 K hKl W)
  have HM2 := hid (fun W => mask_any 92 K hKl W)
  have HK := hid hK
  have HS := hid (show wordsOf .u8 K = wordsOf .u8 (hkey key) by rw [hK])
  have H64 := hid (show some 64 = some (wordsOf .u8 K).size by rw [wordsOf_size, hKl])
  have HALL := hid (words_one .u8 K)
  have HX1 := hid (show (xorAll 54 K).length = 64 by rw [xorAll_len, hKl])
  have HX2 := hid (show (xorAll 92 K).length = 64 by rw [xorAll_len, hKl])
  rw [← hK] at HF
  obtain ⟨KK, hKK⟩ : ∃ KK, KK = wordsOf .u8 K := ⟨_, rfl⟩
  rw [← hKK] at HF HM1 HM2 H64 HALL
  clear hK hKl hZ hKK hc hr
  go_enter Try.func13, Try.ntmps13
  go_wp2_with fail
  refine (HF.out).mono ?_
  rintro e w1 ⟨rfl, hk1⟩
  have hr1 := hr'.keeps hk1 (fun _ _ h => h)
  obtain ⟨g, hg⟩ : ∃ g, g = w1.heap.size := ⟨_, rfl⟩
  have HG := hid hg
  have hzr : (w1.alloc (.cells Z 44)).heap[g]? = some (.cells Z 44 (0, 0)) := by rw [hg]; exact heap_alloc_last _ _
  have hgl : w.heap.size ≤ g := by rw [hg]; exact hk1.size
  have kA : Keeps (fun _ => False) w (w1.alloc (.cells Z 44)) := hk1.alloc _
  have hrA := hr'.keeps kA (fun _ _ h => h)
  clear hg
  go_wp2_with (first
    | (refine wpList_store_row rfl _ _ _ rfl g _ (by rw [HG.out]; rfl) rfl _ _ hzr ((show (Try.prog.info? 44).map (·.size) = some 64 by kernel_rfl).trans H64.out) (by rw [HZ.out]; exact Option.some.inj H64.out) HALL.out ?_)
    | ((with_reducible show wpList _ _ _ (Oper.mk (some 9) _ _ _ _ _ :: _) _ _); refine Hid.out ?_))
  refine hid ?_
  obtain ⟨w2, hw2⟩ : ∃ w2, w2 = (w1.alloc (.cells Z 44)).setRow g KK := ⟨_, rfl⟩
  have k2 : Keeps (fun _ => False) w w2 := by rw [hw2]; exact Keeps.setRow kA _ _ (fun hi => absurd hi (by omega))
  have hrow : w2.heap[g]? = some (.cells KK 44 (0, 0)) := by rw [hw2]; exact setRow_heap _ _ _ _ _ _ hzr
  have hgl2 : g < w2.heap.size := (Array.getElem?_eq_some_iff.1 hrow).1
  rw [← hw2, ← HG.out]
  clear hw2 hzr kA hrA hr1
  go_wp2_with (refine wpList_load_row rfl _ _ rfl g rfl _ _ (0, 0) _ hrow Try.underlying44 rfl ((show (Try.prog.info? 44).map (·.size) = some 64 by kernel_rfl).trans H64.out) ?_)
  refine (HM1.out w2).mono ?_
  rintro e w3 ⟨g3, rfl, hr3, hk3⟩
  have k3 := k2.trans hk3
  have hh := hash2_any (some ⟨g3, 0, none⟩) 64 (xorAll 54 K) a' c' b w3 (by rw [HX1.out]; omega) (by omega) ⟨fun h => (by cases h), by rw [HX1.out]; omega⟩ hr3 hc' (hr'.keeps k3 (fun _ _ h => h))
  rw [HX1.out] at hh
  have HH := hid hh
  have hrow3 : w3.heap[g]? = some (.cells KK 44 (0, 0)) := by rw [hk3.block _ hgl2 (fun h => h)]; exact hrow
  clear hh hr3 hrow
  go_wp2_with fail
  refine (HH.out).mono ?_
  rintro e w4 ⟨v4, rfl, ho4, hk4⟩
  have hrow4 : w4.heap[g]? = some (.cells KK 44 (0, 0)) := by rw [hk4.block _ (Array.getElem?_eq_some_iff.1 hrow3).1 (fun h => h)]; exact hrow3
  have k4 := k3.trans hk4
  obtain ⟨S1, hS1⟩ : ∃ S1, S1 = sha256 (xorAll 54 K ++ b) := ⟨_, rfl⟩
  rw [← hS1] at ho4
  have hs1 : S1.length ≤ 32 := by rw [hS1, sha256_length]; omega
  have HS1 := hid hS1
  obtain ⟨a4, c4, rfl, hc4, hr4⟩ := ho4.opened
  clear hS1 hrow3 HH k3 k2 hk3 hk4 ho4
  go_wp2_with (refine wpList_load_row rfl _ _ rfl g rfl _ _ (0, 0) _ hrow4 Try.underlying44 rfl ((show (Try.prog.info? 44).map (·.size) = some 64 by kernel_rfl).trans H64.out) ?_)
  refine (HM2.out w4).mono ?_
  rintro e w5 ⟨g5, rfl, hr5, hk5⟩
  have k5 := k4.trans hk5
  have hh := hash2_any (some ⟨g5, 0, none⟩) 64 (xorAll 92 K) a4 c4 S1 w5 (by rw [HX2.out]; omega) (by omega) ⟨fun h => (by cases h), by rw [HX2.out]; omega⟩ hr5 hc4 ((hr4.mono (fun _ _ _ => trivial)).keeps hk5 (fun _ _ h => h))
  rw [HX2.out] at hh
  have HH := hid hh
  clear hh hr5 hrow4 hr4
  go_wp2_with fail
  refine (HH.out).mono ?_
  rintro e w6 ⟨v6, rfl, ho6, hk6⟩
  go_wp2_with fail
  go_ret
  refine ⟨_, rfl, ?_, k5.trans hk6⟩
  rw [hmac, ← HK.out, ← HS1.out]
  exact ho6.lower k5.size

set_option maxHeartbeats 400000 in
theorem prgExtract_any (a : Option Addr) (c : Nat) (key : List Int) (a' : Option Addr) (c' : Nat) (b : List Int) (w : World) (hk : key.length ≤ 300000) (hb : b.length ≤ 300000)
    (hc : CapOk a c key.length) (hr : RowAt (fun _ => True) .u8 w a key) (hc' : CapOk a' c' b.length) (hr' : RowAt (fun _ => True) .u8 w a' b) :
    Calls Try.prog 15 #[.slice a key.length c, .slice a' b.length c'] w (HmacPost key b w) := by
  have HF := hid (prgHMAC_any a c key a' c' b w hk hb hc hr hc' hr')
  clear hc hr hc' hr'
  go_enter Try.func15, Try.ntmps15
  go_wp2_with fail
  refine (HF.out).mono ?_
  rintro e w1 ⟨v, rfl, ho, hk1⟩
  go_wp2_with fail
  go_ret
  exact ⟨_, rfl, ho, hk1⟩

set_option maxHeartbeats 400000 in
theorem refExtract_any (a : Option Addr) (c : Nat) (key : List Int) (a' : Option Addr) (c' : Nat) (b : List Int) (w : World) (hk : key.length ≤ 300000) (hb : b.length ≤ 300000)
    (hc : CapOk a c key.length) (hr : RowAt (fun _ => True) .u8 w a key) (hc' : CapOk a' c' b.length) (hr' : RowAt (fun _ => True) .u8 w a' b) :
    Calls Try.prog 16 #[.slice a key.length c, .slice a' b.length c'] w (HmacPost key b w) := by
  have HF := hid (refHMAC_any a c key a' c' b w (by omega) (by omega) hc.1 hr hc'.1 hr')
  clear hc hr hc' hr'
  go_enter Try.func16, Try.ntmps16
  go_wp2_with fail
  refine (HF.out).mono ?_
  rintro e w1 ⟨v, rfl, ho, hk1⟩
  go_wp2_with fail
  go_ret
  exact ⟨_, rfl, ho, hk1⟩
end Go.Proofs.Ytomeeeakaejokaa
