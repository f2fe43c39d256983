import Derived.Lib.AppendZerosOnto
import Derived.Laws.CopyRow
import Derived.Test.YtdeigmjbcbjgeaaGreatDoorYcBytes
namespace Go.Proofs.YtdeigmjbcbjgeaaGreatDoor
open Go.RowKit
theorem zeroCells_int (k : IntKind) (n : Nat) : Builtin.zeroCells (Value.int k 0).cells n = ((List.replicate n (0 : Int)).map (Value.int k)).toArray := by
 apply Array.ext
 ·simp [Builtin.zeroCells, Value.cells]
 ·intro j h1 h2
  simp [Builtin.zeroCells, Value.cells, Nat.mod_one]
end Go.Proofs.YtdeigmjbcbjgeaaGreatDoor
namespace Go.Proofs.YtdeigmjbcbjgeaaGreatDoor
open Go.RowKit
theorem run_zeros_roomV {P : Program} (w : World) (t tn ty e : TypeId) (i : TypeInfo) (k kn kq : IntKind) (ht : P.underlying t = some (.slice e)) (htn : P.underlying tn = some (.int kn)) (hi : P.info? e = some i) (zv : Value) (hz : i.zero = some zv) (hzc : zv.cells = (Value.int k 0).cells) (hs : i.size = 1) (hby : i.bytes ≤ 8)
  (g sLen sCap n : Nat) (cur : Array Value) (hg : w.heap[g]? = some (.cells cur e (0, 0))) (hn : n ≤ 17592186044416) (hroom : sLen + n ≤ sCap) (hfit : sLen + n ≤ cur.size) :
  (Builtin.append_ #[t, tn] ty #[.slice (some ⟨g, 0, none⟩) sLen sCap, .int kq n]).run P w =
   .ok (.slice (some ⟨g, 0, none⟩) (sLen + n) sCap) (w.setRow g (cur.toList.take sLen ++ (List.replicate n (0 : Int)).map (Value.int k) ++ cur.toList.drop (sLen + n)).toArray) := by
 have hst := run_storeCells_at P g sLen e ((List.replicate n (0 : Int)).map (Value.int k)) 0 cur w hg (by simpa using hfit) (by intro v hv; obtain ⟨_, _, rfl⟩ := List.mem_map.1 hv; rfl)
 simp only [Nat.add_zero] at hst
 have hw : IntKind.i64.wrap (n : Int) = n := by rw [IntKind.wrap_i64]; omega
 have hneg : ¬ ((n : Int) < 0) := by omega
 have h48 : ¬ (281474976710656 < (n : Int) * (i.bytes : Int)) := by
  rw [← Int.natCast_mul]
  have : n * i.bytes ≤ n * 8 := Nat.mul_le_mul_left _ hby
  omega
 by_cases h0 : n = 0
 ·subst h0
  have hst' : (storeCells ⟨g, sLen, none⟩ [] 0).run P w = .ok () (w.setRow g (cur.toList.take sLen ++ (List.replicate 0 (0 : Int)).map (Value.int k) ++ cur.toList.drop (sLen + 0)).toArray) := by simpa using hst
  have hw0 : IntKind.i64.wrap (0 : Int) = 0 := by rw [IntKind.wrap_i64]; rfl
  have hroom' : sLen ≤ sCap := by omega
  simp only [List.replicate_zero, List.map_nil, List.append_nil, Nat.add_zero] at hst' ⊢
  simp [Builtin.append_, run_underlying ht, run_underlying htn, sizeOf, typeInfo, hi, hs, asInt, asIntOf, hw0, hroom', Addr.add_lit, hst']
 ·have hz' := zeroCells_int k n
  simp [Builtin.append_, run_underlying ht, run_underlying htn, sizeOf, typeInfo, zeroValue, hi, hz, hs, asInt, asIntOf, hw, hneg, h48, h0, hroom, Addr.add_lit]
  rw [hzc, hz']
  simp only
  simp at hst
  simp [hst]
theorem run_zeros_any {P : Program} (w : World) (base : Nat) (t tn ty e : TypeId) (i : TypeInfo) (k kn kq : IntKind) (ht : P.underlying t = some (.slice e)) (htn : P.underlying tn = some (.int kn)) (hi : P.info? e = some i) (zv : Value) (hz : i.zero = some zv) (hzc : zv.cells = (Value.int k 0).cells) (hs : i.size = 1) (hby : i.bytes ≤ 8)
  (v : Value) (N : Nat) (xs : List Value) (hown : w.ownsRow base e 1 v N xs) (n : Nat) (hlen : N + n ≤ 17592186044416) (hbase : base ≤ w.heap.size) :
  ∃ v' w', (Builtin.append_ #[t, tn] ty #[v, .int kq n]).run P w = .ok v' w' ∧ w'.ownsRow base e 1 v' (N + n) (xs ++ (List.replicate n (0 : Int)).map (Value.int k)) ∧ w.grownBy w' v.ownBlock ∧ (v'.ownBlock = v.ownBlock ∨ v'.ownBlock = some w.heap.size) := by
 have hxl : xs.length = N := by simpa using hown.1
 have h63 : N + n ≤ maxLen := by unfold maxLen; omega
 have hnb : n * i.bytes ≤ 281474976710656 := Nat.le_trans (Nat.mul_le_mul_left n hby) (by omega)
 have hbb : (N + n) * i.bytes ≤ 140737488355328 := Nat.le_trans (Nat.mul_le_mul_left _ hby) (by omega)
 have hg0 : ∀ c, w.grownBy (w.drew.alloc c) v.ownBlock := fun c => ⟨rfl, rfl, rfl, by simp, fun k hk _ => heap_alloc_old w.drew _ hk⟩
 have grown : ∀ old : Nat, (w.drew.alloc (.cells (xs.toArray ++ Builtin.zeroCells (Value.int k 0).cells n ++ Builtin.zeroCells (Value.int k 0).cells (grownCap w (N + n) old e - (N + n))) e)).ownsRow base e 1
   (.slice (some ⟨w.heap.size, 0, none⟩) (N + n) (grownCap w (N + n) old e)) (N + n) (xs ++ (List.replicate n (0 : Int)).map (Value.int k)) := by
  intro old
  have hge := grownCap_ge w (N + n) old e
  have hcm := grownCap_le_maxLen w (N + n) old e h63
  refine ⟨by simp [hxl], .inr ⟨w.heap.size, _, _, rfl, hbase, heap_alloc_new w.drew _, hge, hcm, ?_, ?_⟩⟩
  ·simp only [zeroCells_int, Array.size_append, List.size_toArray, List.length_map, List.length_replicate]
   omega
  ·rw [Nat.mul_one, zeroCells_int, zeroCells_int]
   simp only [Array.toList_append]
   have : N + n = (xs ++ (List.replicate n (0 : Int)).map (Value.int k)).length := by simp [hxl]
   rw [this]
   exact List.take_left
 rcases hown.2 with ⟨rfl, hn0⟩ | ⟨g, cap, cur, rfl, hbg, hg, hnc, hcm, hcs, htake⟩
 ·subst hn0
  have hl : xs = [] := List.eq_nil_of_length_eq_zero hxl
  subst hl
  by_cases hn : n = 0
  ·subst hn
   refine ⟨.slice none 0 0, w, ?_, by simpa using hown, ⟨rfl, rfl, rfl, Nat.le_refl _, fun _ _ _ => rfl⟩, .inl rfl⟩
   have hw0 : IntKind.i64.wrap (0 : Int) = 0 := by rw [IntKind.wrap_i64]; rfl
   simp [Builtin.append_, run_underlying ht, run_underlying htn, sizeOf, typeInfo, hi, asInt, asIntOf, hw0]
  ·have hr := Lib.run_append_nil_zeros (P := P) w t tn ty e i zv kq kn ht htn hi hz n (by omega) (by omega) (by omega) hnb
   rw [hzc] at hr
   have hgr := grown 0
   simp only [Nat.zero_add, List.nil_append] at hgr ⊢
   refine ⟨_, _, hr, ?_, hg0 _, .inr rfl⟩
   simpa using hgr
 ·by_cases hroom : N + n ≤ cap
  ·have hr := run_zeros_roomV (P := P) w t tn ty e i k kn kq ht htn hi zv hz hzc hs hby g N cap n cur hg (by omega) hroom (by omega)
   refine ⟨_, _, hr, ⟨by simp [hxl], .inr ⟨g, cap, _, rfl, hbg, setRow_heap w g cur _ e _ hg, hroom, hcm, ?_, ?_⟩⟩, ?_, .inl rfl⟩
   ·simp only [List.size_toArray, List.length_append, List.length_take, List.length_drop, Array.length_toList, List.length_map, List.length_replicate]
    omega
   ·rw [Nat.mul_one] at htake
    rw [Nat.mul_one, htake]
    have : N + n = (xs ++ (List.replicate n (0 : Int)).map (Value.int k)).length := by simp [hxl]
    rw [this]
    exact List.take_left
   ·have hk := (Keeps.refl (fun g' => g' = g) w).setRow g (cur.toList.take N ++ (List.replicate n (0 : Int)).map (Value.int k) ++ cur.toList.drop (N + n)).toArray (fun _ => rfl)
    exact ⟨rfl, rfl, rfl, hk.size, fun j hj hne => hk.block j hj (fun e => hne (by rw [e]; rfl))⟩
  ·have holds : ∀ j u, xs[j]? = some u → w.cell? ((⟨g, 0, none⟩ : Addr).add j) = some u := hown.cells (g := g) rfl
   have hold := run_firstCells_some (P := P) w.drew i.size N ⟨g, 0, none⟩ N cap xs (by rw [hs, hxl, Nat.mul_one]) (by simpa using holds)
   have hr := Lib.run_append_grow_zeros (P := P) w t tn ty e i zv kq kn ht htn hi hz (some ⟨g, 0, none⟩) N cap xs hold n (by omega) (by omega) (by omega) (by omega) hnb (growslice_fits (by omega) hbb)
   rw [hzc] at hr
   exact ⟨_, _, hr, grown cap, hg0 _, .inr rfl⟩
end Go.Proofs.YtdeigmjbcbjgeaaGreatDoor
