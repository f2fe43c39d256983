/-
  append(v, make([]T, n)...): zeros behind a row of the call's own (the translation hands append the number).
-/
import Derived.Test.YtkennahakodfnaaBytes
import Derived.Lib.AppendZerosOnto
import Derived.Laws.CopyRow
namespace Go.Proofs.Ytkennahakodfnaa
open Go.RowKit

theorem zeroCells_int (k : IntKind) (n : Nat) : Builtin.zeroCells (Value.int k 0).cells n = ((List.replicate n (0 : Int)).map (Value.int k)).toArray := by
  apply Array.ext
  · simp [Builtin.zeroCells, Value.cells]
  · intro j h1 h2
    simp [Builtin.zeroCells, Value.cells, Nat.mod_one]

theorem run_zeros_room {P : Program} (w : World) (t tn ty e : TypeId) (i : TypeInfo) (k kn kq : IntKind) (ht : P.underlying t = some (.slice e)) (htn : P.underlying tn = some (.int kn)) (hi : P.info? e = some i) (hz : i.zero = some (.int k 0)) (hs : i.size = 1) (hby : i.bytes ≤ 8)
    (g sLen sCap n : Nat) (cur : Array Value) (hg : w.heap[g]? = some (.cells cur e (0, 0))) (hn : n ≤ 17592186044416) (hroom : sLen + n ≤ sCap) (hfit : sLen + n ≤ cur.size) :
    (Builtin.append_ #[t, tn] ty #[.slice (some ⟨g, 0, none⟩) sLen sCap, .int kq n]).run P w =
      .ok (.slice (some ⟨g, 0, none⟩) (sLen + n) sCap) (w.setRow g (cur.toList.take sLen ++ (List.replicate n (0 : Int)).map (Value.int k) ++ cur.toList.drop (sLen + n)).toArray) := by
  have hst := run_storeCells_at P g sLen e ((List.replicate n (0 : Int)).map (Value.int k)) 0 cur w hg (by simpa using hfit) (by intro v hv; obtain ⟨_, _, rfl⟩ := List.mem_map.1 hv; rfl)
  simp only [Nat.add_zero] at hst
  have hw : IntKind.i64.wrap (n : Int) = n := by rw [IntKind.wrap_i64]; omega
  have hneg : ¬ ((n : Int) < 0) := by omega
  have h48 : ¬ (281474976710656 < (n : Int) * (i.bytes : Int)) := by
    rw [← Int.natCast_mul]
    have : n * i.bytes ≤ n * 8 := Nat.mul_le_mul_left _ hby
    omega
  by_cases h0 : n = 0
  · subst h0
    have hst' : (storeCells ⟨g, sLen, none⟩ [] 0).run P w = .ok () (w.setRow g (cur.toList.take sLen ++ (List.replicate 0 (0 : Int)).map (Value.int k) ++ cur.toList.drop (sLen + 0)).toArray) := by simpa using hst
    have hw0 : IntKind.i64.wrap (0 : Int) = 0 := by rw [IntKind.wrap_i64]; rfl
    have hroom' : sLen ≤ sCap := by omega
    simp only [List.replicate_zero, List.map_nil, List.append_nil, Nat.add_zero] at hst' ⊢
    simp [Builtin.append_, run_underlying ht, run_underlying htn, sizeOf, typeInfo, hi, hs, asInt, asIntOf, hw0, hroom', Addr.add_lit, hst']
  · have hz' := zeroCells_int k n
    simp [Builtin.append_, run_underlying ht, run_underlying htn, sizeOf, typeInfo, zeroValue, hi, hz, hs, asInt, asIntOf, hw, hneg, h48, h0, hroom, Addr.add_lit]
    rw [hz']
    simp only
    simp at hst
    simp [hst]

theorem run_zeros_own {P : Program} (w : World) (base : Nat) (t tn ty e : TypeId) (i : TypeInfo) (k kn kq : IntKind) (ht : P.underlying t = some (.slice e)) (htn : P.underlying tn = some (.int kn)) (hi : P.info? e = some i) (hz : i.zero = some (.int k 0)) (hs : i.size = 1) (hby : i.bytes ≤ 8)
    (h0 : (Lit.int k 0).wf = true) (v : Value) (l : List Int) (hown : OwnI k e base w v l) (n : Nat) (hlen : l.length + n ≤ 17592186044416) (hbase : base ≤ w.heap.size) :
    ∃ v' w', (Builtin.append_ #[t, tn] ty #[v, .int kq n]).run P w = .ok v' w' ∧ OwnI k e base w' v' (l ++ List.replicate n 0) ∧ Keeps (fun g => v.ownBlock = some g) w w' := by
  have hwf : ∀ x, x ∈ l ++ List.replicate n 0 → (Lit.int k x).wf = true := by
    intro x hx
    rcases List.mem_append.1 hx with hx | hx
    · exact hown.2.1 x hx
    · rw [(List.mem_replicate.1 hx).2]; exact h0
  have hll : (l ++ List.replicate n 0).length = l.length + n := by simp
  have h63 : l.length + n ≤ maxLen := by unfold maxLen; omega
  have hnb : n * i.bytes ≤ 281474976710656 := Nat.le_trans (Nat.mul_le_mul_left n hby) (by omega)
  have hbb : (l.length + n) * i.bytes ≤ 140737488355328 := Nat.le_trans (Nat.mul_le_mul_left _ hby) (by omega)
  have grown : ∀ old : Nat, OwnI k e base (w.drew.alloc (.cells ((l.map (Value.int k)).toArray ++ Builtin.zeroCells (Value.int k 0).cells n ++ Builtin.zeroCells (Value.int k 0).cells (grownCap w (l.length + n) old e - (l.length + n))) e))
      (.slice (some ⟨w.heap.size, 0, none⟩) (l.length + n) (grownCap w (l.length + n) old e)) (l ++ List.replicate n 0) := by
    intro old
    have hge := grownCap_ge w (l.length + n) old e
    have hcm := grownCap_le_maxLen w (l.length + n) old e h63
    refine ⟨⟨by simp, .inr ⟨w.heap.size, _, _, by rw [hll], hbase, heap_alloc_new w.drew _, by rw [hll]; exact hge, hcm, ?_, ?_⟩⟩, hwf, by rw [hll]; omega⟩
    · simp only [zeroCells_int, Array.size_append, List.size_toArray, List.length_map, List.length_replicate]
      omega
    · rw [Nat.mul_one, zeroCells_int, zeroCells_int]
      simp only [Array.toList_append]
      rw [List.map_append]
      have : (l ++ List.replicate n 0).length = (l.map (Value.int k) ++ (List.replicate n (0 : Int)).map (Value.int k)).length := by simp
      rw [this]
      exact List.take_left
  rcases hown.1.2 with ⟨rfl, hn0⟩ | ⟨g, cap, cur, rfl, hbg, hg, hnc, hcm, hcs, htake⟩
  · have hl : l = [] := List.eq_nil_of_length_eq_zero hn0
    subst hl
    by_cases hn : n = 0
    · subst hn
      refine ⟨.slice none 0 0, w, ?_, by simpa using hown, Keeps.refl _ _⟩
      have hw0 : IntKind.i64.wrap (0 : Int) = 0 := by rw [IntKind.wrap_i64]; rfl
      simp [Builtin.append_, run_underlying ht, run_underlying htn, sizeOf, typeInfo, hi, asInt, asIntOf, hw0]
    · have hr := Lib.run_append_nil_zeros (P := P) w t tn ty e i (.int k 0) kq kn ht htn hi hz n (by omega) (by omega) (by omega) hnb
      have hgr := grown 0
      simp only [List.length_nil, Nat.zero_add, List.nil_append, List.map_nil] at hgr ⊢
      refine ⟨_, _, hr, ?_, ((Keeps.refl _ w).drew).alloc _⟩
      simpa using hgr
  · by_cases hroom : l.length + n ≤ cap
    · have hr := run_zeros_room (P := P) w t tn ty e i k kn kq ht htn hi hz hs hby g l.length cap n cur hg (by omega) hroom (by omega)
      refine ⟨_, _, hr, ⟨⟨by simp, .inr ⟨g, cap, _, by rw [hll], hbg, setRow_heap w g cur _ e _ hg, by rw [hll]; exact hroom, hcm, ?_, ?_⟩⟩, hwf, by rw [hll]; omega⟩, (Keeps.refl _ w).setRow _ _ (fun _ => rfl)⟩
      · simp only [List.size_toArray, List.length_append, List.length_take, List.length_drop, Array.length_toList, List.length_map, List.length_replicate]
        omega
      · rw [Nat.mul_one] at htake
        rw [Nat.mul_one, htake, List.map_append, hll]
        have : l.length + n = (l.map (Value.int k) ++ (List.replicate n (0 : Int)).map (Value.int k)).length := by simp
        rw [this]
        exact List.take_left
    · have holds : ∀ j u, (l.map (Value.int k))[j]? = some u → w.cell? ((⟨g, 0, none⟩ : Addr).add j) = some u := hown.1.cells (g := g) rfl
      have hold := run_firstCells_some (P := P) w.drew i.size l.length ⟨g, 0, none⟩ l.length cap (l.map (Value.int k)) (by simp [hs]) (by simpa using holds)
      have hr := Lib.run_append_grow_zeros (P := P) w t tn ty e i (.int k 0) kq kn ht htn hi hz (some ⟨g, 0, none⟩) l.length cap (l.map (Value.int k)) hold n (by omega) (by omega) (by omega) (by omega) hnb (growslice_fits (by omega) hbb)
      exact ⟨_, _, hr, grown cap, ((Keeps.refl _ w).drew).alloc _⟩

/-- append(v, make([]T, n)...), v a row of the call's own. -/
theorem wpList_zeros {P : Program} {w : World} {ops : Array Oper} {rest : List Oper} {o : Oper} {a : Act} {Q : Exit → Act → World → Prop} (hgd : o.guard = none) (s x : Operand) (t tn : TypeId)
    (ho : o.op = .call { callee := .builtin .append, args := #[s, x], argTypes := #[t, tn] }) (k kn kq : IntKind)
    (base : Nat) (e : TypeId) (i : TypeInfo) (ht : P.underlying t = some (.slice e)) (htn : P.underlying tn = some (.int kn)) (hi : P.info? e = some i) (hz : i.zero = some (.int k 0))
    (hsize : i.size = 1) (hb8 : i.bytes ≤ 8) (h0 : (Lit.int k 0).wf = true) (v : Value) (l : List Int) (hs : a.eval s = v) (hown : OwnI k e base w v l)
    (n : Nat) (hx : a.eval x = .int kq n) (hlen : l.length + n ≤ 17592186044416) (hbase : base ≤ w.heap.size)
    (h : ∀ v' w', OwnI k e base w' v' (l ++ List.replicate n 0) → Keeps (fun g => v.ownBlock = some g) w w' → wpList P ops Q rest (a.put o.dst v') w') :
    wpList P ops Q (o :: rest) a w := by
  obtain ⟨v', w', hr, h1, h2⟩ := run_zeros_own (P := P) w base t tn o.type e i k kn kq ht htn hi hz hsize hb8 h0 v l hown n hlen hbase
  exact Lib.wpList_append_run w hgd s x t tn ho v (.int kq n) hs hx v' w' hr (h v' w' h1 h2)
end Go.Proofs.Ytkennahakodfnaa
