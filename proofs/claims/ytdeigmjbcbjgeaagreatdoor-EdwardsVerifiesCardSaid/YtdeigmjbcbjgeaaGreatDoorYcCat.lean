import Derived.Lib.AppendZeros
import Derived.Lib.SliceRun
import Derived.Deep.WholeRow
import Derived.Test.YtdeigmjbcbjgeaaGreatDoorYcBytes
import Derived.Test.YtdeigmjbcbjgeaaGreatDoorYcMkP
namespace Go.Proofs.YtdeigmjbcbjgeaaGreatDoor
open Go.RowKit
theorem info_u8c : (Tryz.prog.info? 5).map (fun i => (i.zero, i.size, i.bytes)) = some (some (.int .u8 0), 1, 1) := by kernel_rfl
theorem own_rc {A : Nat → Prop} {e base : Nat} {w' : World} {v : Value} {l : List Int} (h : OwnI .u8 e base w' v l) (hA : ∀ g, A g → g < base) : ∃ gb, RCok A base w' (.own 1 l.length e (.flat .u8 l)) v gb := by
 obtain ⟨h1, h2, h3⟩ := h
 rcases h1.2 with ⟨rfl, hn⟩ | ⟨g, cap, cur, rfl, hb, hg, hnc, hcm, hcs, htake⟩
 ·exact ⟨none, by simp [Cont.vals], .inl ⟨hn, rfl, rfl⟩⟩
 ·refine ⟨some ⟨g, cur.size⟩, by simp [Cont.vals], .inr ⟨g, cap, cur, rfl, rfl, hnc, by simpa [maxLen] using hcm, hb, fun h => absurd (hA g h) (by omega), hg, by simpa using hcs, fun i u hu => ?_⟩⟩
  have hi : i < l.length := by simpa [Cont.vals] using lt_of_get hu
  have hu' : u = .v (.int .u8 (l.getD i 0)) := by
   simp only [Cont.vals, List.getElem?_map, List.getElem?_eq_getElem hi, Option.map_some, Option.some.injEq] at hu
   rw [← hu, List.getD_eq_getElem?_getD, List.getElem?_eq_getElem hi]; rfl
  have hx := h1.cells (g := g) rfl i (.int .u8 (l.getD i 0)) (by
   rw [List.getElem?_map, List.getElem?_eq_getElem hi, List.getD_eq_getElem?_getD, List.getElem?_eq_getElem hi]; rfl)
  rw [add_block_none, Nat.zero_add, World.cell?, hg] at hx
  simp at hx
  have hx : cur[i]? = some (.int .u8 (l.getD i 0)) := by simpa using hx
  rw [hu', Array.getD_eq_getD_getElem?, hx]
  exact .v _ _ rfl
set_option maxHeartbeats 1000000 in
set_option maxRecDepth 100000 in
theorem grow_pl (n : Nat) (w : World) (hn : n ≤ 10000000) :
  Calls Tryz.prog 95 #[.slice none 0 0, .int .i64 n] w fun e w' => ∃ v, e = .returned v ∧ OwnI .u8 5 w.heap.size w' v [] ∧ Keeps (fun _ => False) w w' := by
 obtain ⟨i0, hi, hz0, hz1, hz2⟩ := info_parts info_u8c
 have hn' : (n : Int) ≤ 10000000 := by omega
 by_cases h0 : n = 0
 ·subst h0
  go_enter Tryz.func95, Tryz.ntmps95
  go_wp2_with fail
  go_ret
  exact ⟨_, rfl, OwnI.nil _ _ _ _, Keeps.refl _ _⟩
 ·have hpos : 0 < n := by omega
  have hpos' : 0 < (n : Int) := by omega
  have hr := Lib.run_append_nil_zeros (P := Tryz.prog) w 33 3 33 5 i0 (.int .u8 0) .i64 .i64 Tryz.underlying33 Tryz.underlying3 hi hz0 n hpos (by omega) (by omega) (by rw [hz2]; omega)
  have hcap : grownCap w n 0 5 ≤ maxLen := grownCap_le_maxLen _ _ _ _ (by unfold maxLen; omega)
  have hge := grownCap_ge w n 0 5
  obtain ⟨C, hC⟩ : ∃ C, C = grownCap w n 0 5 := ⟨_, rfl⟩
  obtain ⟨cs, hcs⟩ : ∃ cs, cs = Builtin.zeroCells (Value.int .u8 0).cells n ++ Builtin.zeroCells (Value.int .u8 0).cells (C - n) := ⟨_, rfl⟩
  rw [← hC] at hr hcap hge
  rw [← hcs] at hr
  have hsz : cs.size = C := by rw [hcs]; simp [Builtin.zeroCells, Value.cells]; omega
  have HR := hid hr
  have HSZ := hid hsz
  unfold maxLen at hcap
  clear hr hC hcs hsz
  go_enter Tryz.func95, Tryz.ntmps95
  go_wp2_with (at_builtin; (refine Lib.wpList_append_run _ rfl _ _ _ _ rfl _ _ rfl rfl _ _ HR.out ?_))
  go_ret
  refine ⟨_, rfl, ⟨⟨rfl, .inr ⟨w.heap.size, C, cs, rfl, Nat.le_refl _, ?_, Nat.zero_le _, by unfold maxLen; omega, by rw [HSZ.out, Nat.mul_one], by simp⟩⟩, by simp, by simp⟩, ?_⟩
  ·exact heap_alloc_last _ _
  ·exact ((Keeps.refl _ w).drew).alloc _
theorem grow_call (n : Nat) (hn : n ≤ 10000000) : CallOk Tryz.prog 95 [nilV, iv .i64 (n : Nat)] (.one (.own 1 0 5 (.flat .u8 []))) := by
 intro w A args hsz hA hrep _
 have h0 := hrep 0 _ rfl
 have h1 := hrep 1 _ rfl
 obtain ⟨v0, v1, rfl⟩ : ∃ v0 v1, args = #[v0, v1] := by
  have hsz : args.size = 2 := hsz
  refine ⟨args[0], args[1], ?_⟩
  apply Array.ext
  ·simp [hsz]
  ·intro i h1 h2
   have : i = 0 ∨ i = 1 := by simp at h2; omega
   rcases this with rfl | rfl <;> rfl
 simp only [Array.getD_eq_getD_getElem?, List.getElem?_toArray, List.getElem?_cons_zero, List.getElem?_cons_succ, Option.getD_some] at h0 h1
 cases h0
 cases h1
 refine (grow_pl n w hn).mono ?_
 rintro e w' ⟨v, rfl, ho, hk⟩
 exact ⟨v, A, rfl, hk, fun _ h => h, fun g hg => ⟨Nat.lt_of_lt_of_le (hA g hg) hk.size, .inl hg⟩, own_rc ho hA⟩
def orcG (f : Nat) (ds : List LV) : Option LRes :=
 match f with
 | 95 => match ds with
  | [.v (.slice none 0 0), .v (.int .i64 (.ofNat n))] => if n ≤ 10000000 then some (LRes.one (.own 1 0 5 (.flat .u8 []))) else none
  | _ => none
 | _ => none
theorem orcG_ok : Known Tryz.prog orcG := by
 intro f ds r h
 unfold orcG at h
 split at h
 ·split at h
  ·split at h
   ·rename_i hc
    cases h
    exact .inl ⟨⟨_, Tryz.func95, name_ne _ (by kernel_rfl), rfl⟩, grow_call _ hc⟩
   ·cases h
  ·cases h
 ·cases h
def EG : Env := ⟨tyL, orcG, false, noWk, noOrw⟩
theorem EG_ok : EnvOk Tryz.prog EG := ⟨tyL_ok, orcG_ok, noOrw_ok⟩
theorem grow_at (n : Nat) (x : Int) (hx : x = (n : Nat)) (hn : n ≤ 10000000) : EG.orc 95 [nilV, iv .i64 x] = some (LRes.one (.own 1 0 5 (.flat .u8 []))) := by
 subst hx
 exact if_pos hn
set_option maxRecDepth 100000 in
set_option maxHeartbeats 1600000 in
theorem concat2_exec (n1 n2 : Nat) (c c1 c2 : Option Nat) (l1 l2 : List Int) (h1 : l1.length = n1) (h2 : l2.length = n2) (m1 : n1 ≤ 100000) (m2 : n2 ≤ 100000) :
  execF EG Tryz.f56 [.im 1 2 c (.gen [.im 1 n1 c1 (.flat .u8 l1), .im 1 n2 c2 (.flat .u8 l2)])] (.one (.own 1 (n1 + n2) 5 (.flat .u8 (l1 ++ l2)))) := by
 have q1 : decide (IntKind.i64.wrap (0 + (n1 : Int)) < 0) = false := by rw [wrap64 (by omega)]; simp
 have e2 : IntKind.i64.wrap (IntKind.i64.wrap (0 + (n1 : Int)) + (n2 : Int)) = ((n1 + n2 : Nat) : Int) := by rw [wrap64 (x := 0 + (n1 : Int)) (by omega), wrap64 (by omega)]; omega
 have q2 : decide (IntKind.i64.wrap (IntKind.i64.wrap (0 + (n1 : Int)) + (n2 : Int)) < 0) = false := by rw [e2]; simp; omega
 have oG := grow_at (n1 + n2) _ e2 (by omega)
 have hs1 : ∀ β : Nat → Option Blk, shown β 1 (.im 1 n1 c1 (.flat .u8 l1)) = some (.flat .u8 l1, n1) := fun β => rfl
 have hs2 : ∀ β : Nat → Option Blk, shown β 1 (.im 1 n2 c2 (.flat .u8 l2)) = some (.flat .u8 l2, n2) := fun β => rfl
 ((conv => whnf); repeat ((first | refine ⟨_, rfl, ?_⟩ | refine ⟨by decide, ?_⟩ | refine ⟨rfl, ?_⟩ | refine ⟨fun _ => ?_, fun h => absurd h (by decide)⟩ | refine ⟨fun h => absurd h (by decide), fun _ => ?_⟩ | refine ⟨inI_of (by omega), ?_⟩ | refine ⟨⟨rfl, inI_of (by omega)⟩, ?_⟩ | refine ⟨⟨rfl, by decide⟩, ?_⟩ | (apply Exists.intro; refine ⟨?_, ?_⟩; ((try simp only); (try simp only [Nat.zero_add]); (try simp only [Nat.mul_one]); (try simp only [Int.toNat_natCast]); first | exact at_g (by omega) | exact put_flat (by omega))) | refine ⟨_, cut_all (by omega), ?_⟩ | refine ⟨_, lay_all (by omega) (by omega), ?_⟩ | refine ⟨_, lay_all (by (try simp only); (try simp only [List.length_replicate]); (try simp only [List.length_cons]); (try simp only [List.length_nil]); omega) (by omega), ?_⟩ | refine ⟨by omega, ?_⟩ | refine ⟨len_flat (by omega), ?_⟩ | refine ⟨apart_uv _ _ _, ?_⟩ | refine ⟨_, resSlot_own rfl (by omega) (by first | exact .inl rfl | exact .inr ⟨rfl, rfl⟩), ?_⟩ | refine ⟨(by kernel_rfl : regB _ = true), ?_⟩ | refine ⟨⟨rfl, inI_of (by omega), by decide⟩, ?_⟩ | (apply Exists.intro; refine ⟨?_, ?_⟩; ((try simp only); (try simp only [Nat.zero_add]); (try simp only [Nat.mul_one]); (try simp only [Int.toNat_natCast]); first | exact at_drop_g (by omega) | exact cut_rest (by omega)))); conv => whnf))
 refine .inr ⟨3, ?_⟩
 ((conv => whnf); repeat ((first | refine ⟨fun _ => ?_, fun h => absurd ((q1).symm.trans h) (by decide)⟩ | refine ⟨fun h => absurd ((q1).symm.trans h) (by decide), fun _ => ?_⟩ | refine ⟨fun _ => ?_, fun h => absurd ((q2).symm.trans h) (by decide)⟩ | refine ⟨fun h => absurd ((q2).symm.trans h) (by decide), fun _ => ?_⟩ | refine ⟨_, oG, ?_⟩ | refine ⟨_, rfl, ?_⟩ | refine ⟨by decide, ?_⟩ | refine ⟨rfl, ?_⟩ | refine ⟨fun _ => ?_, fun h => absurd h (by decide)⟩ | refine ⟨fun h => absurd h (by decide), fun _ => ?_⟩); conv => whnf))
 refine .inr ⟨3, ?_⟩
 have hl1 : (([] : List Int) ++ l1).length = 0 + n1 := by simp [h1]
 have hl2 : (([] : List Int) ++ l1 ++ l2).length = 0 + n1 + n2 := by simp [h1, h2]
 ((conv => whnf); repeat ((first | refine ⟨_, append_grow rfl rfl (hs1 _) rfl rfl rfl rfl (by omega) (by omega), ?_⟩ | refine ⟨_, append_grow rfl rfl (hs2 _) rfl rfl hl1 rfl (by omega) (by omega), ?_⟩ | refine ⟨_, rfl, ?_⟩ | refine ⟨by decide, ?_⟩ | refine ⟨rfl, ?_⟩ | refine ⟨fun _ => ?_, fun h => absurd h (by decide)⟩ | refine ⟨fun h => absurd h (by decide), fun _ => ?_⟩ | refine ⟨_, resSlot_own rfl (by omega) (by first | exact .inl rfl | exact .inr ⟨rfl, rfl⟩), ?_⟩); conv => whnf))
 have htk : (([] : List Int) ++ l1 ++ l2).take ((0 + n1 + n2) * 1) = l1 ++ l2 := by rw [List.nil_append]; exact List.take_of_length_le (by simp; omega)
 rw [htk, Nat.zero_add]
 rfl
set_option maxRecDepth 100000 in
set_option maxHeartbeats 1600000 in
theorem concat3_exec (n1 n2 n3 : Nat) (c c1 c2 c3 : Option Nat) (l1 l2 l3 : List Int) (h1 : l1.length = n1) (h2 : l2.length = n2) (h3 : l3.length = n3) (m1 : n1 ≤ 100000) (m2 : n2 ≤ 100000) (m3 : n3 ≤ 100000) :
  execF EG Tryz.f56 [.im 1 3 c (.gen [.im 1 n1 c1 (.flat .u8 l1), .im 1 n2 c2 (.flat .u8 l2), .im 1 n3 c3 (.flat .u8 l3)])] (.one (.own 1 (n1 + n2 + n3) 5 (.flat .u8 (l1 ++ l2 ++ l3)))) := by
 have q1 : decide (IntKind.i64.wrap (0 + (n1 : Int)) < 0) = false := by rw [wrap64 (by omega)]; simp
 have e2 : IntKind.i64.wrap (IntKind.i64.wrap (0 + (n1 : Int)) + (n2 : Int)) = ((n1 + n2 : Nat) : Int) := by rw [wrap64 (x := 0 + (n1 : Int)) (by omega), wrap64 (by omega)]; omega
 have q2 : decide (IntKind.i64.wrap (IntKind.i64.wrap (0 + (n1 : Int)) + (n2 : Int)) < 0) = false := by rw [e2]; simp; omega
 have e3 : IntKind.i64.wrap (IntKind.i64.wrap (IntKind.i64.wrap (0 + (n1 : Int)) + (n2 : Int)) + (n3 : Int)) = ((n1 + n2 + n3 : Nat) : Int) := by rw [e2, wrap64 (by omega)]; omega
 have q3 : decide (IntKind.i64.wrap (IntKind.i64.wrap (IntKind.i64.wrap (0 + (n1 : Int)) + (n2 : Int)) + (n3 : Int)) < 0) = false := by rw [e3]; simp; omega
 have oG := grow_at (n1 + n2 + n3) _ e3 (by omega)
 have hs1 : ∀ β : Nat → Option Blk, shown β 1 (.im 1 n1 c1 (.flat .u8 l1)) = some (.flat .u8 l1, n1) := fun β => rfl
 have hs2 : ∀ β : Nat → Option Blk, shown β 1 (.im 1 n2 c2 (.flat .u8 l2)) = some (.flat .u8 l2, n2) := fun β => rfl
 have hs3 : ∀ β : Nat → Option Blk, shown β 1 (.im 1 n3 c3 (.flat .u8 l3)) = some (.flat .u8 l3, n3) := fun β => rfl
 ((conv => whnf); repeat ((first | refine ⟨_, rfl, ?_⟩ | refine ⟨by decide, ?_⟩ | refine ⟨rfl, ?_⟩ | refine ⟨fun _ => ?_, fun h => absurd h (by decide)⟩ | refine ⟨fun h => absurd h (by decide), fun _ => ?_⟩ | refine ⟨inI_of (by omega), ?_⟩ | refine ⟨⟨rfl, inI_of (by omega)⟩, ?_⟩ | refine ⟨⟨rfl, by decide⟩, ?_⟩ | (apply Exists.intro; refine ⟨?_, ?_⟩; ((try simp only); (try simp only [Nat.zero_add]); (try simp only [Nat.mul_one]); (try simp only [Int.toNat_natCast]); first | exact at_g (by omega) | exact put_flat (by omega))) | refine ⟨_, cut_all (by omega), ?_⟩ | refine ⟨_, lay_all (by omega) (by omega), ?_⟩ | refine ⟨_, lay_all (by (try simp only); (try simp only [List.length_replicate]); (try simp only [List.length_cons]); (try simp only [List.length_nil]); omega) (by omega), ?_⟩ | refine ⟨by omega, ?_⟩ | refine ⟨len_flat (by omega), ?_⟩ | refine ⟨apart_uv _ _ _, ?_⟩ | refine ⟨_, resSlot_own rfl (by omega) (by first | exact .inl rfl | exact .inr ⟨rfl, rfl⟩), ?_⟩ | refine ⟨(by kernel_rfl : regB _ = true), ?_⟩ | refine ⟨⟨rfl, inI_of (by omega), by decide⟩, ?_⟩ | (apply Exists.intro; refine ⟨?_, ?_⟩; ((try simp only); (try simp only [Nat.zero_add]); (try simp only [Nat.mul_one]); (try simp only [Int.toNat_natCast]); first | exact at_drop_g (by omega) | exact cut_rest (by omega)))); conv => whnf))
 refine .inr ⟨4, ?_⟩
 ((conv => whnf); repeat ((first | refine ⟨fun _ => ?_, fun h => absurd ((q1).symm.trans h) (by decide)⟩ | refine ⟨fun h => absurd ((q1).symm.trans h) (by decide), fun _ => ?_⟩ | refine ⟨fun _ => ?_, fun h => absurd ((q2).symm.trans h) (by decide)⟩ | refine ⟨fun h => absurd ((q2).symm.trans h) (by decide), fun _ => ?_⟩ | refine ⟨fun _ => ?_, fun h => absurd ((q3).symm.trans h) (by decide)⟩ | refine ⟨fun h => absurd ((q3).symm.trans h) (by decide), fun _ => ?_⟩ | refine ⟨_, oG, ?_⟩ | refine ⟨_, rfl, ?_⟩ | refine ⟨by decide, ?_⟩ | refine ⟨rfl, ?_⟩ | refine ⟨fun _ => ?_, fun h => absurd h (by decide)⟩ | refine ⟨fun h => absurd h (by decide), fun _ => ?_⟩); conv => whnf))
 refine .inr ⟨4, ?_⟩
 have hl1 : (([] : List Int) ++ l1).length = 0 + n1 := by simp [h1]
 have hl2 : (([] : List Int) ++ l1 ++ l2).length = 0 + n1 + n2 := by simp [h1, h2]
 have hl3 : (([] : List Int) ++ l1 ++ l2 ++ l3).length = 0 + n1 + n2 + n3 := by simp [h1, h2, h3]; omega
 ((conv => whnf); repeat ((first | refine ⟨_, append_grow rfl rfl (hs1 _) rfl rfl rfl rfl (by omega) (by omega), ?_⟩ | refine ⟨_, append_grow rfl rfl (hs2 _) rfl rfl hl1 rfl (by omega) (by omega), ?_⟩ | refine ⟨_, append_grow rfl rfl (hs3 _) rfl rfl hl2 rfl (by omega) (by omega), ?_⟩ | refine ⟨_, rfl, ?_⟩ | refine ⟨by decide, ?_⟩ | refine ⟨rfl, ?_⟩ | refine ⟨fun _ => ?_, fun h => absurd h (by decide)⟩ | refine ⟨fun h => absurd h (by decide), fun _ => ?_⟩ | refine ⟨_, resSlot_own rfl (by omega) (by first | exact .inl rfl | exact .inr ⟨rfl, rfl⟩), ?_⟩); conv => whnf))
 have htk : (([] : List Int) ++ l1 ++ l2 ++ l3).take ((0 + n1 + n2 + n3) * 1) = l1 ++ l2 ++ l3 := by rw [List.nil_append]; exact List.take_of_length_le (by simp; omega)
 rw [htk, Nat.zero_add]
 rfl
end Go.Proofs.YtdeigmjbcbjgeaaGreatDoor
