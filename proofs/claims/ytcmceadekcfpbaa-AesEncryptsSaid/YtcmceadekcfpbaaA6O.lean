/-
  AesUndoes: the walk.
-/
import Derived.Test.YtcmceadekcfpbaaA6L
namespace Go.Proofs.Ytcmceadekcfpbaa
open Go.RowKit

theorem conv_to {E : Env} {β : Nat → Option Blk} {src dst e z : Nat} {z' b off n : Nat} {c : Option Nat} {k : Blk} {l r : List Int} {a1 a2 a4 a5 a7 a8 : Nat} {g1 g2 g3 : Bool} {o1 o2 o3 : Option Cont}
    (h1 : E.T src = some ⟨.slice e z, a1, a2, g1, o1⟩) (h2 : E.T dst = some ⟨.str, a4, a5, g2, o2⟩) (h3 : E.T e = some ⟨.int .u8, a7, a8, g3, o3⟩)
    (hz : z' = 1) (hb : β b = some k) (hx : k.x = .flat .u8 l) (hc : off + n ≤ l.length) (hl : By l) (hr : (l.drop off).take n = r) : convV E β src dst (.sl z' b off n c) = some (.str r) := by
  rw [conv_own h1 h2 h3 hz hb hx hc hl, hr]
theorem all16 {l : List Int} (h : l.length = 16) : (l.drop 0).take 16 = l := List.take_of_length_le (by simp; omega)
theorem enc_inj {K A B : List Int} (hK : K.length = 16) (hKb : By K) (hA : A.length = 16) (hAb : By A) (hB : B.length = 16) (hBb : By B) (h : encS K A 10 = encS K B 10) : A = B := by
  rw [← dec_enc hKb hAb hA, h, dec_enc hKb hBb hB]

set_option maxRecDepth 100000 in
set_option maxHeartbeats 3200000 in
theorem AesUndoes_exec (n m k : Int) : execF EL Try.f5 [.v (.int .i64 n), .v (.int .i64 m), .v (.int .i64 k)] (ret1 (.v (.bool true))) := by
  have mK := lSome n 16 (by decide)
  have mD := lSeed m
  have mB := lSome k 16 (by decide)
  have lK := smP_len n 16
  have bK := smP_by n 16
  have lB := smP_len k 16
  have bB := smP_by k 16
  have lD := sdP_len m
  have bD := sdP_by m
  have lA : ((sdP m).take 16).length = 16 := by rw [List.length_take, sdP_len]; rfl
  have bA : By ((sdP m).take 16) := (sdP_by m).take 16
  obtain ⟨K, hK⟩ : ∃ l, l = smP n 16 := ⟨_, rfl⟩
  obtain ⟨B, hB⟩ : ∃ l, l = smP k 16 := ⟨_, rfl⟩
  obtain ⟨D, hD⟩ : ∃ l, l = sdP m := ⟨_, rfl⟩
  rw [← hK] at mK lK bK
  rw [← hB] at mB lB bB
  rw [← hD] at mD lD bD lA bA
  clear hK hB hD
  obtain ⟨A, hA⟩ : ∃ l, l = D.take 16 := ⟨_, rfl⟩
  rw [← hA] at lA bA
  have cA : (Cont.flat .u8 D).cut 0 (16 * 1) = some (.flat .u8 A) := by rw [hA]; exact cut_take (by omega)
  have cK : (Cont.flat .u8 K).cut 0 (16 * 1) = some (.flat .u8 K) := cut_all lK
  have cB : (Cont.flat .u8 B).cut 0 (16 * 1) = some (.flat .u8 B) := cut_all lB
  have hD16 : 0 + 16 ≤ D.length := by omega
  have sA : (D.drop 0).take 16 = A := by rw [hA]; rfl
  have lC := encS_len K A 10
  have bC := encS_by bK bA 10
  have lR := encS_len K B 10
  have bR := encS_by bK bB 10
  have lE := decP_len K A
  have bE := decP_by bK bA
  have o1 := fun c c2 => lEncOk c c2 K A lK lA bK bA
  have o2 := fun c c2 => lDecOk c c2 K (encS K A 10) lK lC bK bC
  have o3 := fun c c2 => lDecOk c c2 K A lK lA bK bA
  have o4 := fun c c2 => lEncOk c c2 K (decP K A) lK lE bK bE
  have o5 := fun c c2 => lEncOk c c2 K B lK lB bK bB
  rw [dec_enc bK bA lA] at o2
  rw [enc_dec bK bA lA] at o4
  have hcr : (encS K A 10 == encS K B 10) = (A == B) := by
    rcases hq : (A == B) with _ | _
    · rw [beq_eq_false_iff_ne] at hq ⊢
      exact fun h => hq (enc_inj lK bK lA bA lB bB h)
    · rw [eq_of_beq hq]; simp
  have q1 := str_eql_self bA
  have q2 := str_eql bC bR
  have q3 := str_eql bA bB
  rw [hcr] at q2
  obtain ⟨C, hC⟩ : ∃ l, l = encS K A 10 := ⟨_, rfl⟩
  obtain ⟨R, hR⟩ : ∃ l, l = encS K B 10 := ⟨_, rfl⟩
  obtain ⟨E, hE⟩ : ∃ l, l = decP K A := ⟨_, rfl⟩
  rw [← hC] at lC bC o1 o2 q2
  rw [← hR] at lR bR o5 q2
  rw [← hE] at lE bE o3 o4
  clear hC hR hE hcr hA
  have cC : (Cont.flat .u8 C).cut 0 (16 * 1) = some (.flat .u8 C) := cut_all lC
  have cE : (Cont.flat .u8 E).cut 0 (16 * 1) = some (.flat .u8 E) := cut_all lE
  obtain ⟨z, hz⟩ : ∃ z, z = (A == B) := ⟨_, rfl⟩
  rw [← hz] at q2 q3
  clear hz
  cases z
  all_goals
    ((conv => whnf); repeat ((first | refine ⟨_, mK, ?_⟩ | refine ⟨_, mD, ?_⟩ | refine ⟨_, mB, ?_⟩ | refine ⟨_, expo_sl rfl cK, ?_⟩ | refine ⟨_, expo_sl rfl cA, ?_⟩ | refine ⟨_, expo_sl rfl cB, ?_⟩ | refine ⟨_, expo_sl rfl cC, ?_⟩ | refine ⟨_, expo_sl rfl cE, ?_⟩ | refine ⟨_, o1 _ _, ?_⟩ | refine ⟨_, o2 _ _, ?_⟩ | refine ⟨_, o3 _ _, ?_⟩ | refine ⟨_, o4 _ _, ?_⟩ | refine ⟨_, o5 _ _, ?_⟩ | refine ⟨_, conv_to rfl rfl rfl rfl rfl rfl (by omega) bA (all16 lA), ?_⟩ | refine ⟨_, conv_to rfl rfl rfl rfl rfl rfl hD16 bD sA, ?_⟩ | refine ⟨_, conv_to rfl rfl rfl rfl rfl rfl (by omega) bB (all16 lB), ?_⟩ | refine ⟨_, conv_to rfl rfl rfl rfl rfl rfl (by omega) bC (all16 lC), ?_⟩ | refine ⟨_, conv_to rfl rfl rfl rfl rfl rfl (by omega) bR (all16 lR), ?_⟩ | refine ⟨_, q1, ?_⟩ | refine ⟨_, q2, ?_⟩ | refine ⟨_, q3, ?_⟩ | refine ⟨_, rfl, ?_⟩ | refine ⟨by decide, ?_⟩ | refine ⟨rfl, ?_⟩ | refine ⟨fun _ => ?_, fun h => absurd h (by decide)⟩ | refine ⟨fun h => absurd h (by decide), fun _ => ?_⟩ | refine ⟨inI_of (by omega), ?_⟩ | refine ⟨⟨rfl, inI_of (by omega)⟩, ?_⟩ | refine ⟨⟨rfl, by decide⟩, ?_⟩ | (apply Exists.intro; refine ⟨?_, ?_⟩; ((try simp only [Nat.zero_add, Nat.mul_one, Int.toNat_natCast]); exact at_g (by omega))) | (apply Exists.intro; refine ⟨?_, ?_⟩; ((try simp only [Nat.zero_add, Nat.mul_one, Int.toNat_natCast]); exact put_flat (by omega))) | refine ⟨_, cut_all (by omega), ?_⟩ | refine ⟨_, lay_all (by omega) (by omega), ?_⟩ | refine ⟨_, lay_all (by simp only [List.length_replicate, List.length_cons, List.length_nil]; omega) (by omega), ?_⟩ | refine ⟨by omega, ?_⟩ | refine ⟨len_flat (by omega), ?_⟩ | refine ⟨apart_uv _ _ _, ?_⟩ | refine ⟨_, resSlot_own rfl (by omega) (by first | exact .inl rfl | exact .inr ⟨rfl, rfl⟩), ?_⟩ | refine ⟨(by kernel_rfl : regB _ = true), ?_⟩); conv => whnf))
    rfl
theorem AesUndoes_call (n m k : Int) : CallOk Try.prog 5 [.v (.int .i64 n), .v (.int .i64 m), .v (.int .i64 k)] (ret1 (.v (.bool true))) :=
  execF_ok follows_ok EL_ok Try.func5 (AesUndoes_exec n m k)
end Go.Proofs.Ytcmceadekcfpbaa
