/-
  AesBits: the walk.
-/
import Derived.Test.YtcmceadekcfpbaaA6O
namespace Go.Proofs.Ytcmceadekcfpbaa
open Go.RowKit

def shB (u : Int) : Int := IntKind.u8.wrap (1 * 2 ^ min (IntKind.u64.wrap u).toNat IntKind.u8.bits)
theorem shB_ne {u : Int} (h : 0 ≤ u ∧ u < 8) : shB u ≠ 0 ∧ 0 ≤ shB u ∧ shB u < 256 := by
  refine ⟨?_, (w8_byte _)⟩
  have hc : u = 0 ∨ u = 1 ∨ u = 2 ∨ u = 3 ∨ u = 4 ∨ u = 5 ∨ u = 6 ∨ u = 7 := by omega
  rcases hc with rfl | rfl | rfl | rfl | rfl | rfl | rfl | rfl <;> decide
theorem E_inj {v w : BitVec 8} (h : E v = E w) : v = w := BitVec.eq_of_toNat_eq (Int.ofNat.inj h)
theorem x8_ne {a b : Int} (ha : 0 ≤ a ∧ a < 256) (hb : 0 ≤ b ∧ b < 256) (hn : b ≠ 0) : x8 a b ≠ a := by
  obtain ⟨v, rfl⟩ := byteE ha
  obtain ⟨w, rfl⟩ := byteE hb
  rw [x8_E]
  intro h
  have h1 := congrArg (fun x => v ^^^ x) (E_inj h)
  simp only [← BitVec.xor_assoc, BitVec.xor_self, BitVec.zero_xor] at h1
  exact hn (by rw [h1]; rfl)
def flipP (A : List Int) (i u : Int) : List Int := A.set i.toNat (x8 (g A i.toNat) (shB u))
theorem flipP_len (A : List Int) (i u : Int) : (flipP A i u).length = A.length := List.length_set
theorem flipP_by {A : List Int} (h : By A) (i : Int) {u : Int} (hu : 0 ≤ u ∧ u < 8) : By (flipP A i u) := h.set (x8_byte (h.g _) (shB_ne hu).2)
theorem flipP_ne {A : List Int} (h : By A) {i u : Int} (hi : i.toNat < A.length) (hu : 0 ≤ u ∧ u < 8) : flipP A i u ≠ A := by
  intro he
  have h1 := congrArg (fun l => g l i.toNat) he
  simp only [flipP] at h1
  rw [g_set hi, if_pos rfl] at h1
  exact x8_ne (h.g _) (shB_ne hu).2 (shB_ne hu).1 h1
theorem str_neq_ne {a b : List Int} (ha : By a) (hb : By b) (h : a ≠ b) : binV .neq (.str a) (.str b) = some (.v (.bool true)) := by
  rw [str_neq ha hb, beq_eq_false_iff_ne.2 h]; rfl

set_option maxRecDepth 100000 in
set_option maxHeartbeats 3200000 in
theorem AesBits_exec (n m k : Int) : execF EL Try.f6 [.v (.int .i64 n), .v (.int .i64 m), .v (.int .i64 k)] (ret1 (.v (.bool true))) := by
  have mK := lSome n 16 (by decide)
  have mA := lSome m 16 (by decide)
  have lK := smP_len n 16
  have bK := smP_by n 16
  have lA := smP_len m 16
  have bA := smP_by m 16
  obtain ⟨K, hK⟩ : ∃ l, l = smP n 16 := ⟨_, rfl⟩
  obtain ⟨A, hA⟩ : ∃ l, l = smP m 16 := ⟨_, rfl⟩
  rw [← hK] at mK lK bK
  rw [← hA] at mA lA bA
  clear hK hA
  have cK : (Cont.flat .u8 K).cut 0 (16 * 1) = some (.flat .u8 K) := cut_all lK
  have cA : (Cont.flat .u8 A).cut 0 (16 * 1) = some (.flat .u8 A) := cut_all lA
  obtain ⟨i, hi⟩ : ∃ i, i = IntKind.i64.wrap (k.tdiv 128) % 16 := ⟨_, rfl⟩
  obtain ⟨u, hu⟩ : ∃ i, i = IntKind.i64.wrap (k.tdiv 2048) % 8 := ⟨_, rfl⟩
  obtain ⟨i2, hi2⟩ : ∃ i, i = k % 16 := ⟨_, rfl⟩
  obtain ⟨u2, hu2⟩ : ∃ i, i = IntKind.i64.wrap (k.tdiv 16) % 8 := ⟨_, rfl⟩
  have g1 := lMod (IntKind.i64.wrap (k.tdiv 128)) 16 i (by decide) hi.symm
  have g2 := lMod (IntKind.i64.wrap (k.tdiv 2048)) 8 u (by decide) hu.symm
  have g3 := lMod k 16 i2 (by decide) hi2.symm
  have g4 := lMod (IntKind.i64.wrap (k.tdiv 16)) 8 u2 (by decide) hu2.symm
  have ri : 0 ≤ i ∧ i < 16 := by omega
  have ru : 0 ≤ u ∧ u < 8 := by omega
  have ri2 : 0 ≤ i2 ∧ i2 < 16 := by omega
  have ru2 : 0 ≤ u2 ∧ u2 < 8 := by omega
  clear hi hu hi2 hu2
  have lA2 : (flipP A i u).length = 16 := by rw [flipP_len, lA]
  have bA2 := flipP_by bA i ru
  have lK2 : (flipP K i2 u2).length = 16 := by rw [flipP_len, lK]
  have bK2 := flipP_by bK i2 ru2
  have nA := flipP_ne bA (i := i) (by omega) ru
  have nK := flipP_ne bK (i := i2) (by omega) ru2
  have o1 := fun c c2 => lEncOk c c2 K A lK lA bK bA
  have o2 := fun c c2 => lEncOk c c2 K (flipP A i u) lK lA2 bK bA2
  have o3 := fun c => lExpOk c K lK bK
  have o4 := fun c => lExpOk c (flipP K i2 u2) lK2 bK2
  have nC : encS K A 10 ≠ encS K (flipP A i u) 10 := fun h => nA (enc_inj lK bK lA bA lA2 bA2 h).symm
  have nW : WW (flipP K i2 u2) SB ≠ WW K SB := fun h => nK (by rw [← WW_take (t := SB) lK2, h, WW_take lK])
  have lC := encS_len K A 10
  have bC := encS_by bK bA 10
  have lD := encS_len K (flipP A i u) 10
  have bD := encS_by bK bA2 10
  have lW := WW_len (t := SB) lK
  have bW := WW_by bK SB_by
  have lV := WW_len (t := SB) lK2
  have bV := WW_by bK2 SB_by
  have tV : ((WW (flipP K i2 u2) SB).drop 0).take 16 = flipP K i2 u2 := WW_take lK2
  obtain ⟨A2, hA2⟩ : ∃ l, l = flipP A i u := ⟨_, rfl⟩
  obtain ⟨K2, hK2⟩ : ∃ l, l = flipP K i2 u2 := ⟨_, rfl⟩
  rw [← hA2] at lA2 bA2 o2 nC lD bD
  rw [← hK2] at lK2 bK2 o4 nW lV bV tV
  obtain ⟨C, hC⟩ : ∃ l, l = encS K A 10 := ⟨_, rfl⟩
  obtain ⟨D, hD⟩ : ∃ l, l = encS K A2 10 := ⟨_, rfl⟩
  obtain ⟨W, hW⟩ : ∃ l, l = WW K SB := ⟨_, rfl⟩
  obtain ⟨V, hV⟩ : ∃ l, l = WW K2 SB := ⟨_, rfl⟩
  rw [← hC] at o1 nC lC bC
  rw [← hD] at o2 nC lD bD
  rw [← hW] at o3 nW lW bW
  rw [← hV] at o4 nW lV bV tV
  clear hC hD hW hV nA nK
  have eA : A.set i.toNat (bits .xor .u8 (g A i.toNat) (IntKind.u8.wrap (1 * 2 ^ min (IntKind.u64.wrap u).toNat IntKind.u8.bits))) = A2 := hA2.symm
  have eK : K.set i2.toNat (bits .xor .u8 (g K i2.toNat) (IntKind.u8.wrap (1 * 2 ^ min (IntKind.u64.wrap u2).toNat IntKind.u8.bits))) = K2 := hK2.symm
  have cA2 : (Cont.flat .u8 (A.set i.toNat (bits .xor .u8 (g A i.toNat) (IntKind.u8.wrap (1 * 2 ^ min (IntKind.u64.wrap u).toNat IntKind.u8.bits))))).cut 0 (16 * 1) = some (.flat .u8 A2) := by rw [eA]; exact cut_all lA2
  have cK2 : (Cont.flat .u8 (K.set i2.toNat (bits .xor .u8 (g K i2.toNat) (IntKind.u8.wrap (1 * 2 ^ min (IntKind.u64.wrap u2).toNat IntKind.u8.bits))))).cut 0 (16 * 1) = some (.flat .u8 K2) := by rw [eK]; exact cut_all lK2
  have sK2 : ((K.set i2.toNat (bits .xor .u8 (g K i2.toNat) (IntKind.u8.wrap (1 * 2 ^ min (IntKind.u64.wrap u2).toNat IntKind.u8.bits)))).drop 0).take 16 = K2 := by rw [eK]; exact all16 lK2
  have bK3 : By (K.set i2.toNat (bits .xor .u8 (g K i2.toNat) (IntKind.u8.wrap (1 * 2 ^ min (IntKind.u64.wrap u2).toNat IntKind.u8.bits)))) := by rw [eK]; exact bK2
  have lK3 : 0 + 16 ≤ (K.set i2.toNat (bits .xor .u8 (g K i2.toNat) (IntKind.u8.wrap (1 * 2 ^ min (IntKind.u64.wrap u2).toNat IntKind.u8.bits)))).length := by rw [List.length_set]; omega
  have lV3 : 0 + 16 ≤ V.length := by omega
  have tC := all16 lC
  have tD := all16 lD
  have tW : (W.drop 0).take 176 = W := List.take_of_length_le (by simp; omega)
  have tV2 : (V.drop 0).take 176 = V := List.take_of_length_le (by simp; omega)
  have q1 := str_neq_ne bC bD nC
  have q2 := str_neq_ne bV bW nW
  have q3 := str_eql_self bK2
  clear hA2 hK2 eA eK
  ((conv => whnf); repeat ((first | refine ⟨_, mK, ?_⟩ | refine ⟨_, mA, ?_⟩ | refine ⟨_, expo_sl rfl cK, ?_⟩ | refine ⟨_, expo_sl rfl cA, ?_⟩ | refine ⟨_, expo_sl rfl cA2, ?_⟩ | refine ⟨_, expo_sl rfl cK2, ?_⟩ | refine ⟨_, o1 _ _, ?_⟩ | refine ⟨_, o2 _ _, ?_⟩ | refine ⟨_, o3 _, ?_⟩ | refine ⟨_, o4 _, ?_⟩ | refine ⟨_, g1, ?_⟩ | refine ⟨_, g2, ?_⟩ | refine ⟨_, g3, ?_⟩ | refine ⟨_, g4, ?_⟩ | refine ⟨u64_nn _, ?_⟩ | refine ⟨_, conv_to rfl rfl rfl rfl rfl rfl (by omega) bC tC, ?_⟩ | refine ⟨_, conv_to rfl rfl rfl rfl rfl rfl (by omega) bD tD, ?_⟩ | refine ⟨_, conv_to rfl rfl rfl rfl rfl rfl (by omega) bW tW, ?_⟩ | refine ⟨_, conv_to rfl rfl rfl rfl rfl rfl (by omega) bV tV2, ?_⟩ | refine ⟨_, conv_to rfl rfl rfl rfl rfl rfl lV3 bV tV, ?_⟩ | refine ⟨_, conv_to rfl rfl rfl rfl rfl rfl lK3 bK3 sK2, ?_⟩ | refine ⟨_, q1, ?_⟩ | refine ⟨_, q2, ?_⟩ | refine ⟨_, q3, ?_⟩ | refine ⟨_, rfl, ?_⟩ | refine ⟨by decide, ?_⟩ | refine ⟨rfl, ?_⟩ | refine ⟨fun _ => ?_, fun h => absurd h (by decide)⟩ | refine ⟨fun h => absurd h (by decide), fun _ => ?_⟩ | refine ⟨inI_of (by omega), ?_⟩ | refine ⟨⟨rfl, inI_of (by omega)⟩, ?_⟩ | refine ⟨⟨rfl, by decide⟩, ?_⟩ | (apply Exists.intro; refine ⟨?_, ?_⟩; ((try simp only [Nat.zero_add, Nat.mul_one, Int.toNat_natCast]); exact at_g (by omega))) | (apply Exists.intro; refine ⟨?_, ?_⟩; ((try simp only [Nat.zero_add, Nat.mul_one, Int.toNat_natCast]); exact put_flat (by omega))) | refine ⟨_, cut_all (by omega), ?_⟩ | refine ⟨_, lay_all (by omega) (by omega), ?_⟩ | refine ⟨_, lay_all (by simp only [List.length_replicate, List.length_cons, List.length_nil]; omega) (by omega), ?_⟩ | refine ⟨by omega, ?_⟩ | refine ⟨len_flat (by omega), ?_⟩ | refine ⟨apart_uv _ _ _, ?_⟩ | refine ⟨_, resSlot_own rfl (by omega) (by first | exact .inl rfl | exact .inr ⟨rfl, rfl⟩), ?_⟩ | refine ⟨(by kernel_rfl : regB _ = true), ?_⟩); conv => whnf))
  rfl
theorem AesBits_call (n m k : Int) : CallOk Try.prog 6 [.v (.int .i64 n), .v (.int .i64 m), .v (.int .i64 k)] (ret1 (.v (.bool true))) :=
  execF_ok follows_ok EL_ok Try.func6 (AesBits_exec n m k)
end Go.Proofs.Ytcmceadekcfpbaa
