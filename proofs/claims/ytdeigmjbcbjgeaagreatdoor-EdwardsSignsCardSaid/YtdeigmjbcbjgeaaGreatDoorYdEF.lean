/-
  Layer 10: the answer's secret, Public.
-/
import Derived.Test.YtdeigmjbcbjgeaaGreatDoorYdEB
import Derived.Test.YtdeigmjbcbjgeaaGreatDoorYdES
namespace Go.Proofs.YtdeigmjbcbjgeaaGreatDoor
open Go.RowKit

theorem sh_len (b : List Int) : (sha512 b).length = 64 := by rw [sha512, outs64_len]
theorem byteAt_byte (x : Int) (k : Nat) : 0 ≤ byteAt x k ∧ byteAt x k < 256 := by
  unfold byteAt
  omega
theorem outs_by (l : List Int) : ∀ i, By (outs64 l i)
  | 0 => fun x hx => by simp [outs64] at hx
  | i + 1 => by
    rw [outs64]
    exact (outs_by l i).append (By.map fun j _ => byteAt_byte _ _)
theorem sh_by (b : List Int) : By (sha512 b) := outs_by _ _
theorem resSlot_tail {β β' : Nat → Option Blk} {b e e' : Nat} {s s' : Bool} {c : Option Nat} {h p : List Int} (_ : β b = some ⟨.flat .u8 h, e, s⟩) (hb' : β' b = some ⟨.flat .u8 h, e', s'⟩) (hc : (Cont.flat .u8 h).cut 32 (32 * 1) = some (.flat .u8 p)) : resSlot β β' (.sl 1 b 32 32 c) = some (.val (.im 1 32 c (.flat .u8 p))) := by
  have ho : ownedB β (.sl 1 b 32 32 c) = none := by
    unfold ownedB
    rfl
  simp only [resSlot, ho]
  rw [show expo β' expoD (.sl 1 b 32 32 c) = some (.im 1 32 c (.flat .u8 p)) from expo_sl hb' hc]
/-- The secret number, and the prefix. -/
def secN (s : List Int) : Nat := clampN (nb ((sha512 s).take 32))
def secP (s : List Int) : List Int := (sha512 s).drop 32
theorem secP_len (s : List Int) : (secP s).length = 32 := by rw [secP, List.length_drop, sh_len]
theorem rSha_call {n : Nat} {c : Option Nat} {l : List Int} (hn : l.length = n) (hb : byteOk l = true) (hl : n ≤ 1000000000) : CallOk Tryz.prog 32 [.im 1 n c (.flat .u8 l)] (.one (.own 1 64 5 (.flat .u8 (sha512 l)))) := by
  have h := bytesFn_call rSum512_fn (Nat.le_refl _) n c l hn (byteAll hb) hl
  rwa [sh_len] at h
theorem rDec_row {a : List Int} (hc : isF a = true) : CallOk Tryz.prog 15 [.agg (.flat .u8 a)] (ret1 (.v (.bool (rdOk (nb a))))) := by
  have h0 := hc
  clear hc
  have e0 := isF_eq h0
  have l0 := nb32_lt h0
  clear h0
  generalize nb a = n0 at *
  subst e0
  exact rDec_call n0 l0 
theorem rSmall_row {a : List Int} (hc : isF a = true) : CallOk Tryz.prog 17 [.agg (.flat .u8 a)] (ret1 (.v (.bool (smaN (nb a))))) := by
  have h0 := hc
  clear hc
  have e0 := isF_eq h0
  have l0 := nb32_lt h0
  clear h0
  generalize nb a = n0 at *
  subst e0
  exact rSmall_call n0 l0 
theorem rMulAdd_row {a b c : List Int} (hc : isF a = true ∧ isF b = true ∧ isF c = true) : CallOk Tryz.prog 58 [.agg (.flat .u8 a), .agg (.flat .u8 b), .agg (.flat .u8 c)] (ret1 (F (((nb a) * (nb b) + (nb c)) % qQ))) := by
  obtain ⟨h0, h1, h2⟩ := hc
  have e0 := isF_eq h0
  have l0 := nb32_lt h0
  clear h0
  generalize nb a = n0 at *
  subst e0
  have e1 := isF_eq h1
  have l1 := nb32_lt h1
  clear h1
  generalize nb b = n1 at *
  subst e1
  have e2 := isF_eq h2
  have l2 := nb32_lt h2
  clear h2
  generalize nb c = n2 at *
  subst e2
  exact rMulAdd_call n0 n1 n2 l0 l1 l2 
def orcE3 (f : Nat) (ds : List LV) : Option LRes :=
  match f with
  | 15 => match ds with
    | [.agg (.flat .u8 a)] => if isF a = true then some (ret1 (.v (.bool (rdOk (nb a))))) else none
    | _ => none
  | 17 => match ds with
    | [.agg (.flat .u8 a)] => if isF a = true then some (ret1 (.v (.bool (smaN (nb a))))) else none
    | _ => none
  | 58 => match ds with
    | [.agg (.flat .u8 a), .agg (.flat .u8 b), .agg (.flat .u8 c)] => if isF a = true ∧ isF b = true ∧ isF c = true then some (ret1 (F (((nb a) * (nb b) + (nb c)) % qQ))) else none
    | _ => none
  | 53 => match ds with
    | [] => some (ret1 (P4 (rdP baseN)))
    | _ => none
  | 32 => match ds with
    | [.im 1 n _ (.flat .u8 l)] => if l.length = n ∧ byteOk l = true ∧ n ≤ 1000000000 then some (LRes.one (.own 1 64 5 (.flat .u8 (sha512 l)))) else none
    | _ => none
  | 57 => match ds with
    | [.im 1 n _ (.flat .u8 b)] => if b.length = n ∧ byteOk b = true then some (wideR n b) else none
    | _ => none
  | _ => orcE2 f ds
theorem orcE3_ok : Known Tryz.prog orcE3 := by
  intro f ds r h
  unfold orcE3 at h
  split at h
  · split at h
    · split at h
      · rename_i hc
        cases h
        exact .inl ⟨⟨_, Tryz.func15, name_ne _ (by kernel_rfl), rfl⟩, rDec_row hc⟩
      · cases h
    · cases h
  · split at h
    · split at h
      · rename_i hc
        cases h
        exact .inl ⟨⟨_, Tryz.func17, name_ne _ (by kernel_rfl), rfl⟩, rSmall_row hc⟩
      · cases h
    · cases h
  · split at h
    · split at h
      · rename_i hc
        cases h
        exact .inl ⟨⟨_, Tryz.func58, name_ne _ (by kernel_rfl), rfl⟩, rMulAdd_row hc⟩
      · cases h
    · cases h
  · split at h
    · cases h
      exact .inl ⟨⟨_, Tryz.func53, name_ne _ (by kernel_rfl), rfl⟩, rBaseP_call⟩
    · cases h
  · split at h
    · split at h
      · rename_i hc
        cases h
        exact .inl ⟨⟨_, Tryz.func32, name_ne _ (by kernel_rfl), rfl⟩, rSha_call hc.1 hc.2.1 hc.2.2⟩
      · cases h
    · cases h
  · split at h
    · split at h
      · rename_i hc
        cases h
        exact .inl ⟨⟨_, Tryz.func57, name_ne _ (by kernel_rfl), rfl⟩, rWide_call _ _ _ hc.1 (byteAll hc.2)⟩
      · cases h
    · cases h
  · exact orcE2_ok f ds r h
def EE3 : Env := ⟨tyL, orcE3, false, noWk, noOrw⟩
theorem EE3_ok : EnvOk Tryz.prog EE3 := ⟨tyL_ok, orcE3_ok, noOrw_ok⟩
set_option maxRecDepth 100000 in
theorem o_rMulAdd {a b c : Nat} (ha : a < 2 ^ 256) (hb : b < 2 ^ 256) (hc : c < 2 ^ 256) : EE3.orc 58 [F a, F b, F c] = some (ret1 (F ((a * b + c) % qQ))) :=
  (if_pos ⟨isF_by _, isF_by _, isF_by _⟩).trans (by rw [nb_by32 ha, nb_by32 hb, nb_by32 hc])
theorem isN_EE3 (f : Nat) {ds : List LV} {K : LRes → Prop} (h : ∃ y, EE3.orc f ds = some y ∧ K y) : ∃ y, EE3.orc f ds = some y ∧ K y := h
theorem e3_Sha {n : Nat} {c : Option Nat} {l : List Int} (hn : l.length = n) (hb : By l) (hl : n ≤ 1000000000) : EE3.orc 32 [.im 1 n c (.flat .u8 l)] = some (.one (.own 1 64 5 (.flat .u8 (sha512 l)))) := if_pos ⟨hn, hb.ok, hl⟩
theorem e3_Clamp {a : Nat} (ha : a < 2 ^ 256) : EE3.orc 93 [F a] = some (ret1 (F (clampN a))) := (show EE3.orc 93 [F a] = EG3.orc 93 [F a] from rfl).trans (o_rClamp ha)
set_option maxRecDepth 100000 in
set_option maxHeartbeats 8000000 in
theorem secret_gen (n : Nat) (c : Option Nat) (s h k r p : List Int) (lh : h.length = 64) (_ : k.length = 32) (lr : r.length = 32) (hk : h.take 32 = k) (hp : h.drop 32 = p) (hpl : p.length = 32)
    (f1 : EE3.orc 32 [.im 1 n c (.flat .u8 s)] = some (.one (.own 1 64 5 (.flat .u8 h)))) (f2 : EE3.orc 93 [.agg (.flat .u8 k)] = some (ret1 (.agg (.flat .u8 r)))) :
    execF EE3 Tryz.f52 [.im 1 n c (.flat .u8 s)] (.many [.val (.agg (.flat .u8 r)), .val (.im 1 32 none (.flat .u8 p))]) := by
  have c1 : (Cont.flat .u8 h).cut 0 32 = some (.flat .u8 k) := by rw [← hk]; exact cut_take (by omega)
  have c2 : (Cont.flat .u8 h).cut 32 (32 * 1) = some (.flat .u8 p) := by rw [cut_flat (by omega), hp, List.take_of_length_le (by omega)]
  have zr : layOne (.flat .u8 (List.replicate 32 0)) 0 (.flat .u8 r) = some (.flat .u8 r) := lay_all (by rw [List.length_replicate, lr]) (by omega)
  have nr : (Cont.flat .u8 r).len = 32 := lr
  have cr : (Cont.flat .u8 r).cut 0 32 = some (.flat .u8 r) := cut_all lr
  ((conv => whnf); repeat ((first | refine ⟨_, c1, ?_⟩ | refine ⟨_, zr, ?_⟩ | refine ⟨nr, ?_⟩ | refine ⟨_, cr, ?_⟩ | ((with_reducible refine isN_EE3 32 ?_); first | refine ⟨_, f1, ?_⟩) | ((with_reducible refine isN_EE3 93 ?_); first | refine ⟨_, f2, ?_⟩) | refine ⟨_, rfl, ?_⟩ | refine ⟨by decide, ?_⟩ | refine ⟨rfl, ?_⟩); conv => whnf))
  refine ⟨_, resSlot_tail (e' := 5) (s' := true) rfl (by kernel_rfl) c2, ?_⟩
  ((conv => whnf); repeat ((first | refine ⟨_, cr, ?_⟩ | refine ⟨_, rfl, ?_⟩ | refine ⟨by decide, ?_⟩ | refine ⟨rfl, ?_⟩ | refine ⟨fun _ => ?_, fun h => absurd h (by decide)⟩ | refine ⟨fun h => absurd h (by decide), fun _ => ?_⟩ | refine ⟨inI_of (by omega), ?_⟩ | refine ⟨⟨rfl, inI_of (by omega)⟩, ?_⟩ | refine ⟨⟨rfl, by decide⟩, ?_⟩ | (apply Exists.intro; refine ⟨?_, ?_⟩; ((try simp only); (try simp only [Nat.zero_add]); (try simp only [Nat.mul_one]); (try simp only [Int.toNat_natCast]); first | exact at_g (by omega) | exact put_flat (by omega))) | refine ⟨_, cut_all (by omega), ?_⟩ | refine ⟨_, lay_all (by omega) (by omega), ?_⟩ | refine ⟨_, lay_all (by (try simp only); (try simp only [List.length_replicate]); (try simp only [List.length_cons]); (try simp only [List.length_nil]); omega) (by omega), ?_⟩ | refine ⟨by omega, ?_⟩ | refine ⟨len_flat (by omega), ?_⟩ | refine ⟨apart_uv _ _ _, ?_⟩ | refine ⟨_, resSlot_own rfl (by omega) (by first | exact .inl rfl | exact .inr ⟨rfl, rfl⟩), ?_⟩ | refine ⟨(by kernel_rfl : regB _ = true), ?_⟩ | refine ⟨⟨rfl, inI_of (by omega), by decide⟩, ?_⟩ | (apply Exists.intro; refine ⟨?_, ?_⟩; ((try simp only); (try simp only [Nat.zero_add]); (try simp only [Nat.mul_one]); (try simp only [Int.toNat_natCast]); first | exact at_drop_g (by omega) | exact cut_rest (by omega)))); conv => whnf))
  rfl
end Go.Proofs.YtdeigmjbcbjgeaaGreatDoor
