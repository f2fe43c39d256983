/-
  Layer 8: FieldScalars.
-/
import Derived.Test.YtepbhihklmclaaaFE
namespace Go.Proofs.Ytepbhihklmclaaa
open Go.RowKit

theorem wideR_32 {b : List Int} (_ : b.length = 32) : wideR 32 b = .many [.val (F (nb b % qQ)), .val (iv .i64 0)] := by rw [wideR, if_neg (by decide)]
theorem wideR_64 {b : List Int} (_ : b.length = 64) : wideR 64 b = .many [.val (F (nb b % qQ)), .val (iv .i64 0)] := by rw [wideR, if_neg (by decide)]
theorem nb_zeros : ∀ k, nb (List.replicate k 0) = 0
  | 0 => rfl
  | k + 1 => by rw [List.replicate_succ, nb, nb_zeros k]; rfl
theorem nb_append : ∀ (x y : List Int), nb (x ++ y) = nb x + 256 ^ x.length * nb y
  | [], y => by simp [nb]
  | a :: x, y => by
    rw [List.cons_append, nb, nb, nb_append x y, List.length_cons, Nat.pow_succ, Nat.mul_add, ← Nat.mul_assoc, Nat.mul_comm 256 (256 ^ x.length)]
    omega
set_option maxRecDepth 100000 in
theorem l_sum {a b : Nat} (ha : a < 2 ^ 256) (hb : b < 2 ^ 256) : CallOk Try.prog 34 [F a, F b] (ret1 (F ((1 * a + b) % qQ))) := by
  have f := l_pMulAdd (a := 1) (by decide) ha hb
  rw [show F 1 = .agg (.flat .u8 (1 :: List.replicate 31 0)) by kernel_rfl] at f
  refine execF_ok follows_ok ELb_ok Try.func34 ?_
  ((conv => whnf); repeat ((first | refine ⟨_, f, ?_⟩ | refine ⟨_, rfl, ?_⟩ | refine ⟨by decide, ?_⟩ | refine ⟨rfl, ?_⟩ | refine ⟨fun _ => ?_, fun h => absurd h (by decide)⟩ | refine ⟨fun h => absurd h (by decide), fun _ => ?_⟩ | refine ⟨inI_of (by omega), ?_⟩ | refine ⟨⟨rfl, inI_of (by omega)⟩, ?_⟩ | refine ⟨⟨rfl, by decide⟩, ?_⟩ | (apply Exists.intro; refine ⟨?_, ?_⟩; ((try simp only); (try simp only [Nat.zero_add]); (try simp only [Nat.mul_one]); (try simp only [Int.toNat_natCast]); exact at_g (by omega))) | (apply Exists.intro; refine ⟨?_, ?_⟩; ((try simp only); (try simp only [Nat.zero_add]); (try simp only [Nat.mul_one]); (try simp only [Int.toNat_natCast]); exact put_flat (by omega))) | refine ⟨_, cut_all (by omega), ?_⟩ | refine ⟨_, lay_all (by omega) (by omega), ?_⟩ | refine ⟨_, lay_all (by (try simp only); (try simp only [List.length_replicate]); (try simp only [List.length_cons]); (try simp only [List.length_nil]); omega) (by omega), ?_⟩ | refine ⟨by omega, ?_⟩ | refine ⟨len_flat (by omega), ?_⟩ | refine ⟨apart_uv _ _ _, ?_⟩ | refine ⟨_, resSlot_own rfl (by omega) (by first | exact .inl rfl | exact .inr ⟨rfl, rfl⟩), ?_⟩ | refine ⟨(by kernel_rfl : regB _ = true), ?_⟩ | refine ⟨⟨rfl, inI_of (by omega), by decide⟩, ?_⟩ | (apply Exists.intro; refine ⟨?_, ?_⟩; ((try simp only); (try simp only [Nat.zero_add]); (try simp only [Nat.mul_one]); (try simp only [Int.toNat_natCast]); exact at_drop_g (by omega))) | (apply Exists.intro; refine ⟨?_, ?_⟩; ((try simp only); (try simp only [Nat.zero_add]); (try simp only [Nat.mul_one]); (try simp only [Int.toNat_natCast]); exact cut_rest (by omega)))); conv => whnf))
  rfl
theorem sum_row {a b : List Int} (h0 : isF a = true) (h1 : isF b = true) : CallOk Try.prog 34 [.agg (.flat .u8 a), .agg (.flat .u8 b)] (ret1 (F ((1 * nb a + nb b) % qQ))) := by
  have := l_sum (nb32_lt h0) (nb32_lt h1)
  rwa [F, F, ← isF_eq h0, ← isF_eq h1] at this
noncomputable section
def orcLc (f : Nat) (ds : List LV) : Option LRes :=
  match f with
  | 34 => match ds with
    | [.agg (.flat .u8 a), .agg (.flat .u8 b)] => if isF a = true ∧ isF b = true then some (ret1 (F ((1 * nb a + nb b) % qQ))) else none
    | _ => none
  | _ => orcLb f ds
theorem orcLc_ok : Known Try.prog orcLc := by
  intro f ds r h
  unfold orcLc at h
  split at h
  · split at h
    · split at h
      · rename_i hc
        cases h
        exact .inl ⟨⟨_, Try.func34, name_ne _ (by kernel_rfl), rfl⟩, sum_row hc.1 hc.2⟩
      · cases h
    · cases h
  · exact orcLb_ok f ds r h
def ELc : Env := ⟨tyL, orcLc, false, noWk, noOrw⟩
theorem ELc_ok : EnvOk Try.prog ELc := ⟨tyL_ok, orcLc_ok, noOrw_ok⟩
theorem isN_ELc (f : Nat) {ds : List LV} {K : LRes → Prop} (h : ∃ y, ELc.orc f ds = some y ∧ K y) : ∃ y, ELc.orc f ds = some y ∧ K y := h
set_option maxRecDepth 100000 in
theorem c_sum {a b : Nat} (ha : a < 2 ^ 256) (hb : b < 2 ^ 256) : ELc.orc 34 [F a, F b] = some (ret1 (F ((1 * a + b) % qQ))) := (if_pos ⟨isF_by _, isF_by _⟩).trans (by rw [nb_by32 ha, nb_by32 hb])
theorem c_MulAdd {a b c : Nat} (ha : a < 2 ^ 256) (hb : b < 2 ^ 256) (hc : c < 2 ^ 256) : ELc.orc 32 [F a, F b, F c] = some (ret1 (F ((a * b + c) % qQ))) := (show ELc.orc 32 [F a, F b, F c] = ELb.orc 32 [F a, F b, F c] from rfl).trans (l_pMulAdd ha hb hc)
theorem c_Wide {n : Nat} {c : Option Nat} {b : List Int} (h : b.length = n) (hb : By b) : ELc.orc 30 [.im 1 n c (.flat .u8 b)] = some (wideR n b) := (show ELc.orc 30 [.im 1 n c (.flat .u8 b)] = ELb.orc 30 [.im 1 n c (.flat .u8 b)] from rfl).trans (l_pWide h hb)
theorem c_awake : ELc.orc 17 [] = some (ret1 (.v (.bool true))) := rfl
theorem c_Q : ELc.orc 36 [] = some (ret1 (W qQ)) := rfl
theorem c_Store : ELc.orc 35 [W qQ] = some (ret1 (F qQ)) := (show ELc.orc 35 [W qQ] = EL0.orc 35 [W qQ] from rfl).trans (l_store0 qQ_lt)
theorem c_Less {a b : Nat} (ha : a < 2 ^ 256) (hb : b < 2 ^ 256) : ELc.orc 15 [F a, F b] = some (ret1 (.v (.bool (decide (a < b))))) := (show ELc.orc 15 [F a, F b] = ELb.orc 15 [F a, F b] from rfl).trans (l_pLess ha hb)
end
theorem qq1 (a b c : Nat) : (a % qQ * (b % qQ) + c) % qQ = (b * a + c) % qQ := by
  rw [Nat.add_mod, ← Nat.mul_mod, ← Nat.add_mod, Nat.mul_comm]
theorem qq2 (a b c : Nat) : ((a * b + 0) % qQ * c + 0) % qQ = (a * ((b * c + 0) % qQ) + 0) % qQ := by
  simp only [Nat.add_zero]
  rw [Nat.mod_mul_mod, Nat.mul_mod_mod, Nat.mul_assoc]
theorem qq3 (a b c : Nat) : (a * c + (b * c + 0) % qQ) % qQ = (c * ((1 * (a % qQ) + b % qQ) % qQ) + 0) % qQ := by
  rw [Nat.add_zero, Nat.add_zero, Nat.one_mul, ← Nat.add_mod, Nat.mul_mod_mod, Nat.add_mod_mod, Nat.mul_add, Nat.mul_comm c a, Nat.mul_comm c b]
theorem app_nil {β : Nat → Option Blk} {d b n e : Nat} {sp : Bool} {l : List Int} {c : Option Nat} (hk : β b = some ⟨.flat .u8 l, e, sp⟩) (hc : (Cont.flat .u8 l).cut 0 (n * 1) = some (.flat .u8 l)) (hn : appOk 1 1 1 n (.flat .u8 [0]) = true) :
    opAppend ELc β d 37 (.v (.slice none 0 0)) (.sl 1 b 0 n c) = some ⟨none, newB β d, .sl 1 (8 * d) 0 n none, [(8 * d, ⟨.flat .u8 l, 5, true⟩)]⟩ := by
  have e1 : shown β 1 (.sl 1 b 0 n c) = some (.flat .u8 l, n) := by
    show (match β b with | some k => (k.x.cut 0 (n * 1)).map fun y => (y, n) | none => none) = _
    rw [hk]
    show ((Cont.flat .u8 l).cut 0 (n * 1)).map _ = _
    rw [hc]
    rfl
  show (match shown β 1 (.sl 1 b 0 n c) with | some (y, cnt) => if y.leaves then appX ELc β d 37 (.v (.slice none 0 0)) y cnt else none | none => none) = _
  rw [e1]
  show (if (Cont.flat .u8 l).leaves = true then appX ELc β d 37 (.v (.slice none 0 0)) (.flat .u8 l) n else none) = _
  rw [if_pos (show (Cont.flat .u8 l).leaves = true from rfl)]
  exact if_pos (c := appOk 1 1 1 n (.flat .u8 [0]) = true ∧ ((newB β d).isNone || (Cont.flat .u8 l).free (8 * d)) = true) ⟨hn, by show ((newB β d).isNone || true) = true; rw [Bool.or_true]⟩
theorem eql_goc {a b : List Int} {K : LV × List (Nat × Blk) → Prop} (ha : a.length = 32) (hb : b.length = 32) (h : K (.v (.bool (a == b)), [])) : runs (opBin ELc .eql 23 (.agg (.flat .u8 a)) (.agg (.flat .u8 b))) K := by
  have e : opBin ELc .eql 23 (.agg (.flat .u8 a)) (.agg (.flat .u8 b)) = some (.v (.bool (a == b)), []) := if_pos ⟨rfl, ha, hb⟩
  rw [e]
  exact h
end Go.Proofs.Ytepbhihklmclaaa
