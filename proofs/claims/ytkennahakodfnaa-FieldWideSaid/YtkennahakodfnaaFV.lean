/-
  Layer 8: the laws' helpers: element, awake, sum; the table for the laws.
-/
import Derived.Test.YtkennahakodfnaaFC
import Derived.Test.YtkennahakodfnaaMkP
namespace Go.Proofs.Ytkennahakodfnaa
open Go.RowKit

theorem U_w (x : Int) : U (IntKind.u64.wrap x) := by rw [IntKind.wrap_u64]; unfold U; omega
theorem isW4 {a b c d : Int} (ha : U a) (hb : U b) (hc : U c) (hd : U d) : isW [a, b, c, d] = true := by
  have e : wd (vl [a, b, c, d]) = [a, b, c, d] := (wd_of (e := 0) ha hb hc hd (by simp only [vl]; unfold U at *; omega)).1
  rw [isW, e]
  simp
def okMod (_ n : Int) : Prop := 0 < n ∧ n < 9223372036854775808
instance (v n : Int) : Decidable (okMod v n) := inferInstanceAs (Decidable (_ ∧ _))
def orcL0 (f : Nat) (ds : List LV) : Option LRes :=
  match f with
  | 18 => match ds with
    | [.v (.int .i64 v), .v (.int .i64 n)] => if okMod v n then some (ret1 (iv .i64 (v % n))) else none
    | _ => none
  | _ => orcR7 f ds
theorem orcL0_ok : Known Try.prog orcL0 := by
  intro f ds r h
  unfold orcL0 at h
  split at h
  · split at h
    · split at h
      · rename_i hc
        cases h
        exact .inl ⟨⟨_, Try.func18, name_ne _ (by kernel_rfl), rfl⟩, mod_call _ _ hc.1 hc.2⟩
      · cases h
    · cases h
  · exact orcR7_ok f ds r h
def EL0 : Env := ⟨tyL, orcL0, false, noWk, noOrw⟩
theorem EL0_ok : EnvOk Try.prog EL0 := ⟨tyL_ok, orcL0_ok, noOrw_ok⟩
theorem is_EL0 {f : Nat} {ds : List LV} {K : LRes → Prop} (h : ∃ y, EL0.orc f ds = some y ∧ K y) : ∃ y, EL0.orc f ds = some y ∧ K y := h
theorem isN_EL0 (f : Nat) {ds : List LV} {K : LRes → Prop} (h : ∃ y, EL0.orc f ds = some y ∧ K y) : ∃ y, EL0.orc f ds = some y ∧ K y := h
theorem o_Mod0 (v n : Int) (h : 0 < n ∧ n < 9223372036854775808) : EL0.orc 18 [iv .i64 v, iv .i64 n] = some (ret1 (iv .i64 (v % n))) := if_pos h
theorem o_store0 {a b c d : Int} (h : isW [a, b, c, d] = true) : EL0.orc 15 [.agg (.flat .u64 [a, b, c, d])] = some (ret1 (F (vl [a, b, c, d]))) := if_pos h
theorem l_load0 {a : Nat} (ha : a < 2 ^ 256) : EL0.orc 34 [F a] = some (ret1 (W a)) := (show EL0.orc 34 [F a] = ER7.orc 34 [F a] from rfl).trans (r_load7 ha)
theorem l_store0 {a : Nat} (ha : a < 2 ^ 256) : EL0.orc 15 [W a] = some (ret1 (F a)) := (show EL0.orc 15 [W a] = ER7.orc 15 [W a] from rfl).trans (r_store7 ha)
theorem l_P0 : EL0.orc 16 [] = some (ret1 (W pP)) := rfl
theorem l_Q0 : EL0.orc 47 [] = some (ret1 (W qQ)) := rfl
theorem qQ_lt : qQ < 2 ^ 256 := by unfold qQ; omega
theorem by32_mod (a : Nat) : by32 (a % 2 ^ 256) = by32 a := by
  refine ext_g (by rw [byk_len, byk_len]) fun i hi => ?_
  rw [byk_len] at hi
  rw [g_byk hi, g_byk hi, bt, bt]
  congr 1
  rw [show (256 : Nat) = 2 ^ 8 from rfl]
  apply Nat.eq_of_testBit_eq
  intro t
  simp only [Nat.testBit_mod_two_pow, Nat.testBit_div_two_pow]
  by_cases ht : t < 8
  · rw [decide_eq_true (show t + 8 * i < 256 by omega), Bool.true_and]
  · rw [decide_eq_false ht, Bool.false_and, Bool.false_and]
theorem bP_lt (b : Nat) (h : b = 0 ∨ b = pP ∨ b = qQ ∨ b = 2 ^ 255) : b < 2 ^ 256 := by
  rcases h with rfl | rfl | rfl | rfl
  · decide
  · exact pP_lt
  · unfold qQ; omega
  · omega
end Go.Proofs.Ytkennahakodfnaa
