/-
  Layer 6: the statements' functions, as their rows ask.
-/
import Derived.Test.YtcmceadekcfpbaaA6M
import Derived.Test.YtcmceadekcfpbaaA6N
import Derived.Test.YtcmceadekcfpbaaA6P
namespace Go.Proofs.Ytcmceadekcfpbaa
open Go.RowKit

theorem row_by {A : Nat → Prop} {w : World} {a : Option Addr} {l : List Int} (h : RowAt A .u8 w a l) : By l := by
  intro x hx
  have := wf_u8 (h.2.1 x hx)
  omega
theorem ints (w : World) (xs : List Int) (args : Array Value) (ha : args = (xs.map (Value.int .i64)).toArray) (A : Nat → Prop) : ∀ (i : Nat) (u : LV), (xs.map fun x => LV.v (.int .i64 x))[i]? = some u → Rep A w noMap u (args.getD i undef) := by
  subst ha
  intro i u hu
  simp only [List.getElem?_map] at hu
  rcases hq : xs[i]? with _ | x
  · simp [hq] at hu
  · simp [hq] at hu
    subst hu
    have : ((xs.map (Value.int .i64)).toArray.getD i undef) = .int .i64 x := by
      simp [Array.getD_eq_getD_getElem?, hq]
    rw [this]
    exact rep_v rfl
theorem AesUndoes_walk (n : Int) (_ : (Lit.int .i64 n).wf = true) (m : Int) (_ : (Lit.int .i64 m).wf = true) (k : Int) (_ : (Lit.int .i64 k).wf = true) (w : World) :
    Calls Try.prog 5 #[.int .i64 n, .int .i64 m, .int .i64 k] w fun e w' => e = .returned (.bool true) ∧ Keeps (fun _ => False) w w' :=
  (AesUndoes_call n m k).plain w _ rfl (There w) (fun _ h => h) (ints w [n, m, k] _ rfl _)
theorem AesBits_walk (n : Int) (_ : (Lit.int .i64 n).wf = true) (m : Int) (_ : (Lit.int .i64 m).wf = true) (k : Int) (_ : (Lit.int .i64 k).wf = true) (w : World) :
    Calls Try.prog 6 #[.int .i64 n, .int .i64 m, .int .i64 k] w fun e w' => e = .returned (.bool true) ∧ Keeps (fun _ => False) w w' :=
  (AesBits_call n m k).plain w _ rfl (There w) (fun _ h => h) (ints w [n, m, k] _ rfl _)
theorem AesExpands_walk (a : Option Addr) (c : Nat) (raw : List Int) {w : World} (h : CapOk a c raw.length ∧ RowAt (fun _ => True) .u8 w a raw) (n : Int) (_ : (Lit.int .i64 n).wf = true) (w1 : World) (he : w1 = w := by rfl) :
    Calls Try.prog 3 #[.slice a raw.length c, .int .i64 n] w1 fun e w' => e = .returned (.bool true) ∧ Keeps (fun _ => False) w1 w' := by
  subst he
  refine (AesExpands_call raw n (row_by h.2)).plain w1 _ rfl (There w1) (fun _ h => h) ?_
  intro i u hu
  rcases i with _ | _ | i
  · cases hu; exact rep_row h.1 h.2
  · cases hu; exact rep_v rfl
  · cases hu
theorem AesEncrypts_walk (a : Option Addr) (c : Nat) (raw : List Int) {w : World} (h : CapOk a c raw.length ∧ RowAt (fun _ => True) .u8 w a raw) (a' : Option Addr) (c' : Nat) (text : List Int) (h' : CapOk a' c' text.length ∧ RowAt (fun _ => True) .u8 w a' text) (n : Int) (_ : (Lit.int .i64 n).wf = true) (m : Int) (_ : (Lit.int .i64 m).wf = true) (w1 : World) (he : w1 = w := by rfl) :
    Calls Try.prog 4 #[.slice a raw.length c, .slice a' text.length c', .int .i64 n, .int .i64 m] w1 fun e w' => e = .returned (.bool true) ∧ Keeps (fun _ => False) w1 w' := by
  subst he
  refine (AesEncrypts_call raw text n m (row_by h.2) (row_by h'.2)).plain w1 _ rfl (There w1) (fun _ h => h) ?_
  intro i u hu
  rcases i with _ | _ | _ | _ | i
  · cases hu; exact rep_row h.1 h.2
  · cases hu; exact rep_row h'.1 h'.2
  · cases hu; exact rep_v rfl
  · cases hu; exact rep_v rfl
  · cases hu
end Go.Proofs.Ytcmceadekcfpbaa
