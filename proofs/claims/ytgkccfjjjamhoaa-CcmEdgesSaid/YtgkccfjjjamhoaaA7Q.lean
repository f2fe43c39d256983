/-
  Layer 7: the statements' functions, as their rows ask.
-/
import Derived.Test.YtgkccfjjjamhoaaA7H
import Derived.Test.YtgkccfjjjamhoaaA7I
namespace Go.Proofs.Ytgkccfjjjamhoaa
open Go.RowKit

theorem row7 {A : Nat → Prop} {w : World} {a : Option Addr} {l : List Int} (h : RowAt A .u8 w a l) : By l := by
  intro x hx
  have := wf_u8 (h.2.1 x hx)
  omega
theorem ints7 (w : World) (xs : List Int) (args : Array Value) (ha : args = (xs.map (Value.int .i64)).toArray) (A : Nat → Prop) : ∀ (i : Nat) (u : LV), (xs.map fun x => LV.v (.int .i64 x))[i]? = some u → Rep A w noMap u (args.getD i undef) := by
  subst ha
  intro i u hu
  simp only [List.getElem?_map] at hu
  rcases hq : xs[i]? with _ | x
  · simp [hq] at hu
  · simp [hq] at hu
    subst hu
    have : ((xs.map (Value.int .i64)).toArray.getD i undef) = .int .i64 x := by
      simp [Array.getD_eq_getD_getElem?, hq]
    rw [this]
    exact rep_v rfl
theorem CcmValid_walk (a : Option Addr) (c : Nat) (key : List Int) {w : World} (h : CapOk a c key.length ∧ RowAt (fun _ => True) .u8 w a key) (a' : Option Addr) (c' : Nat) (nonce : List Int) (h' : CapOk a' c' nonce.length ∧ RowAt (fun _ => True) .u8 w a' nonce) (tag : Int) (_ : (Lit.int .i64 tag).wf = true) (n : Int) (_ : (Lit.int .i64 n).wf = true) (x : Int) (_ : (Lit.int .i64 x).wf = true) (p : Int) (_ : (Lit.int .i64 p).wf = true) (w1 : World) (he : w1 = w := by rfl) :
    Calls Try.prog 3 #[.slice a key.length c, .slice a' nonce.length c', .int .i64 tag, .int .i64 n, .int .i64 x, .int .i64 p] w1 fun e w' => e = .returned (.bool true) ∧ Keeps (fun _ => False) w1 w' := by
  subst he
  refine (execF_ok follows_ok E7e_ok Try.func3 (CcmValid_exec key nonce tag n x p )).plain w1 _ rfl (There w1) (fun _ h => h) ?_
  intro i u hu
  rcases i with _ | _ | _ | _ | _ | _ | i
  · cases hu; exact rep_row h.1 h.2
  · cases hu; exact rep_row h'.1 h'.2
  · cases hu; exact rep_v rfl
  · cases hu; exact rep_v rfl
  · cases hu; exact rep_v rfl
  · cases hu; exact rep_v rfl
  · cases hu
theorem CcmSeals_walk (a : Option Addr) (c : Nat) (key : List Int) {w : World} (h : CapOk a c key.length ∧ RowAt (fun _ => True) .u8 w a key) (a' : Option Addr) (c' : Nat) (nonce : List Int) (h' : CapOk a' c' nonce.length ∧ RowAt (fun _ => True) .u8 w a' nonce) (a'' : Option Addr) (c'' : Nat) (aad : List Int) (h'' : CapOk a'' c'' aad.length ∧ RowAt (fun _ => True) .u8 w a'' aad) (a''' : Option Addr) (c''' : Nat) (plain : List Int) (h''' : CapOk a''' c''' plain.length ∧ RowAt (fun _ => True) .u8 w a''' plain) (tag : Int) (_ : (Lit.int .i64 tag).wf = true) (n : Int) (_ : (Lit.int .i64 n).wf = true) (w1 : World) (he : w1 = w := by rfl) :
    Calls Try.prog 4 #[.slice a key.length c, .slice a' nonce.length c', .slice a'' aad.length c'', .slice a''' plain.length c''', .int .i64 tag, .int .i64 n] w1 fun e w' => e = .returned (.bool true) ∧ Keeps (fun _ => False) w1 w' := by
  subst he
  refine (execF_ok follows_ok E7e_ok Try.func4 (CcmSeals_exec key nonce aad plain tag n (row7 h.2) (row7 h'.2) (row7 h''.2) (row7 h'''.2))).plain w1 _ rfl (There w1) (fun _ h => h) ?_
  intro i u hu
  rcases i with _ | _ | _ | _ | _ | _ | i
  · cases hu; exact rep_row h.1 h.2
  · cases hu; exact rep_row h'.1 h'.2
  · cases hu; exact rep_row h''.1 h''.2
  · cases hu; exact rep_row h'''.1 h'''.2
  · cases hu; exact rep_v rfl
  · cases hu; exact rep_v rfl
  · cases hu
theorem CcmEdges_walk (n : Int) (_ : (Lit.int .i64 n).wf = true) (x : Int) (_ : (Lit.int .i64 x).wf = true) (p : Int) (_ : (Lit.int .i64 p).wf = true) (w1 : World) :
    Calls Try.prog 5 #[.int .i64 n, .int .i64 x, .int .i64 p] w1 fun e w' => e = .returned (.bool true) ∧ Keeps (fun _ => False) w1 w' := by
  refine (execF_ok follows_ok E7e_ok Try.func5 (CcmEdges_exec  n x p )).plain w1 _ rfl (There w1) (fun _ h => h) ?_
  intro i u hu
  rcases i with _ | _ | _ | i
  · cases hu; exact rep_v rfl
  · cases hu; exact rep_v rfl
  · cases hu; exact rep_v rfl
  · cases hu
theorem CcmBack_walk (a : Option Addr) (c : Nat) (aad : List Int) {w : World} (h : CapOk a c aad.length ∧ RowAt (fun _ => True) .u8 w a aad) (a' : Option Addr) (c' : Nat) (plain : List Int) (h' : CapOk a' c' plain.length ∧ RowAt (fun _ => True) .u8 w a' plain) (a'' : Option Addr) (c'' : Nat) (other : List Int) (h'' : CapOk a'' c'' other.length ∧ RowAt (fun _ => True) .u8 w a'' other) (n : Int) (_ : (Lit.int .i64 n).wf = true) (w1 : World) (he : w1 = w := by rfl) :
    Calls Try.prog 7 #[.slice a aad.length c, .slice a' plain.length c', .slice a'' other.length c'', .int .i64 n] w1 fun e w' => e = .returned (.bool true) ∧ Keeps (fun _ => False) w1 w' := by
  subst he
  refine (execF_ok follows_ok E7e_ok Try.func7 (CcmBack_exec aad plain other n (row7 h.2) (row7 h'.2) (row7 h''.2))).plain w1 _ rfl (There w1) (fun _ h => h) ?_
  intro i u hu
  rcases i with _ | _ | _ | _ | i
  · cases hu; exact rep_row h.1 h.2
  · cases hu; exact rep_row h'.1 h'.2
  · cases hu; exact rep_row h''.1 h''.2
  · cases hu; exact rep_v rfl
  · cases hu
theorem CcmRefuses_walk (a : Option Addr) (c : Nat) (aad : List Int) {w : World} (h : CapOk a c aad.length ∧ RowAt (fun _ => True) .u8 w a aad) (a' : Option Addr) (c' : Nat) (cipher : List Int) (h' : CapOk a' c' cipher.length ∧ RowAt (fun _ => True) .u8 w a' cipher) (n : Int) (_ : (Lit.int .i64 n).wf = true) (w1 : World) (he : w1 = w := by rfl) :
    Calls Try.prog 8 #[.slice a aad.length c, .slice a' cipher.length c', .int .i64 n] w1 fun e w' => e = .returned (.bool true) ∧ Keeps (fun _ => False) w1 w' := by
  subst he
  refine (execF_ok follows_ok E7e_ok Try.func8 (CcmRefuses_exec aad cipher n (row7 h.2) (row7 h'.2))).plain w1 _ rfl (There w1) (fun _ h => h) ?_
  intro i u hu
  rcases i with _ | _ | _ | i
  · cases hu; exact rep_row h.1 h.2
  · cases hu; exact rep_row h'.1 h'.2
  · cases hu; exact rep_v rfl
  · cases hu
theorem CcmStream_walk (a : Option Addr) (c : Nat) (aad : List Int) {w : World} (h : CapOk a c aad.length ∧ RowAt (fun _ => True) .u8 w a aad) (a' : Option Addr) (c' : Nat) (plain : List Int) (h' : CapOk a' c' plain.length ∧ RowAt (fun _ => True) .u8 w a' plain) (n : Int) (_ : (Lit.int .i64 n).wf = true) (w1 : World) (he : w1 = w := by rfl) :
    Calls Try.prog 9 #[.slice a aad.length c, .slice a' plain.length c', .int .i64 n] w1 fun e w' => e = .returned (.bool true) ∧ Keeps (fun _ => False) w1 w' := by
  subst he
  refine (execF_ok follows_ok E7e_ok Try.func9 (CcmStream_exec aad plain n (row7 h.2) (row7 h'.2))).plain w1 _ rfl (There w1) (fun _ h => h) ?_
  intro i u hu
  rcases i with _ | _ | _ | i
  · cases hu; exact rep_row h.1 h.2
  · cases hu; exact rep_row h'.1 h'.2
  · cases hu; exact rep_v rfl
  · cases hu
end Go.Proofs.Ytgkccfjjjamhoaa
