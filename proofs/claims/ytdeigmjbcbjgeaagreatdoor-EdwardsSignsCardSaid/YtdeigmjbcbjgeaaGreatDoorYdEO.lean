/-
  Layer 10: the answer's Sign.
-/
import Derived.Test.YtdeigmjbcbjgeaaGreatDoorYdEM
import Derived.Test.YtdeigmjbcbjgeaaGreatDoorYdEI
import Derived.Test.YtdeigmjbcbjgeaaGreatDoorYdMkP
namespace Go.Proofs.YtdeigmjbcbjgeaaGreatDoor
open Go.RowKit

set_option maxRecDepth 100000 in
set_option maxHeartbeats 8000000 in
theorem rSign_gen (m : Nat) (c cm : Option Nat) (s g S B M2 EF p h1 r h2 K T PA : List Int) (hm : m ≤ 100000) (lg : g.length = m) (lp : p.length = 32) (lS : S.length = 32) (lA : PA.length = 32) (lF : EF.length = 32) (lr : r.length = 32) (lT : T.length = 32) (lK : K.length = 32) (lh1 : h1.length = 64) (lh2 : h2.length = 64)
    (f0 : ∀ c, EE5.orc 25 [.im 1 32 c (.flat .u8 s)] = some (.many [.own 1 32 5 (.flat .u8 PA), .val (iv .i64 0)])) (f1 : ∀ c, EE5.orc 52 [.im 1 32 c (.flat .u8 s)] = some (.many [.val (.agg (.flat .u8 S)), .val (.im 1 32 none (.flat .u8 p))]))
    (f2 : ∀ c, EE5.orc 32 [.im 1 (32 + m) c (.flat .u8 (p ++ g))] = some (.one (.own 1 64 5 (.flat .u8 h1)))) (f3 : ∀ c, EE5.orc 57 [.im 1 64 c (.flat .u8 h1)] = some (.many [.val (.agg (.flat .u8 r)), .val (iv .i64 0)]))
    (f4 : EE5.orc 53 [] = some (ret1 (.agg (.flat .u64 B)))) (f6 : EE5.orc 48 [.agg (.flat .u8 r), .agg (.flat .u64 B)] = some (ret1 (.agg (.flat .u64 M2)))) (f7 : EE5.orc 42 [.agg (.flat .u64 M2)] = some (ret1 (.agg (.flat .u8 EF))))
    (f8 : ∀ c, EE5.orc 32 [.im 1 (32 + 32 + m) c (.flat .u8 (EF ++ PA ++ g))] = some (.one (.own 1 64 5 (.flat .u8 h2)))) (f9 : ∀ c, EE5.orc 57 [.im 1 64 c (.flat .u8 h2)] = some (.many [.val (.agg (.flat .u8 K)), .val (iv .i64 0)])) (g1 : EE5.orc 58 [.agg (.flat .u8 K), .agg (.flat .u8 S), .agg (.flat .u8 r)] = some (ret1 (.agg (.flat .u8 T)))) :
    execF EE5 Tryz.f27 [.im 1 32 c (.flat .u8 s), .im 1 m cm (.flat .u8 g)] (.many [.own 1 64 5 (.flat .u8 (EF ++ T)), .val (iv .i64 0)]) := by
  have zS : layOne (.flat .u8 (List.replicate 32 0)) 0 (.flat .u8 S) = some (.flat .u8 S) := lay_all (by rw [List.length_replicate, lS]) (by omega)
  have nS : (Cont.flat .u8 S).len = 32 := lS
  have cS : (Cont.flat .u8 S).cut 0 32 = some (.flat .u8 S) := cut_all lS
  have dS : (Cont.flat .u8 S).cut 0 (32 * 1) = some (.flat .u8 S) := cut_all lS
  have zA : layOne (.flat .u8 (List.replicate 32 0)) 0 (.flat .u8 PA) = some (.flat .u8 PA) := lay_all (by rw [List.length_replicate, lA]) (by omega)
  have nA : (Cont.flat .u8 PA).len = 32 := lA
  have cA : (Cont.flat .u8 PA).cut 0 32 = some (.flat .u8 PA) := cut_all lA
  have dA : (Cont.flat .u8 PA).cut 0 (32 * 1) = some (.flat .u8 PA) := cut_all lA
  have zF : layOne (.flat .u8 (List.replicate 32 0)) 0 (.flat .u8 EF) = some (.flat .u8 EF) := lay_all (by rw [List.length_replicate, lF]) (by omega)
  have nF : (Cont.flat .u8 EF).len = 32 := lF
  have cF : (Cont.flat .u8 EF).cut 0 32 = some (.flat .u8 EF) := cut_all lF
  have dF : (Cont.flat .u8 EF).cut 0 (32 * 1) = some (.flat .u8 EF) := cut_all lF
  have zr : layOne (.flat .u8 (List.replicate 32 0)) 0 (.flat .u8 r) = some (.flat .u8 r) := lay_all (by rw [List.length_replicate, lr]) (by omega)
  have nr : (Cont.flat .u8 r).len = 32 := lr
  have cr : (Cont.flat .u8 r).cut 0 32 = some (.flat .u8 r) := cut_all lr
  have dr : (Cont.flat .u8 r).cut 0 (32 * 1) = some (.flat .u8 r) := cut_all lr
  have zT : layOne (.flat .u8 (List.replicate 32 0)) 0 (.flat .u8 T) = some (.flat .u8 T) := lay_all (by rw [List.length_replicate, lT]) (by omega)
  have nT : (Cont.flat .u8 T).len = 32 := lT
  have cT : (Cont.flat .u8 T).cut 0 32 = some (.flat .u8 T) := cut_all lT
  have dT : (Cont.flat .u8 T).cut 0 (32 * 1) = some (.flat .u8 T) := cut_all lT
  have zK : layOne (.flat .u8 (List.replicate 32 0)) 0 (.flat .u8 K) = some (.flat .u8 K) := lay_all (by rw [List.length_replicate, lK]) (by omega)
  have nK : (Cont.flat .u8 K).len = 32 := lK
  have cK : (Cont.flat .u8 K).cut 0 32 = some (.flat .u8 K) := cut_all lK
  have dK : (Cont.flat .u8 K).cut 0 (32 * 1) = some (.flat .u8 K) := cut_all lK
  have lpg : (p ++ g).length = 32 + m := by rw [List.length_append, lp, lg]
  have lFA : (EF ++ PA).length = 32 + 32 := by rw [List.length_append, lF, lA]
  have lFg : (EF ++ PA ++ g).length = 32 + 32 + m := by rw [List.length_append, lFA, lg]
  have lFT : (EF ++ T).length = 32 + 32 := by rw [List.length_append, lF, lT]
  have d1 : (Cont.flat .u8 (p ++ g)).cut 0 ((32 + m) * 1) = some (.flat .u8 (p ++ g)) := cut_all (by omega)
  have d2 : (Cont.flat .u8 (EF ++ PA ++ g)).cut 0 ((32 + 32 + m) * 1) = some (.flat .u8 (EF ++ PA ++ g)) := cut_all (by omega)
  have d3 : (Cont.flat .u8 h1).cut 0 (64 * 1) = some (.flat .u8 h1) := cut_all (by omega)
  have d4 : (Cont.flat .u8 h2).cut 0 (64 * 1) = some (.flat .u8 h2) := cut_all (by omega)
  have tE : (EF ++ T).take ((32 + 32) * 1) = EF ++ T := List.take_of_length_le (by omega)
  ((conv => whnf); repeat ((first | refine ⟨_, expo_sl rfl d1, ?_⟩ | refine ⟨_, expo_sl rfl d2, ?_⟩ | refine ⟨_, expo_sl rfl d3, ?_⟩ | refine ⟨_, expo_sl rfl d4, ?_⟩ | refine ⟨_, append_nil (cnt := 32) rfl rfl (shown_sl rfl dF) rfl rfl rfl (by decide) (by decide), ?_⟩ | refine ⟨_, append_nil (cnt := 32) rfl rfl ((rfl : shown _ 1 (.im 1 32 none (.flat .u8 p)) = some (.flat .u8 p, 32))) rfl rfl rfl (by decide) (by decide), ?_⟩ | refine ⟨_, append_grow (cnt := 32) rfl rfl (shown_sl rfl dA) rfl rfl lF rfl (by omega) (by omega), ?_⟩ | refine ⟨_, append_grow (cnt := 32) rfl rfl (shown_sl rfl dT) rfl rfl lF rfl (by omega) (by omega), ?_⟩ | refine ⟨_, append_grow (cnt := m) rfl rfl ((rfl : shown _ 1 (.im 1 m cm (.flat .u8 g)) = some (.flat .u8 g, m))) rfl rfl lp rfl (by omega) (by omega), ?_⟩ | refine ⟨_, append_grow (cnt := m) rfl rfl ((rfl : shown _ 1 (.im 1 m cm (.flat .u8 g)) = some (.flat .u8 g, m))) rfl rfl lFA rfl (by omega) (by omega), ?_⟩ | refine ⟨_, cS, ?_⟩ | refine ⟨_, zS, ?_⟩ | refine ⟨_, zF, ?_⟩ | refine ⟨_, cr, ?_⟩ | refine ⟨_, zr, ?_⟩ | refine ⟨_, zT, ?_⟩ | refine ⟨_, cK, ?_⟩ | refine ⟨_, zK, ?_⟩ | refine ⟨nS, ?_⟩ | refine ⟨nF, ?_⟩ | refine ⟨nr, ?_⟩ | refine ⟨nT, ?_⟩ | refine ⟨nK, ?_⟩ | ((with_reducible refine isN_EE5 25 ?_); first | refine ⟨_, f0 _, ?_⟩) | ((with_reducible refine isN_EE5 52 ?_); first | refine ⟨_, f1 _, ?_⟩) | ((with_reducible refine isN_EE5 32 ?_); first | refine ⟨_, f2 _, ?_⟩ | refine ⟨_, f8 _, ?_⟩) | ((with_reducible refine isN_EE5 57 ?_); first | refine ⟨_, f3 _, ?_⟩ | refine ⟨_, f9 _, ?_⟩) | ((with_reducible refine isN_EE5 53 ?_); first | refine ⟨_, f4, ?_⟩) | ((with_reducible refine isN_EE5 48 ?_); first | refine ⟨_, f6, ?_⟩) | ((with_reducible refine isN_EE5 42 ?_); first | refine ⟨_, f7, ?_⟩) | ((with_reducible refine isN_EE5 58 ?_); first | refine ⟨_, g1, ?_⟩) | refine ⟨_, rfl, ?_⟩ | refine ⟨by decide, ?_⟩ | refine ⟨rfl, ?_⟩ | refine ⟨fun h => absurd h (by decide), fun _ => ?_⟩ | refine ⟨apart_uv _ _ _, ?_⟩ | refine ⟨_, resSlot_own rfl (by omega) (by first | exact .inl rfl | exact .inr ⟨rfl, rfl⟩), ?_⟩); conv => whnf))
  rw [tE]
  rfl
def rsignR (n : Nat) (s g : List Int) : LRes := if n = 32 then .many [.own 1 64 5 (.flat .u8 (sigL s g)), .val (iv .i64 0)] else .many [.val nilV, .val (iv .i64 1)]
set_option maxRecDepth 100000 in
set_option maxHeartbeats 8000000 in
theorem rSign_call {n m : Nat} {c cm : Option Nat} {s g : List Int} (hs : s.length = n) (hb : By s) (hg : g.length = m) (hgb : By g) (hm : m ≤ 100000) : CallOk Tryz.prog 27 [.im 1 n c (.flat .u8 s), .im 1 m cm (.flat .u8 g)] (rsignR n s g) := by
  unfold rsignR
  have f0 := fun (c : Option Nat) => e5_Public (c := c) hs hb
  unfold rpubR at f0
  by_cases h : n = 32
  · subst h
    rw [if_pos rfl]
    simp only [if_true] at f0
    have f7 := e4_Write (timN_lt dN (rNum s g) (rdP baseN) 256)
    rw [tmulB (show rNum s g < 2 ^ 256 from modq_lt _)] at f7
    have l1 : (secP s ++ g).length = 32 + m := by rw [List.length_append, secP_len, hg]
    have l2 : (fstL s g ++ pubL s ++ g).length = 32 + 32 + m := by rw [List.length_append, List.length_append, fstL_len, pubL_len, hg]
    exact execF_ok follows_ok EE5_ok Tryz.func27 (rSign_gen m c cm s g _ _ _ (fstL s g) (secP s) _ _ _ _ (sndL s g) (pubL s) hm hg (secP_len s) (byk_len _ _) (pubL_len s) (fstL_len s g) (byk_len _ _) (sndL_len s g) (byk_len _ _) (sh_len _) (sh_len _)
      f0 (fun c => e4_secret (c := c) hs hb (by decide)) (fun c => e4_Sha (c := c) l1 ((secP_by s).append hgb) (by omega)) (fun c => e4_Wide (c := c) (sh_len _) (sh_by _) (by decide)) e4_BaseP (e4_Times (modq_lt _) (rdP_lt _)) f7
      (fun c => e4_Sha (c := c) l2 (((byk_by _ _).append (byk_by _ _)).append hgb) (by omega)) (fun c => e4_Wide (c := c) (sh_len _) (sh_by _) (by decide)) (e4_MulAdd (modq_lt _) (secN_lt s) (modq_lt _)))
  · rw [if_neg h]
    simp only [if_neg h] at f0
    refine execF_ok follows_ok EE5_ok Tryz.func27 ?_
    ((conv => whnf); repeat ((first | ((with_reducible refine isN_EE5 25 ?_); refine ⟨_, f0 _, ?_⟩) | refine ⟨_, rfl, ?_⟩ | refine ⟨rfl, ?_⟩ | refine ⟨fun _ => ?_, fun h => absurd h (by decide)⟩); conv => whnf))
    rfl
end Go.Proofs.YtdeigmjbcbjgeaaGreatDoor
/-
  Layer 10: the laws' table with signatures.
-/
namespace Go.Proofs.YtdeigmjbcbjgeaaGreatDoor
open Go.RowKit

theorem short_row (n : Nat) (c : Option Nat) (x : Cont) : CallOk Tryz.prog 21 [.im 1 n c x] (ret1 (.v (.bool (decide ((n : Int) ≤ 600))))) := execF_ok follows_ok EM_ok Tryz.func21 (short_exec n c x)
def orcL3 (f : Nat) (ds : List LV) : Option LRes :=
  match f with
  | 23 => match ds with
    | [.v (.int .i64 v), .v (.int .i64 n)] => if 0 < n ∧ n < 9223372036854775808 then some (ret1 (iv .i64 (v % n))) else none
    | _ => none
  | 18 => match ds with
    | [] => some (ret1 (.v (.bool true)))
    | _ => none
  | 22 => match ds with
    | [.v (.int .i64 k)] => some (LRes.one (.own 1 32 5 (.flat .u8 (sdP k))))
    | _ => none
  | 21 => match ds with
    | [.im 1 n _ _] => some (ret1 (.v (.bool (decide ((n : Int) ≤ 600)))))
    | _ => none
  | 24 => match ds with
    | [.im 1 n _ (.flat .u8 s)] => if s.length = n ∧ byteOk s = true then some (ePubR n s) else none
    | _ => none
  | 26 => match ds with
    | [.im 1 n _ (.flat .u8 s), .im 1 m _ (.flat .u8 g)] => if (s.length = n ∧ byteOk s = true) ∧ g.length = m ∧ byteOk g = true ∧ m ≤ 100000 then some (signR n s g) else none
    | _ => none
  | 27 => match ds with
    | [.im 1 n _ (.flat .u8 s), .im 1 m _ (.flat .u8 g)] => if (s.length = n ∧ byteOk s = true) ∧ g.length = m ∧ byteOk g = true ∧ m ≤ 100000 then some (rsignR n s g) else none
    | _ => none
  | _ => orcE5 f ds
theorem orcL3_ok : Known Tryz.prog orcL3 := by
  intro f ds r h
  unfold orcL3 at h
  split at h
  · split at h
    · split at h
      · rename_i hc
        cases h
        exact .inl ⟨⟨_, Tryz.func23, name_ne _ (by kernel_rfl), rfl⟩, mod_call _ _ hc.1 hc.2⟩
      · cases h
    · cases h
  · split at h
    · cases h
      exact .inl ⟨⟨_, Tryz.func18, name_ne _ (by kernel_rfl), rfl⟩, awake10_call⟩
    · cases h
  · split at h
    · cases h
      exact .inl ⟨⟨_, Tryz.func22, name_ne _ (by kernel_rfl), rfl⟩, seed_call _⟩
    · cases h
  · split at h
    · cases h
      exact .inl ⟨⟨_, Tryz.func21, name_ne _ (by kernel_rfl), rfl⟩, short_row _ _ _⟩
    · cases h
  · split at h
    · split at h
      · rename_i hc
        cases h
        exact .inl ⟨⟨_, Tryz.func24, name_ne _ (by kernel_rfl), rfl⟩, Public_call hc.1 (byteAll hc.2)⟩
      · cases h
    · cases h
  · split at h
    · split at h
      · rename_i hc
        cases h
        exact .inl ⟨⟨_, Tryz.func26, name_ne _ (by kernel_rfl), rfl⟩, Sign_call hc.1.1 (byteAll hc.1.2) hc.2.1 (byteAll hc.2.2.1) hc.2.2.2⟩
      · cases h
    · cases h
  · split at h
    · split at h
      · rename_i hc
        cases h
        exact .inl ⟨⟨_, Tryz.func27, name_ne _ (by kernel_rfl), rfl⟩, rSign_call hc.1.1 (byteAll hc.1.2) hc.2.1 (byteAll hc.2.2.1) hc.2.2.2⟩
      · cases h
    · cases h
  · exact orcE5_ok f ds r h
def LP3 : Env := ⟨tyL, orcL3, false, noWk, noOrw⟩
theorem LP3_ok : EnvOk Tryz.prog LP3 := ⟨tyL_ok, orcL3_ok, noOrw_ok⟩
theorem isN_LP3 (f : Nat) {ds : List LV} {K : LRes → Prop} (h : ∃ y, LP3.orc f ds = some y ∧ K y) : ∃ y, LP3.orc f ds = some y ∧ K y := h
theorem l3_awake : LP3.orc 18 [] = some (ret1 (.v (.bool true))) := rfl
theorem l3_Seed (k : Int) : LP3.orc 22 [iv .i64 k] = some (.one (.own 1 32 5 (.flat .u8 (sdP k)))) := rfl
theorem l3_Short {n : Nat} {c : Option Nat} {x : Cont} {b : Bool} (h : decide ((n : Int) ≤ 600) = b) : LP3.orc 21 [.im 1 n c x] = some (ret1 (.v (.bool b))) := by
  rw [← h]
  rfl
theorem l3_Mod (v n : Int) (h : 0 < n ∧ n < 9223372036854775808) : LP3.orc 23 [iv .i64 v, iv .i64 n] = some (ret1 (iv .i64 (v % n))) := if_pos h
theorem l3_Public {n : Nat} {c : Option Nat} {s : List Int} (h : s.length = n) (hb : By s) : LP3.orc 24 [.im 1 n c (.flat .u8 s)] = some (ePubR n s) := if_pos ⟨h, hb.ok⟩
theorem l3_rPublic {n : Nat} {c : Option Nat} {s : List Int} (h : s.length = n) (hb : By s) : LP3.orc 25 [.im 1 n c (.flat .u8 s)] = some (rpubR n s) := if_pos ⟨h, hb.ok⟩
theorem l3_Sign {n m : Nat} {c d : Option Nat} {s g : List Int} (h : s.length = n) (hb : By s) (hg : g.length = m) (hgb : By g) (hm : m ≤ 100000) : LP3.orc 26 [.im 1 n c (.flat .u8 s), .im 1 m d (.flat .u8 g)] = some (signR n s g) := if_pos ⟨⟨h, hb.ok⟩, hg, hgb.ok, hm⟩
theorem l3_rSign {n m : Nat} {c d : Option Nat} {s g : List Int} (h : s.length = n) (hb : By s) (hg : g.length = m) (hgb : By g) (hm : m ≤ 100000) : LP3.orc 27 [.im 1 n c (.flat .u8 s), .im 1 m d (.flat .u8 g)] = some (rsignR n s g) := if_pos ⟨⟨h, hb.ok⟩, hg, hgb.ok, hm⟩
theorem leq_self (l : List Int) : (l == l) = true := by simp
theorem ieq_self (l : Int) : (l == l) = true := by simp
theorem convN {β : Nat → Option Blk} {b e n : Nat} {sp : Bool} {c : Option Nat} {r : List Int} (hb : β b = some ⟨.flat .u8 r, e, sp⟩) (hl : r.length = n) (hr : By r) : convV LP3 β 33 9 (.sl 1 b 0 n c) = some (.str r) := by
  rw [conv_own (l := r) rfl rfl rfl rfl hb rfl (by omega) hr, List.drop_zero, List.take_of_length_le (by omega)]
theorem seql10 {a : List Int} (h : By a) : binV .eql (.str a) (.str a) = some (.v (.bool true)) := by
  rw [str_eql h h]; simp
theorem conv_nil10 {β : Nat → Option Blk} : convV LP3 β 33 9 nilV = some (.str []) := rfl
theorem pubL_by (s : List Int) : By (pubL s) := byk_by _ _
theorem sigL_by (s g : List Int) : By (sigL s g) := (byk_by _ _).append (byk_by _ _)
end Go.Proofs.YtdeigmjbcbjgeaaGreatDoor
/-
  Layer 10: EdwardsSigns.
-/
namespace Go.Proofs.YtdeigmjbcbjgeaaGreatDoor
open Go.RowKit

set_option maxRecDepth 100000 in
set_option maxHeartbeats 8000000 in
theorem signs_own_ok' (n : Int) (N m : Nat) (d : Int) (sd g S A V : List Int) (hd : d ≠ 0) (lS : S.length = 32) (lA : A.length = 32) (lV : V.length = 64) (hA : By A) (hV : By V) (f0 : LP3.orc 21 [.im 1 m none (.flat .u8 g)] = some (ret1 (.v (.bool true)))) (fs : LP3.orc 22 [iv .i64 n] = some (.one (.own 1 32 5 (.flat .u8 S)))) (fm : LP3.orc 23 [iv .i64 n, iv .i64 5] = some (ret1 (iv .i64 d)))
    (f1 : ∀ c, LP3.orc 24 [.im 1 32 c (.flat .u8 S)] = some (.many [.own 1 32 23 (.flat .u8 A), .val (iv .i64 0)])) (f2 : ∀ c, LP3.orc 25 [.im 1 32 c (.flat .u8 S)] = some (.many [.own 1 32 5 (.flat .u8 A), .val (iv .i64 0)]))
    (f3 : ∀ c, LP3.orc 26 [.im 1 32 c (.flat .u8 S), .im 1 m none (.flat .u8 g)] = some (.many [.own 1 64 5 (.flat .u8 V), .val (iv .i64 0)])) (f4 : ∀ c, LP3.orc 27 [.im 1 32 c (.flat .u8 S), .im 1 m none (.flat .u8 g)] = some (.many [.own 1 64 5 (.flat .u8 V), .val (iv .i64 0)])) :
    execF LP3 Tryz.f5 [.im 1 N none (.flat .u8 sd), .im 1 m none (.flat .u8 g), iv .i64 n] (ret1 (.v (.bool true))) := by
  have dS : (Cont.flat .u8 S).cut 0 (32 * 1) = some (.flat .u8 S) := cut_all lS
  have q : (d == 0) = false := by simpa using hd
  have dA : (Cont.flat .u8 A).cut 0 (32 * 1) = some (.flat .u8 A) := cut_all lA
  have dV : (Cont.flat .u8 V).cut 0 (64 * 1) = some (.flat .u8 V) := cut_all lV
  ((conv => whnf); repeat ((first | refine ⟨fun _ => ?_, fun h => absurd ((q).symm.trans h) (by decide)⟩ | refine ⟨fun h => absurd ((q).symm.trans h) (by decide), fun _ => ?_⟩ | refine ⟨_, expo_sl rfl dS, ?_⟩ | refine ⟨_, convN rfl lA hA, ?_⟩ | refine ⟨_, convN rfl lV hV, ?_⟩ | refine ⟨_, seql10 hA, ?_⟩ | refine ⟨_, seql10 hV, ?_⟩ | refine ⟨fun _ => ?_, fun h => absurd ((ieq_self _).symm.trans h) (by decide)⟩ | refine ⟨fun h => absurd ((ieq_self _).symm.trans h) (by decide), fun _ => ?_⟩ | ((with_reducible refine isN_LP3 21 ?_); first | refine ⟨_, f0, ?_⟩) | ((with_reducible refine isN_LP3 22 ?_); first | refine ⟨_, fs, ?_⟩) | ((with_reducible refine isN_LP3 23 ?_); first | refine ⟨_, fm, ?_⟩) | ((with_reducible refine isN_LP3 24 ?_); first | refine ⟨_, f1 _, ?_⟩) | ((with_reducible refine isN_LP3 25 ?_); first | refine ⟨_, f2 _, ?_⟩) | ((with_reducible refine isN_LP3 26 ?_); first | refine ⟨_, f3 _ _, ?_⟩ | refine ⟨_, f3 _, ?_⟩) | ((with_reducible refine isN_LP3 27 ?_); first | refine ⟨_, f4 _ _, ?_⟩ | refine ⟨_, f4 _, ?_⟩) | ((with_reducible refine isN_LP3 18 ?_); first | refine ⟨_, l3_awake, ?_⟩) | refine ⟨_, rfl, ?_⟩ | refine ⟨by decide, ?_⟩ | refine ⟨rfl, ?_⟩ | refine ⟨fun _ => ?_, fun h => absurd h (by decide)⟩ | refine ⟨fun h => absurd h (by decide), fun _ => ?_⟩); conv => whnf))
  rfl
set_option maxRecDepth 100000 in
set_option maxHeartbeats 8000000 in
theorem signs_in_ok (n : Int) (m : Nat) (sd g S A V : List Int) (lA : A.length = 32) (lV : V.length = 64) (hA : By A) (hV : By V) (f0 : LP3.orc 21 [.im 1 m none (.flat .u8 g)] = some (ret1 (.v (.bool true)))) (fs : LP3.orc 22 [iv .i64 n] = some (.one (.own 1 32 5 (.flat .u8 S)))) (fm : LP3.orc 23 [iv .i64 n, iv .i64 5] = some (ret1 (iv .i64 0)))
    (f1 : ∀ c, LP3.orc 24 [.im 1 32 c (.flat .u8 sd)] = some (.many [.own 1 32 23 (.flat .u8 A), .val (iv .i64 0)])) (f2 : ∀ c, LP3.orc 25 [.im 1 32 c (.flat .u8 sd)] = some (.many [.own 1 32 5 (.flat .u8 A), .val (iv .i64 0)]))
    (f3 : ∀ c, LP3.orc 26 [.im 1 32 c (.flat .u8 sd), .im 1 m none (.flat .u8 g)] = some (.many [.own 1 64 5 (.flat .u8 V), .val (iv .i64 0)])) (f4 : ∀ c, LP3.orc 27 [.im 1 32 c (.flat .u8 sd), .im 1 m none (.flat .u8 g)] = some (.many [.own 1 64 5 (.flat .u8 V), .val (iv .i64 0)])) :
    execF LP3 Tryz.f5 [.im 1 32 none (.flat .u8 sd), .im 1 m none (.flat .u8 g), iv .i64 n] (ret1 (.v (.bool true))) := by
  have dA : (Cont.flat .u8 A).cut 0 (32 * 1) = some (.flat .u8 A) := cut_all lA
  have dV : (Cont.flat .u8 V).cut 0 (64 * 1) = some (.flat .u8 V) := cut_all lV
  ((conv => whnf); repeat ((first | refine ⟨_, convN rfl lA hA, ?_⟩ | refine ⟨_, convN rfl lV hV, ?_⟩ | refine ⟨_, seql10 hA, ?_⟩ | refine ⟨_, seql10 hV, ?_⟩ | refine ⟨fun _ => ?_, fun h => absurd ((ieq_self _).symm.trans h) (by decide)⟩ | refine ⟨fun h => absurd ((ieq_self _).symm.trans h) (by decide), fun _ => ?_⟩ | ((with_reducible refine isN_LP3 21 ?_); first | refine ⟨_, f0, ?_⟩) | ((with_reducible refine isN_LP3 22 ?_); first | refine ⟨_, fs, ?_⟩) | ((with_reducible refine isN_LP3 23 ?_); first | refine ⟨_, fm, ?_⟩) | ((with_reducible refine isN_LP3 24 ?_); first | refine ⟨_, f1 _, ?_⟩) | ((with_reducible refine isN_LP3 25 ?_); first | refine ⟨_, f2 _, ?_⟩) | ((with_reducible refine isN_LP3 26 ?_); first | refine ⟨_, f3 _ _, ?_⟩ | refine ⟨_, f3 _, ?_⟩) | ((with_reducible refine isN_LP3 27 ?_); first | refine ⟨_, f4 _ _, ?_⟩ | refine ⟨_, f4 _, ?_⟩) | ((with_reducible refine isN_LP3 18 ?_); first | refine ⟨_, l3_awake, ?_⟩) | refine ⟨_, rfl, ?_⟩ | refine ⟨by decide, ?_⟩ | refine ⟨rfl, ?_⟩ | refine ⟨fun _ => ?_, fun h => absurd h (by decide)⟩ | refine ⟨fun h => absurd h (by decide), fun _ => ?_⟩); conv => whnf))
  rfl
set_option maxRecDepth 100000 in
set_option maxHeartbeats 8000000 in
theorem signs_in_no (n : Int) (N m : Nat) (sd g S : List Int) (f0 : LP3.orc 21 [.im 1 m none (.flat .u8 g)] = some (ret1 (.v (.bool true)))) (fs : LP3.orc 22 [iv .i64 n] = some (.one (.own 1 32 5 (.flat .u8 S)))) (fm : LP3.orc 23 [iv .i64 n, iv .i64 5] = some (ret1 (iv .i64 0)))
    (f1 : ∀ c, LP3.orc 24 [.im 1 N c (.flat .u8 sd)] = some (.many [.val nilV, .val (iv .i64 1)])) (f2 : ∀ c, LP3.orc 25 [.im 1 N c (.flat .u8 sd)] = some (.many [.val nilV, .val (iv .i64 1)]))
    (f3 : ∀ c, LP3.orc 26 [.im 1 N c (.flat .u8 sd), .im 1 m none (.flat .u8 g)] = some (.many [.val nilV, .val (iv .i64 1)])) (f4 : ∀ c, LP3.orc 27 [.im 1 N c (.flat .u8 sd), .im 1 m none (.flat .u8 g)] = some (.many [.val nilV, .val (iv .i64 1)])) :
    execF LP3 Tryz.f5 [.im 1 N none (.flat .u8 sd), .im 1 m none (.flat .u8 g), iv .i64 n] (ret1 (.v (.bool true))) := by
  ((conv => whnf); repeat ((first | refine ⟨_, conv_nil10, ?_⟩ | refine ⟨fun _ => ?_, fun h => absurd ((ieq_self _).symm.trans h) (by decide)⟩ | refine ⟨fun h => absurd ((ieq_self _).symm.trans h) (by decide), fun _ => ?_⟩ | refine ⟨fun _ => ?_, fun h => absurd ((leq_self _).symm.trans h) (by decide)⟩ | refine ⟨fun h => absurd ((leq_self _).symm.trans h) (by decide), fun _ => ?_⟩ | ((with_reducible refine isN_LP3 21 ?_); first | refine ⟨_, f0, ?_⟩) | ((with_reducible refine isN_LP3 22 ?_); first | refine ⟨_, fs, ?_⟩) | ((with_reducible refine isN_LP3 23 ?_); first | refine ⟨_, fm, ?_⟩) | ((with_reducible refine isN_LP3 24 ?_); first | refine ⟨_, f1 _, ?_⟩) | ((with_reducible refine isN_LP3 25 ?_); first | refine ⟨_, f2 _, ?_⟩) | ((with_reducible refine isN_LP3 26 ?_); first | refine ⟨_, f3 _ _, ?_⟩ | refine ⟨_, f3 _, ?_⟩) | ((with_reducible refine isN_LP3 27 ?_); first | refine ⟨_, f4 _ _, ?_⟩ | refine ⟨_, f4 _, ?_⟩) | ((with_reducible refine isN_LP3 18 ?_); first | refine ⟨_, l3_awake, ?_⟩) | refine ⟨_, rfl, ?_⟩ | refine ⟨by decide, ?_⟩ | refine ⟨rfl, ?_⟩ | refine ⟨fun h => absurd h (by decide), fun _ => ?_⟩); conv => whnf))
  rfl
set_option maxRecDepth 100000 in
set_option maxHeartbeats 8000000 in
theorem signs_long (n : Int) (N m : Nat) (sd g : List Int) (f0 : LP3.orc 21 [.im 1 m none (.flat .u8 g)] = some (ret1 (.v (.bool false)))) : execF LP3 Tryz.f5 [.im 1 N none (.flat .u8 sd), .im 1 m none (.flat .u8 g), iv .i64 n] (ret1 (.v (.bool true))) := by
  ((conv => whnf); repeat ((first | ((with_reducible refine isN_LP3 21 ?_); first | refine ⟨_, f0, ?_⟩) | ((with_reducible refine isN_LP3 18 ?_); first | refine ⟨_, l3_awake, ?_⟩) | refine ⟨_, rfl, ?_⟩ | refine ⟨by decide, ?_⟩ | refine ⟨rfl, ?_⟩ | refine ⟨fun _ => ?_, fun h => absurd h (by decide)⟩); conv => whnf))
  rfl
theorem no32R {n : Nat} (s : List Int) (h : n ≠ 32) : ePubR n s = .many [.val nilV, .val (iv .i64 1)] ∧ rpubR n s = .many [.val nilV, .val (iv .i64 1)] ∧ ∀ g, signR n s g = .many [.val nilV, .val (iv .i64 1)] ∧ rsignR n s g = .many [.val nilV, .val (iv .i64 1)] :=
  ⟨if_neg h, if_neg h, fun _ => ⟨if_neg h, if_neg h⟩⟩
theorem signs_exec (sd g : List Int) (n : Int) (hs : By sd) (hg : By g) : execF LP3 Tryz.f5 [.im 1 sd.length none (.flat .u8 sd), .im 1 g.length none (.flat .u8 g), iv .i64 n] (ret1 (.v (.bool true))) := by
  by_cases hm : (g.length : Int) ≤ 600
  · have f0 := l3_Short (c := none) (x := .flat .u8 g) (decide_eq_true hm)
    have fs := l3_Seed n
    have fm := l3_Mod n 5 (by decide)
    have hm' : g.length ≤ 100000 := by omega
    by_cases hd : n % 5 = 0
    · rw [hd] at fm
      have f1 := fun (c : Option Nat) => l3_Public (c := c) (s := sd) rfl hs
      have f2 := fun (c : Option Nat) => l3_rPublic (c := c) (s := sd) rfl hs
      have f3 := fun (c : Option Nat) => l3_Sign (c := c) (d := none) (s := sd) (g := g) rfl hs rfl hg hm'
      have f4 := fun (c : Option Nat) => l3_rSign (c := c) (d := none) (s := sd) (g := g) rfl hs rfl hg hm'
      by_cases h32 : sd.length = 32
      · rw [h32] at f1 f2 f3 f4 ⊢
        exact signs_in_ok n _ sd g _ (pubL sd) (sigL sd g) (pubL_len _) (sigL_len _ _) (pubL_by _) (sigL_by _ _) f0 fs fm f1 f2 f3 f4
      · obtain ⟨e1, e2, e3⟩ := no32R sd h32
        rw [e1] at f1
        rw [e2] at f2
        rw [(e3 g).1] at f3
        rw [(e3 g).2] at f4
        exact signs_in_no n _ _ sd g _ f0 fs fm f1 f2 f3 f4
    · have ls := sdP_len n
      have bs := sdP_by n
      have f1 := fun (c : Option Nat) => l3_Public (c := c) ls bs
      have f2 := fun (c : Option Nat) => l3_rPublic (c := c) ls bs
      have f3 := fun (c : Option Nat) => l3_Sign (c := c) (d := none) (g := g) ls bs rfl hg hm'
      have f4 := fun (c : Option Nat) => l3_rSign (c := c) (d := none) (g := g) ls bs rfl hg hm'
      exact signs_own_ok' n _ _ _ sd g _ (pubL _) (sigL _ g) hd ls (pubL_len _) (sigL_len _ _) (pubL_by _) (sigL_by _ _) f0 fs fm f1 f2 f3 f4
  · exact signs_long n _ _ sd g (l3_Short (decide_eq_false hm))
end Go.Proofs.YtdeigmjbcbjgeaaGreatDoor
