import Derived.Test.YtdeigmjbcbjgeaaGreatDoorYcEN
import Derived.Test.YtdeigmjbcbjgeaaGreatDoorYcEQ
import Derived.Test.YtdeigmjbcbjgeaaGreatDoorYcSpo
namespace Go.Proofs.YtdeigmjbcbjgeaaGreatDoor
open Go.RowKit
noncomputable section
theorem shortV_row (n : Nat) (c : Option Nat) (x : Cont) : CallOk Tryz.prog 21 [.im 1 n c x] (ret1 (.v (.bool (decide ((n : Int) ≤ 600))))) := execF_ok follows_ok EM_ok Tryz.func21 (short_exec n c x)
def orcL4 (f : Nat) (ds : List LV) : Option LRes :=
 match f with
 | 22 => match ds with
  | [.v (.int .i64 k)] => some (LRes.one (.own 1 32 5 (.flat .u8 (sdP k))))
  | _ => none
 | 21 => match ds with
  | [.im 1 n _ _] => some (ret1 (.v (.bool (decide ((n : Int) ≤ 600)))))
  | _ => none
 | 28 => match ds with
  | [.im 1 n _ (.flat .u8 b), .v (.int .i64 i), .v (.int .i64 y)] => if b.length = n ∧ byteOk b = true ∧ n ≤ 100000 then some (LRes.one (.own 1 (spoP b i y).length 5 (.flat .u8 (spoP b i y)))) else none
  | _ => none
 | 25 => match ds with
  | [.im 1 n _ (.flat .u8 s)] => if s.length = n ∧ byteOk s = true then some (rpubR n s) else none
  | _ => none
 | 27 => match ds with
  | [.im 1 n _ (.flat .u8 s), .im 1 m _ (.flat .u8 g)] => if (s.length = n ∧ byteOk s = true) ∧ g.length = m ∧ byteOk g = true ∧ m ≤ 100000 then some (rsignR n s g) else none
  | _ => none
 | 29 => match ds with
  | [.im 1 n _ (.flat .u8 P), .im 1 m _ (.flat .u8 g), .im 1 k _ (.flat .u8 G)] => if (P.length = n ∧ byteOk P = true) ∧ (g.length = m ∧ byteOk g = true ∧ m ≤ 100000) ∧ G.length = k ∧ byteOk G = true then some (ret1 (.v (.bool (verF n k P g G)))) else none
  | _ => none
 | 30 => match ds with
  | [.im 1 n _ (.flat .u8 P), .im 1 m _ (.flat .u8 g), .im 1 k _ (.flat .u8 G)] => if (P.length = n ∧ byteOk P = true) ∧ (g.length = m ∧ byteOk g = true ∧ m ≤ 100000) ∧ G.length = k ∧ byteOk G = true then some (ret1 (.v (.bool (verF n k P g G)))) else none
  | _ => none
 | _ => orcL2 f ds
theorem orcL4_ok : Known Tryz.prog orcL4 := by
 intro f ds r h
 unfold orcL4 at h
 split at h
 ·split at h
  ·cases h
   exact .inl ⟨⟨_, Tryz.func22, name_ne _ (by kernel_rfl), rfl⟩, seed_call _⟩
  ·cases h
 ·split at h
  ·cases h
   exact .inl ⟨⟨_, Tryz.func21, name_ne _ (by kernel_rfl), rfl⟩, shortV_row _ _ _⟩
  ·cases h
 ·split at h
  ·split at h
   ·rename_i hc
    cases h
    exact .inl ⟨⟨_, Tryz.func28, name_ne _ (by kernel_rfl), rfl⟩, spoilt_call _ _ _ _ _ hc.1 (byteAll hc.2.1) hc.2.2⟩
   ·cases h
  ·cases h
 ·split at h
  ·split at h
   ·rename_i hc
    cases h
    exact .inl ⟨⟨_, Tryz.func25, name_ne _ (by kernel_rfl), rfl⟩, r10Public_call hc.1 (byteAll hc.2)⟩
   ·cases h
  ·cases h
 ·split at h
  ·split at h
   ·rename_i hc
    cases h
    exact .inl ⟨⟨_, Tryz.func27, name_ne _ (by kernel_rfl), rfl⟩, rSign_call hc.1.1 (byteAll hc.1.2) hc.2.1 (byteAll hc.2.2.1) hc.2.2.2⟩
   ·cases h
  ·cases h
 ·split at h
  ·split at h
   ·rename_i hc
    cases h
    exact .inl ⟨⟨_, Tryz.func29, name_ne _ (by kernel_rfl), rfl⟩, Verify_call hc.1.1 (byteAll hc.1.2) hc.2.1.1 (byteAll hc.2.1.2.1) hc.2.1.2.2 hc.2.2.1 (byteAll hc.2.2.2)⟩
   ·cases h
  ·cases h
 ·split at h
  ·split at h
   ·rename_i hc
    cases h
    exact .inl ⟨⟨_, Tryz.func30, name_ne _ (by kernel_rfl), rfl⟩, rVerify_call hc.1.1 (byteAll hc.1.2) hc.2.1.1 (byteAll hc.2.1.2.1) hc.2.1.2.2 hc.2.2.1 (byteAll hc.2.2.2)⟩
   ·cases h
  ·cases h
 ·exact orcL2_ok f ds r h
def LP4 : Env := ⟨tyL, orcL4, false, noWk, noOrw⟩
theorem LP4_ok : EnvOk Tryz.prog LP4 := ⟨tyL_ok, orcL4_ok, noOrw_ok⟩
theorem isN_LP4 (f : Nat) {ds : List LV} {K : LRes → Prop} (h : ∃ y, LP4.orc f ds = some y ∧ K y) : ∃ y, LP4.orc f ds = some y ∧ K y := h
theorem l4_awake : LP4.orc 18 [] = some (ret1 (.v (.bool true))) := rfl
theorem l4_Seed (k : Int) : LP4.orc 22 [iv .i64 k] = some (.one (.own 1 32 5 (.flat .u8 (sdP k)))) := rfl
theorem l4_Short {n : Nat} {c : Option Nat} {x : Cont} {b : Bool} (h : decide ((n : Int) ≤ 600) = b) : LP4.orc 21 [.im 1 n c x] = some (ret1 (.v (.bool b))) := by
 rw [← h]
 rfl
theorem l4_Mod (v n : Int) (h : 0 < n ∧ n < 9223372036854775808) : LP4.orc 23 [iv .i64 v, iv .i64 n] = some (ret1 (iv .i64 (v % n))) := if_pos h
theorem l4_Spo {n : Nat} {c : Option Nat} {b : List Int} (i y : Int) (h1 : b.length = n) (h2 : By b) (h3 : n ≤ 100000) : LP4.orc 28 [.im 1 n c (.flat .u8 b), iv .i64 i, iv .i64 y] = some (LRes.one (.own 1 (spoP b i y).length 5 (.flat .u8 (spoP b i y)))) := if_pos ⟨h1, h2.ok, h3⟩
theorem l4_point {a : List Int} (n : Int) (h : isF a = true) : LP4.orc 9 [.agg (.flat .u8 a), iv .i64 n] = some (ret1 (F (ptN (nb a) n))) := if_pos h
theorem l4_rPublic {n : Nat} {c : Option Nat} {s : List Int} (h : s.length = n) (hb : By s) : LP4.orc 25 [.im 1 n c (.flat .u8 s)] = some (rpubR n s) := if_pos ⟨h, hb.ok⟩
theorem l4_rSign {n m : Nat} {c d : Option Nat} {s g : List Int} (h : s.length = n) (hb : By s) (hg : g.length = m) (hgb : By g) (hm : m ≤ 100000) : LP4.orc 27 [.im 1 n c (.flat .u8 s), .im 1 m d (.flat .u8 g)] = some (rsignR n s g) := if_pos ⟨⟨h, hb.ok⟩, hg, hgb.ok, hm⟩
theorem l4_Ver {n m k : Nat} {cp cm cs : Option Nat} {P g G : List Int} (hP : P.length = n) (hPb : By P) (hg : g.length = m) (hgb : By g) (hm : m ≤ 100000) (hG : G.length = k) (hGb : By G) : LP4.orc 29 [.im 1 n cp (.flat .u8 P), .im 1 m cm (.flat .u8 g), .im 1 k cs (.flat .u8 G)] = some (ret1 (.v (.bool (verF n k P g G)))) := if_pos ⟨⟨hP, hPb.ok⟩, ⟨hg, hgb.ok, hm⟩, hG, hGb.ok⟩
theorem l4_rVer {n m k : Nat} {cp cm cs : Option Nat} {P g G : List Int} (hP : P.length = n) (hPb : By P) (hg : g.length = m) (hgb : By g) (hm : m ≤ 100000) (hG : G.length = k) (hGb : By G) : LP4.orc 30 [.im 1 n cp (.flat .u8 P), .im 1 m cm (.flat .u8 g), .im 1 k cs (.flat .u8 G)] = some (ret1 (.v (.bool (verF n k P g G)))) := if_pos ⟨⟨hP, hPb.ok⟩, ⟨hg, hgb.ok, hm⟩, hG, hGb.ok⟩
theorem spoP_len (b : List Int) (i y : Int) : (spoP b i y).length ≤ b.length + 1 := by
 unfold spoP
 split
 ·rw [List.length_singleton]; omega
 split
 ·rw [List.length_set]; omega
 split
 ·rw [List.length_append, List.length_take, List.length_drop]; omega
 split
 ·rw [List.length_append, List.length_append, List.length_take, List.length_drop, List.length_singleton]; omega
 ·rw [List.length_take]; omega
theorem pubV_by (s : List Int) : By (pubL s) := byk_by _ _
theorem sigV_by (s g : List Int) : By (sigL s g) := (byk_by _ _).append (byk_by _ _)
set_option maxRecDepth 100000 in
set_option maxHeartbeats 8000000 in
theorem verifies_0 (N m K : Nat) (pub g sg : List Int) (n wh i y : Int) (S A V X : List Int) (NX : Nat) (lX : X.length = NX) (v : Bool) (lS : S.length = 32) (lA : A.length = 32) (lV : V.length = 64)
  (f0 : LP4.orc 21 [.im 1 m none (.flat .u8 g)] = some (ret1 (.v (.bool true)))) (f1 : LP4.orc 21 [.im 1 K none (.flat .u8 sg)] = some (ret1 (.v (.bool true)))) (fs : LP4.orc 22 [iv .i64 n] = some (.one (.own 1 32 5 (.flat .u8 S))))
  (fp : ∀ c, LP4.orc 25 [.im 1 32 c (.flat .u8 S)] = some (.many [.own 1 32 5 (.flat .u8 A), .val (iv .i64 0)])) (fg : ∀ c, LP4.orc 27 [.im 1 32 c (.flat .u8 S), .im 1 m none (.flat .u8 g)] = some (.many [.own 1 64 5 (.flat .u8 V), .val (iv .i64 0)]))
  (fm : LP4.orc 23 [iv .i64 wh, iv .i64 6] = some (ret1 (iv .i64 0))) (fx : ∀ c, LP4.orc 28 [.im 1 64 c (.flat .u8 V), iv .i64 i, iv .i64 y] = some (.one (.own 1 NX 5 (.flat .u8 X)))) (fv : ∀ cp cs, LP4.orc 29 [.im 1 32 cp (.flat .u8 A), .im 1 m none (.flat .u8 g), .im 1 NX cs (.flat .u8 X)] = some (ret1 (.v (.bool v)))) (fw : ∀ cp cs, LP4.orc 30 [.im 1 32 cp (.flat .u8 A), .im 1 m none (.flat .u8 g), .im 1 NX cs (.flat .u8 X)] = some (ret1 (.v (.bool v)))) :
  execF LP4 Tryz.f6 [.im 1 N none (.flat .u8 pub), .im 1 m none (.flat .u8 g), .im 1 K none (.flat .u8 sg), iv .i64 n, iv .i64 wh, iv .i64 i, iv .i64 y] (ret1 (.v (.bool true))) := by
 have dS : (Cont.flat .u8 S).cut 0 (32 * 1) = some (.flat .u8 S) := cut_all (by omega)
 have dA : (Cont.flat .u8 A).cut 0 (32 * 1) = some (.flat .u8 A) := cut_all (by omega)
 have dV : (Cont.flat .u8 V).cut 0 (64 * 1) = some (.flat .u8 V) := cut_all (by omega)
 have dX : (Cont.flat .u8 X).cut 0 (NX * 1) = some (.flat .u8 X) := cut_all (by omega)
 ((conv => whnf); repeat ((first | refine ⟨_, expo_sl rfl dS, ?_⟩ | refine ⟨_, expo_sl rfl dA, ?_⟩ | refine ⟨_, expo_sl rfl dV, ?_⟩ | refine ⟨_, expo_sl rfl dX, ?_⟩ | refine ⟨fun _ => ?_, fun h => absurd ((beq_self10 _).symm.trans h) (by decide)⟩ | refine ⟨fun h => absurd ((beq_self10 _).symm.trans h) (by decide), fun _ => ?_⟩ | ((with_reducible refine isN_LP4 21 ?_); first | refine ⟨_, f0, ?_⟩ | refine ⟨_, f1, ?_⟩) | ((with_reducible refine isN_LP4 22 ?_); first | refine ⟨_, fs, ?_⟩) | ((with_reducible refine isN_LP4 25 ?_); first | refine ⟨_, fp _, ?_⟩) | ((with_reducible refine isN_LP4 27 ?_); first | refine ⟨_, fg _, ?_⟩) | ((with_reducible refine isN_LP4 23 ?_); first | refine ⟨_, fm, ?_⟩) | ((with_reducible refine isN_LP4 28 ?_); first | refine ⟨_, fx _, ?_⟩) | ((with_reducible refine isN_LP4 29 ?_); first | refine ⟨_, fv _ _, ?_⟩) | ((with_reducible refine isN_LP4 30 ?_); first | refine ⟨_, fw _ _, ?_⟩) | ((with_reducible refine isN_LP4 18 ?_); first | refine ⟨_, l4_awake, ?_⟩) | refine ⟨_, rfl, ?_⟩ | refine ⟨by decide, ?_⟩ | refine ⟨rfl, ?_⟩ | refine ⟨fun _ => ?_, fun h => absurd h (by decide)⟩ | refine ⟨fun h => absurd h (by decide), fun _ => ?_⟩); conv => whnf))
 rfl
set_option maxRecDepth 100000 in
set_option maxHeartbeats 8000000 in
theorem verifies_1 (N m K : Nat) (pub g sg : List Int) (n wh i y : Int) (S A V X : List Int) (NX : Nat) (lX : X.length = NX) (v : Bool) (lS : S.length = 32) (lA : A.length = 32) (lV : V.length = 64)
  (f0 : LP4.orc 21 [.im 1 m none (.flat .u8 g)] = some (ret1 (.v (.bool true)))) (f1 : LP4.orc 21 [.im 1 K none (.flat .u8 sg)] = some (ret1 (.v (.bool true)))) (fs : LP4.orc 22 [iv .i64 n] = some (.one (.own 1 32 5 (.flat .u8 S))))
  (fp : ∀ c, LP4.orc 25 [.im 1 32 c (.flat .u8 S)] = some (.many [.own 1 32 5 (.flat .u8 A), .val (iv .i64 0)])) (fg : ∀ c, LP4.orc 27 [.im 1 32 c (.flat .u8 S), .im 1 m none (.flat .u8 g)] = some (.many [.own 1 64 5 (.flat .u8 V), .val (iv .i64 0)]))
  (fm : LP4.orc 23 [iv .i64 wh, iv .i64 6] = some (ret1 (iv .i64 1))) (fx : ∀ c, LP4.orc 28 [.im 1 32 c (.flat .u8 A), iv .i64 i, iv .i64 y] = some (.one (.own 1 NX 5 (.flat .u8 X)))) (fv : ∀ cp cs, LP4.orc 29 [.im 1 NX cp (.flat .u8 X), .im 1 m none (.flat .u8 g), .im 1 64 cs (.flat .u8 V)] = some (ret1 (.v (.bool v)))) (fw : ∀ cp cs, LP4.orc 30 [.im 1 NX cp (.flat .u8 X), .im 1 m none (.flat .u8 g), .im 1 64 cs (.flat .u8 V)] = some (ret1 (.v (.bool v)))) :
  execF LP4 Tryz.f6 [.im 1 N none (.flat .u8 pub), .im 1 m none (.flat .u8 g), .im 1 K none (.flat .u8 sg), iv .i64 n, iv .i64 wh, iv .i64 i, iv .i64 y] (ret1 (.v (.bool true))) := by
 have dS : (Cont.flat .u8 S).cut 0 (32 * 1) = some (.flat .u8 S) := cut_all (by omega)
 have dA : (Cont.flat .u8 A).cut 0 (32 * 1) = some (.flat .u8 A) := cut_all (by omega)
 have dV : (Cont.flat .u8 V).cut 0 (64 * 1) = some (.flat .u8 V) := cut_all (by omega)
 have dX : (Cont.flat .u8 X).cut 0 (NX * 1) = some (.flat .u8 X) := cut_all (by omega)
 ((conv => whnf); repeat ((first | refine ⟨_, expo_sl rfl dS, ?_⟩ | refine ⟨_, expo_sl rfl dA, ?_⟩ | refine ⟨_, expo_sl rfl dV, ?_⟩ | refine ⟨_, expo_sl rfl dX, ?_⟩ | refine ⟨fun _ => ?_, fun h => absurd ((beq_self10 _).symm.trans h) (by decide)⟩ | refine ⟨fun h => absurd ((beq_self10 _).symm.trans h) (by decide), fun _ => ?_⟩ | ((with_reducible refine isN_LP4 21 ?_); first | refine ⟨_, f0, ?_⟩ | refine ⟨_, f1, ?_⟩) | ((with_reducible refine isN_LP4 22 ?_); first | refine ⟨_, fs, ?_⟩) | ((with_reducible refine isN_LP4 25 ?_); first | refine ⟨_, fp _, ?_⟩) | ((with_reducible refine isN_LP4 27 ?_); first | refine ⟨_, fg _, ?_⟩) | ((with_reducible refine isN_LP4 23 ?_); first | refine ⟨_, fm, ?_⟩) | ((with_reducible refine isN_LP4 28 ?_); first | refine ⟨_, fx _, ?_⟩) | ((with_reducible refine isN_LP4 29 ?_); first | refine ⟨_, fv _ _, ?_⟩) | ((with_reducible refine isN_LP4 30 ?_); first | refine ⟨_, fw _ _, ?_⟩) | ((with_reducible refine isN_LP4 18 ?_); first | refine ⟨_, l4_awake, ?_⟩) | refine ⟨_, rfl, ?_⟩ | refine ⟨by decide, ?_⟩ | refine ⟨rfl, ?_⟩ | refine ⟨fun _ => ?_, fun h => absurd h (by decide)⟩ | refine ⟨fun h => absurd h (by decide), fun _ => ?_⟩); conv => whnf))
 rfl
set_option maxRecDepth 100000 in
set_option maxHeartbeats 8000000 in
theorem verifies_2 (N m K : Nat) (pub g sg : List Int) (n wh i y : Int) (S A V X : List Int) (NX : Nat) (lX : X.length = NX) (v : Bool) (lS : S.length = 32) (lA : A.length = 32) (lV : V.length = 64)
  (f0 : LP4.orc 21 [.im 1 m none (.flat .u8 g)] = some (ret1 (.v (.bool true)))) (f1 : LP4.orc 21 [.im 1 K none (.flat .u8 sg)] = some (ret1 (.v (.bool true)))) (fs : LP4.orc 22 [iv .i64 n] = some (.one (.own 1 32 5 (.flat .u8 S))))
  (fp : ∀ c, LP4.orc 25 [.im 1 32 c (.flat .u8 S)] = some (.many [.own 1 32 5 (.flat .u8 A), .val (iv .i64 0)])) (fg : ∀ c, LP4.orc 27 [.im 1 32 c (.flat .u8 S), .im 1 m none (.flat .u8 g)] = some (.many [.own 1 64 5 (.flat .u8 V), .val (iv .i64 0)]))
  (fm : LP4.orc 23 [iv .i64 wh, iv .i64 6] = some (ret1 (iv .i64 2))) (fx : LP4.orc 28 [.im 1 m none (.flat .u8 g), iv .i64 i, iv .i64 y] = some (.one (.own 1 NX 5 (.flat .u8 X)))) (fv : ∀ cp cm cs, LP4.orc 29 [.im 1 32 cp (.flat .u8 A), .im 1 NX cm (.flat .u8 X), .im 1 64 cs (.flat .u8 V)] = some (ret1 (.v (.bool v)))) (fw : ∀ cp cm cs, LP4.orc 30 [.im 1 32 cp (.flat .u8 A), .im 1 NX cm (.flat .u8 X), .im 1 64 cs (.flat .u8 V)] = some (ret1 (.v (.bool v)))) :
  execF LP4 Tryz.f6 [.im 1 N none (.flat .u8 pub), .im 1 m none (.flat .u8 g), .im 1 K none (.flat .u8 sg), iv .i64 n, iv .i64 wh, iv .i64 i, iv .i64 y] (ret1 (.v (.bool true))) := by
 have dS : (Cont.flat .u8 S).cut 0 (32 * 1) = some (.flat .u8 S) := cut_all (by omega)
 have dA : (Cont.flat .u8 A).cut 0 (32 * 1) = some (.flat .u8 A) := cut_all (by omega)
 have dV : (Cont.flat .u8 V).cut 0 (64 * 1) = some (.flat .u8 V) := cut_all (by omega)
 have dX : (Cont.flat .u8 X).cut 0 (NX * 1) = some (.flat .u8 X) := cut_all (by omega)
 ((conv => whnf); repeat ((first | refine ⟨_, expo_sl rfl dS, ?_⟩ | refine ⟨_, expo_sl rfl dA, ?_⟩ | refine ⟨_, expo_sl rfl dV, ?_⟩ | refine ⟨_, expo_sl rfl dX, ?_⟩ | refine ⟨fun _ => ?_, fun h => absurd ((beq_self10 _).symm.trans h) (by decide)⟩ | refine ⟨fun h => absurd ((beq_self10 _).symm.trans h) (by decide), fun _ => ?_⟩ | ((with_reducible refine isN_LP4 21 ?_); first | refine ⟨_, f0, ?_⟩ | refine ⟨_, f1, ?_⟩) | ((with_reducible refine isN_LP4 22 ?_); first | refine ⟨_, fs, ?_⟩) | ((with_reducible refine isN_LP4 25 ?_); first | refine ⟨_, fp _, ?_⟩) | ((with_reducible refine isN_LP4 27 ?_); first | refine ⟨_, fg _, ?_⟩) | ((with_reducible refine isN_LP4 23 ?_); first | refine ⟨_, fm, ?_⟩) | ((with_reducible refine isN_LP4 28 ?_); first | refine ⟨_, fx, ?_⟩) | ((with_reducible refine isN_LP4 29 ?_); first | refine ⟨_, fv _ _ _, ?_⟩) | ((with_reducible refine isN_LP4 30 ?_); first | refine ⟨_, fw _ _ _, ?_⟩) | ((with_reducible refine isN_LP4 18 ?_); first | refine ⟨_, l4_awake, ?_⟩) | refine ⟨_, rfl, ?_⟩ | refine ⟨by decide, ?_⟩ | refine ⟨rfl, ?_⟩ | refine ⟨fun _ => ?_, fun h => absurd h (by decide)⟩ | refine ⟨fun h => absurd h (by decide), fun _ => ?_⟩); conv => whnf))
 rfl
set_option maxRecDepth 100000 in
set_option maxHeartbeats 8000000 in
theorem verifies_3 (N m K : Nat) (pub g sg : List Int) (n wh i y : Int) (S A V X : List Int) (lX : X.length = 32) (v : Bool) (lS : S.length = 32) (lA : A.length = 32) (lV : V.length = 64)
  (f0 : LP4.orc 21 [.im 1 m none (.flat .u8 g)] = some (ret1 (.v (.bool true)))) (f1 : LP4.orc 21 [.im 1 K none (.flat .u8 sg)] = some (ret1 (.v (.bool true)))) (fs : LP4.orc 22 [iv .i64 n] = some (.one (.own 1 32 5 (.flat .u8 S))))
  (fp : ∀ c, LP4.orc 25 [.im 1 32 c (.flat .u8 S)] = some (.many [.own 1 32 5 (.flat .u8 A), .val (iv .i64 0)])) (fg : ∀ c, LP4.orc 27 [.im 1 32 c (.flat .u8 S), .im 1 m none (.flat .u8 g)] = some (.many [.own 1 64 5 (.flat .u8 V), .val (iv .i64 0)]))
  (fm : LP4.orc 23 [iv .i64 wh, iv .i64 6] = some (ret1 (iv .i64 3))) (fx : LP4.orc 9 [.agg (.flat .u8 A), iv .i64 y] = some (ret1 (.agg (.flat .u8 X)))) (fv : ∀ cp cs, LP4.orc 29 [.im 1 32 cp (.flat .u8 X), .im 1 m none (.flat .u8 g), .im 1 64 cs (.flat .u8 V)] = some (ret1 (.v (.bool v)))) (fw : ∀ cp cs, LP4.orc 30 [.im 1 32 cp (.flat .u8 X), .im 1 m none (.flat .u8 g), .im 1 64 cs (.flat .u8 V)] = some (ret1 (.v (.bool v)))) :
  execF LP4 Tryz.f6 [.im 1 N none (.flat .u8 pub), .im 1 m none (.flat .u8 g), .im 1 K none (.flat .u8 sg), iv .i64 n, iv .i64 wh, iv .i64 i, iv .i64 y] (ret1 (.v (.bool true))) := by
 have dS : (Cont.flat .u8 S).cut 0 (32 * 1) = some (.flat .u8 S) := cut_all (by omega)
 have dA : (Cont.flat .u8 A).cut 0 (32 * 1) = some (.flat .u8 A) := cut_all (by omega)
 have dV : (Cont.flat .u8 V).cut 0 (64 * 1) = some (.flat .u8 V) := cut_all (by omega)
 have dX : (Cont.flat .u8 X).cut 0 (32 * 1) = some (.flat .u8 X) := cut_all (by omega)
 have cA : (Cont.flat .u8 A).cut 0 32 = some (.flat .u8 A) := cut_all lA
 have zA : layOne (.flat .u8 (List.replicate 32 0)) 0 (.flat .u8 A) = some (.flat .u8 A) := lay_all (by rw [List.length_replicate, lA]) (by omega)
 have nA : (Cont.flat .u8 A).len = 32 := lA
 have cX : (Cont.flat .u8 X).cut 0 32 = some (.flat .u8 X) := cut_all lX
 have zX : layOne (.flat .u8 (List.replicate 32 0)) 0 (.flat .u8 X) = some (.flat .u8 X) := lay_all (by rw [List.length_replicate, lX]) (by omega)
 have nX : (Cont.flat .u8 X).len = 32 := lX
 ((conv => whnf); repeat ((first | refine ⟨_, expo_sl rfl dS, ?_⟩ | refine ⟨_, expo_sl rfl dV, ?_⟩ | refine ⟨_, expo_sl rfl dX, ?_⟩ | refine ⟨_, dA, ?_⟩ | refine ⟨_, zX, ?_⟩ | refine ⟨nX, ?_⟩ | refine ⟨fun _ => ?_, fun h => absurd ((beq_self10 _).symm.trans h) (by decide)⟩ | refine ⟨fun h => absurd ((beq_self10 _).symm.trans h) (by decide), fun _ => ?_⟩ | ((with_reducible refine isN_LP4 21 ?_); first | refine ⟨_, f0, ?_⟩ | refine ⟨_, f1, ?_⟩) | ((with_reducible refine isN_LP4 22 ?_); first | refine ⟨_, fs, ?_⟩) | ((with_reducible refine isN_LP4 25 ?_); first | refine ⟨_, fp _, ?_⟩) | ((with_reducible refine isN_LP4 27 ?_); first | refine ⟨_, fg _, ?_⟩) | ((with_reducible refine isN_LP4 23 ?_); first | refine ⟨_, fm, ?_⟩) | ((with_reducible refine isN_LP4 9 ?_); first | refine ⟨_, fx, ?_⟩) | ((with_reducible refine isN_LP4 29 ?_); first | refine ⟨_, fv _ _, ?_⟩) | ((with_reducible refine isN_LP4 30 ?_); first | refine ⟨_, fw _ _, ?_⟩) | ((with_reducible refine isN_LP4 18 ?_); first | refine ⟨_, l4_awake, ?_⟩) | refine ⟨_, rfl, ?_⟩ | refine ⟨by decide, ?_⟩ | refine ⟨rfl, ?_⟩ | refine ⟨fun _ => ?_, fun h => absurd h (by decide)⟩ | refine ⟨fun h => absurd h (by decide), fun _ => ?_⟩); conv => whnf))
 rfl
set_option maxRecDepth 100000 in
set_option maxHeartbeats 8000000 in
theorem verifies_4 (N m K : Nat) (pub g sg : List Int) (n wh i y : Int) (S A V : List Int) (v : Bool) (lS : S.length = 32) (lA : A.length = 32) (lV : V.length = 64)
  (f0 : LP4.orc 21 [.im 1 m none (.flat .u8 g)] = some (ret1 (.v (.bool true)))) (f1 : LP4.orc 21 [.im 1 K none (.flat .u8 sg)] = some (ret1 (.v (.bool true)))) (fs : LP4.orc 22 [iv .i64 n] = some (.one (.own 1 32 5 (.flat .u8 S))))
  (fp : ∀ c, LP4.orc 25 [.im 1 32 c (.flat .u8 S)] = some (.many [.own 1 32 5 (.flat .u8 A), .val (iv .i64 0)])) (fg : ∀ c, LP4.orc 27 [.im 1 32 c (.flat .u8 S), .im 1 m none (.flat .u8 g)] = some (.many [.own 1 64 5 (.flat .u8 V), .val (iv .i64 0)]))
  (fm : LP4.orc 23 [iv .i64 wh, iv .i64 6] = some (ret1 (iv .i64 4))) (fv : LP4.orc 29 [.im 1 N none (.flat .u8 pub), .im 1 m none (.flat .u8 g), .im 1 K none (.flat .u8 sg)] = some (ret1 (.v (.bool v)))) (fw : LP4.orc 30 [.im 1 N none (.flat .u8 pub), .im 1 m none (.flat .u8 g), .im 1 K none (.flat .u8 sg)] = some (ret1 (.v (.bool v)))) :
  execF LP4 Tryz.f6 [.im 1 N none (.flat .u8 pub), .im 1 m none (.flat .u8 g), .im 1 K none (.flat .u8 sg), iv .i64 n, iv .i64 wh, iv .i64 i, iv .i64 y] (ret1 (.v (.bool true))) := by
 have dS : (Cont.flat .u8 S).cut 0 (32 * 1) = some (.flat .u8 S) := cut_all (by omega)
 have dA : (Cont.flat .u8 A).cut 0 (32 * 1) = some (.flat .u8 A) := cut_all (by omega)
 have dV : (Cont.flat .u8 V).cut 0 (64 * 1) = some (.flat .u8 V) := cut_all (by omega)
 ((conv => whnf); repeat ((first | refine ⟨_, expo_sl rfl dS, ?_⟩ | refine ⟨fun _ => ?_, fun h => absurd ((beq_self10 _).symm.trans h) (by decide)⟩ | refine ⟨fun h => absurd ((beq_self10 _).symm.trans h) (by decide), fun _ => ?_⟩ | ((with_reducible refine isN_LP4 21 ?_); first | refine ⟨_, f0, ?_⟩ | refine ⟨_, f1, ?_⟩) | ((with_reducible refine isN_LP4 22 ?_); first | refine ⟨_, fs, ?_⟩) | ((with_reducible refine isN_LP4 25 ?_); first | refine ⟨_, fp _, ?_⟩) | ((with_reducible refine isN_LP4 27 ?_); first | refine ⟨_, fg _, ?_⟩) | ((with_reducible refine isN_LP4 23 ?_); first | refine ⟨_, fm, ?_⟩) | ((with_reducible refine isN_LP4 29 ?_); first | refine ⟨_, fv, ?_⟩) | ((with_reducible refine isN_LP4 30 ?_); first | refine ⟨_, fw, ?_⟩) | ((with_reducible refine isN_LP4 18 ?_); first | refine ⟨_, l4_awake, ?_⟩) | refine ⟨_, rfl, ?_⟩ | refine ⟨by decide, ?_⟩ | refine ⟨rfl, ?_⟩ | refine ⟨fun _ => ?_, fun h => absurd h (by decide)⟩ | refine ⟨fun h => absurd h (by decide), fun _ => ?_⟩); conv => whnf))
 rfl
set_option maxRecDepth 100000 in
set_option maxHeartbeats 8000000 in
theorem verifies_5 (N m K : Nat) (pub g sg : List Int) (n wh i y : Int) (S A V : List Int) (v : Bool) (lS : S.length = 32) (lA : A.length = 32) (lV : V.length = 64)
  (f0 : LP4.orc 21 [.im 1 m none (.flat .u8 g)] = some (ret1 (.v (.bool true)))) (f1 : LP4.orc 21 [.im 1 K none (.flat .u8 sg)] = some (ret1 (.v (.bool true)))) (fs : LP4.orc 22 [iv .i64 n] = some (.one (.own 1 32 5 (.flat .u8 S))))
  (fp : ∀ c, LP4.orc 25 [.im 1 32 c (.flat .u8 S)] = some (.many [.own 1 32 5 (.flat .u8 A), .val (iv .i64 0)])) (fg : ∀ c, LP4.orc 27 [.im 1 32 c (.flat .u8 S), .im 1 m none (.flat .u8 g)] = some (.many [.own 1 64 5 (.flat .u8 V), .val (iv .i64 0)]))
  (fm : LP4.orc 23 [iv .i64 wh, iv .i64 6] = some (ret1 (iv .i64 5))) (fv : ∀ cp cs, LP4.orc 29 [.im 1 32 cp (.flat .u8 A), .im 1 m none (.flat .u8 g), .im 1 64 cs (.flat .u8 V)] = some (ret1 (.v (.bool v)))) (fw : ∀ cp cs, LP4.orc 30 [.im 1 32 cp (.flat .u8 A), .im 1 m none (.flat .u8 g), .im 1 64 cs (.flat .u8 V)] = some (ret1 (.v (.bool v)))) :
  execF LP4 Tryz.f6 [.im 1 N none (.flat .u8 pub), .im 1 m none (.flat .u8 g), .im 1 K none (.flat .u8 sg), iv .i64 n, iv .i64 wh, iv .i64 i, iv .i64 y] (ret1 (.v (.bool true))) := by
 have dS : (Cont.flat .u8 S).cut 0 (32 * 1) = some (.flat .u8 S) := cut_all (by omega)
 have dA : (Cont.flat .u8 A).cut 0 (32 * 1) = some (.flat .u8 A) := cut_all (by omega)
 have dV : (Cont.flat .u8 V).cut 0 (64 * 1) = some (.flat .u8 V) := cut_all (by omega)
 ((conv => whnf); repeat ((first | refine ⟨_, expo_sl rfl dS, ?_⟩ | refine ⟨_, expo_sl rfl dA, ?_⟩ | refine ⟨_, expo_sl rfl dV, ?_⟩ | refine ⟨fun _ => ?_, fun h => absurd ((beq_self10 _).symm.trans h) (by decide)⟩ | refine ⟨fun h => absurd ((beq_self10 _).symm.trans h) (by decide), fun _ => ?_⟩ | ((with_reducible refine isN_LP4 21 ?_); first | refine ⟨_, f0, ?_⟩ | refine ⟨_, f1, ?_⟩) | ((with_reducible refine isN_LP4 22 ?_); first | refine ⟨_, fs, ?_⟩) | ((with_reducible refine isN_LP4 25 ?_); first | refine ⟨_, fp _, ?_⟩) | ((with_reducible refine isN_LP4 27 ?_); first | refine ⟨_, fg _, ?_⟩) | ((with_reducible refine isN_LP4 23 ?_); first | refine ⟨_, fm, ?_⟩) | ((with_reducible refine isN_LP4 29 ?_); first | refine ⟨_, fv _ _, ?_⟩) | ((with_reducible refine isN_LP4 30 ?_); first | refine ⟨_, fw _ _, ?_⟩) | ((with_reducible refine isN_LP4 18 ?_); first | refine ⟨_, l4_awake, ?_⟩) | refine ⟨_, rfl, ?_⟩ | refine ⟨by decide, ?_⟩ | refine ⟨rfl, ?_⟩ | refine ⟨fun _ => ?_, fun h => absurd h (by decide)⟩ | refine ⟨fun h => absurd h (by decide), fun _ => ?_⟩); conv => whnf))
 rfl
set_option maxRecDepth 100000 in
set_option maxHeartbeats 8000000 in
theorem verifies_longM (N m K : Nat) (pub g sg : List Int) (n wh i y : Int) (f0 : LP4.orc 21 [.im 1 m none (.flat .u8 g)] = some (ret1 (.v (.bool false)))) : execF LP4 Tryz.f6 [.im 1 N none (.flat .u8 pub), .im 1 m none (.flat .u8 g), .im 1 K none (.flat .u8 sg), iv .i64 n, iv .i64 wh, iv .i64 i, iv .i64 y] (ret1 (.v (.bool true))) := by
 ((conv => whnf); repeat ((first | ((with_reducible refine isN_LP4 21 ?_); first | refine ⟨_, f0, ?_⟩) | ((with_reducible refine isN_LP4 18 ?_); first | refine ⟨_, l4_awake, ?_⟩) | refine ⟨_, rfl, ?_⟩ | refine ⟨by decide, ?_⟩ | refine ⟨rfl, ?_⟩ | refine ⟨fun _ => ?_, fun h => absurd h (by decide)⟩ | refine ⟨fun h => absurd h (by decide), fun _ => ?_⟩); conv => whnf))
 rfl
set_option maxRecDepth 100000 in
set_option maxHeartbeats 8000000 in
theorem verifies_longS (N m K : Nat) (pub g sg : List Int) (n wh i y : Int) (f0 : LP4.orc 21 [.im 1 m none (.flat .u8 g)] = some (ret1 (.v (.bool true)))) (f1 : LP4.orc 21 [.im 1 K none (.flat .u8 sg)] = some (ret1 (.v (.bool false)))) : execF LP4 Tryz.f6 [.im 1 N none (.flat .u8 pub), .im 1 m none (.flat .u8 g), .im 1 K none (.flat .u8 sg), iv .i64 n, iv .i64 wh, iv .i64 i, iv .i64 y] (ret1 (.v (.bool true))) := by
 ((conv => whnf); repeat ((first | ((with_reducible refine isN_LP4 21 ?_); first | refine ⟨_, f0, ?_⟩ | refine ⟨_, f1, ?_⟩) | ((with_reducible refine isN_LP4 18 ?_); first | refine ⟨_, l4_awake, ?_⟩) | refine ⟨_, rfl, ?_⟩ | refine ⟨by decide, ?_⟩ | refine ⟨rfl, ?_⟩ | refine ⟨fun _ => ?_, fun h => absurd h (by decide)⟩ | refine ⟨fun h => absurd h (by decide), fun _ => ?_⟩); conv => whnf))
 rfl
theorem verifies_exec (pub g sg : List Int) (n wh i y : Int) (hp : By pub) (hg : By g) (hs : By sg) : execF LP4 Tryz.f6 [.im 1 pub.length none (.flat .u8 pub), .im 1 g.length none (.flat .u8 g), .im 1 sg.length none (.flat .u8 sg), iv .i64 n, iv .i64 wh, iv .i64 i, iv .i64 y] (ret1 (.v (.bool true))) := by
 by_cases hm : (g.length : Int) ≤ 600
 case neg => exact verifies_longM _ _ _ pub g sg n wh i y (l4_Short (decide_eq_false hm))
 have f0 := l4_Short (c := none) (x := .flat .u8 g) (decide_eq_true hm)
 by_cases hk : (sg.length : Int) ≤ 600
 case neg => exact verifies_longS _ _ _ pub g sg n wh i y f0 (l4_Short (decide_eq_false hk))
 have f1 := l4_Short (c := none) (x := .flat .u8 sg) (decide_eq_true hk)
 have hm' : g.length ≤ 100000 := by omega
 have fs := l4_Seed n
 have lS := sdP_len n
 have bS := sdP_by n
 generalize sdP n = S at fs lS bS
 have fp := fun c => l4_rPublic (c := c) lS bS
 have fg := fun c => l4_rSign (c := c) (d := none) (g := g) lS bS rfl hg hm'
 rw [rpubR, if_pos rfl] at fp
 rw [rsignR, if_pos rfl] at fg
 have lA := pubL_len S
 have bA := pubV_by S
 have lV := sigL_len S g
 have bV := sigV_by S g
 generalize pubL S = A at fp lA bA
 generalize sigL S g = V at fg lV bV
 have fm := l4_Mod wh 6 (by decide)
 have h6 : wh % 6 = 0 ∨ wh % 6 = 1 ∨ wh % 6 = 2 ∨ wh % 6 = 3 ∨ wh % 6 = 4 ∨ wh % 6 = 5 := by omega
 rcases h6 with e | e | e | e | e | e
 all_goals rw [e] at fm
 ·have bX := spoP_by bV i y
  exact verifies_0 _ _ _ pub g sg n wh i y S A V _ _ rfl _ lS lA lV f0 f1 fs fp fg fm (fun c => l4_Spo (c := c) i y lV bV (by decide)) (fun _ _ => l4_Ver lA bA rfl hg hm' rfl bX) (fun _ _ => l4_rVer lA bA rfl hg hm' rfl bX)
 ·have bX := spoP_by bA i y
  exact verifies_1 _ _ _ pub g sg n wh i y S A V _ _ rfl _ lS lA lV f0 f1 fs fp fg fm (fun c => l4_Spo (c := c) i y lA bA (by decide)) (fun _ _ => l4_Ver rfl bX rfl hg hm' lV bV) (fun _ _ => l4_rVer rfl bX rfl hg hm' lV bV)
 ·have bX := spoP_by hg i y
  have hx := spoP_len g i y
  exact verifies_2 _ _ _ pub g sg n wh i y S A V _ _ rfl _ lS lA lV f0 f1 fs fp fg fm (l4_Spo i y rfl hg hm') (fun _ _ _ => l4_Ver lA bA rfl bX (by omega) lV bV) (fun _ _ _ => l4_rVer lA bA rfl bX (by omega) lV bV)
 ·have fx := l4_point y (isF_of lA bA)
  exact verifies_3 _ _ _ pub g sg n wh i y S A V _ (byk_len _ _) _ lS lA lV f0 f1 fs fp fg fm fx (fun _ _ => l4_Ver (byk_len _ _) (byk_by _ _) rfl hg hm' lV bV) (fun _ _ => l4_rVer (byk_len _ _) (byk_by _ _) rfl hg hm' lV bV)
 ·exact verifies_4 _ _ _ pub g sg n wh i y S A V _ lS lA lV f0 f1 fs fp fg fm (l4_Ver rfl hp rfl hg hm' rfl hs) (l4_rVer rfl hp rfl hg hm' rfl hs)
 ·exact verifies_5 _ _ _ pub g sg n wh i y S A V _ lS lA lV f0 f1 fs fp fg fm (fun _ _ => l4_Ver lA bA rfl hg hm' lV bV) (fun _ _ => l4_rVer lA bA rfl hg hm' lV bV)
end
end Go.Proofs.YtdeigmjbcbjgeaaGreatDoor
