import Derived.Test.YtdeigmjbcbjgeaaGreatDoorYcEL
namespace Go.Proofs.YtdeigmjbcbjgeaaGreatDoor
open Go.RowKit
theorem rSecret_call {n : Nat} {c : Option Nat} {s : List Int} (hs : s.length = n) (hb : By s) (hn : n ≤ 1000000000) : CallOk Tryz.prog 52 [.im 1 n c (.flat .u8 s)] (.many [.val (F (secN s)), .val (.im 1 32 none (.flat .u8 (secP s)))]) := by
 have hc := e3_Clamp (nb32_lt (isF_take s))
 rw [F, ← isF_eq (isF_take s)] at hc
 exact execF_ok follows_ok EE3_ok Tryz.func52 (secret_gen n c s (sha512 s) ((sha512 s).take 32) _ _ (sh_len s) (by rw [List.length_take, sh_len]; decide) (byk_len _ _) rfl rfl (secP_len s) (e3_Sha hs hb hn) hc)
theorem rOpp_row {a : List Int} (hc : isP a = true ∧ (pnOf a).ok = true) : CallOk Tryz.prog 65 [.agg (.flat .u64 a)] (ret1 (P4 (oppN (pnOf a)))) := by
 have h := rOpp_call (pnOf a) (Pn.ok_iff.1 hc.2)
 rwa [P4, ← isP_eq hc.1] at h
def orcE4 (f : Nat) (ds : List LV) : Option LRes :=
 match f with
 | 52 => match ds with
  | [.im 1 n _ (.flat .u8 s)] => if s.length = n ∧ byteOk s = true ∧ n ≤ 1000000000 then some (.many [.val (F (secN s)), .val (.im 1 32 none (.flat .u8 (secP s)))]) else none
  | _ => none
 | 65 => match ds with
  | [.agg (.flat .u64 a)] => if isP a = true ∧ (pnOf a).ok = true then some (ret1 (P4 (oppN (pnOf a)))) else none
  | _ => none
 | _ => orcE3 f ds
theorem orcE4_ok : Known Tryz.prog orcE4 := by
 intro f ds r h
 unfold orcE4 at h
 split at h
 ·split at h
  ·split at h
   ·rename_i hc
    cases h
    exact .inl ⟨⟨_, Tryz.func52, name_ne _ (by kernel_rfl), rfl⟩, rSecret_call hc.1 (byteAll hc.2.1) hc.2.2⟩
   ·cases h
  ·cases h
 ·split at h
  ·split at h
   ·rename_i hc
    cases h
    exact .inl ⟨⟨_, Tryz.func65, name_ne _ (by kernel_rfl), rfl⟩, rOpp_row hc⟩
   ·cases h
  ·cases h
 ·exact orcE3_ok f ds r h
def EE4 : Env := ⟨tyL, orcE4, false, noWk, noOrw⟩
theorem EE4_ok : EnvOk Tryz.prog EE4 := ⟨tyL_ok, orcE4_ok, noOrw_ok⟩
theorem isN_EE4 (f : Nat) {ds : List LV} {K : LRes → Prop} (h : ∃ y, EE4.orc f ds = some y ∧ K y) : ∃ y, EE4.orc f ds = some y ∧ K y := h
theorem e4_secret {n : Nat} {c : Option Nat} {s : List Int} (h : s.length = n) (hb : By s) (hn : n ≤ 1000000000) : EE4.orc 52 [.im 1 n c (.flat .u8 s)] = some (.many [.val (F (secN s)), .val (.im 1 32 none (.flat .u8 (secP s)))]) := if_pos ⟨h, hb.ok, hn⟩
theorem e4_Opp {p : Pn} (hp : p.lt) : EE4.orc 65 [P4 p] = some (ret1 (P4 (oppN p))) := (if_pos ⟨(isP_w4 hp).1, by rw [(isP_w4 hp).2]; exact Pn.ok_iff.2 hp⟩).trans (by rw [(isP_w4 hp).2])
theorem e4_Sha {n : Nat} {c : Option Nat} {l : List Int} (hn : l.length = n) (hb : By l) (hl : n ≤ 1000000000) : EE4.orc 32 [.im 1 n c (.flat .u8 l)] = some (.one (.own 1 64 5 (.flat .u8 (sha512 l)))) := if_pos ⟨hn, hb.ok, hl⟩
theorem e4_Wide {n : Nat} {c : Option Nat} {b : List Int} (h : b.length = n) (hb : By b) (hn : n ≤ 64) : EE4.orc 57 [.im 1 n c (.flat .u8 b)] = some (.many [.val (F (nb b % qQ)), .val (iv .i64 0)]) := (if_pos ⟨h, hb.ok⟩).trans (by rw [wideR, if_neg (by omega)])
theorem e4_MulAdd {a b c : Nat} (ha : a < 2 ^ 256) (hb : b < 2 ^ 256) (hc : c < 2 ^ 256) : EE4.orc 58 [F a, F b, F c] = some (ret1 (F ((a * b + c) % qQ))) := (show EE4.orc 58 [F a, F b, F c] = EE3.orc 58 [F a, F b, F c] from rfl).trans (o_rMulAdd ha hb hc)
theorem e4_Small {a : Nat} (ha : a < 2 ^ 256) : EE4.orc 17 [F a] = some (ret1 (.v (.bool (smaN a)))) := (show EE4.orc 17 [F a] = EE3.orc 17 [F a] from rfl).trans (o_rSmall ha)
theorem e4_BaseP : EE4.orc 53 [] = some (ret1 (P4 (rdP baseN))) := rfl
theorem e4_Read {n : Nat} (hn : n < 2 ^ 256) : EE4.orc 41 [F n] = some (.many [.val (P4 (rdP n)), .val (.v (.bool (rdOk n)))]) := (show EE4.orc 41 [F n] = EE2.orc 41 [F n] from rfl).trans (o_rRead10 hn)
theorem e4_Write {p : Pn} (hp : p.lt) : EE4.orc 42 [P4 p] = some (ret1 (F (wrN p))) := (show EE4.orc 42 [P4 p] = EE2.orc 42 [P4 p] from rfl).trans (e2_Write hp)
theorem e4_Times {k : Nat} {p : Pn} (hk : k < 2 ^ 256) (hp : p.lt) : EE4.orc 48 [F k, P4 p] = some (ret1 (P4 (timN dN k p 256))) := (show EE4.orc 48 [F k, P4 p] = EE2.orc 48 [F k, P4 p] from rfl).trans (e2_Times hk hp)
theorem e4_Sum {p q : Pn} {d : Nat} (hp : p.lt) (hq : q.lt) (hd : d < pP) : EE4.orc 43 [P4 p, P4 q, W d] = some (ret1 (P4 (sumN d p q))) := (show EE4.orc 43 [P4 p, P4 q, W d] = EE2.orc 43 [P4 p, P4 q, W d] from rfl).trans (e2_Sum hp hq hd)
theorem e4_D : EE4.orc 44 [] = some (ret1 (W dN)) := rfl
theorem e4_Q : EE4.orc 64 [] = some (ret1 (W qQ)) := rfl
theorem e4_Load {a : Nat} (ha : a < 2 ^ 256) : EE4.orc 63 [F a] = some (ret1 (W a)) := (show EE4.orc 63 [F a] = EE1.orc 63 [F a] from rfl).trans (g_Load ha)
theorem e4_Below {a b : Nat} (ha : a < 2 ^ 256) (hb : b < 2 ^ 256) : EE4.orc 62 [W a, W b] = some (ret1 (.v (.bool (decide (a < b))))) := (show EE4.orc 62 [W a, W b] = EE1.orc 62 [W a, W b] from rfl).trans (g_Below ha hb)
set_option maxRecDepth 100000 in
set_option maxHeartbeats 8000000 in
theorem r10Public_gen (c : Option Nat) (s S B M E p : List Int) (lS : S.length = 32) (lE : E.length = 32)
  (f1 : ∀ c, EE4.orc 52 [.im 1 32 c (.flat .u8 s)] = some (.many [.val (.agg (.flat .u8 S)), .val (.im 1 32 none (.flat .u8 p))])) (f2 : EE4.orc 53 [] = some (ret1 (.agg (.flat .u64 B)))) (f3 : EE4.orc 48 [.agg (.flat .u8 S), .agg (.flat .u64 B)] = some (ret1 (.agg (.flat .u64 M)))) (f4 : EE4.orc 42 [.agg (.flat .u64 M)] = some (ret1 (.agg (.flat .u8 E)))) :
  execF EE4 Tryz.f25 [.im 1 32 c (.flat .u8 s)] (.many [.own 1 32 5 (.flat .u8 E), .val (iv .i64 0)]) := by
 have zS : layOne (.flat .u8 (List.replicate 32 0)) 0 (.flat .u8 S) = some (.flat .u8 S) := lay_all (by rw [List.length_replicate, lS]) (by omega)
 have nS : (Cont.flat .u8 S).len = 32 := lS
 have cS : (Cont.flat .u8 S).cut 0 32 = some (.flat .u8 S) := cut_all lS
 have dS : (Cont.flat .u8 S).cut 0 (32 * 1) = some (.flat .u8 S) := cut_all lS
 have zE : layOne (.flat .u8 (List.replicate 32 0)) 0 (.flat .u8 E) = some (.flat .u8 E) := lay_all (by rw [List.length_replicate, lE]) (by omega)
 have nE : (Cont.flat .u8 E).len = 32 := lE
 have cE : (Cont.flat .u8 E).cut 0 32 = some (.flat .u8 E) := cut_all lE
 have dE : (Cont.flat .u8 E).cut 0 (32 * 1) = some (.flat .u8 E) := cut_all lE
 have tE : E.take (32 * 1) = E := List.take_of_length_le (by omega)
 ((conv => whnf); repeat ((first | refine ⟨_, append_nil (cnt := 32) rfl rfl (shown_sl rfl dE) rfl rfl rfl (by decide) (by decide), ?_⟩ | refine ⟨_, cS, ?_⟩ | refine ⟨_, zS, ?_⟩ | refine ⟨_, zE, ?_⟩ | refine ⟨nS, ?_⟩ | refine ⟨nE, ?_⟩ | ((with_reducible refine isN_EE4 52 ?_); first | refine ⟨_, f1 _, ?_⟩) | ((with_reducible refine isN_EE4 53 ?_); first | refine ⟨_, f2, ?_⟩) | ((with_reducible refine isN_EE4 48 ?_); first | refine ⟨_, f3, ?_⟩) | ((with_reducible refine isN_EE4 42 ?_); first | refine ⟨_, f4, ?_⟩) | refine ⟨_, rfl, ?_⟩ | refine ⟨by decide, ?_⟩ | refine ⟨rfl, ?_⟩ | refine ⟨fun h => absurd h (by decide), fun _ => ?_⟩ | refine ⟨apart_uv _ _ _, ?_⟩ | refine ⟨_, resSlot_own rfl (by omega) (by first | exact .inl rfl | exact .inr ⟨rfl, rfl⟩), ?_⟩); conv => whnf))
 rw [tE]
 rfl
def rpubR (n : Nat) (s : List Int) : LRes := if n = 32 then .many [.own 1 32 5 (.flat .u8 (pubL s)), .val (iv .i64 0)] else .many [.val nilV, .val (iv .i64 1)]
set_option maxRecDepth 100000 in
set_option maxHeartbeats 8000000 in
theorem r10Public_call {n : Nat} {c : Option Nat} {s : List Int} (hs : s.length = n) (hb : By s) : CallOk Tryz.prog 25 [.im 1 n c (.flat .u8 s)] (rpubR n s) := by
 unfold rpubR
 by_cases h : n = 32
 ·subst h
  rw [if_pos rfl, pubL, ← tmulB (secN_lt s)]
  exact execF_ok follows_ok EE4_ok Tryz.func25 (r10Public_gen c s _ _ _ _ _ (byk_len _ _) (byk_len _ _) (fun _ => e4_secret hs hb (by decide)) e4_BaseP (e4_Times (secN_lt s) (rdP_lt _)) (e4_Write (timN_lt _ _ _ _)))
 ·rw [if_neg h]
  have q : (!((n : Int) == 32)) = true := by
   rw [Bool.not_eq_true', beq_eq_false_iff_ne]
   omega
  refine execF_ok follows_ok EE4_ok Tryz.func25 ?_
  ((conv => whnf); repeat ((first | refine ⟨fun _ => ?_, fun h => absurd ((q).symm.trans h) (by decide)⟩ | refine ⟨fun h => absurd ((q).symm.trans h) (by decide), fun _ => ?_⟩ | refine ⟨_, rfl, ?_⟩ | refine ⟨rfl, ?_⟩); conv => whnf))
  rfl
def orcE5 (f : Nat) (ds : List LV) : Option LRes :=
 match f with
 | 25 => match ds with
  | [.im 1 n _ (.flat .u8 s)] => if s.length = n ∧ byteOk s = true then some (rpubR n s) else none
  | _ => none
 | _ => orcE4 f ds
theorem orcE5_ok : Known Tryz.prog orcE5 := by
 intro f ds r h
 unfold orcE5 at h
 split at h
 ·split at h
  ·split at h
   ·rename_i hc
    cases h
    exact .inl ⟨⟨_, Tryz.func25, name_ne _ (by kernel_rfl), rfl⟩, r10Public_call hc.1 (byteAll hc.2)⟩
   ·cases h
  ·cases h
 ·exact orcE4_ok f ds r h
def EE5 : Env := ⟨tyL, orcE5, false, noWk, noOrw⟩
theorem EE5_ok : EnvOk Tryz.prog EE5 := ⟨tyL_ok, orcE5_ok, noOrw_ok⟩
theorem isN_EE5 (f : Nat) {ds : List LV} {K : LRes → Prop} (h : ∃ y, EE5.orc f ds = some y ∧ K y) : ∃ y, EE5.orc f ds = some y ∧ K y := h
theorem e5_Public {n : Nat} {c : Option Nat} {s : List Int} (h : s.length = n) (hb : By s) : EE5.orc 25 [.im 1 n c (.flat .u8 s)] = some (rpubR n s) := if_pos ⟨h, hb.ok⟩
end Go.Proofs.YtdeigmjbcbjgeaaGreatDoor
namespace Go.Proofs.YtdeigmjbcbjgeaaGreatDoor
open Go.RowKit
set_option maxRecDepth 100000 in
set_option maxHeartbeats 8000000 in
theorem rSign_gen (m : Nat) (c cm : Option Nat) (s g S B M2 EF p h1 r h2 K T PA : List Int) (hm : m ≤ 100000) (lg : g.length = m) (lp : p.length = 32) (lS : S.length = 32) (lA : PA.length = 32) (lF : EF.length = 32) (lr : r.length = 32) (lT : T.length = 32) (lK : K.length = 32) (lh1 : h1.length = 64) (lh2 : h2.length = 64)
  (f0 : ∀ c, EE5.orc 25 [.im 1 32 c (.flat .u8 s)] = some (.many [.own 1 32 5 (.flat .u8 PA), .val (iv .i64 0)])) (f1 : ∀ c, EE5.orc 52 [.im 1 32 c (.flat .u8 s)] = some (.many [.val (.agg (.flat .u8 S)), .val (.im 1 32 none (.flat .u8 p))]))
  (f2 : ∀ c, EE5.orc 32 [.im 1 (32 + m) c (.flat .u8 (p ++ g))] = some (.one (.own 1 64 5 (.flat .u8 h1)))) (f3 : ∀ c, EE5.orc 57 [.im 1 64 c (.flat .u8 h1)] = some (.many [.val (.agg (.flat .u8 r)), .val (iv .i64 0)]))
  (f4 : EE5.orc 53 [] = some (ret1 (.agg (.flat .u64 B)))) (f6 : EE5.orc 48 [.agg (.flat .u8 r), .agg (.flat .u64 B)] = some (ret1 (.agg (.flat .u64 M2)))) (f7 : EE5.orc 42 [.agg (.flat .u64 M2)] = some (ret1 (.agg (.flat .u8 EF))))
  (f8 : ∀ c, EE5.orc 32 [.im 1 (32 + 32 + m) c (.flat .u8 (EF ++ PA ++ g))] = some (.one (.own 1 64 5 (.flat .u8 h2)))) (f9 : ∀ c, EE5.orc 57 [.im 1 64 c (.flat .u8 h2)] = some (.many [.val (.agg (.flat .u8 K)), .val (iv .i64 0)])) (g1 : EE5.orc 58 [.agg (.flat .u8 K), .agg (.flat .u8 S), .agg (.flat .u8 r)] = some (ret1 (.agg (.flat .u8 T)))) :
  execF EE5 Tryz.f27 [.im 1 32 c (.flat .u8 s), .im 1 m cm (.flat .u8 g)] (.many [.own 1 64 5 (.flat .u8 (EF ++ T)), .val (iv .i64 0)]) := by
 have zS : layOne (.flat .u8 (List.replicate 32 0)) 0 (.flat .u8 S) = some (.flat .u8 S) := lay_all (by rw [List.length_replicate, lS]) (by omega)
 have nS : (Cont.flat .u8 S).len = 32 := lS
 have cS : (Cont.flat .u8 S).cut 0 32 = some (.flat .u8 S) := cut_all lS
 have dS : (Cont.flat .u8 S).cut 0 (32 * 1) = some (.flat .u8 S) := cut_all lS
 have zA : layOne (.flat .u8 (List.replicate 32 0)) 0 (.flat .u8 PA) = some (.flat .u8 PA) := lay_all (by rw [List.length_replicate, lA]) (by omega)
 have nA : (Cont.flat .u8 PA).len = 32 := lA
 have cA : (Cont.flat .u8 PA).cut 0 32 = some (.flat .u8 PA) := cut_all lA
 have dA : (Cont.flat .u8 PA).cut 0 (32 * 1) = some (.flat .u8 PA) := cut_all lA
 have zF : layOne (.flat .u8 (List.replicate 32 0)) 0 (.flat .u8 EF) = some (.flat .u8 EF) := lay_all (by rw [List.length_replicate, lF]) (by omega)
 have nF : (Cont.flat .u8 EF).len = 32 := lF
 have cF : (Cont.flat .u8 EF).cut 0 32 = some (.flat .u8 EF) := cut_all lF
 have dF : (Cont.flat .u8 EF).cut 0 (32 * 1) = some (.flat .u8 EF) := cut_all lF
 have zr : layOne (.flat .u8 (List.replicate 32 0)) 0 (.flat .u8 r) = some (.flat .u8 r) := lay_all (by rw [List.length_replicate, lr]) (by omega)
 have nr : (Cont.flat .u8 r).len = 32 := lr
 have cr : (Cont.flat .u8 r).cut 0 32 = some (.flat .u8 r) := cut_all lr
 have dr : (Cont.flat .u8 r).cut 0 (32 * 1) = some (.flat .u8 r) := cut_all lr
 have zT : layOne (.flat .u8 (List.replicate 32 0)) 0 (.flat .u8 T) = some (.flat .u8 T) := lay_all (by rw [List.length_replicate, lT]) (by omega)
 have nT : (Cont.flat .u8 T).len = 32 := lT
 have cT : (Cont.flat .u8 T).cut 0 32 = some (.flat .u8 T) := cut_all lT
 have dT : (Cont.flat .u8 T).cut 0 (32 * 1) = some (.flat .u8 T) := cut_all lT
 have zK : layOne (.flat .u8 (List.replicate 32 0)) 0 (.flat .u8 K) = some (.flat .u8 K) := lay_all (by rw [List.length_replicate, lK]) (by omega)
 have nK : (Cont.flat .u8 K).len = 32 := lK
 have cK : (Cont.flat .u8 K).cut 0 32 = some (.flat .u8 K) := cut_all lK
 have dK : (Cont.flat .u8 K).cut 0 (32 * 1) = some (.flat .u8 K) := cut_all lK
 have lpg : (p ++ g).length = 32 + m := by rw [List.length_append, lp, lg]
 have lFA : (EF ++ PA).length = 32 + 32 := by rw [List.length_append, lF, lA]
 have lFg : (EF ++ PA ++ g).length = 32 + 32 + m := by rw [List.length_append, lFA, lg]
 have lFT : (EF ++ T).length = 32 + 32 := by rw [List.length_append, lF, lT]
 have d1 : (Cont.flat .u8 (p ++ g)).cut 0 ((32 + m) * 1) = some (.flat .u8 (p ++ g)) := cut_all (by omega)
 have d2 : (Cont.flat .u8 (EF ++ PA ++ g)).cut 0 ((32 + 32 + m) * 1) = some (.flat .u8 (EF ++ PA ++ g)) := cut_all (by omega)
 have d3 : (Cont.flat .u8 h1).cut 0 (64 * 1) = some (.flat .u8 h1) := cut_all (by omega)
 have d4 : (Cont.flat .u8 h2).cut 0 (64 * 1) = some (.flat .u8 h2) := cut_all (by omega)
 have tE : (EF ++ T).take ((32 + 32) * 1) = EF ++ T := List.take_of_length_le (by omega)
 ((conv => whnf); repeat ((first | refine ⟨_, expo_sl rfl d1, ?_⟩ | refine ⟨_, expo_sl rfl d2, ?_⟩ | refine ⟨_, expo_sl rfl d3, ?_⟩ | refine ⟨_, expo_sl rfl d4, ?_⟩ | refine ⟨_, append_nil (cnt := 32) rfl rfl (shown_sl rfl dF) rfl rfl rfl (by decide) (by decide), ?_⟩ | refine ⟨_, append_nil (cnt := 32) rfl rfl ((rfl : shown _ 1 (.im 1 32 none (.flat .u8 p)) = some (.flat .u8 p, 32))) rfl rfl rfl (by decide) (by decide), ?_⟩ | refine ⟨_, append_grow (cnt := 32) rfl rfl (shown_sl rfl dA) rfl rfl lF rfl (by omega) (by omega), ?_⟩ | refine ⟨_, append_grow (cnt := 32) rfl rfl (shown_sl rfl dT) rfl rfl lF rfl (by omega) (by omega), ?_⟩ | refine ⟨_, append_grow (cnt := m) rfl rfl ((rfl : shown _ 1 (.im 1 m cm (.flat .u8 g)) = some (.flat .u8 g, m))) rfl rfl lp rfl (by omega) (by omega), ?_⟩ | refine ⟨_, append_grow (cnt := m) rfl rfl ((rfl : shown _ 1 (.im 1 m cm (.flat .u8 g)) = some (.flat .u8 g, m))) rfl rfl lFA rfl (by omega) (by omega), ?_⟩ | refine ⟨_, cS, ?_⟩ | refine ⟨_, zS, ?_⟩ | refine ⟨_, zF, ?_⟩ | refine ⟨_, cr, ?_⟩ | refine ⟨_, zr, ?_⟩ | refine ⟨_, zT, ?_⟩ | refine ⟨_, cK, ?_⟩ | refine ⟨_, zK, ?_⟩ | refine ⟨nS, ?_⟩ | refine ⟨nF, ?_⟩ | refine ⟨nr, ?_⟩ | refine ⟨nT, ?_⟩ | refine ⟨nK, ?_⟩ | ((with_reducible refine isN_EE5 25 ?_); first | refine ⟨_, f0 _, ?_⟩) | ((with_reducible refine isN_EE5 52 ?_); first | refine ⟨_, f1 _, ?_⟩) | ((with_reducible refine isN_EE5 32 ?_); first | refine ⟨_, f2 _, ?_⟩ | refine ⟨_, f8 _, ?_⟩) | ((with_reducible refine isN_EE5 57 ?_); first | refine ⟨_, f3 _, ?_⟩ | refine ⟨_, f9 _, ?_⟩) | ((with_reducible refine isN_EE5 53 ?_); first | refine ⟨_, f4, ?_⟩) | ((with_reducible refine isN_EE5 48 ?_); first | refine ⟨_, f6, ?_⟩) | ((with_reducible refine isN_EE5 42 ?_); first | refine ⟨_, f7, ?_⟩) | ((with_reducible refine isN_EE5 58 ?_); first | refine ⟨_, g1, ?_⟩) | refine ⟨_, rfl, ?_⟩ | refine ⟨by decide, ?_⟩ | refine ⟨rfl, ?_⟩ | refine ⟨fun h => absurd h (by decide), fun _ => ?_⟩ | refine ⟨apart_uv _ _ _, ?_⟩ | refine ⟨_, resSlot_own rfl (by omega) (by first | exact .inl rfl | exact .inr ⟨rfl, rfl⟩), ?_⟩); conv => whnf))
 rw [tE]
 rfl
def rsignR (n : Nat) (s g : List Int) : LRes := if n = 32 then .many [.own 1 64 5 (.flat .u8 (sigL s g)), .val (iv .i64 0)] else .many [.val nilV, .val (iv .i64 1)]
set_option maxRecDepth 100000 in
set_option maxHeartbeats 8000000 in
theorem rSign_call {n m : Nat} {c cm : Option Nat} {s g : List Int} (hs : s.length = n) (hb : By s) (hg : g.length = m) (hgb : By g) (hm : m ≤ 100000) : CallOk Tryz.prog 27 [.im 1 n c (.flat .u8 s), .im 1 m cm (.flat .u8 g)] (rsignR n s g) := by
 unfold rsignR
 have f0 := fun (c : Option Nat) => e5_Public (c := c) hs hb
 unfold rpubR at f0
 by_cases h : n = 32
 ·subst h
  rw [if_pos rfl]
  simp only [if_true] at f0
  have f7 := e4_Write (timN_lt dN (rNum s g) (rdP baseN) 256)
  rw [tmulB (show rNum s g < 2 ^ 256 from modq_lt _)] at f7
  have l1 : (secP s ++ g).length = 32 + m := by rw [List.length_append, secP_len, hg]
  have l2 : (fstL s g ++ pubL s ++ g).length = 32 + 32 + m := by rw [List.length_append, List.length_append, fstL_len, pubL_len, hg]
  exact execF_ok follows_ok EE5_ok Tryz.func27 (rSign_gen m c cm s g _ _ _ (fstL s g) (secP s) _ _ _ _ (sndL s g) (pubL s) hm hg (secP_len s) (byk_len _ _) (pubL_len s) (fstL_len s g) (byk_len _ _) (sndL_len s g) (byk_len _ _) (sh_len _) (sh_len _)
   f0 (fun c => e4_secret (c := c) hs hb (by decide)) (fun c => e4_Sha (c := c) l1 ((secP_by s).append hgb) (by omega)) (fun c => e4_Wide (c := c) (sh_len _) (sh_by _) (by decide)) e4_BaseP (e4_Times (modq_lt _) (rdP_lt _)) f7
   (fun c => e4_Sha (c := c) l2 (((byk_by _ _).append (byk_by _ _)).append hgb) (by omega)) (fun c => e4_Wide (c := c) (sh_len _) (sh_by _) (by decide)) (e4_MulAdd (modq_lt _) (secN_lt s) (modq_lt _)))
 ·rw [if_neg h]
  simp only [if_neg h] at f0
  refine execF_ok follows_ok EE5_ok Tryz.func27 ?_
  ((conv => whnf); repeat ((first | ((with_reducible refine isN_EE5 25 ?_); refine ⟨_, f0 _, ?_⟩) | refine ⟨_, rfl, ?_⟩ | refine ⟨rfl, ?_⟩ | refine ⟨fun _ => ?_, fun h => absurd h (by decide)⟩); conv => whnf))
  rfl
end Go.Proofs.YtdeigmjbcbjgeaaGreatDoor
namespace Go.Proofs.YtdeigmjbcbjgeaaGreatDoor
open Go.RowKit
theorem conv32e {β : Nat → Option Blk} {b e : Nat} {sp : Bool} {c : Option Nat} {r : List Int} (hb : β b = some ⟨.flat .u8 r, e, sp⟩) (hl : r.length = 32) (hr : By r) : convV EE4 β 33 9 (.sl 1 b 0 32 c) = some (.str r) := by
 rw [conv_own (l := r) rfl rfl rfl rfl hb rfl (by omega) hr, List.drop_zero, List.take_of_length_le (by omega)]
set_option maxRecDepth 100000 in
set_option maxHeartbeats 8000000 in
theorem rVerify_gen (m : Nat) (cp cm cs : Option Nat) (P g G D V FI SW Qw h K B M1 W2 M2 Z E DW : List Int) (ok sm bq eq : Bool) (hm : m ≤ 100000) (lg : g.length = m) (lP : P.length = 32) (lG : G.length = 64) (lV : V.length = 16) (lI : FI.length = 32) (lD : D.length = 32) (lE : E.length = 32) (lK : K.length = 32) (lh : h.length = 64) (hcs : 64 ≤ cs.getD 64) (hI : G.take 32 = FI) (hD : G.drop 32 = D) (heq : (E == FI) = eq) (hEb : By E) (hIb : By FI)
  (f2 : EE4.orc 41 [.agg (.flat .u8 P)] = some (.many [.val (.agg (.flat .u64 V)), .val (.v (.bool ok))])) (f3 : EE4.orc 17 [.agg (.flat .u8 P)] = some (ret1 (.v (.bool sm))))
  (f4 : EE4.orc 63 [.agg (.flat .u8 D)] = some (ret1 (.agg (.flat .u64 SW)))) (f5 : EE4.orc 64 [] = some (ret1 (.agg (.flat .u64 Qw)))) (f6 : EE4.orc 62 [.agg (.flat .u64 SW), .agg (.flat .u64 Qw)] = some (ret1 (.v (.bool bq))))
  (f8 : ∀ c, EE4.orc 32 [.im 1 (32 + 32 + m) c (.flat .u8 (FI ++ P ++ g))] = some (.one (.own 1 64 5 (.flat .u8 h)))) (f9 : ∀ c, EE4.orc 57 [.im 1 64 c (.flat .u8 h)] = some (.many [.val (.agg (.flat .u8 K)), .val (iv .i64 0)]))
  (g0 : EE4.orc 53 [] = some (ret1 (.agg (.flat .u64 B)))) (g1 : EE4.orc 48 [.agg (.flat .u8 D), .agg (.flat .u64 B)] = some (ret1 (.agg (.flat .u64 M1)))) (g2 : EE4.orc 65 [.agg (.flat .u64 V)] = some (ret1 (.agg (.flat .u64 W2)))) (g3 : EE4.orc 48 [.agg (.flat .u8 K), .agg (.flat .u64 W2)] = some (ret1 (.agg (.flat .u64 M2)))) (g6 : EE4.orc 44 [] = some (ret1 (.agg (.flat .u64 DW)))) (g4 : EE4.orc 43 [.agg (.flat .u64 M1), .agg (.flat .u64 M2), .agg (.flat .u64 DW)] = some (ret1 (.agg (.flat .u64 Z)))) (g5 : EE4.orc 42 [.agg (.flat .u64 Z)] = some (ret1 (.agg (.flat .u8 E)))) :
  execF EE4 Tryz.f30 [.im 1 32 cp (.flat .u8 P), .im 1 m cm (.flat .u8 g), .im 1 64 cs (.flat .u8 G)] (ret1 (.v (.bool (!sm && (ok && bq && eq))))) := by
 obtain ⟨cx, s1⟩ := slice_im_from (E := EE4) (t := 33) (l := 32) rfl rfl (by decide) lG hcs
 rw [hD] at s1
 obtain ⟨cy, s2⟩ := slice_im_to (E := EE4) (t := 33) (l := 32) rfl rfl (by decide) lG hcs
 rw [hI] at s2
 have cG : (Cont.flat .u8 G).cut 0 (32 * 1) = some (.flat .u8 FI) := by rw [← hI]; exact cut_take (by omega)
 have cD : (Cont.flat .u8 G).cut 32 (32 * 1) = some (.flat .u8 D) := by rw [cut_flat (by omega), hD, List.take_of_length_le (by omega)]
 have cDD : (Cont.flat .u8 G).cut (32 * 1) (32 * 1) = some (.flat .u8 D) := cD
 have zP : layOne (.flat .u8 (List.replicate 32 0)) 0 (.flat .u8 P) = some (.flat .u8 P) := lay_all (by rw [List.length_replicate, lP]) (by omega)
 have nP : (Cont.flat .u8 P).len = 32 := lP
 have cP : (Cont.flat .u8 P).cut 0 32 = some (.flat .u8 P) := cut_all lP
 have dP : (Cont.flat .u8 P).cut 0 (32 * 1) = some (.flat .u8 P) := cut_all lP
 have zI : layOne (.flat .u8 (List.replicate 32 0)) 0 (.flat .u8 FI) = some (.flat .u8 FI) := lay_all (by rw [List.length_replicate, lI]) (by omega)
 have nI : (Cont.flat .u8 FI).len = 32 := lI
 have cI : (Cont.flat .u8 FI).cut 0 32 = some (.flat .u8 FI) := cut_all lI
 have dI : (Cont.flat .u8 FI).cut 0 (32 * 1) = some (.flat .u8 FI) := cut_all lI
 have zD : layOne (.flat .u8 (List.replicate 32 0)) 0 (.flat .u8 D) = some (.flat .u8 D) := lay_all (by rw [List.length_replicate, lD]) (by omega)
 have nD : (Cont.flat .u8 D).len = 32 := lD
 have cD0 : (Cont.flat .u8 D).cut 0 32 = some (.flat .u8 D) := cut_all lD
 have dD : (Cont.flat .u8 D).cut 0 (32 * 1) = some (.flat .u8 D) := cut_all lD
 have zE : layOne (.flat .u8 (List.replicate 32 0)) 0 (.flat .u8 E) = some (.flat .u8 E) := lay_all (by rw [List.length_replicate, lE]) (by omega)
 have nE : (Cont.flat .u8 E).len = 32 := lE
 have cE : (Cont.flat .u8 E).cut 0 32 = some (.flat .u8 E) := cut_all lE
 have dE : (Cont.flat .u8 E).cut 0 (32 * 1) = some (.flat .u8 E) := cut_all lE
 have zK : layOne (.flat .u8 (List.replicate 32 0)) 0 (.flat .u8 K) = some (.flat .u8 K) := lay_all (by rw [List.length_replicate, lK]) (by omega)
 have nK : (Cont.flat .u8 K).len = 32 := lK
 have cK : (Cont.flat .u8 K).cut 0 32 = some (.flat .u8 K) := cut_all lK
 have dK : (Cont.flat .u8 K).cut 0 (32 * 1) = some (.flat .u8 K) := cut_all lK
 have zV : layOne (.flat .u64 (List.replicate 16 0)) 0 (.flat .u64 V) = some (.flat .u64 V) := lay_all (by rw [List.length_replicate, lV]) (by omega)
 have nV : (Cont.flat .u64 V).len = 16 := lV
 have cV : (Cont.flat .u64 V).cut 0 16 = some (.flat .u64 V) := cut_all lV
 have lIP : (FI ++ P).length = 32 + 32 := by rw [List.length_append, lI, lP]
 have lIg : (FI ++ P ++ g).length = 32 + 32 + m := by rw [List.length_append, lIP, lg]
 have dg : (Cont.flat .u8 (FI ++ P ++ g)).cut 0 ((32 + 32 + m) * 1) = some (.flat .u8 (FI ++ P ++ g)) := cut_all (by omega)
 have dh : (Cont.flat .u8 h).cut 0 (64 * 1) = some (.flat .u8 h) := cut_all (by omega)
 rw [← heq]
 cases sm <;> cases ok <;> cases bq
 all_goals
  ((conv => whnf); repeat ((first | refine ⟨_, expo_sl rfl dg, ?_⟩ | refine ⟨_, expo_sl rfl dh, ?_⟩ | refine ⟨_, s1, ?_⟩ | refine ⟨_, s2, ?_⟩ | refine ⟨_, append_nil (cnt := 32) rfl rfl ((rfl : shown _ 1 (.im 1 32 _ (.flat .u8 FI)) = some (.flat .u8 FI, 32))) rfl rfl rfl (by decide) (by decide), ?_⟩ | refine ⟨_, conv32e rfl lE hEb, ?_⟩ | refine ⟨_, conv_im rfl rfl rfl lI hIb, ?_⟩ | refine ⟨_, str_eql hEb hIb, ?_⟩ | refine ⟨_, append_grow (cnt := 32) rfl rfl ((rfl : shown _ 1 (.im 1 32 cp (.flat .u8 P)) = some (.flat .u8 P, 32))) rfl rfl lI rfl (by omega) (by omega), ?_⟩ | refine ⟨_, append_grow (cnt := m) rfl rfl ((rfl : shown _ 1 (.im 1 m cm (.flat .u8 g)) = some (.flat .u8 g, m))) rfl rfl lIP rfl (by omega) (by omega), ?_⟩ | refine ⟨_, cP, ?_⟩ | refine ⟨_, cD0, ?_⟩ | refine ⟨_, zD, ?_⟩ | refine ⟨_, zE, ?_⟩ | refine ⟨_, cK, ?_⟩ | refine ⟨_, zK, ?_⟩ | refine ⟨_, cV, ?_⟩ | refine ⟨_, zV, ?_⟩ | refine ⟨nD, ?_⟩ | refine ⟨nE, ?_⟩ | refine ⟨nK, ?_⟩ | refine ⟨nV, ?_⟩ | ((with_reducible refine isN_EE4 17 ?_); first | refine ⟨_, f3, ?_⟩) | ((with_reducible refine isN_EE4 41 ?_); first | refine ⟨_, f2, ?_⟩) | ((with_reducible refine isN_EE4 63 ?_); first | refine ⟨_, f4, ?_⟩) | ((with_reducible refine isN_EE4 64 ?_); first | refine ⟨_, f5, ?_⟩) | ((with_reducible refine isN_EE4 62 ?_); first | refine ⟨_, f6, ?_⟩) | ((with_reducible refine isN_EE4 32 ?_); first | refine ⟨_, f8 _, ?_⟩) | ((with_reducible refine isN_EE4 57 ?_); first | refine ⟨_, f9 _, ?_⟩) | ((with_reducible refine isN_EE4 53 ?_); first | refine ⟨_, g0, ?_⟩) | ((with_reducible refine isN_EE4 48 ?_); first | refine ⟨_, g1, ?_⟩ | refine ⟨_, g3, ?_⟩) | ((with_reducible refine isN_EE4 65 ?_); first | refine ⟨_, g2, ?_⟩) | ((with_reducible refine isN_EE4 44 ?_); first | refine ⟨_, g6, ?_⟩) | ((with_reducible refine isN_EE4 43 ?_); first | refine ⟨_, g4, ?_⟩) | ((with_reducible refine isN_EE4 42 ?_); first | refine ⟨_, g5, ?_⟩) | refine ⟨_, rfl, ?_⟩ | refine ⟨by decide, ?_⟩ | refine ⟨rfl, ?_⟩ | refine ⟨fun _ => ?_, fun h => absurd h (by decide)⟩ | refine ⟨fun h => absurd h (by decide), fun _ => ?_⟩); conv => whnf))
  rfl
theorem beq_symm' (a b : List Int) : (a == b) = (b == a) := by
 rw [Bool.eq_iff_iff, beq_iff_eq, beq_iff_eq]
 exact eq_comm
set_option maxRecDepth 100000 in
set_option maxHeartbeats 8000000 in
theorem rVerify_call {n m k : Nat} {cp cm cs : Option Nat} {P g G : List Int} (hP : P.length = n) (hPb : By P) (hg : g.length = m) (hgb : By g) (hm : m ≤ 100000) (hG : G.length = k) (hGb : By G) : CallOk Tryz.prog 30 [.im 1 n cp (.flat .u8 P), .im 1 m cm (.flat .u8 g), .im 1 k cs (.flat .u8 G)] (ret1 (.v (.bool (verF n k P g G)))) := by
 unfold verF
 by_cases h : n = 32
 ·subst h
  by_cases h' : k = 64
  ·subst h'
   rw [decide_eq_true rfl, decide_eq_true rfl, Bool.true_and, Bool.true_and]
   have hF : isF P = true := isF_of hP hPb
   have ht : isF (G.take 32) = true := isF_of (by rw [List.length_take]; omega) (by_take hGb 32)
   have hd : isF (G.drop 32) = true := isF_of (by rw [List.length_drop]; omega) (by_drop hGb 32)
   have lt := isF_len ht
   have ld := isF_len hd
   have f2 := e4_Read (nb32_lt hF)
   have f3 := e4_Small (nb32_lt hF)
   rw [F, ← isF_eq hF] at f2 f3
   have f4 := e4_Load (nb32_lt hd)
   have g1 := e4_Times (p := rdP baseN) (nb32_lt hd) (rdP_lt _)
   rw [F, ← isF_eq hd] at f4 g1
   have l2 : (G.take 32 ++ P ++ g).length = 32 + 32 + m := by rw [List.length_append, List.length_append, lt, hP, hg]
   have hv : verB P g G = (!smaN (nb P) && (rdOk (nb P) && decide (nb (G.drop 32) < qQ) && (by32 (wrN (sumN dN (timN dN (nb (G.drop 32)) (rdP baseN) 256) (timN dN (kNum (G.take 32) P g) (oppN (rdP (nb P))) 256))) == G.take 32))) := by
    unfold verB
    rw [sma_same (nb32_lt hF), beq_symm' (G.take 32)]
    rcases ho : rdOk (nb P) with _ | _
    ·rw [Bool.false_and, Bool.false_and, Bool.false_and, Bool.false_and, Bool.false_and, Bool.and_false]
    ·obtain ⟨Q, hQ, _⟩ := rd_enc (nb32_lt hF) ho
     have e1 := wr_enc (For_padd (For_pmul (k := nb (G.drop 32)) (nb32_lt hd) base_For) (For_pmul (k := kNum (G.take 32) P g) (modq_lt _) (For_opp hQ)))
     have e2 := wr_enc (For_sum (For_tim (k := nb (G.drop 32)) (nb32_lt hd) base_For) (For_tim (k := kNum (G.take 32) P g) (modq_lt _) (For_opp hQ)))
     rw [e1, e2]
     generalize psmN (rdP (nb P)) = x
     generalize (by32 _ == G.take 32) = y
     generalize decide (nb (G.drop 32) < qQ) = z
     cases x <;> cases y <;> cases z <;> rfl
   rw [hv]
   refine CallOk.cap 2 rfl fun hcs => ?_
   exact execF_ok follows_ok EE4_ok Tryz.func30 (rVerify_gen m cp cm cs P g G (G.drop 32) _ (G.take 32) _ _ _ _ _ _ _ _ _ _ _ _ _ _ _ hm hg hP hG (w4_len _) lt ld (byk_len _ _) (byk_len _ _) (sh_len _) hcs rfl rfl rfl (byk_by _ _) (isF_By ht) f2 f3 f4 e4_Q (e4_Below (nb32_lt hd) qQ_lt)
    (fun _ => e4_Sha l2 (((isF_By ht).append hPb).append hgb) (by omega)) (fun _ => e4_Wide (sh_len _) (sh_by _) (by decide)) e4_BaseP g1 (e4_Opp (rdP_lt _)) (e4_Times (modq_lt _) (oppN_lt (rdP_lt _))) e4_D (e4_Sum (timN_lt _ _ _ _) (timN_lt _ _ _ _) dN_lt) (e4_Write (sumN_lt _ _ _)))
  ·rw [decide_eq_true rfl, decide_eq_false h', Bool.true_and, Bool.false_and]
   have q : (!((k : Int) == 64)) = true := by
    rw [Bool.not_eq_true', beq_eq_false_iff_ne]
    omega
   refine execF_ok follows_ok EE4_ok Tryz.func30 ?_
   ((conv => whnf); repeat ((first | refine ⟨fun _ => ?_, fun h => absurd ((q).symm.trans h) (by decide)⟩ | refine ⟨fun h => absurd ((q).symm.trans h) (by decide), fun _ => ?_⟩ | refine ⟨_, rfl, ?_⟩ | refine ⟨rfl, ?_⟩ | refine ⟨fun _ => ?_, fun h => absurd h (by decide)⟩ | refine ⟨fun h => absurd h (by decide), fun _ => ?_⟩); conv => whnf))
   rfl
 ·rw [decide_eq_false h, Bool.false_and, Bool.false_and]
  have q : (!((n : Int) == 32)) = true := by
   rw [Bool.not_eq_true', beq_eq_false_iff_ne]
   omega
  refine execF_ok follows_ok EE4_ok Tryz.func30 ?_
  ((conv => whnf); repeat ((first | refine ⟨fun _ => ?_, fun h => absurd ((q).symm.trans h) (by decide)⟩ | refine ⟨fun h => absurd ((q).symm.trans h) (by decide), fun _ => ?_⟩ | refine ⟨_, rfl, ?_⟩ | refine ⟨rfl, ?_⟩ | refine ⟨fun _ => ?_, fun h => absurd h (by decide)⟩ | refine ⟨fun h => absurd h (by decide), fun _ => ?_⟩); conv => whnf))
  rfl
end Go.Proofs.YtdeigmjbcbjgeaaGreatDoor
