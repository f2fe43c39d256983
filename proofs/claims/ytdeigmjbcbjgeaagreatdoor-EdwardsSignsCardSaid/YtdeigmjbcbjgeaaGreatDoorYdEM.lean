/-
  Layer 10: the program's Public, Sign, Verify.
-/
import Derived.Test.YtdeigmjbcbjgeaaGreatDoorYdLst
import Derived.Test.YtdeigmjbcbjgeaaGreatDoorYdEL
namespace Go.Proofs.YtdeigmjbcbjgeaaGreatDoor
open Go.RowKit

theorem enc_base : encP Bp = baseN := by kernel_rfl
theorem base_For : (toE (rdP baseN)).For Bp := by
  have h := rd_For Bp
  rwa [enc_base] at h
/-- The encoding of k times the base point. -/
def mulB (k : Nat) : Nat := wrN (timN dN k (rdP baseN) 256)
theorem mulB_enc {k : Nat} (hk : k < 2 ^ 256) : mulB k = encP (Pt.mul k Bp) := wr_enc (For_tim hk base_For)
theorem pmulB {k : Nat} (hk : k < 2 ^ 256) : wrN (pmulN k (rdP baseN) 256) = mulB k := (wr_enc (For_pmul hk base_For)).trans (mulB_enc hk).symm
theorem tmulB {k : Nat} (_ : k < 2 ^ 256) : wrN (timN dN k (rdP baseN) 256) = mulB k := rfl
def rNum (s m : List Int) : Nat := nb (sha512 (secP s ++ m)) % qQ
def kNum (r a m : List Int) : Nat := nb (sha512 (r ++ a ++ m)) % qQ
def pubL (s : List Int) : List Int := by32 (mulB (secN s))
def fstL (s m : List Int) : List Int := by32 (mulB (rNum s m))
def sndL (s m : List Int) : List Int := by32 ((kNum (fstL s m) (pubL s) m * secN s + rNum s m) % qQ)
def sigL (s m : List Int) : List Int := fstL s m ++ sndL s m
theorem qQ_lt : qQ < 2 ^ 256 := by decide
theorem modq_lt (n : Nat) : n % qQ < 2 ^ 256 := Nat.lt_trans (Nat.mod_lt _ qQ_pos) qQ_lt
theorem pubL_len (s : List Int) : (pubL s).length = 32 := byk_len _ _
theorem fstL_len (s m : List Int) : (fstL s m).length = 32 := byk_len _ _
theorem sndL_len (s m : List Int) : (sndL s m).length = 32 := byk_len _ _
theorem sigL_len (s m : List Int) : (sigL s m).length = 64 := by rw [sigL, List.length_append, fstL_len, sndL_len]
theorem secP_by (s : List Int) : By (secP s) := by_drop (sh_by s) 32
set_option maxRecDepth 100000 in
theorem p6_mul {k : Nat} {p : Pn} (hk : k < 2 ^ 256) (hp : p.lt) : PE6.orc 49 [F k, Q4 p] = some (ret1 (Q4 (pmulN k p 256))) := (show PE6.orc 49 [F k, Q4 p] = PE3.orc 49 [F k, Q4 p] from rfl).trans (p_eMul hk hp)
theorem p6_enc {p : Pn} (hp : p.lt) : PE6.orc 39 [Q4 p] = some (ret1 (F (wrN p))) := (show PE6.orc 39 [Q4 p] = PE3.orc 39 [Q4 p] from rfl).trans (p_eEncode hp)
theorem p6_base : PE6.orc 51 [] = some (ret1 (Q4 (rdP baseN))) := rfl
theorem p6_secret {n : Nat} {c : Option Nat} {s : List Int} (h : s.length = n) (hb : By s) (hn : n ≤ 1000000) : PE6.orc 50 [.im 1 n c (.flat .u8 s)] = some (.many [.val (F (secN s)), .val (.im 1 32 none (.flat .u8 (secP s)))]) := if_pos ⟨h, hb.ok, hn⟩
set_option maxRecDepth 100000 in
theorem p6_MulAdd {a b c : Nat} (ha : a < 2 ^ 256) (hb : b < 2 ^ 256) (hc : c < 2 ^ 256) : PE6.orc 55 [F a, F b, F c] = some (ret1 (F ((a * b + c) % qQ))) := (if_pos ⟨isF_by _, isF_by _, isF_by _⟩).trans (by rw [nb_by32 ha, nb_by32 hb, nb_by32 hc])
theorem p6_hash2 {n1 n2 : Nat} {c c1 c2 : Option Nat} {l1 l2 : List Int} (h1 : l1.length = n1) (h2 : l2.length = n2) (b1 : By l1) (b2 : By l2) (m1 : n1 ≤ 100000) (m2 : n2 ≤ 100000) : PE6.orc 54 [.im 1 2 c (.gen [.im 1 n1 c1 (.flat .u8 l1), .im 1 n2 c2 (.flat .u8 l2)])] = some (ret1 (F (nb (sha512 (l1 ++ l2)) % qQ))) := if_pos ⟨h1, h2, b1.ok, b2.ok, m1, m2⟩
theorem p6_hash3 {n1 n2 n3 : Nat} {c c1 c2 c3 : Option Nat} {l1 l2 l3 : List Int} (h1 : l1.length = n1) (h2 : l2.length = n2) (h3 : l3.length = n3) (b1 : By l1) (b2 : By l2) (b3 : By l3) (m1 : n1 ≤ 100000) (m2 : n2 ≤ 100000) (m3 : n3 ≤ 100000) : PE6.orc 54 [.im 1 3 c (.gen [.im 1 n1 c1 (.flat .u8 l1), .im 1 n2 c2 (.flat .u8 l2), .im 1 n3 c3 (.flat .u8 l3)])] = some (ret1 (F (nb (sha512 (l1 ++ l2 ++ l3)) % qQ))) := if_pos ⟨h1, h2, h3, b1.ok, b2.ok, b3.ok, m1, m2, m3⟩
theorem p6_Cat2 (n1 n2 : Nat) (c c1 c2 : Option Nat) (l1 l2 : List Int) (h1 : l1.length = n1) (h2 : l2.length = n2) (m1 : n1 ≤ 100000) (m2 : n2 ≤ 100000) : PE6.orc 56 [.im 1 2 c (.gen [.im 1 n1 c1 (.flat .u8 l1), .im 1 n2 c2 (.flat .u8 l2)])] = some (LRes.one (.own 1 (n1 + n2) 5 (.flat .u8 (l1 ++ l2)))) := if_pos ⟨h1, h2, m1, m2⟩
set_option maxRecDepth 100000 in
set_option maxHeartbeats 8000000 in
theorem Public_gen (c : Option Nat) (s S B M E p : List Int) (lS : S.length = 32) (lE : E.length = 32)
    (f1 : ∀ c, PE6.orc 50 [.im 1 32 c (.flat .u8 s)] = some (.many [.val (.agg (.flat .u8 S)), .val (.im 1 32 none (.flat .u8 p))])) (f2 : PE6.orc 51 [] = some (ret1 (.agg (.flat .u8 B)))) (f3 : PE6.orc 49 [.agg (.flat .u8 S), .agg (.flat .u8 B)] = some (ret1 (.agg (.flat .u8 M)))) (f4 : PE6.orc 39 [.agg (.flat .u8 M)] = some (ret1 (.agg (.flat .u8 E)))) :
    execF PE6 Tryz.f24 [.im 1 32 c (.flat .u8 s)] (.many [.own 1 32 23 (.flat .u8 E), .val (iv .i64 0)]) := by
  have zS : layOne (.flat .u8 (List.replicate 32 0)) 0 (.flat .u8 S) = some (.flat .u8 S) := lay_all (by rw [List.length_replicate, lS]) (by omega)
  have nS : (Cont.flat .u8 S).len = 32 := lS
  have cS : (Cont.flat .u8 S).cut 0 32 = some (.flat .u8 S) := cut_all lS
  have dS : (Cont.flat .u8 S).cut 0 (32 * 1) = some (.flat .u8 S) := cut_all lS
  have zE : layOne (.flat .u8 (List.replicate 32 0)) 0 (.flat .u8 E) = some (.flat .u8 E) := lay_all (by rw [List.length_replicate, lE]) (by omega)
  have nE : (Cont.flat .u8 E).len = 32 := lE
  have cE : (Cont.flat .u8 E).cut 0 32 = some (.flat .u8 E) := cut_all lE
  have dE : (Cont.flat .u8 E).cut 0 (32 * 1) = some (.flat .u8 E) := cut_all lE
  ((conv => whnf); repeat ((first | refine ⟨_, resSlot_all rfl lE (by decide), ?_⟩ | refine ⟨_, cS, ?_⟩ | refine ⟨_, zS, ?_⟩ | refine ⟨_, zE, ?_⟩ | refine ⟨nS, ?_⟩ | refine ⟨nE, ?_⟩ | ((with_reducible refine isN_PE6 50 ?_); first | refine ⟨_, f1 _, ?_⟩) | ((with_reducible refine isN_PE6 51 ?_); first | refine ⟨_, f2, ?_⟩) | ((with_reducible refine isN_PE6 49 ?_); first | refine ⟨_, f3, ?_⟩) | ((with_reducible refine isN_PE6 39 ?_); first | refine ⟨_, f4, ?_⟩) | refine ⟨_, rfl, ?_⟩ | refine ⟨by decide, ?_⟩ | refine ⟨rfl, ?_⟩ | refine ⟨fun h => absurd h (by decide), fun _ => ?_⟩ | refine ⟨apart_uv _ _ _, ?_⟩); conv => whnf))
  rfl
def ePubR (n : Nat) (s : List Int) : LRes := if n = 32 then .many [.own 1 32 23 (.flat .u8 (pubL s)), .val (iv .i64 0)] else .many [.val nilV, .val (iv .i64 1)]
set_option maxRecDepth 100000 in
set_option maxHeartbeats 8000000 in
theorem Public_call {n : Nat} {c : Option Nat} {s : List Int} (hs : s.length = n) (hb : By s) : CallOk Tryz.prog 24 [.im 1 n c (.flat .u8 s)] (ePubR n s) := by
  unfold ePubR
  by_cases h : n = 32
  · subst h
    rw [if_pos rfl, pubL, ← pmulB (secN_lt s)]
    exact execF_ok follows_ok PE6_ok Tryz.func24 (Public_gen c s _ _ _ _ _ (byk_len _ _) (byk_len _ _) (fun _ => p6_secret hs hb (by decide)) p6_base (p6_mul (secN_lt s) (rdP_lt _)) (p6_enc (pmulN_lt _ _ _)))
  · rw [if_neg h]
    have q : (!((n : Int) == 32)) = true := by
      rw [Bool.not_eq_true', beq_eq_false_iff_ne]
      omega
    refine execF_ok follows_ok PE6_ok Tryz.func24 ?_
    ((conv => whnf); repeat ((first | refine ⟨fun _ => ?_, fun h => absurd ((q).symm.trans h) (by decide)⟩ | refine ⟨fun h => absurd ((q).symm.trans h) (by decide), fun _ => ?_⟩ | refine ⟨_, rfl, ?_⟩ | refine ⟨rfl, ?_⟩); conv => whnf))
    rfl
set_option maxRecDepth 100000 in
set_option maxHeartbeats 8000000 in
theorem Sign_gen (m : Nat) (c cm : Option Nat) (s g S B M1 EA M2 EF p r K T V : List Int) (lS : S.length = 32) (lA : EA.length = 32) (lF : EF.length = 32) (lr : r.length = 32) (lT : T.length = 32) (lV : V.length = 64)
    (f1 : ∀ c, PE6.orc 50 [.im 1 32 c (.flat .u8 s)] = some (.many [.val (.agg (.flat .u8 S)), .val (.im 1 32 none (.flat .u8 p))])) (f2 : ∀ c c1, PE6.orc 54 [.im 1 2 c (.gen [.im 1 32 c1 (.flat .u8 p), .im 1 m cm (.flat .u8 g)])] = some (ret1 (.agg (.flat .u8 r))))
    (f3 : PE6.orc 51 [] = some (ret1 (.agg (.flat .u8 B)))) (f4 : PE6.orc 49 [.agg (.flat .u8 S), .agg (.flat .u8 B)] = some (ret1 (.agg (.flat .u8 M1)))) (f5 : PE6.orc 39 [.agg (.flat .u8 M1)] = some (ret1 (.agg (.flat .u8 EA)))) (f6 : PE6.orc 49 [.agg (.flat .u8 r), .agg (.flat .u8 B)] = some (ret1 (.agg (.flat .u8 M2)))) (f7 : PE6.orc 39 [.agg (.flat .u8 M2)] = some (ret1 (.agg (.flat .u8 EF))))
    (f8 : ∀ c c1 c2, PE6.orc 54 [.im 1 3 c (.gen [.im 1 32 c1 (.flat .u8 EF), .im 1 32 c2 (.flat .u8 EA), .im 1 m cm (.flat .u8 g)])] = some (ret1 (.agg (.flat .u8 K)))) (f9 : PE6.orc 55 [.agg (.flat .u8 K), .agg (.flat .u8 S), .agg (.flat .u8 r)] = some (ret1 (.agg (.flat .u8 T))))
    (f0 : ∀ c c1 c2, PE6.orc 56 [.im 1 2 c (.gen [.im 1 32 c1 (.flat .u8 EF), .im 1 32 c2 (.flat .u8 T)])] = some (LRes.one (.own 1 64 5 (.flat .u8 V)))) :
    execF PE6 Tryz.f26 [.im 1 32 c (.flat .u8 s), .im 1 m cm (.flat .u8 g)] (.many [.own 1 64 5 (.flat .u8 V), .val (iv .i64 0)]) := by
  have zS : layOne (.flat .u8 (List.replicate 32 0)) 0 (.flat .u8 S) = some (.flat .u8 S) := lay_all (by rw [List.length_replicate, lS]) (by omega)
  have nS : (Cont.flat .u8 S).len = 32 := lS
  have cS : (Cont.flat .u8 S).cut 0 32 = some (.flat .u8 S) := cut_all lS
  have dS : (Cont.flat .u8 S).cut 0 (32 * 1) = some (.flat .u8 S) := cut_all lS
  have zA : layOne (.flat .u8 (List.replicate 32 0)) 0 (.flat .u8 EA) = some (.flat .u8 EA) := lay_all (by rw [List.length_replicate, lA]) (by omega)
  have nA : (Cont.flat .u8 EA).len = 32 := lA
  have cA : (Cont.flat .u8 EA).cut 0 32 = some (.flat .u8 EA) := cut_all lA
  have dA : (Cont.flat .u8 EA).cut 0 (32 * 1) = some (.flat .u8 EA) := cut_all lA
  have zF : layOne (.flat .u8 (List.replicate 32 0)) 0 (.flat .u8 EF) = some (.flat .u8 EF) := lay_all (by rw [List.length_replicate, lF]) (by omega)
  have nF : (Cont.flat .u8 EF).len = 32 := lF
  have cF : (Cont.flat .u8 EF).cut 0 32 = some (.flat .u8 EF) := cut_all lF
  have dF : (Cont.flat .u8 EF).cut 0 (32 * 1) = some (.flat .u8 EF) := cut_all lF
  have zr : layOne (.flat .u8 (List.replicate 32 0)) 0 (.flat .u8 r) = some (.flat .u8 r) := lay_all (by rw [List.length_replicate, lr]) (by omega)
  have nr : (Cont.flat .u8 r).len = 32 := lr
  have cr : (Cont.flat .u8 r).cut 0 32 = some (.flat .u8 r) := cut_all lr
  have dr : (Cont.flat .u8 r).cut 0 (32 * 1) = some (.flat .u8 r) := cut_all lr
  have zT : layOne (.flat .u8 (List.replicate 32 0)) 0 (.flat .u8 T) = some (.flat .u8 T) := lay_all (by rw [List.length_replicate, lT]) (by omega)
  have nT : (Cont.flat .u8 T).len = 32 := lT
  have cT : (Cont.flat .u8 T).cut 0 32 = some (.flat .u8 T) := cut_all lT
  have dT : (Cont.flat .u8 T).cut 0 (32 * 1) = some (.flat .u8 T) := cut_all lT
  have dV : (Cont.flat .u8 V).cut 0 (64 * 1) = some (.flat .u8 V) := cut_all lV
  have tV : V.take (64 * 1) = V := List.take_of_length_le (by omega)
  ((conv => whnf); repeat ((first | refine ⟨_, expo_g rfl rfl (om3 (expo_sl rfl dF) (expo_sl rfl dA) rfl), ?_⟩ | refine ⟨_, expo_g rfl rfl (om2 (expo_sl rfl dF) (expo_sl rfl dT)), ?_⟩ | refine ⟨_, cS, ?_⟩ | refine ⟨_, zS, ?_⟩ | refine ⟨_, zA, ?_⟩ | refine ⟨_, zF, ?_⟩ | refine ⟨_, cr, ?_⟩ | refine ⟨_, zr, ?_⟩ | refine ⟨_, zT, ?_⟩ | refine ⟨nS, ?_⟩ | refine ⟨nA, ?_⟩ | refine ⟨nF, ?_⟩ | refine ⟨nr, ?_⟩ | refine ⟨nT, ?_⟩ | ((with_reducible refine isN_PE6 50 ?_); first | refine ⟨_, f1 _, ?_⟩) | ((with_reducible refine isN_PE6 54 ?_); first | refine ⟨_, f2 _ _, ?_⟩ | refine ⟨_, f8 _ _ _, ?_⟩) | ((with_reducible refine isN_PE6 51 ?_); first | refine ⟨_, f3, ?_⟩) | ((with_reducible refine isN_PE6 49 ?_); first | refine ⟨_, f4, ?_⟩ | refine ⟨_, f6, ?_⟩) | ((with_reducible refine isN_PE6 39 ?_); first | refine ⟨_, f5, ?_⟩ | refine ⟨_, f7, ?_⟩) | ((with_reducible refine isN_PE6 55 ?_); first | refine ⟨_, f9, ?_⟩) | ((with_reducible refine isN_PE6 56 ?_); first | refine ⟨_, f0 _ _ _, ?_⟩) | refine ⟨_, rfl, ?_⟩ | refine ⟨by decide, ?_⟩ | refine ⟨rfl, ?_⟩ | refine ⟨fun h => absurd h (by decide), fun _ => ?_⟩ | refine ⟨apart_uv _ _ _, ?_⟩ | refine ⟨_, resSlot_own rfl (by omega) (by first | exact .inl rfl | exact .inr ⟨rfl, rfl⟩), ?_⟩); conv => whnf))
  rw [tV]
  rfl
def signR (n : Nat) (s g : List Int) : LRes := if n = 32 then .many [.own 1 64 5 (.flat .u8 (sigL s g)), .val (iv .i64 0)] else .many [.val nilV, .val (iv .i64 1)]
set_option maxRecDepth 100000 in
set_option maxHeartbeats 8000000 in
theorem Sign_call {n m : Nat} {c cm : Option Nat} {s g : List Int} (hs : s.length = n) (hb : By s) (hg : g.length = m) (hgb : By g) (hm : m ≤ 100000) : CallOk Tryz.prog 26 [.im 1 n c (.flat .u8 s), .im 1 m cm (.flat .u8 g)] (signR n s g) := by
  unfold signR
  by_cases h : n = 32
  · subst h
    rw [if_pos rfl]
    have f5 := p6_enc (pmulN_lt (secN s) (rdP baseN) 256)
    have f7 := p6_enc (pmulN_lt (rNum s g) (rdP baseN) 256)
    rw [pmulB (secN_lt s)] at f5
    rw [pmulB (show rNum s g < 2 ^ 256 from modq_lt _)] at f7
    have f8 := fun (c c1 c2 : Option Nat) => p6_hash3 (c := c) (c1 := c1) (c2 := c2) (c3 := cm) (fstL_len s g) (pubL_len s) hg (byk_by _ _) (byk_by _ _) hgb (by decide) (by decide) hm
    exact execF_ok follows_ok PE6_ok Tryz.func26 (Sign_gen m c cm s g _ _ _ _ _ _ _ _ _ _ _ (byk_len _ _) (byk_len _ _) (byk_len _ _) (byk_len _ _) (byk_len _ _) (sigL_len s g) (fun _ => p6_secret hs hb (by decide)) (fun _ _ => p6_hash2 (secP_len s) hg (secP_by s) hgb (by decide) hm)
      p6_base (p6_mul (secN_lt s) (rdP_lt _)) f5 (p6_mul (modq_lt _) (rdP_lt _)) f7 f8 (p6_MulAdd (modq_lt _) (secN_lt s) (modq_lt _)) (fun c c1 c2 => p6_Cat2 32 32 c c1 c2 (fstL s g) (sndL s g) (fstL_len s g) (sndL_len s g) (by decide) (by decide)))
  · rw [if_neg h]
    have q : (!((n : Int) == 32)) = true := by
      rw [Bool.not_eq_true', beq_eq_false_iff_ne]
      omega
    refine execF_ok follows_ok PE6_ok Tryz.func26 ?_
    ((conv => whnf); repeat ((first | refine ⟨fun _ => ?_, fun h => absurd ((q).symm.trans h) (by decide)⟩ | refine ⟨fun h => absurd ((q).symm.trans h) (by decide), fun _ => ?_⟩ | refine ⟨_, rfl, ?_⟩ | refine ⟨rfl, ?_⟩); conv => whnf))
    rfl
end Go.Proofs.YtdeigmjbcbjgeaaGreatDoor
/-
  Layer 10: the answer's secret, Public, Sign, Verify.
-/
namespace Go.Proofs.YtdeigmjbcbjgeaaGreatDoor
open Go.RowKit

theorem rSecret_call {n : Nat} {c : Option Nat} {s : List Int} (hs : s.length = n) (hb : By s) (hn : n ≤ 1000000000) : CallOk Tryz.prog 52 [.im 1 n c (.flat .u8 s)] (.many [.val (F (secN s)), .val (.im 1 32 none (.flat .u8 (secP s)))]) := by
  have hc := e3_Clamp (nb32_lt (isF_take s))
  rw [F, ← isF_eq (isF_take s)] at hc
  exact execF_ok follows_ok EE3_ok Tryz.func52 (secret_gen n c s (sha512 s) ((sha512 s).take 32) _ _ (sh_len s) (by rw [List.length_take, sh_len]; decide) (byk_len _ _) rfl rfl (secP_len s) (e3_Sha hs hb hn) hc)
theorem rOpp_row {a : List Int} (hc : isP a = true ∧ (pnOf a).ok = true) : CallOk Tryz.prog 65 [.agg (.flat .u64 a)] (ret1 (P4 (oppN (pnOf a)))) := by
  have h := rOpp_call (pnOf a) (Pn.ok_iff.1 hc.2)
  rwa [P4, ← isP_eq hc.1] at h
def orcE4 (f : Nat) (ds : List LV) : Option LRes :=
  match f with
  | 52 => match ds with
    | [.im 1 n _ (.flat .u8 s)] => if s.length = n ∧ byteOk s = true ∧ n ≤ 1000000000 then some (.many [.val (F (secN s)), .val (.im 1 32 none (.flat .u8 (secP s)))]) else none
    | _ => none
  | 65 => match ds with
    | [.agg (.flat .u64 a)] => if isP a = true ∧ (pnOf a).ok = true then some (ret1 (P4 (oppN (pnOf a)))) else none
    | _ => none
  | _ => orcE3 f ds
theorem orcE4_ok : Known Tryz.prog orcE4 := by
  intro f ds r h
  unfold orcE4 at h
  split at h
  · split at h
    · split at h
      · rename_i hc
        cases h
        exact .inl ⟨⟨_, Tryz.func52, name_ne _ (by kernel_rfl), rfl⟩, rSecret_call hc.1 (byteAll hc.2.1) hc.2.2⟩
      · cases h
    · cases h
  · split at h
    · split at h
      · rename_i hc
        cases h
        exact .inl ⟨⟨_, Tryz.func65, name_ne _ (by kernel_rfl), rfl⟩, rOpp_row hc⟩
      · cases h
    · cases h
  · exact orcE3_ok f ds r h
def EE4 : Env := ⟨tyL, orcE4, false, noWk, noOrw⟩
theorem EE4_ok : EnvOk Tryz.prog EE4 := ⟨tyL_ok, orcE4_ok, noOrw_ok⟩
theorem isN_EE4 (f : Nat) {ds : List LV} {K : LRes → Prop} (h : ∃ y, EE4.orc f ds = some y ∧ K y) : ∃ y, EE4.orc f ds = some y ∧ K y := h
theorem e4_secret {n : Nat} {c : Option Nat} {s : List Int} (h : s.length = n) (hb : By s) (hn : n ≤ 1000000000) : EE4.orc 52 [.im 1 n c (.flat .u8 s)] = some (.many [.val (F (secN s)), .val (.im 1 32 none (.flat .u8 (secP s)))]) := if_pos ⟨h, hb.ok, hn⟩
theorem e4_Sha {n : Nat} {c : Option Nat} {l : List Int} (hn : l.length = n) (hb : By l) (hl : n ≤ 1000000000) : EE4.orc 32 [.im 1 n c (.flat .u8 l)] = some (.one (.own 1 64 5 (.flat .u8 (sha512 l)))) := if_pos ⟨hn, hb.ok, hl⟩
theorem e4_Wide {n : Nat} {c : Option Nat} {b : List Int} (h : b.length = n) (hb : By b) (hn : n ≤ 64) : EE4.orc 57 [.im 1 n c (.flat .u8 b)] = some (.many [.val (F (nb b % qQ)), .val (iv .i64 0)]) := (if_pos ⟨h, hb.ok⟩).trans (by rw [wideR, if_neg (by omega)])
theorem e4_MulAdd {a b c : Nat} (ha : a < 2 ^ 256) (hb : b < 2 ^ 256) (hc : c < 2 ^ 256) : EE4.orc 58 [F a, F b, F c] = some (ret1 (F ((a * b + c) % qQ))) := (show EE4.orc 58 [F a, F b, F c] = EE3.orc 58 [F a, F b, F c] from rfl).trans (o_rMulAdd ha hb hc)
theorem e4_BaseP : EE4.orc 53 [] = some (ret1 (P4 (rdP baseN))) := rfl
theorem e4_Write {p : Pn} (hp : p.lt) : EE4.orc 42 [P4 p] = some (ret1 (F (wrN p))) := (show EE4.orc 42 [P4 p] = EE2.orc 42 [P4 p] from rfl).trans (e2_Write hp)
theorem e4_Times {k : Nat} {p : Pn} (hk : k < 2 ^ 256) (hp : p.lt) : EE4.orc 48 [F k, P4 p] = some (ret1 (P4 (timN dN k p 256))) := (show EE4.orc 48 [F k, P4 p] = EE2.orc 48 [F k, P4 p] from rfl).trans (e2_Times hk hp)
set_option maxRecDepth 100000 in
set_option maxHeartbeats 8000000 in
theorem r10Public_gen (c : Option Nat) (s S B M E p : List Int) (lS : S.length = 32) (lE : E.length = 32)
    (f1 : ∀ c, EE4.orc 52 [.im 1 32 c (.flat .u8 s)] = some (.many [.val (.agg (.flat .u8 S)), .val (.im 1 32 none (.flat .u8 p))])) (f2 : EE4.orc 53 [] = some (ret1 (.agg (.flat .u64 B)))) (f3 : EE4.orc 48 [.agg (.flat .u8 S), .agg (.flat .u64 B)] = some (ret1 (.agg (.flat .u64 M)))) (f4 : EE4.orc 42 [.agg (.flat .u64 M)] = some (ret1 (.agg (.flat .u8 E)))) :
    execF EE4 Tryz.f25 [.im 1 32 c (.flat .u8 s)] (.many [.own 1 32 5 (.flat .u8 E), .val (iv .i64 0)]) := by
  have zS : layOne (.flat .u8 (List.replicate 32 0)) 0 (.flat .u8 S) = some (.flat .u8 S) := lay_all (by rw [List.length_replicate, lS]) (by omega)
  have nS : (Cont.flat .u8 S).len = 32 := lS
  have cS : (Cont.flat .u8 S).cut 0 32 = some (.flat .u8 S) := cut_all lS
  have dS : (Cont.flat .u8 S).cut 0 (32 * 1) = some (.flat .u8 S) := cut_all lS
  have zE : layOne (.flat .u8 (List.replicate 32 0)) 0 (.flat .u8 E) = some (.flat .u8 E) := lay_all (by rw [List.length_replicate, lE]) (by omega)
  have nE : (Cont.flat .u8 E).len = 32 := lE
  have cE : (Cont.flat .u8 E).cut 0 32 = some (.flat .u8 E) := cut_all lE
  have dE : (Cont.flat .u8 E).cut 0 (32 * 1) = some (.flat .u8 E) := cut_all lE
  have tE : E.take (32 * 1) = E := List.take_of_length_le (by omega)
  ((conv => whnf); repeat ((first | refine ⟨_, append_nil (cnt := 32) rfl rfl (shown_sl rfl dE) rfl rfl rfl (by decide) (by decide), ?_⟩ | refine ⟨_, cS, ?_⟩ | refine ⟨_, zS, ?_⟩ | refine ⟨_, zE, ?_⟩ | refine ⟨nS, ?_⟩ | refine ⟨nE, ?_⟩ | ((with_reducible refine isN_EE4 52 ?_); first | refine ⟨_, f1 _, ?_⟩) | ((with_reducible refine isN_EE4 53 ?_); first | refine ⟨_, f2, ?_⟩) | ((with_reducible refine isN_EE4 48 ?_); first | refine ⟨_, f3, ?_⟩) | ((with_reducible refine isN_EE4 42 ?_); first | refine ⟨_, f4, ?_⟩) | refine ⟨_, rfl, ?_⟩ | refine ⟨by decide, ?_⟩ | refine ⟨rfl, ?_⟩ | refine ⟨fun h => absurd h (by decide), fun _ => ?_⟩ | refine ⟨apart_uv _ _ _, ?_⟩ | refine ⟨_, resSlot_own rfl (by omega) (by first | exact .inl rfl | exact .inr ⟨rfl, rfl⟩), ?_⟩); conv => whnf))
  rw [tE]
  rfl
def rpubR (n : Nat) (s : List Int) : LRes := if n = 32 then .many [.own 1 32 5 (.flat .u8 (pubL s)), .val (iv .i64 0)] else .many [.val nilV, .val (iv .i64 1)]
set_option maxRecDepth 100000 in
set_option maxHeartbeats 8000000 in
theorem r10Public_call {n : Nat} {c : Option Nat} {s : List Int} (hs : s.length = n) (hb : By s) : CallOk Tryz.prog 25 [.im 1 n c (.flat .u8 s)] (rpubR n s) := by
  unfold rpubR
  by_cases h : n = 32
  · subst h
    rw [if_pos rfl, pubL, ← tmulB (secN_lt s)]
    exact execF_ok follows_ok EE4_ok Tryz.func25 (r10Public_gen c s _ _ _ _ _ (byk_len _ _) (byk_len _ _) (fun _ => e4_secret hs hb (by decide)) e4_BaseP (e4_Times (secN_lt s) (rdP_lt _)) (e4_Write (timN_lt _ _ _ _)))
  · rw [if_neg h]
    have q : (!((n : Int) == 32)) = true := by
      rw [Bool.not_eq_true', beq_eq_false_iff_ne]
      omega
    refine execF_ok follows_ok EE4_ok Tryz.func25 ?_
    ((conv => whnf); repeat ((first | refine ⟨fun _ => ?_, fun h => absurd ((q).symm.trans h) (by decide)⟩ | refine ⟨fun h => absurd ((q).symm.trans h) (by decide), fun _ => ?_⟩ | refine ⟨_, rfl, ?_⟩ | refine ⟨rfl, ?_⟩); conv => whnf))
    rfl
def orcE5 (f : Nat) (ds : List LV) : Option LRes :=
  match f with
  | 25 => match ds with
    | [.im 1 n _ (.flat .u8 s)] => if s.length = n ∧ byteOk s = true then some (rpubR n s) else none
    | _ => none
  | _ => orcE4 f ds
theorem orcE5_ok : Known Tryz.prog orcE5 := by
  intro f ds r h
  unfold orcE5 at h
  split at h
  · split at h
    · split at h
      · rename_i hc
        cases h
        exact .inl ⟨⟨_, Tryz.func25, name_ne _ (by kernel_rfl), rfl⟩, r10Public_call hc.1 (byteAll hc.2)⟩
      · cases h
    · cases h
  · exact orcE4_ok f ds r h
def EE5 : Env := ⟨tyL, orcE5, false, noWk, noOrw⟩
theorem EE5_ok : EnvOk Tryz.prog EE5 := ⟨tyL_ok, orcE5_ok, noOrw_ok⟩
theorem isN_EE5 (f : Nat) {ds : List LV} {K : LRes → Prop} (h : ∃ y, EE5.orc f ds = some y ∧ K y) : ∃ y, EE5.orc f ds = some y ∧ K y := h
theorem e5_Public {n : Nat} {c : Option Nat} {s : List Int} (h : s.length = n) (hb : By s) : EE5.orc 25 [.im 1 n c (.flat .u8 s)] = some (rpubR n s) := if_pos ⟨h, hb.ok⟩
end Go.Proofs.YtdeigmjbcbjgeaaGreatDoor
