/-
  Layer 10: the program's Public, Sign, Verify.
-/
import Derived.Test.YtdeigmjbcbjgeaaDoorQLst
import Derived.Test.YtdeigmjbcbjgeaaDoorQEL
namespace Go.Proofs.YtdeigmjbcbjgeaaDoor
open Go.RowKit

theorem encP_lt (P : Pt) : encP P < 2 ^ 256 := by
  have h2 : pP < 2 ^ 255 := by decide
  have y1 := val_lt P.y
  unfold encP
  omega
theorem enc_base : encP Bp = baseN := by kernel_rfl
theorem base_For : (toE (rdP baseN)).For Bp := by
  have h := rd_For Bp
  rwa [enc_base] at h
/-- The encoding of k times the base point. -/
def mulB (k : Nat) : Nat := wrN (timN dN k (rdP baseN) 256)
theorem mulB_enc {k : Nat} (hk : k < 2 ^ 256) : mulB k = encP (Pt.mul k Bp) := wr_enc (For_tim hk base_For)
theorem pmulB {k : Nat} (hk : k < 2 ^ 256) : wrN (pmulN k (rdP baseN) 256) = mulB k := (wr_enc (For_pmul hk base_For)).trans (mulB_enc hk).symm
def rNum (s m : List Int) : Nat := nb (sha512 (secP s ++ m)) % qQ
def kNum (r a m : List Int) : Nat := nb (sha512 (r ++ a ++ m)) % qQ
def pubL (s : List Int) : List Int := by32 (mulB (secN s))
def fstL (s m : List Int) : List Int := by32 (mulB (rNum s m))
def sndL (s m : List Int) : List Int := by32 ((kNum (fstL s m) (pubL s) m * secN s + rNum s m) % qQ)
def sigL (s m : List Int) : List Int := fstL s m ++ sndL s m
theorem qQ_lt : qQ < 2 ^ 256 := by decide
theorem modq_lt (n : Nat) : n % qQ < 2 ^ 256 := Nat.lt_trans (Nat.mod_lt _ qQ_pos) qQ_lt
theorem pubL_len (s : List Int) : (pubL s).length = 32 := byk_len _ _
theorem fstL_len (s m : List Int) : (fstL s m).length = 32 := byk_len _ _
theorem sndL_len (s m : List Int) : (sndL s m).length = 32 := byk_len _ _
theorem sigL_len (s m : List Int) : (sigL s m).length = 64 := by rw [sigL, List.length_append, fstL_len, sndL_len]
theorem secP_by (s : List Int) : By (secP s) := by_drop (sh_by s) 32
set_option maxRecDepth 100000 in
theorem p6_mul {k : Nat} {p : Pn} (hk : k < 2 ^ 256) (hp : p.lt) : PE6.orc 16 [F k, Q4 p] = some (ret1 (Q4 (pmulN k p 256))) := (show PE6.orc 16 [F k, Q4 p] = PE3.orc 16 [F k, Q4 p] from rfl).trans (p_eMul hk hp)
theorem p6_enc {p : Pn} (hp : p.lt) : PE6.orc 15 [Q4 p] = some (ret1 (F (wrN p))) := (show PE6.orc 15 [Q4 p] = PE3.orc 15 [Q4 p] from rfl).trans (p_eEncode hp)
theorem p6_dec {n : Nat} (hn : n < 2 ^ 256) : PE6.orc 21 [F n] = some (.many [.val (Q4 (rdP n)), .val (.v (.bool (rdOk n)))]) := (show PE6.orc 21 [F n] = PE3.orc 21 [F n] from rfl).trans (p_eDecode hn)
theorem p6_small {p : Pn} (hp : p.lt) : PE6.orc 23 [Q4 p] = some (ret1 (.v (.bool (psmN p)))) := (show PE6.orc 23 [Q4 p] = PE3.orc 23 [Q4 p] from rfl).trans (p_eSmall hp)
theorem p6_neg {p : Pn} (hp : p.lt) : PE6.orc 26 [Q4 p] = some (ret1 (Q4 (oppN p))) := (show PE6.orc 26 [Q4 p] = PE3.orc 26 [Q4 p] from rfl).trans (p_eNeg hp)
theorem p6_add {p q : Pn} (hp : p.lt) (hq : q.lt) : PE6.orc 25 [Q4 p, Q4 q] = some (ret1 (Q4 (paddN p q))) := (show PE6.orc 25 [Q4 p, Q4 q] = PE3.orc 25 [Q4 p, Q4 q] from rfl).trans (p3_eAdd hp hq)
theorem p6_base : PE6.orc 17 [] = some (ret1 (Q4 (rdP baseN))) := rfl
theorem p6_number {n : Nat} {c : Option Nat} {b : List Int} (h : b.length = n) (hb : By b) (hn : n ≤ 64) : PE6.orc 24 [.im 1 n c (.flat .u8 b)] = some (ret1 (F (nb b % qQ))) := if_pos ⟨h, hb.ok, hn⟩
theorem p6_read {n : Nat} {c : Option Nat} {b : List Int} (h : b.length = n) (hn : 32 ≤ n) : PE6.orc 22 [.im 1 n c (.flat .u8 b)] = some (ret1 (.agg (.flat .u8 (b.take 32)))) := if_pos ⟨h, hn⟩
theorem p6_secret {n : Nat} {c : Option Nat} {s : List Int} (h : s.length = n) (hb : By s) (hn : n ≤ 1000000) : PE6.orc 14 [.im 1 n c (.flat .u8 s)] = some (.many [.val (F (secN s)), .val (.im 1 32 none (.flat .u8 (secP s)))]) := if_pos ⟨h, hb.ok, hn⟩
set_option maxRecDepth 100000 in
theorem p6_MulAdd {a b c : Nat} (ha : a < 2 ^ 256) (hb : b < 2 ^ 256) (hc : c < 2 ^ 256) : PE6.orc 19 [F a, F b, F c] = some (ret1 (F ((a * b + c) % qQ))) := (if_pos ⟨isF_by _, isF_by _, isF_by _⟩).trans (by rw [nb_by32 ha, nb_by32 hb, nb_by32 hc])
theorem p6_hash2 {n1 n2 : Nat} {c c1 c2 : Option Nat} {l1 l2 : List Int} (h1 : l1.length = n1) (h2 : l2.length = n2) (b1 : By l1) (b2 : By l2) (m1 : n1 ≤ 100000) (m2 : n2 ≤ 100000) : PE6.orc 18 [.im 1 2 c (.gen [.im 1 n1 c1 (.flat .u8 l1), .im 1 n2 c2 (.flat .u8 l2)])] = some (ret1 (F (nb (sha512 (l1 ++ l2)) % qQ))) := if_pos ⟨h1, h2, b1.ok, b2.ok, m1, m2⟩
theorem p6_hash3 {n1 n2 n3 : Nat} {c c1 c2 c3 : Option Nat} {l1 l2 l3 : List Int} (h1 : l1.length = n1) (h2 : l2.length = n2) (h3 : l3.length = n3) (b1 : By l1) (b2 : By l2) (b3 : By l3) (m1 : n1 ≤ 100000) (m2 : n2 ≤ 100000) (m3 : n3 ≤ 100000) : PE6.orc 18 [.im 1 3 c (.gen [.im 1 n1 c1 (.flat .u8 l1), .im 1 n2 c2 (.flat .u8 l2), .im 1 n3 c3 (.flat .u8 l3)])] = some (ret1 (F (nb (sha512 (l1 ++ l2 ++ l3)) % qQ))) := if_pos ⟨h1, h2, h3, b1.ok, b2.ok, b3.ok, m1, m2, m3⟩
theorem p6_Cat2 (n1 n2 : Nat) (c c1 c2 : Option Nat) (l1 l2 : List Int) (h1 : l1.length = n1) (h2 : l2.length = n2) (m1 : n1 ≤ 100000) (m2 : n2 ≤ 100000) : PE6.orc 20 [.im 1 2 c (.gen [.im 1 n1 c1 (.flat .u8 l1), .im 1 n2 c2 (.flat .u8 l2)])] = some (LRes.one (.own 1 (n1 + n2) 5 (.flat .u8 (l1 ++ l2)))) := if_pos ⟨h1, h2, m1, m2⟩
theorem eql_goP6 {a b : List Int} {q : Bool} {K : LV × List (Nat × Blk) → Prop} (ha : a.length = 32) (hb : b.length = 32) (hq : (a == b) = q) (h : K (.v (.bool q), [])) : runs (opBin PE6 .eql 31 (.agg (.flat .u8 a)) (.agg (.flat .u8 b))) K := by
  have e : opBin PE6 .eql 31 (.agg (.flat .u8 a)) (.agg (.flat .u8 b)) = some (.v (.bool (a == b)), []) := if_pos ⟨rfl, ha, hb⟩
  rw [e, hq]
  exact h
theorem neq_goP6 {a b : List Int} {q : Bool} {K : LV × List (Nat × Blk) → Prop} (ha : a.length = 32) (hb : b.length = 32) (hq : (!(a == b)) = q) (h : K (.v (.bool q), [])) : runs (opBin PE6 .neq 31 (.agg (.flat .u8 a)) (.agg (.flat .u8 b))) K := by
  have e : opBin PE6 .neq 31 (.agg (.flat .u8 a)) (.agg (.flat .u8 b)) = some (.v (.bool (!(a == b))), []) := if_pos ⟨rfl, ha, hb⟩
  rw [e, hq]
  exact h
set_option maxRecDepth 100000 in
set_option maxHeartbeats 8000000 in
theorem Public_gen (c : Option Nat) (s S B M E p : List Int) (lS : S.length = 32) (lE : E.length = 32)
    (f1 : ∀ c, PE6.orc 14 [.im 1 32 c (.flat .u8 s)] = some (.many [.val (.agg (.flat .u8 S)), .val (.im 1 32 none (.flat .u8 p))])) (f2 : PE6.orc 17 [] = some (ret1 (.agg (.flat .u8 B)))) (f3 : PE6.orc 16 [.agg (.flat .u8 S), .agg (.flat .u8 B)] = some (ret1 (.agg (.flat .u8 M)))) (f4 : PE6.orc 15 [.agg (.flat .u8 M)] = some (ret1 (.agg (.flat .u8 E)))) :
    execF PE6 Tryd.f6 [.im 1 32 c (.flat .u8 s)] (.many [.own 1 32 31 (.flat .u8 E), .val (iv .i64 0)]) := by
  have zS : layOne (.flat .u8 (List.replicate 32 0)) 0 (.flat .u8 S) = some (.flat .u8 S) := lay_all (by rw [List.length_replicate, lS]) (by omega)
  have nS : (Cont.flat .u8 S).len = 32 := lS
  have cS : (Cont.flat .u8 S).cut 0 32 = some (.flat .u8 S) := cut_all lS
  have dS : (Cont.flat .u8 S).cut 0 (32 * 1) = some (.flat .u8 S) := cut_all lS
  have zE : layOne (.flat .u8 (List.replicate 32 0)) 0 (.flat .u8 E) = some (.flat .u8 E) := lay_all (by rw [List.length_replicate, lE]) (by omega)
  have nE : (Cont.flat .u8 E).len = 32 := lE
  have cE : (Cont.flat .u8 E).cut 0 32 = some (.flat .u8 E) := cut_all lE
  have dE : (Cont.flat .u8 E).cut 0 (32 * 1) = some (.flat .u8 E) := cut_all lE
  ((conv => whnf); repeat ((first | refine ⟨_, resSlot_all rfl lE (by decide), ?_⟩ | refine ⟨_, cS, ?_⟩ | refine ⟨_, zS, ?_⟩ | refine ⟨_, zE, ?_⟩ | refine ⟨nS, ?_⟩ | refine ⟨nE, ?_⟩ | ((with_reducible refine isN_PE6 14 ?_); first | refine ⟨_, f1 _, ?_⟩) | ((with_reducible refine isN_PE6 17 ?_); first | refine ⟨_, f2, ?_⟩) | ((with_reducible refine isN_PE6 16 ?_); first | refine ⟨_, f3, ?_⟩) | ((with_reducible refine isN_PE6 15 ?_); first | refine ⟨_, f4, ?_⟩) | refine ⟨_, rfl, ?_⟩ | refine ⟨by decide, ?_⟩ | refine ⟨rfl, ?_⟩ | refine ⟨fun h => absurd h (by decide), fun _ => ?_⟩ | refine ⟨apart_uv _ _ _, ?_⟩); conv => whnf))
  rfl
def ePubR (n : Nat) (s : List Int) : LRes := if n = 32 then .many [.own 1 32 31 (.flat .u8 (pubL s)), .val (iv .i64 0)] else .many [.val nilV, .val (iv .i64 1)]
set_option maxRecDepth 100000 in
set_option maxHeartbeats 8000000 in
theorem Public_call {n : Nat} {c : Option Nat} {s : List Int} (hs : s.length = n) (hb : By s) : CallOk Tryd.prog 6 [.im 1 n c (.flat .u8 s)] (ePubR n s) := by
  unfold ePubR
  by_cases h : n = 32
  · subst h
    rw [if_pos rfl, pubL, ← pmulB (secN_lt s)]
    exact execF_ok follows_ok PE6_ok Tryd.func6 (Public_gen c s _ _ _ _ _ (byk_len _ _) (byk_len _ _) (fun _ => p6_secret hs hb (by decide)) p6_base (p6_mul (secN_lt s) (rdP_lt _)) (p6_enc (pmulN_lt _ _ _)))
  · rw [if_neg h]
    have q : (!((n : Int) == 32)) = true := by
      rw [Bool.not_eq_true', beq_eq_false_iff_ne]
      omega
    refine execF_ok follows_ok PE6_ok Tryd.func6 ?_
    ((conv => whnf); repeat ((first | refine ⟨fun _ => ?_, fun h => absurd ((q).symm.trans h) (by decide)⟩ | refine ⟨fun h => absurd ((q).symm.trans h) (by decide), fun _ => ?_⟩ | refine ⟨_, rfl, ?_⟩ | refine ⟨rfl, ?_⟩); conv => whnf))
    rfl
set_option maxRecDepth 100000 in
set_option maxHeartbeats 8000000 in
theorem Sign_gen (m : Nat) (c cm : Option Nat) (s g S B M1 EA M2 EF p r K T V : List Int) (lS : S.length = 32) (lA : EA.length = 32) (lF : EF.length = 32) (lr : r.length = 32) (lT : T.length = 32) (lV : V.length = 64)
    (f1 : ∀ c, PE6.orc 14 [.im 1 32 c (.flat .u8 s)] = some (.many [.val (.agg (.flat .u8 S)), .val (.im 1 32 none (.flat .u8 p))])) (f2 : ∀ c c1, PE6.orc 18 [.im 1 2 c (.gen [.im 1 32 c1 (.flat .u8 p), .im 1 m cm (.flat .u8 g)])] = some (ret1 (.agg (.flat .u8 r))))
    (f3 : PE6.orc 17 [] = some (ret1 (.agg (.flat .u8 B)))) (f4 : PE6.orc 16 [.agg (.flat .u8 S), .agg (.flat .u8 B)] = some (ret1 (.agg (.flat .u8 M1)))) (f5 : PE6.orc 15 [.agg (.flat .u8 M1)] = some (ret1 (.agg (.flat .u8 EA)))) (f6 : PE6.orc 16 [.agg (.flat .u8 r), .agg (.flat .u8 B)] = some (ret1 (.agg (.flat .u8 M2)))) (f7 : PE6.orc 15 [.agg (.flat .u8 M2)] = some (ret1 (.agg (.flat .u8 EF))))
    (f8 : ∀ c c1 c2, PE6.orc 18 [.im 1 3 c (.gen [.im 1 32 c1 (.flat .u8 EF), .im 1 32 c2 (.flat .u8 EA), .im 1 m cm (.flat .u8 g)])] = some (ret1 (.agg (.flat .u8 K)))) (f9 : PE6.orc 19 [.agg (.flat .u8 K), .agg (.flat .u8 S), .agg (.flat .u8 r)] = some (ret1 (.agg (.flat .u8 T))))
    (f0 : ∀ c c1 c2, PE6.orc 20 [.im 1 2 c (.gen [.im 1 32 c1 (.flat .u8 EF), .im 1 32 c2 (.flat .u8 T)])] = some (LRes.one (.own 1 64 5 (.flat .u8 V)))) :
    execF PE6 Tryd.f8 [.im 1 32 c (.flat .u8 s), .im 1 m cm (.flat .u8 g)] (.many [.own 1 64 5 (.flat .u8 V), .val (iv .i64 0)]) := by
  have zS : layOne (.flat .u8 (List.replicate 32 0)) 0 (.flat .u8 S) = some (.flat .u8 S) := lay_all (by rw [List.length_replicate, lS]) (by omega)
  have nS : (Cont.flat .u8 S).len = 32 := lS
  have cS : (Cont.flat .u8 S).cut 0 32 = some (.flat .u8 S) := cut_all lS
  have dS : (Cont.flat .u8 S).cut 0 (32 * 1) = some (.flat .u8 S) := cut_all lS
  have zA : layOne (.flat .u8 (List.replicate 32 0)) 0 (.flat .u8 EA) = some (.flat .u8 EA) := lay_all (by rw [List.length_replicate, lA]) (by omega)
  have nA : (Cont.flat .u8 EA).len = 32 := lA
  have cA : (Cont.flat .u8 EA).cut 0 32 = some (.flat .u8 EA) := cut_all lA
  have dA : (Cont.flat .u8 EA).cut 0 (32 * 1) = some (.flat .u8 EA) := cut_all lA
  have zF : layOne (.flat .u8 (List.replicate 32 0)) 0 (.flat .u8 EF) = some (.flat .u8 EF) := lay_all (by rw [List.length_replicate, lF]) (by omega)
  have nF : (Cont.flat .u8 EF).len = 32 := lF
  have cF : (Cont.flat .u8 EF).cut 0 32 = some (.flat .u8 EF) := cut_all lF
  have dF : (Cont.flat .u8 EF).cut 0 (32 * 1) = some (.flat .u8 EF) := cut_all lF
  have zr : layOne (.flat .u8 (List.replicate 32 0)) 0 (.flat .u8 r) = some (.flat .u8 r) := lay_all (by rw [List.length_replicate, lr]) (by omega)
  have nr : (Cont.flat .u8 r).len = 32 := lr
  have cr : (Cont.flat .u8 r).cut 0 32 = some (.flat .u8 r) := cut_all lr
  have dr : (Cont.flat .u8 r).cut 0 (32 * 1) = some (.flat .u8 r) := cut_all lr
  have zT : layOne (.flat .u8 (List.replicate 32 0)) 0 (.flat .u8 T) = some (.flat .u8 T) := lay_all (by rw [List.length_replicate, lT]) (by omega)
  have nT : (Cont.flat .u8 T).len = 32 := lT
  have cT : (Cont.flat .u8 T).cut 0 32 = some (.flat .u8 T) := cut_all lT
  have dT : (Cont.flat .u8 T).cut 0 (32 * 1) = some (.flat .u8 T) := cut_all lT
  have dV : (Cont.flat .u8 V).cut 0 (64 * 1) = some (.flat .u8 V) := cut_all lV
  have tV : V.take (64 * 1) = V := List.take_of_length_le (by omega)
  ((conv => whnf); repeat ((first | refine ⟨_, expo_g rfl rfl (om3 (expo_sl rfl dF) (expo_sl rfl dA) rfl), ?_⟩ | refine ⟨_, expo_g rfl rfl (om2 (expo_sl rfl dF) (expo_sl rfl dT)), ?_⟩ | refine ⟨_, cS, ?_⟩ | refine ⟨_, zS, ?_⟩ | refine ⟨_, zA, ?_⟩ | refine ⟨_, zF, ?_⟩ | refine ⟨_, cr, ?_⟩ | refine ⟨_, zr, ?_⟩ | refine ⟨_, zT, ?_⟩ | refine ⟨nS, ?_⟩ | refine ⟨nA, ?_⟩ | refine ⟨nF, ?_⟩ | refine ⟨nr, ?_⟩ | refine ⟨nT, ?_⟩ | ((with_reducible refine isN_PE6 14 ?_); first | refine ⟨_, f1 _, ?_⟩) | ((with_reducible refine isN_PE6 18 ?_); first | refine ⟨_, f2 _ _, ?_⟩ | refine ⟨_, f8 _ _ _, ?_⟩) | ((with_reducible refine isN_PE6 17 ?_); first | refine ⟨_, f3, ?_⟩) | ((with_reducible refine isN_PE6 16 ?_); first | refine ⟨_, f4, ?_⟩ | refine ⟨_, f6, ?_⟩) | ((with_reducible refine isN_PE6 15 ?_); first | refine ⟨_, f5, ?_⟩ | refine ⟨_, f7, ?_⟩) | ((with_reducible refine isN_PE6 19 ?_); first | refine ⟨_, f9, ?_⟩) | ((with_reducible refine isN_PE6 20 ?_); first | refine ⟨_, f0 _ _ _, ?_⟩) | refine ⟨_, rfl, ?_⟩ | refine ⟨by decide, ?_⟩ | refine ⟨rfl, ?_⟩ | refine ⟨fun h => absurd h (by decide), fun _ => ?_⟩ | refine ⟨apart_uv _ _ _, ?_⟩ | refine ⟨_, resSlot_own rfl (by omega) (by first | exact .inl rfl | exact .inr ⟨rfl, rfl⟩), ?_⟩); conv => whnf))
  rw [tV]
  rfl
def signR (n : Nat) (s g : List Int) : LRes := if n = 32 then .many [.own 1 64 5 (.flat .u8 (sigL s g)), .val (iv .i64 0)] else .many [.val nilV, .val (iv .i64 1)]
set_option maxRecDepth 100000 in
set_option maxHeartbeats 8000000 in
theorem Sign_call {n m : Nat} {c cm : Option Nat} {s g : List Int} (hs : s.length = n) (hb : By s) (hg : g.length = m) (hgb : By g) (hm : m ≤ 100000) : CallOk Tryd.prog 8 [.im 1 n c (.flat .u8 s), .im 1 m cm (.flat .u8 g)] (signR n s g) := by
  unfold signR
  by_cases h : n = 32
  · subst h
    rw [if_pos rfl]
    have f5 := p6_enc (pmulN_lt (secN s) (rdP baseN) 256)
    have f7 := p6_enc (pmulN_lt (rNum s g) (rdP baseN) 256)
    rw [pmulB (secN_lt s)] at f5
    rw [pmulB (show rNum s g < 2 ^ 256 from modq_lt _)] at f7
    have f8 := fun (c c1 c2 : Option Nat) => p6_hash3 (c := c) (c1 := c1) (c2 := c2) (c3 := cm) (fstL_len s g) (pubL_len s) hg (byk_by _ _) (byk_by _ _) hgb (by decide) (by decide) hm
    exact execF_ok follows_ok PE6_ok Tryd.func8 (Sign_gen m c cm s g _ _ _ _ _ _ _ _ _ _ _ (byk_len _ _) (byk_len _ _) (byk_len _ _) (byk_len _ _) (byk_len _ _) (sigL_len s g) (fun _ => p6_secret hs hb (by decide)) (fun _ _ => p6_hash2 (secP_len s) hg (secP_by s) hgb (by decide) hm)
      p6_base (p6_mul (secN_lt s) (rdP_lt _)) f5 (p6_mul (modq_lt _) (rdP_lt _)) f7 f8 (p6_MulAdd (modq_lt _) (secN_lt s) (modq_lt _)) (fun c c1 c2 => p6_Cat2 32 32 c c1 c2 (fstL s g) (sndL s g) (fstL_len s g) (sndL_len s g) (by decide) (by decide)))
  · rw [if_neg h]
    have q : (!((n : Int) == 32)) = true := by
      rw [Bool.not_eq_true', beq_eq_false_iff_ne]
      omega
    refine execF_ok follows_ok PE6_ok Tryd.func8 ?_
    ((conv => whnf); repeat ((first | refine ⟨fun _ => ?_, fun h => absurd ((q).symm.trans h) (by decide)⟩ | refine ⟨fun h => absurd ((q).symm.trans h) (by decide), fun _ => ?_⟩ | refine ⟨_, rfl, ?_⟩ | refine ⟨rfl, ?_⟩); conv => whnf))
    rfl
set_option maxRecDepth 100000 in
set_option maxHeartbeats 8000000 in
theorem Verify_gen (m : Nat) (cp cm cs : Option Nat) (P g G D V FI SI NI K B M1 W M2 Z E : List Int) (ok sm nq eq : Bool) (lP : P.length = 32) (lG : G.length = 64) (lV : V.length = 128) (lI : FI.length = 32) (lT : SI.length = 32) (lN : NI.length = 32) (lE : E.length = 32) (hI : G.take 32 = FI) (hD : G.drop 32 = D) (lD : D.length = 32)
    (hnq : (!(SI == NI)) = nq) (heq : (FI == E) = eq)
    (f1 : ∀ c, PE6.orc 22 [.im 1 32 c (.flat .u8 P)] = some (ret1 (.agg (.flat .u8 P)))) (f2 : PE6.orc 21 [.agg (.flat .u8 P)] = some (.many [.val (.agg (.flat .u8 V)), .val (.v (.bool ok))])) (f3 : PE6.orc 23 [.agg (.flat .u8 V)] = some (ret1 (.v (.bool sm))))
    (f5 : ∀ c, PE6.orc 22 [.im 1 64 c (.flat .u8 G)] = some (ret1 (.agg (.flat .u8 FI)))) (f6 : ∀ c, PE6.orc 22 [.im 1 32 c (.flat .u8 D)] = some (ret1 (.agg (.flat .u8 SI)))) (f7 : ∀ c, PE6.orc 24 [.im 1 32 c (.flat .u8 SI)] = some (ret1 (.agg (.flat .u8 NI))))
    (f8 : ∀ c c1 c2, PE6.orc 18 [.im 1 3 c (.gen [.im 1 32 c1 (.flat .u8 FI), .im 1 32 c2 (.flat .u8 P), .im 1 m cm (.flat .u8 g)])] = some (ret1 (.agg (.flat .u8 K)))) (f9 : PE6.orc 17 [] = some (ret1 (.agg (.flat .u8 B)))) (g1 : PE6.orc 16 [.agg (.flat .u8 SI), .agg (.flat .u8 B)] = some (ret1 (.agg (.flat .u8 M1)))) (g2 : PE6.orc 26 [.agg (.flat .u8 V)] = some (ret1 (.agg (.flat .u8 W)))) (g3 : PE6.orc 16 [.agg (.flat .u8 K), .agg (.flat .u8 W)] = some (ret1 (.agg (.flat .u8 M2)))) (g4 : PE6.orc 25 [.agg (.flat .u8 M1), .agg (.flat .u8 M2)] = some (ret1 (.agg (.flat .u8 Z)))) (g5 : PE6.orc 15 [.agg (.flat .u8 Z)] = some (ret1 (.agg (.flat .u8 E)))) (lK : K.length = 32) (hcs : 64 ≤ cs.getD 64) :
    execF PE6 Tryd.f11 [.im 1 32 cp (.flat .u8 P), .im 1 m cm (.flat .u8 g), .im 1 64 cs (.flat .u8 G)] (ret1 (.v (.bool (ok && !sm && !nq && eq)))) := by
  obtain ⟨cx, s1⟩ := slice_im_from (E := PE6) (t := 22) (l := 32) rfl rfl (by decide) lG hcs
  rw [hD] at s1
  obtain ⟨cy, s2⟩ := slice_im_to (E := PE6) (t := 22) (l := 32) rfl rfl (by decide) lG hcs
  rw [hI] at s2
  have cG : (Cont.flat .u8 G).cut 0 (32 * 1) = some (.flat .u8 FI) := by rw [← hI]; exact cut_take (by omega)
  have cD : (Cont.flat .u8 G).cut 32 (32 * 1) = some (.flat .u8 D) := by rw [cut_flat (by omega), hD, List.take_of_length_le (by omega)]
  have cH : (Cont.flat .u8 G).cut (32 * 1) (32 * 1) = some (.flat .u8 D) := cD
  have zP : layOne (.flat .u8 (List.replicate 32 0)) 0 (.flat .u8 P) = some (.flat .u8 P) := lay_all (by rw [List.length_replicate, lP]) (by omega)
  have nP : (Cont.flat .u8 P).len = 32 := lP
  have cP : (Cont.flat .u8 P).cut 0 32 = some (.flat .u8 P) := cut_all lP
  have dP : (Cont.flat .u8 P).cut 0 (32 * 1) = some (.flat .u8 P) := cut_all lP
  have zI : layOne (.flat .u8 (List.replicate 32 0)) 0 (.flat .u8 FI) = some (.flat .u8 FI) := lay_all (by rw [List.length_replicate, lI]) (by omega)
  have nI : (Cont.flat .u8 FI).len = 32 := lI
  have cI : (Cont.flat .u8 FI).cut 0 32 = some (.flat .u8 FI) := cut_all lI
  have dI : (Cont.flat .u8 FI).cut 0 (32 * 1) = some (.flat .u8 FI) := cut_all lI
  have zT : layOne (.flat .u8 (List.replicate 32 0)) 0 (.flat .u8 SI) = some (.flat .u8 SI) := lay_all (by rw [List.length_replicate, lT]) (by omega)
  have nT : (Cont.flat .u8 SI).len = 32 := lT
  have cT : (Cont.flat .u8 SI).cut 0 32 = some (.flat .u8 SI) := cut_all lT
  have dT : (Cont.flat .u8 SI).cut 0 (32 * 1) = some (.flat .u8 SI) := cut_all lT
  have zK : layOne (.flat .u8 (List.replicate 32 0)) 0 (.flat .u8 K) = some (.flat .u8 K) := lay_all (by rw [List.length_replicate, lK]) (by omega)
  have nK : (Cont.flat .u8 K).len = 32 := lK
  have cK : (Cont.flat .u8 K).cut 0 32 = some (.flat .u8 K) := cut_all lK
  have dK : (Cont.flat .u8 K).cut 0 (32 * 1) = some (.flat .u8 K) := cut_all lK
  have zV : layOne (.flat .u8 (List.replicate 128 0)) 0 (.flat .u8 V) = some (.flat .u8 V) := lay_all (by rw [List.length_replicate, lV]) (by omega)
  have nV : (Cont.flat .u8 V).len = 128 := lV
  have cV : (Cont.flat .u8 V).cut 0 128 = some (.flat .u8 V) := cut_all lV
  cases ok
  · skip
    ((conv => whnf); repeat ((first | refine ⟨_, zV, ?_⟩ | refine ⟨nV, ?_⟩ | ((with_reducible refine isN_PE6 22 ?_); first | refine ⟨_, f1 _, ?_⟩ | refine ⟨_, f5 _, ?_⟩ | refine ⟨_, f6 _, ?_⟩) | ((with_reducible refine isN_PE6 21 ?_); first | refine ⟨_, f2, ?_⟩) | refine ⟨_, rfl, ?_⟩ | refine ⟨rfl, ?_⟩ | refine ⟨fun _ => ?_, fun h => absurd h (by decide)⟩ | refine ⟨fun h => absurd h (by decide), fun _ => ?_⟩); conv => whnf))
    rfl
  cases sm <;> cases nq
  all_goals
    ((conv => whnf); repeat ((first | refine ⟨_, s1, ?_⟩ | refine ⟨_, s2, ?_⟩ | refine ⟨_, cI, ?_⟩ | refine ⟨_, zI, ?_⟩ | refine ⟨_, cT, ?_⟩ | refine ⟨_, cK, ?_⟩ | refine ⟨_, zK, ?_⟩ | refine ⟨nK, ?_⟩ | refine ⟨_, zT, ?_⟩ | refine ⟨_, expo_sl rfl dT, ?_⟩ | refine ⟨_, cV, ?_⟩ | refine ⟨_, zV, ?_⟩ | refine ⟨nI, ?_⟩ | refine ⟨nT, ?_⟩ | refine ⟨nV, ?_⟩ | ((with_reducible refine isN_PE6 22 ?_); first | refine ⟨_, f1 _, ?_⟩ | refine ⟨_, f5 _, ?_⟩ | refine ⟨_, f6 _, ?_⟩) | ((with_reducible refine isN_PE6 21 ?_); first | refine ⟨_, f2, ?_⟩) | ((with_reducible refine isN_PE6 23 ?_); first | refine ⟨_, f3, ?_⟩) | ((with_reducible refine isN_PE6 24 ?_); first | refine ⟨_, f7 _, ?_⟩) | ((with_reducible refine isN_PE6 18 ?_); first | refine ⟨_, f8 _ _ _, ?_⟩) | ((with_reducible refine isN_PE6 17 ?_); first | refine ⟨_, f9, ?_⟩) | ((with_reducible refine isN_PE6 16 ?_); first | refine ⟨_, g1, ?_⟩ | refine ⟨_, g3, ?_⟩) | ((with_reducible refine isN_PE6 26 ?_); first | refine ⟨_, g2, ?_⟩) | ((with_reducible refine isN_PE6 25 ?_); first | refine ⟨_, g4, ?_⟩) | ((with_reducible refine isN_PE6 15 ?_); first | refine ⟨_, g5, ?_⟩) | refine ⟨_, rfl, ?_⟩ | refine ⟨by decide, ?_⟩ | refine ⟨rfl, ?_⟩ | refine ⟨fun _ => ?_, fun h => absurd h (by decide)⟩ | refine ⟨fun h => absurd h (by decide), fun _ => ?_⟩ | refine neq_goP6 lT lN hnq ?_ | refine eql_goP6 lI lE heq ?_); conv => whnf))
    first | rfl | (cases eq <;> rfl)
/-- Whether a signature verifies, after the lengths. -/
def verB (P g G : List Int) : Bool := rdOk (nb P) && !psmN (rdP (nb P)) && decide (nb (G.drop 32) < qQ) && (G.take 32 == by32 (wrN (paddN (pmulN (nb (G.drop 32)) (rdP baseN) 256) (pmulN (kNum (G.take 32) P g) (oppN (rdP (nb P))) 256))))
def verF (n k : Nat) (P g G : List Int) : Bool := decide (n = 32) && decide (k = 64) && verB P g G
theorem below_q {l : List Int} (h : isF l = true) : (!(l == by32 (nb l % qQ))) = !decide (nb l < qQ) := by
  congr 1
  by_cases hl : nb l < qQ
  · rw [Nat.mod_eq_of_lt hl, ← isF_eq h, decide_eq_true hl]
    exact beq_self_eq_true _
  · rw [decide_eq_false hl]
    refine Bool.eq_false_iff.2 fun e => hl ?_
    have e := eq_of_beq e
    rw [isF_eq h] at e
    have := by32_inj (nb32_lt h) (modq_lt _) (by rw [nb_by32 (nb32_lt h)] at e; exact e)
    rw [this]
    exact Nat.mod_lt _ qQ_pos
set_option maxRecDepth 100000 in
set_option maxHeartbeats 8000000 in
theorem Verify_call {n m k : Nat} {cp cm cs : Option Nat} {P g G : List Int} (hP : P.length = n) (hPb : By P) (hg : g.length = m) (hgb : By g) (hm : m ≤ 100000) (hG : G.length = k) (hGb : By G) : CallOk Tryd.prog 11 [.im 1 n cp (.flat .u8 P), .im 1 m cm (.flat .u8 g), .im 1 k cs (.flat .u8 G)] (ret1 (.v (.bool (verF n k P g G)))) := by
  unfold verF
  by_cases h : n = 32
  · subst h
    by_cases h' : k = 64
    · subst h'
      rw [decide_eq_true rfl, decide_eq_true rfl, Bool.true_and, Bool.true_and]
      have hF : isF P = true := isF_of hP hPb
      have ht : isF (G.take 32) = true := isF_of (by rw [List.length_take]; omega) (by_take hGb 32)
      have hd : isF (G.drop 32) = true := isF_of (by rw [List.length_drop]; omega) (by_drop hGb 32)
      have hq := below_q hd
      have lt := isF_len ht
      have ld := isF_len hd
      have htt : P.take 32 = P := List.take_of_length_le (by omega)
      have hdd : (G.drop 32).take 32 = G.drop 32 := List.take_of_length_le (by omega)
      have f1 := fun (c : Option Nat) => p6_read (c := c) hP (Nat.le_refl 32)
      rw [htt] at f1
      have f6 := fun (c : Option Nat) => p6_read (c := c) ld (Nat.le_refl 32)
      rw [hdd] at f6
      have f2 := p6_dec (nb32_lt hF)
      rw [F, ← isF_eq hF] at f2
      have g1 := p6_mul (p := rdP baseN) (nb32_lt hd) (rdP_lt _)
      rw [F, ← isF_eq hd] at g1
      have hn' : (!!decide (nb (G.drop 32) < qQ)) = decide (nb (G.drop 32) < qQ) := Bool.not_not _
      have h8 := fun (c c1 c2 : Option Nat) => p6_hash3 (c := c) (c1 := c1) (c2 := c2) (c3 := cm) lt hP hg (isF_By ht) hPb hgb (by decide) (by decide) hm
      unfold verB
      rw [← hn']
      refine CallOk.cap 2 rfl fun hcs => ?_
      exact execF_ok follows_ok PE6_ok Tryd.func11 (Verify_gen m cp cm cs P g G (G.drop 32) _ (G.take 32) (G.drop 32) _ _ _ _ _ _ _ _ _ _ _ _ hP hG (b4_len _) lt ld (byk_len _ _) (byk_len _ _) rfl rfl ld hq rfl f1 f2 (p6_small (rdP_lt _)) (fun _ => p6_read hG (by decide)) f6 (fun _ => p6_number ld (isF_By hd) (by decide)) h8 p6_base g1 (p6_neg (rdP_lt _)) (p6_mul (modq_lt _) (oppN_lt (rdP_lt _))) (p6_add (pmulN_lt _ _ _) (pmulN_lt _ _ _)) (p6_enc (paddN_lt _ _)) (byk_len _ _) hcs)
    · rw [decide_eq_true rfl, decide_eq_false h', Bool.true_and, Bool.false_and]
      have q : (!((k : Int) == 64)) = true := by
        rw [Bool.not_eq_true', beq_eq_false_iff_ne]
        omega
      refine execF_ok follows_ok PE6_ok Tryd.func11 ?_
      ((conv => whnf); repeat ((first | refine ⟨fun _ => ?_, fun h => absurd ((q).symm.trans h) (by decide)⟩ | refine ⟨fun h => absurd ((q).symm.trans h) (by decide), fun _ => ?_⟩ | refine ⟨_, rfl, ?_⟩ | refine ⟨rfl, ?_⟩ | refine ⟨fun _ => ?_, fun h => absurd h (by decide)⟩ | refine ⟨fun h => absurd h (by decide), fun _ => ?_⟩); conv => whnf))
      rfl
  · rw [decide_eq_false h, Bool.false_and, Bool.false_and]
    have q : (!((n : Int) == 32)) = true := by
      rw [Bool.not_eq_true', beq_eq_false_iff_ne]
      omega
    refine execF_ok follows_ok PE6_ok Tryd.func11 ?_
    ((conv => whnf); repeat ((first | refine ⟨fun _ => ?_, fun h => absurd ((q).symm.trans h) (by decide)⟩ | refine ⟨fun h => absurd ((q).symm.trans h) (by decide), fun _ => ?_⟩ | refine ⟨_, rfl, ?_⟩ | refine ⟨rfl, ?_⟩ | refine ⟨fun _ => ?_, fun h => absurd h (by decide)⟩); conv => whnf))
    rfl
end Go.Proofs.YtdeigmjbcbjgeaaDoor
