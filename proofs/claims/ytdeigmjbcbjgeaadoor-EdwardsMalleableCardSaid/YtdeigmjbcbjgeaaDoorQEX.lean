/-
  Layer 10: EdwardsEquation.
-/
import Derived.Test.YtdeigmjbcbjgeaaDoorQEJ
import Derived.Test.YtdeigmjbcbjgeaaDoorQEM
import Derived.Test.YtdeigmjbcbjgeaaDoorQMkP
import Derived.Test.YtdeigmjbcbjgeaaDoorQFP
namespace Go.Proofs.YtdeigmjbcbjgeaaDoor
open Go.RowKit

theorem mul_q (n : Nat) : Pt.mul (n % qQ) Bp = Pt.mul n Bp := by
  have h := Nat.div_add_mod n qQ
  have hq : Pt.mul qQ Bp = .zero := q_zero
  conv => rhs; rw [← h, Pt.mul_add, Nat.mul_comm, Pt.mul_mul, hq, Pt.mul_zero, Pt.zero_add]
/-- S B = R + k A. -/
theorem equation (s r k : Nat) : Pt.mul ((k * s + r) % qQ) Bp = (Pt.mul r Bp).add (Pt.mul k (Pt.mul s Bp)) := by
  rw [mul_q, Pt.mul_add, Pt.mul_mul, Pt.add_comm]
end Go.Proofs.YtdeigmjbcbjgeaaDoor
/-
  Layer 10: what is signed verifies; a second half with the group's order added does not.
-/
namespace Go.Proofs.YtdeigmjbcbjgeaaDoor
open Go.RowKit

theorem sign_verifies (s g : List Int) : verF 32 64 (pubL s) g (sigL s g) = true := by
  unfold verF verB
  have hd : (sigL s g).drop 32 = sndL s g := List.drop_left' (fstL_len s g)
  have ht : (sigL s g).take 32 = fstL s g := List.take_left' (fstL_len s g)
  rw [hd, ht, decide_eq_true rfl, decide_eq_true rfl, Bool.true_and, Bool.true_and]
  have ea : pubL s = by32 (encP (Pt.mul (secN s) Bp)) := by rw [pubL, mulB_enc (secN_lt s)]
  have na : nb (pubL s) = encP (Pt.mul (secN s) Bp) := by rw [ea, nb_by32 (encP_lt _)]
  have ns : nb (sndL s g) = (kNum (fstL s g) (pubL s) g * secN s + rNum s g) % qQ := by rw [sndL, nb_by32 (modq_lt _)]
  have hF := rd_For (Pt.mul (secN s) Bp)
  have h1 : psmN (rdP (encP (Pt.mul (secN s) Bp))) = false := by
    rw [Bool.eq_false_iff]
    intro h
    have h8 := (psm_iff hF).1 h
    rw [← Pt.mul_mul] at h8
    exact mul_ne (fun h => (prq.euclid h).elim (fun h => absurd (Nat.le_of_dvd (by decide) h) (by decide)) (clamp_free _)) h8
  have hr : rNum s g < 2 ^ 256 := modq_lt _
  rw [na, ns, rd_of, h1, decide_eq_true (Nat.mod_lt _ qQ_pos)]
  have hw := wr_enc (For_padd (For_pmul (k := (kNum (fstL s g) (pubL s) g * secN s + rNum s g) % qQ) (modq_lt _) base_For) (For_pmul (k := kNum (fstL s g) (pubL s) g) (modq_lt _) (For_opp hF)))
  have hp : ((Pt.mul (rNum s g) Bp).add (Pt.mul (kNum (fstL s g) (pubL s) g) (Pt.mul (secN s) Bp))).add (Pt.mul (kNum (fstL s g) (pubL s) g) (Pt.mul (secN s) Bp).neg) = Pt.mul (rNum s g) Bp := by
    rw [Pt.mul_neg, Pt.add_assoc, Pt.add_neg, Pt.add_zero]
  have hf : fstL s g = by32 (encP (Pt.mul (rNum s g) Bp)) := by rw [fstL, mulB_enc hr]
  rw [hw, equation, hp, ← hf]
  simp
theorem forged {A g T : List Int} (h : qQ ≤ nb (T.drop 32)) : verF 32 64 A g T = false := by
  unfold verF verB
  rw [decide_eq_false (by omega : ¬ nb (T.drop 32) < qQ), Bool.and_false, Bool.false_and, Bool.and_false]
/-! the second half and the order, byte by byte -/
def cN (S i : Nat) : Nat := (S % 2 ^ (8 * i) + qQ % 2 ^ (8 * i)) / 2 ^ (8 * i)
theorem carry_byte (B x y : Nat) (hB : 0 < B) : (x + y) / B % 256 = ((x % B + y % B) / B + x / B % 256 + y / B % 256) % 256 := by
  have hx := Nat.div_add_mod x B
  have hy := Nat.div_add_mod y B
  generalize x / B = u at *
  generalize y / B = v at *
  generalize x % B = a at *
  generalize y % B = b at *
  rw [← hx, ← hy, show B * u + a + (B * v + b) = B * (u + v) + (a + b) by rw [Nat.mul_add]; omega, Nat.mul_add_div hB]
  omega
theorem carry_step (B x y : Nat) (hB : 0 < B) : (x % (B * 256) + y % (B * 256)) / (B * 256) = ((x % B + y % B) / B + x / B % 256 + y / B % 256) / 256 := by
  rw [Nat.mod_mul, Nat.mod_mul, ← Nat.div_div_eq_div_mul]
  generalize x / B % 256 = u
  generalize y / B % 256 = v
  generalize x % B = a
  generalize y % B = b
  rw [show a + B * u + (b + B * v) = B * (u + v) + (a + b) by rw [Nat.mul_add]; omega, Nat.mul_add_div hB]
  omega
theorem cN_step (S i : Nat) : cN S (i + 1) = (cN S i + S / 2 ^ (8 * i) % 256 + qQ / 2 ^ (8 * i) % 256) / 256 := by
  have h := carry_step (2 ^ (8 * i)) S qQ (Nat.two_pow_pos _)
  rw [cN, show 2 ^ (8 * (i + 1)) = 2 ^ (8 * i) * 256 by rw [Nat.mul_add, Nat.pow_add]]
  exact h
theorem cN_zero (S : Nat) : cN S 0 = 0 := by
  rw [cN, Nat.mul_zero, Nat.pow_zero, Nat.mod_one, Nat.mod_one]
theorem cN_le (S i : Nat) : cN S i ≤ 1 := by
  have hB : 0 < 2 ^ (8 * i) := Nat.two_pow_pos _
  have h1 := Nat.mod_lt S hB
  have h2 := Nat.mod_lt qQ hB
  have := Nat.div_lt_of_lt_mul (show S % 2 ^ (8 * i) + qQ % 2 ^ (8 * i) < 2 ^ (8 * i) * 2 by omega)
  unfold cN
  omega
def tL (V : List Int) (S i : Nat) : List Int := (List.range 64).map fun j => if j < 32 then g V j else if j < 32 + i then bt (S + qQ) (j - 32) else bt S (j - 32)
theorem tL_len (V : List Int) (S i : Nat) : (tL V S i).length = 64 := by rw [tL, List.length_map, List.length_range]
theorem g_tL {V : List Int} {S i j : Nat} (h : j < 64) : g (tL V S i) j = if j < 32 then g V j else if j < 32 + i then bt (S + qQ) (j - 32) else bt S (j - 32) := g_map h
theorem tL_by {V : List Int} (hV : By V) (S i : Nat) : By (tL V S i) := by
  refine By.map fun j _ => ?_
  split
  · unfold g
    rw [List.getD_eq_getElem?_getD]
    rcases h : V[j]? with _ | x
    · exact ⟨by decide, by decide⟩
    · exact hV x (List.mem_of_getElem? h)
  · split <;> exact bt_byte _ _
theorem tL_at {V : List Int} {S i : Nat} (h : i < 32) : g (tL V S i) (32 + i) = bt S i := by
  rw [g_tL (by omega), if_neg (by omega), if_neg (by omega)]
  congr 1
  omega
theorem tL_set {V : List Int} {S i : Nat} (h : i < 32) : (tL V S i).set (32 + i) (bt (S + qQ) i) = tL V S (i + 1) := by
  refine ext_g (by rw [List.length_set, tL_len, tL_len]) fun j hj => ?_
  rw [List.length_set, tL_len] at hj
  rw [g_set (by rw [tL_len]; omega), g_tL hj, g_tL hj]
  by_cases e : j = 32 + i
  · subst e
    rw [if_pos rfl, if_neg (by omega), if_pos (by omega)]
    congr 1
    omega
  · rw [if_neg e]
    by_cases h1 : j < 32
    · rw [if_pos h1, if_pos h1]
    · rw [if_neg h1, if_neg h1]
      by_cases h2 : j < 32 + i
      · rw [if_pos h2, if_pos (by omega)]
      · rw [if_neg h2, if_neg (by omega)]
theorem tL_zero {V : List Int} {S : Nat} (hV : V.length = 64) (hS : V.drop 32 = by32 S) : tL V S 0 = V := by
  refine ext_g (by rw [tL_len, hV]) fun j hj => ?_
  rw [tL_len] at hj
  rw [g_tL hj]
  by_cases h1 : j < 32
  · rw [if_pos h1]
  · rw [if_neg h1, if_neg (by omega), ← g_byk (k := 32) (by omega)]
    have : g (V.drop 32) (j - 32) = g V j := by
      unfold g
      rw [List.getD_eq_getElem?_getD, List.getD_eq_getElem?_getD, List.getElem?_drop, show 32 + (j - 32) = j by omega]
    rw [← this, hS]
theorem tL_end (V : List Int) (S : Nat) : (tL V S 32).drop 32 = by32 (S + qQ) := by
  refine ext_g (by rw [List.length_drop, tL_len, byk_len]) fun j hj => ?_
  rw [List.length_drop, tL_len] at hj
  have : g ((tL V S 32).drop 32) j = g (tL V S 32) (32 + j) := by
    unfold g
    rw [List.getD_eq_getElem?_getD, List.getD_eq_getElem?_getD, List.getElem?_drop]
  rw [this, g_tL (by omega), if_neg (by omega), if_pos (by omega), g_byk (by omega)]
  congr 1
  omega
/-- one step of the sum, as the program reckons it. -/
theorem step_c (S i : Nat) : IntKind.i64.wrap ((cN S i : Nat) + IntKind.i64.wrap (IntKind.i64.wrap (bt S i) + IntKind.i64.wrap (bt qQ i))) = ((cN S i + S / 2 ^ (8 * i) % 256 + qQ / 2 ^ (8 * i) % 256 : Nat) : Int) := by
  have := cN_le S i
  unfold bt
  rw [IntKind.wrap_i64, IntKind.wrap_i64, IntKind.wrap_i64, IntKind.wrap_i64]
  omega
theorem step_t (S i : Nat) : IntKind.u8.wrap ((cN S i + S / 2 ^ (8 * i) % 256 + qQ / 2 ^ (8 * i) % 256 : Nat) : Int) = bt (S + qQ) i := by
  have h := carry_byte (2 ^ (8 * i)) S qQ (Nat.two_pow_pos _)
  unfold bt
  rw [h]
  show IntKind.u8.wrap _ = (((cN S i + S / 2 ^ (8 * i) % 256 + qQ / 2 ^ (8 * i) % 256) % 256 : Nat) : Int)
  rw [IntKind.wrap_u8]
  omega
theorem step_s (S i : Nat) : (((cN S i + S / 2 ^ (8 * i) % 256 + qQ / 2 ^ (8 * i) % 256 : Nat) : Int)).fdiv (2 ^ 8) = ((cN S (i + 1) : Nat) : Int) := by
  rw [cN_step, Int.fdiv_eq_ediv_of_nonneg _ (by decide)]
  omega
end Go.Proofs.YtdeigmjbcbjgeaaDoor
/-
  Layer 10: EdwardsMalleable.
-/
namespace Go.Proofs.YtdeigmjbcbjgeaaDoor
open Go.RowKit

theorem shortM_row (n : Nat) (c : Option Nat) (x : Cont) : CallOk Tryd.prog 4 [.im 1 n c x] (ret1 (.v (.bool (decide ((n : Int) ≤ 600))))) := execF_ok follows_ok EM_ok Tryd.func4 (short_exec n c x)
def orcLM (f : Nat) (ds : List LV) : Option LRes :=
  match f with
  | 7 => match ds with
    | [.v (.int .i64 k)] => some (LRes.one (.own 1 32 5 (.flat .u8 (sdP k))))
    | _ => none
  | 4 => match ds with
    | [.im 1 n _ _] => some (ret1 (.v (.bool (decide ((n : Int) ≤ 600)))))
    | _ => none
  | 6 => match ds with
    | [.im 1 n _ (.flat .u8 s)] => if s.length = n ∧ byteOk s = true then some (ePubR n s) else none
    | _ => none
  | 8 => match ds with
    | [.im 1 n _ (.flat .u8 s), .im 1 m _ (.flat .u8 g)] => if (s.length = n ∧ byteOk s = true) ∧ g.length = m ∧ byteOk g = true ∧ m ≤ 100000 then some (signR n s g) else none
    | _ => none
  | 11 => match ds with
    | [.im 1 n _ (.flat .u8 P), .im 1 m _ (.flat .u8 g), .im 1 k _ (.flat .u8 G)] => if (P.length = n ∧ byteOk P = true) ∧ (g.length = m ∧ byteOk g = true ∧ m ≤ 100000) ∧ G.length = k ∧ byteOk G = true then some (ret1 (.v (.bool (verF n k P g G)))) else none
    | _ => none
  | 10 => match ds with
    | [] => some (ret1 (W qQ))
    | _ => none
  | 9 => match ds with
    | [.agg (.flat .u64 a)] => if isW a = true then some (ret1 (F (vl a))) else none
    | _ => none
  | 5 => match ds with
    | [] => some (ret1 (.v (.bool true)))
    | _ => none
  | _ => none
theorem orcLM_ok : Known Tryd.prog orcLM := by
  intro f ds r h
  unfold orcLM at h
  split at h
  · split at h
    · cases h
      exact .inl ⟨⟨_, Tryd.func7, name_ne _ (by kernel_rfl), rfl⟩, seed_call _⟩
    · cases h
  · split at h
    · cases h
      exact .inl ⟨⟨_, Tryd.func4, name_ne _ (by kernel_rfl), rfl⟩, shortM_row _ _ _⟩
    · cases h
  · split at h
    · split at h
      · rename_i hc
        cases h
        exact .inl ⟨⟨_, Tryd.func6, name_ne _ (by kernel_rfl), rfl⟩, Public_call hc.1 (byteAll hc.2)⟩
      · cases h
    · cases h
  · split at h
    · split at h
      · rename_i hc
        cases h
        exact .inl ⟨⟨_, Tryd.func8, name_ne _ (by kernel_rfl), rfl⟩, Sign_call hc.1.1 (byteAll hc.1.2) hc.2.1 (byteAll hc.2.2.1) hc.2.2.2⟩
      · cases h
    · cases h
  · split at h
    · split at h
      · rename_i hc
        cases h
        exact .inl ⟨⟨_, Tryd.func11, name_ne _ (by kernel_rfl), rfl⟩, Verify_call hc.1.1 (byteAll hc.1.2) hc.2.1.1 (byteAll hc.2.1.2.1) hc.2.1.2.2 hc.2.2.1 (byteAll hc.2.2.2)⟩
      · cases h
    · cases h
  · split at h
    · cases h
      exact .inl ⟨⟨_, Tryd.func10, name_ne _ (by kernel_rfl), rfl⟩, rQ_call⟩
    · cases h
  · split at h
    · split at h
      · rename_i hc
        cases h
        exact .inl ⟨⟨_, Tryd.func9, name_ne _ (by kernel_rfl), rfl⟩, store_row hc⟩
      · cases h
    · cases h
  · split at h
    · cases h
      exact .inl ⟨⟨_, Tryd.func5, name_ne _ (by kernel_rfl), rfl⟩, awake10_call⟩
    · cases h
  · cases h
def LPM : Env := ⟨tyL, orcLM, false, noWk, noOrw⟩
theorem LPM_ok : EnvOk Tryd.prog LPM := ⟨tyL_ok, orcLM_ok, noOrw_ok⟩
theorem isN_LPM (f : Nat) {ds : List LV} {K : LRes → Prop} (h : ∃ y, LPM.orc f ds = some y ∧ K y) : ∃ y, LPM.orc f ds = some y ∧ K y := h
theorem lm_awake : LPM.orc 5 [] = some (ret1 (.v (.bool true))) := rfl
theorem lm_Q : LPM.orc 10 [] = some (ret1 (W qQ)) := rfl
set_option maxRecDepth 100000 in
theorem lm_Store : LPM.orc 9 [W qQ] = some (ret1 (F qQ)) := by kernel_rfl
theorem lm_Seed (k : Int) : LPM.orc 7 [iv .i64 k] = some (.one (.own 1 32 5 (.flat .u8 (sdP k)))) := rfl
theorem lm_Short {n : Nat} {c : Option Nat} {x : Cont} {b : Bool} (h : decide ((n : Int) ≤ 600) = b) : LPM.orc 4 [.im 1 n c x] = some (ret1 (.v (.bool b))) := by
  rw [← h]
  rfl
theorem lm_Public {n : Nat} {c : Option Nat} {s : List Int} (h : s.length = n) (hb : By s) : LPM.orc 6 [.im 1 n c (.flat .u8 s)] = some (ePubR n s) := if_pos ⟨h, hb.ok⟩
theorem lm_Sign {n m : Nat} {c d : Option Nat} {s g : List Int} (h : s.length = n) (hb : By s) (hg : g.length = m) (hgb : By g) (hm : m ≤ 100000) : LPM.orc 8 [.im 1 n c (.flat .u8 s), .im 1 m d (.flat .u8 g)] = some (signR n s g) := if_pos ⟨⟨h, hb.ok⟩, hg, hgb.ok, hm⟩
theorem lm_Ver {n m k : Nat} {cp cm cs : Option Nat} {P g G : List Int} (hP : P.length = n) (hPb : By P) (hg : g.length = m) (hgb : By g) (hm : m ≤ 100000) (hG : G.length = k) (hGb : By G) : LPM.orc 11 [.im 1 n cp (.flat .u8 P), .im 1 m cm (.flat .u8 g), .im 1 k cs (.flat .u8 G)] = some (ret1 (.v (.bool (verF n k P g G)))) := if_pos ⟨⟨hP, hPb.ok⟩, ⟨hg, hgb.ok, hm⟩, hG, hGb.ok⟩
set_option maxRecDepth 100000 in
set_option maxHeartbeats 8000000 in
theorem malle_gen (n : Int) (m : Nat) (g S A V QL Qw : List Int) (SV : Nat) (lS : S.length = 32) (lA : A.length = 32) (lV : V.length = 64) (hQ : QL = by32 qQ) (hSV : V.drop 32 = by32 SV)
    (f0 : LPM.orc 4 [.im 1 m none (.flat .u8 g)] = some (ret1 (.v (.bool true)))) (fs : LPM.orc 7 [iv .i64 n] = some (.one (.own 1 32 5 (.flat .u8 S)))) (f1 : ∀ c, LPM.orc 6 [.im 1 32 c (.flat .u8 S)] = some (.many [.own 1 32 31 (.flat .u8 A), .val (iv .i64 0)]))
    (f3 : ∀ c, LPM.orc 8 [.im 1 32 c (.flat .u8 S), .im 1 m none (.flat .u8 g)] = some (.many [.own 1 64 5 (.flat .u8 V), .val (iv .i64 0)])) (fq : LPM.orc 10 [] = some (ret1 (.agg (.flat .u64 Qw)))) (ft : LPM.orc 9 [.agg (.flat .u64 Qw)] = some (ret1 (.agg (.flat .u8 QL))))
    (v1 : ∀ cp cs, LPM.orc 11 [.im 1 32 cp (.flat .u8 A), .im 1 m none (.flat .u8 g), .im 1 64 cs (.flat .u8 V)] = some (ret1 (.v (.bool true)))) (v2 : ∀ cp cs, LPM.orc 11 [.im 1 32 cp (.flat .u8 A), .im 1 m none (.flat .u8 g), .im 1 64 cs (.flat .u8 (tL V SV 32))] = some (ret1 (.v (.bool false)))) :
    execF LPM Tryd.f3 [iv .i64 n, .im 1 m none (.flat .u8 g)] (ret1 (.v (.bool true))) := by
  have dS : (Cont.flat .u8 S).cut 0 (32 * 1) = some (.flat .u8 S) := cut_all lS
  have dA : (Cont.flat .u8 A).cut 0 (32 * 1) = some (.flat .u8 A) := cut_all lA
  have dV : (Cont.flat .u8 V).cut 0 (64 * 1) = some (.flat .u8 V) := cut_all lV
  have lQ : QL.length = 32 := by rw [hQ]; exact byk_len _ _
  have zQ : layOne (.flat .u8 (List.replicate 32 0)) 0 (.flat .u8 QL) = some (.flat .u8 QL) := lay_all (by rw [List.length_replicate, lQ]) (by omega)
  have nQ : (Cont.flat .u8 QL).len = 32 := lQ
  have cQ : (Cont.flat .u8 QL).cut 0 32 = some (.flat .u8 QL) := cut_all lQ
  ((conv => whnf); repeat ((first | refine ⟨_, dS, ?_⟩ | refine ⟨_, dV, ?_⟩ | refine ⟨_, expo_sl rfl dS, ?_⟩ | refine ⟨_, expo_sl rfl dV, ?_⟩ | refine ⟨_, append_nil (cnt := 64) rfl rfl (shown_sl rfl dV) rfl rfl rfl (by decide) (by decide), ?_⟩ | refine ⟨_, cQ, ?_⟩ | refine ⟨_, zQ, ?_⟩ | refine ⟨nQ, ?_⟩ | ((with_reducible refine isN_LPM 4 ?_); first | refine ⟨_, f0, ?_⟩) | ((with_reducible refine isN_LPM 7 ?_); first | refine ⟨_, fs, ?_⟩) | ((with_reducible refine isN_LPM 6 ?_); first | refine ⟨_, f1 _, ?_⟩) | ((with_reducible refine isN_LPM 8 ?_); first | refine ⟨_, f3 _, ?_⟩) | ((with_reducible refine isN_LPM 10 ?_); first | refine ⟨_, fq, ?_⟩) | ((with_reducible refine isN_LPM 9 ?_); first | refine ⟨_, ft, ?_⟩) | refine ⟨_, rfl, ?_⟩ | refine ⟨by decide, ?_⟩ | refine ⟨rfl, ?_⟩ | refine ⟨fun _ => ?_, fun h => absurd h (by decide)⟩ | refine ⟨fun h => absurd h (by decide), fun _ => ?_⟩ | refine ⟨inI_of (by omega), ?_⟩ | refine ⟨⟨rfl, inI_of (by omega)⟩, ?_⟩ | refine ⟨⟨rfl, by decide⟩, ?_⟩ | (apply Exists.intro; refine ⟨?_, ?_⟩; ((try simp only); (try simp only [Nat.zero_add]); (try simp only [Nat.mul_one]); (try simp only [Int.toNat_natCast]); first | exact at_g (by omega) | exact put_flat (by omega))) | refine ⟨_, cut_all (by omega), ?_⟩ | refine ⟨_, lay_all (by omega) (by omega), ?_⟩ | refine ⟨_, lay_all (by (try simp only); (try simp only [List.length_replicate]); (try simp only [List.length_cons]); (try simp only [List.length_nil]); omega) (by omega), ?_⟩ | refine ⟨by omega, ?_⟩ | refine ⟨len_flat (by omega), ?_⟩ | refine ⟨apart_uv _ _ _, ?_⟩ | refine ⟨_, resSlot_own rfl (by omega) (by first | exact .inl rfl | exact .inr ⟨rfl, rfl⟩), ?_⟩ | refine ⟨(by kernel_rfl : regB _ = true), ?_⟩ | refine ⟨⟨rfl, inI_of (by omega), by decide⟩, ?_⟩ | (apply Exists.intro; refine ⟨?_, ?_⟩; ((try simp only); (try simp only [Nat.zero_add]); (try simp only [Nat.mul_one]); (try simp only [Int.toNat_natCast]); first | exact at_drop_g (by omega) | exact cut_rest (by omega)))); conv => whnf))
  refine .inl ⟨fun k st => ∃ i : Nat, k = 32 - i ∧ i ≤ 32 ∧ st = ⟨[.poison, .im 1 m none (.flat .u8 g), .poison, .poison, .poison, .sl 1 160 0 32 none, .poison, .sl 1 216 0 64 none, .poison, .sl 1 336 0 64 none, iv .i64 (cN SV i : Nat), .ptr 88 0, .poison, .poison, .poison, .poison, .poison, .poison, .poison, .poison, .poison, .poison, .poison, .poison, .poison, .poison, .poison, .poison, .poison, .poison, .poison, .poison, .poison, .poison, .poison, .poison, .poison, .poison, .poison, .poison, .poison, .poison, .poison, .poison, .poison, iv .i64 i, .poison, .poison, .poison, .poison, .poison, .poison, .poison, .poison, .poison, .poison, .poison, .poison, .poison, .poison, .poison, .poison, .poison, .poison, .poison, .poison, .poison, .poison, .poison, .poison, .poison, .poison, .poison, .poison, .poison, .poison, .poison, .poison, .poison, .poison, .poison, .poison, .poison, .poison],
      [(160, ⟨.flat .u8 A, 31, true⟩), (216, ⟨.flat .u8 V, 5, true⟩), (336, ⟨.flat .u8 (tL V SV i), 5, true⟩), (88, ⟨.flat .u8 QL, 31, false⟩)]⟩, ⟨[0, 2, 3, 4, 6, 8, 12, 13, 14, 15, 16, 17, 18, 19, 20, 21, 22, 23, 24, 25, 26, 27, 28, 29, 30, 31, 32, 33, 34, 35, 36, 37, 38, 39, 40, 41, 42, 43, 44, 46, 47, 48, 49, 50, 51, 52, 53, 54, 55, 56, 57, 58, 59, 60, 61, 62, 63, 64, 65, 66, 67, 68, 69, 70, 71, 72, 73, 74, 75, 76, 77, 78, 79, 80, 81, 82, 83], [152, 200], 32, 0, rfl, by omega, by rw [tL_zero lV hSV, cN_zero]; kernel_rfl⟩, ?_⟩
  rintro _ _ ⟨i, rfl, hi, rfl⟩
  have lT : (tL V SV i).length = 64 := tL_len _ _ _
  conv => whnf
  refine ⟨fun h => ?_, fun h => ?_⟩
  · have h := of_decide_eq_true h
    have ei : IntKind.i64.wrap (32 + (i : Int)) = ((32 + i : Nat) : Int) := by rw [wrap64 (by omega)]; omega
    ((conv => whnf); repeat ((first | refine ⟨_, rfl, ?_⟩ | refine ⟨by decide, ?_⟩ | refine ⟨rfl, ?_⟩ | refine ⟨fun _ => ?_, fun h => absurd h (by decide)⟩ | refine ⟨fun h => absurd h (by decide), fun _ => ?_⟩ | refine ⟨inI_of (by omega), ?_⟩ | refine ⟨⟨rfl, inI_of (by omega)⟩, ?_⟩ | refine ⟨⟨rfl, by decide⟩, ?_⟩ | refine ⟨by (try simp only); (try simp only [ei]); exact inI_of (by omega), ?_⟩ | refine ⟨⟨rfl, by (try simp only); (try simp only [ei]); exact inI_of (by omega)⟩, ?_⟩ | (apply Exists.intro; refine ⟨?_, ?_⟩; ((try simp only); (try simp only [ei]); (try simp only [Nat.zero_add]); (try simp only [Nat.mul_one]); (try simp only [Int.toNat_natCast]); (try simp only [ei]); (try simp only [Nat.zero_add]); (try simp only [Nat.mul_one]); (try simp only [Int.toNat_natCast]); first | exact at_g (by omega) | exact put_flat (by omega))) | refine ⟨_, cut_all (by omega), ?_⟩ | refine ⟨_, lay_all (by omega) (by omega), ?_⟩ | refine ⟨_, lay_all (by (try simp only); (try simp only [List.length_replicate]); (try simp only [List.length_cons]); (try simp only [List.length_nil]); omega) (by omega), ?_⟩ | refine ⟨by omega, ?_⟩ | refine ⟨len_flat (by omega), ?_⟩ | refine ⟨apart_uv _ _ _, ?_⟩ | refine ⟨_, resSlot_own rfl (by omega) (by first | exact .inl rfl | exact .inr ⟨rfl, rfl⟩), ?_⟩ | refine ⟨(by kernel_rfl : regB _ = true), ?_⟩ | refine ⟨⟨rfl, inI_of (by omega), by decide⟩, ?_⟩ | refine ⟨⟨rfl, by (try simp only); (try simp only [ei]); exact inI_of (by omega), by decide⟩, ?_⟩ | (apply Exists.intro; refine ⟨?_, ?_⟩; ((try simp only); (try simp only [ei]); (try simp only [Nat.zero_add]); (try simp only [Nat.mul_one]); (try simp only [Int.toNat_natCast]); (try simp only [ei]); (try simp only [Nat.zero_add]); (try simp only [Nat.mul_one]); (try simp only [Int.toNat_natCast]); first | exact at_drop_g (by omega) | exact cut_rest (by omega)))); conv => whnf))
    have e1 : IntKind.i64.wrap ((i : Int) + 1) = ((i + 1 : Nat) : Int) := by rw [wrap64 (by omega)]; omega
    have hc : IntKind.i64.wrap ((cN SV i : Nat) + IntKind.i64.wrap (IntKind.i64.wrap (Go.Proofs.YtdeigmjbcbjgeaaDoor.g (tL V SV i) (32 + i)) + IntKind.i64.wrap (Go.Proofs.YtdeigmjbcbjgeaaDoor.g QL i))) = ((cN SV i + SV / 2 ^ (8 * i) % 256 + qQ / 2 ^ (8 * i) % 256 : Nat) : Int) := by
      rw [tL_at (by omega), hQ, g_byk (by omega)]
      exact step_c _ _
    have e2 : (tL V SV i).set (32 + i) (IntKind.u8.wrap (IntKind.i64.wrap ((cN SV i : Nat) + IntKind.i64.wrap (IntKind.i64.wrap (Go.Proofs.YtdeigmjbcbjgeaaDoor.g (tL V SV i) (32 + i)) + IntKind.i64.wrap (Go.Proofs.YtdeigmjbcbjgeaaDoor.g QL i))))) = tL V SV (i + 1) := by rw [hc, step_t, tL_set (by omega)]
    have e3 : (IntKind.i64.wrap ((cN SV i : Nat) + IntKind.i64.wrap (IntKind.i64.wrap (Go.Proofs.YtdeigmjbcbjgeaaDoor.g (tL V SV i) (32 + i)) + IntKind.i64.wrap (Go.Proofs.YtdeigmjbcbjgeaaDoor.g QL i)))).fdiv (2 ^ min (Int.toNat 8) IntKind.i64.bits) = ((cN SV (i + 1) : Nat) : Int) := by
      rw [hc]
      exact step_s SV i
    refine ⟨[0, 2, 3, 4, 6, 8, 12, 13, 14, 15, 16, 17, 18, 19, 20, 21, 22, 23, 24, 25, 26, 27, 28, 29, 30, 31, 32, 33, 34, 35, 36, 37, 38, 39, 40, 41, 42, 43, 44, 46, 47, 48, 49, 50, 51, 52, 53, 54, 55, 56, 57, 58, 59, 60, 61, 62, 63, 64, 65, 66, 67, 68, 69, 70, 71, 72, 73, 74, 75, 76, 77, 78, 79, 80, 81, 82, 83], [], 32 - (i + 1), ?_, i + 1, rfl, by omega, ?_⟩
    · omega
    · rw [← e1, ← e2, ← e3]
      kernel_rfl
  · have h := of_decide_eq_false h
    have hi' : i = 32 := by omega
    subst hi'
    have dT : (Cont.flat .u8 (tL V SV 32)).cut 0 (64 * 1) = some (.flat .u8 (tL V SV 32)) := cut_all (by omega)
    ((conv => whnf); repeat ((first | refine ⟨_, dA, ?_⟩ | refine ⟨_, dV, ?_⟩ | refine ⟨_, dT, ?_⟩ | refine ⟨_, expo_sl rfl dA, ?_⟩ | refine ⟨_, expo_sl rfl dV, ?_⟩ | refine ⟨_, expo_sl rfl dT, ?_⟩ | ((with_reducible refine isN_LPM 11 ?_); first | refine ⟨_, v1 _ _, ?_⟩ | refine ⟨_, v2 _ _, ?_⟩) | ((with_reducible refine isN_LPM 5 ?_); first | refine ⟨_, lm_awake, ?_⟩) | refine ⟨_, rfl, ?_⟩ | refine ⟨by decide, ?_⟩ | refine ⟨rfl, ?_⟩ | refine ⟨fun _ => ?_, fun h => absurd h (by decide)⟩ | refine ⟨fun h => absurd h (by decide), fun _ => ?_⟩ | refine ⟨inI_of (by omega), ?_⟩ | refine ⟨⟨rfl, inI_of (by omega)⟩, ?_⟩ | refine ⟨⟨rfl, by decide⟩, ?_⟩ | (apply Exists.intro; refine ⟨?_, ?_⟩; ((try simp only); (try simp only [Nat.zero_add]); (try simp only [Nat.mul_one]); (try simp only [Int.toNat_natCast]); first | exact at_g (by omega) | exact put_flat (by omega))) | refine ⟨_, cut_all (by omega), ?_⟩ | refine ⟨_, lay_all (by omega) (by omega), ?_⟩ | refine ⟨_, lay_all (by (try simp only); (try simp only [List.length_replicate]); (try simp only [List.length_cons]); (try simp only [List.length_nil]); omega) (by omega), ?_⟩ | refine ⟨by omega, ?_⟩ | refine ⟨len_flat (by omega), ?_⟩ | refine ⟨apart_uv _ _ _, ?_⟩ | refine ⟨_, resSlot_own rfl (by omega) (by first | exact .inl rfl | exact .inr ⟨rfl, rfl⟩), ?_⟩ | refine ⟨(by kernel_rfl : regB _ = true), ?_⟩ | refine ⟨⟨rfl, inI_of (by omega), by decide⟩, ?_⟩ | (apply Exists.intro; refine ⟨?_, ?_⟩; ((try simp only); (try simp only [Nat.zero_add]); (try simp only [Nat.mul_one]); (try simp only [Int.toNat_natCast]); first | exact at_drop_g (by omega) | exact cut_rest (by omega)))); conv => whnf))
    rfl
set_option maxRecDepth 100000 in
set_option maxHeartbeats 8000000 in
theorem malle_long (n : Int) (m : Nat) (g : List Int) (f0 : LPM.orc 4 [.im 1 m none (.flat .u8 g)] = some (ret1 (.v (.bool false)))) : execF LPM Tryd.f3 [iv .i64 n, .im 1 m none (.flat .u8 g)] (ret1 (.v (.bool true))) := by
  ((conv => whnf); repeat ((first | ((with_reducible refine isN_LPM 4 ?_); first | refine ⟨_, f0, ?_⟩) | ((with_reducible refine isN_LPM 5 ?_); first | refine ⟨_, lm_awake, ?_⟩) | refine ⟨_, rfl, ?_⟩ | refine ⟨by decide, ?_⟩ | refine ⟨rfl, ?_⟩ | refine ⟨fun _ => ?_, fun h => absurd h (by decide)⟩ | refine ⟨fun h => absurd h (by decide), fun _ => ?_⟩ | refine ⟨inI_of (by omega), ?_⟩ | refine ⟨⟨rfl, inI_of (by omega)⟩, ?_⟩ | refine ⟨⟨rfl, by decide⟩, ?_⟩ | (apply Exists.intro; refine ⟨?_, ?_⟩; ((try simp only); (try simp only [Nat.zero_add]); (try simp only [Nat.mul_one]); (try simp only [Int.toNat_natCast]); first | exact at_g (by omega) | exact put_flat (by omega))) | refine ⟨_, cut_all (by omega), ?_⟩ | refine ⟨_, lay_all (by omega) (by omega), ?_⟩ | refine ⟨_, lay_all (by (try simp only); (try simp only [List.length_replicate]); (try simp only [List.length_cons]); (try simp only [List.length_nil]); omega) (by omega), ?_⟩ | refine ⟨by omega, ?_⟩ | refine ⟨len_flat (by omega), ?_⟩ | refine ⟨apart_uv _ _ _, ?_⟩ | refine ⟨_, resSlot_own rfl (by omega) (by first | exact .inl rfl | exact .inr ⟨rfl, rfl⟩), ?_⟩ | refine ⟨(by kernel_rfl : regB _ = true), ?_⟩ | refine ⟨⟨rfl, inI_of (by omega), by decide⟩, ?_⟩ | (apply Exists.intro; refine ⟨?_, ?_⟩; ((try simp only); (try simp only [Nat.zero_add]); (try simp only [Nat.mul_one]); (try simp only [Int.toNat_natCast]); first | exact at_drop_g (by omega) | exact cut_rest (by omega)))); conv => whnf))
  rfl
theorem malle_exec (n : Int) (g : List Int) (hg : By g) : execF LPM Tryd.f3 [iv .i64 n, .im 1 g.length none (.flat .u8 g)] (ret1 (.v (.bool true))) := by
  by_cases hm : (g.length : Int) ≤ 600
  case neg => exact malle_long n _ g (lm_Short (decide_eq_false hm))
  have f0 := lm_Short (c := none) (x := .flat .u8 g) (decide_eq_true hm)
  have hm' : g.length ≤ 100000 := by omega
  have lS := sdP_len n
  have bS := sdP_by n
  have fs := lm_Seed n
  generalize sdP n = S at fs lS bS
  have bV : By (sigL S g) := (byk_by _ _).append (byk_by _ _)
  have hd : (sigL S g).drop 32 = by32 ((kNum (fstL S g) (pubL S) g * secN S + rNum S g) % qQ) := List.drop_left' (fstL_len S g)
  have hb : qQ ≤ nb ((tL (sigL S g) ((kNum (fstL S g) (pubL S) g * secN S + rNum S g) % qQ) 32).drop 32) := by
    have h1 : (kNum (fstL S g) (pubL S) g * secN S + rNum S g) % qQ < qQ := Nat.mod_lt _ qQ_pos
    have h2 : 2 * qQ ≤ 2 ^ 256 := by decide
    rw [tL_end, nb_by32 (by omega)]
    omega
  have v1 := fun (cp cs : Option Nat) => lm_Ver (cp := cp) (cm := none) (cs := cs) (pubL_len S) (byk_by _ _) rfl hg hm' (sigL_len S g) bV
  have v2 := fun (cp cs : Option Nat) => lm_Ver (cp := cp) (cm := none) (cs := cs) (pubL_len S) (byk_by _ _) rfl hg hm' (tL_len (sigL S g) ((kNum (fstL S g) (pubL S) g * secN S + rNum S g) % qQ) 32) (tL_by bV _ _)
  rw [sign_verifies] at v1
  rw [forged hb] at v2
  exact malle_gen n _ g S (pubL S) (sigL S g) _ _ _ lS (pubL_len S) (sigL_len S g) rfl hd f0 fs (fun c => lm_Public (c := c) lS bS) (fun c => lm_Sign (c := c) (d := none) lS bS rfl hg hm') lm_Q lm_Store v1 v2
end Go.Proofs.YtdeigmjbcbjgeaaDoor
