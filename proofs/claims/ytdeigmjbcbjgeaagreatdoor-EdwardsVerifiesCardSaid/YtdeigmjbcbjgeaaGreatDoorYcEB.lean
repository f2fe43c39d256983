import Derived.Test.YtdeigmjbcbjgeaaGreatDoorYcGM
namespace Go.Proofs.YtdeigmjbcbjgeaaGreatDoor
open Go.RowKit
def wrN (p : Pn) : Nat := nM p.y (pw p.z e3R) + nM p.x (pw p.z e3R) % 2 * 2 ^ 255
theorem wrN_lt (p : Pn) : wrN p < 2 ^ 256 := by
 have h1 : nM p.y (pw p.z e3R) < pP := nM_lp _ _
 have h2 : pP < 2 ^ 255 := by decide
 unfold wrN
 omega
theorem rootR_lp (x : Nat) : (rootR x).1 < pP := by
 unfold rootR
 split
 ·split
  ·rename_i h1 h2
   have hc := candR_lt x
   show minR 0 (candR x) < pP
   unfold minR
   split <;> omega
  ·exact candR_lt x
 ·exact pP_pos
def rdX (n : Nat) : Nat × Bool := rootR (nM (nS (nM (n % 2 ^ 255) (n % 2 ^ 255)) 1) (pw (nA (nM dN (nM (n % 2 ^ 255) (n % 2 ^ 255))) 1) e3R))
def rdOk (n : Nat) : Bool := decide (n % 2 ^ 255 < pP) && (rdX n).2 && !(decide ((rdX n).1 = 0) && decide (n / 2 ^ 255 = 1))
def rdS (n : Nat) : Nat := if n / 2 ^ 255 = 1 then nS 0 (rdX n).1 else (rdX n).1
def rdP (n : Nat) : Pn := if rdOk n then ⟨rdS n, n % 2 ^ 255, 1, nM (rdS n) (n % 2 ^ 255)⟩ else ⟨0, 0, 0, 0⟩
theorem rdS_lp (n : Nat) : rdS n < pP := by
 unfold rdS
 split
 ·exact nS_lp _ _
 ·exact rootR_lp _
theorem rdP_lt (n : Nat) : (rdP n).lt := by
 unfold rdP
 split
 ·rename_i h
  simp only [rdOk, Bool.and_eq_true, decide_eq_true_eq] at h
  exact ⟨rdS_lp n, h.1.1, by show 1 < pP; decide, nM_lp _ _⟩
 ·exact ⟨pP_pos, pP_pos, pP_pos, pP_pos⟩
theorem bit0_n (r : Nat) : bits .and .u64 (dg r 0) 1 = ((r % 2 : Nat) : Int) := by
 rw [(dg_lit r).1]
 have h := bits_and_u64_nat (r % 18446744073709551616) 1 (by omega) (by omega)
 rw [Nat.and_one_is_mod, show r % 18446744073709551616 % 2 = r % 2 by omega] at h
 exact h
theorem g_Root {a : Nat} (ha : a < 2 ^ 256) : EE1.orc 71 [W a] = some (.many [.val (W (rootR a).1), .val (.v (.bool (rootR a).2))]) := (show EE1.orc 71 [W a] = ER6.orc 71 [W a] from rfl).trans (o_rRoot ha)
theorem g_Below {a b : Nat} (ha : a < 2 ^ 256) (hb : b < 2 ^ 256) : EE1.orc 62 [W a, W b] = some (ret1 (.v (.bool (decide (a < b))))) := (show EE1.orc 62 [W a, W b] = ER6.orc 62 [W a, W b] from rfl).trans (r_Below6 ha hb)
theorem g_P : EE1.orc 36 [] = some (ret1 (W pP)) := rfl
theorem wd_one : wd 1 = [1, 0, 0, 0] := by kernel_rfl
theorem P4_one (x y t : Nat) : P4 ⟨x, y, 1, t⟩ = LV.agg (.flat .u64 (wd x ++ (wd y ++ ([1, 0, 0, 0] ++ wd t)))) := by
 show LV.agg (.flat .u64 (wd x ++ (wd y ++ (wd 1 ++ wd t)))) = _
 rw [wd_one]
theorem bdE {is : List Nat} {xs : List LV} {r : LV × List (Nat × Blk)} (h : opBuild EG3 65 is xs = some r) : opBuild EE1 65 is xs = some r := h
theorem eql_goN {a b : List Int} {q : Bool} {K : LV × List (Nat × Blk) → Prop} (ha : a.length = 4) (hb : b.length = 4) (hq : (a == b) = q) (h : K (.v (.bool q), [])) : runs (opBin EE1 .eql 54 (.agg (.flat .u64 a)) (.agg (.flat .u64 b))) K := by
 have e : opBin EE1 .eql 54 (.agg (.flat .u64 a)) (.agg (.flat .u64 b)) = some (.v (.bool (a == b)), []) := if_pos ⟨rfl, ha, hb⟩
 rw [e, hq]
 exact h
theorem g_Plus {a b : Nat} (ha : a < pP) (hb : b < pP) : EE1.orc 74 [W a, W b] = some (ret1 (W (nA a b))) := (show EE1.orc 74 [W a, W b] = EG3.orc 74 [W a, W b] from rfl).trans (t_Plus ha hb)
theorem g_Minus {a b : Nat} (ha : a < pP) (hb : b < pP) : EE1.orc 73 [W a, W b] = some (ret1 (W (nS a b))) := (show EE1.orc 73 [W a, W b] = EG3.orc 73 [W a, W b] from rfl).trans (t_Minus ha hb)
theorem g_Times {a b : Nat} (ha : a < pP) (hb : b < pP) : EE1.orc 82 [W a, W b] = some (ret1 (W (nM a b))) := (show EE1.orc 82 [W a, W b] = EG3.orc 82 [W a, W b] from rfl).trans (t_Times ha hb)
theorem g_Inverse {a : Nat} (ha : a < 2 ^ 256) : EE1.orc 83 [W a] = some (ret1 (W (pw a e3R))) := (show EE1.orc 83 [W a] = EG3.orc 83 [W a] from rfl).trans (t_Inverse ha)
theorem g_Store {a : Nat} (ha : a < 2 ^ 256) : EE1.orc 35 [W a] = some (ret1 (F a)) := (show EE1.orc 35 [W a] = EG3.orc 35 [W a] from rfl).trans (t_Store ha)
theorem g_Load {a : Nat} (ha : a < 2 ^ 256) : EE1.orc 63 [F a] = some (ret1 (W a)) := (show EE1.orc 63 [F a] = EG3.orc 63 [F a] from rfl).trans (t_Load ha)
set_option maxRecDepth 100000 in
set_option maxHeartbeats 8000000 in
theorem rWrite_exec (p : Pn) (hp : p.lt) : execF EE1 Tryz.f42 [P4 p] (ret1 (F (wrN p))) := by
 obtain ⟨h1, h2, h3, h4⟩ := hp
 have f1 := g_Inverse (lt256 h3)
 have f2 := g_Times h1 (pw_ltP p.z)
 have f3 := g_Times h2 (pw_ltP p.z)
 have hvl : nM p.y (pw p.z e3R) < pP := nM_lp _ _
 have hpp : pP < 2 ^ 255 := by decide
 have f4 := g_Store (lt256 hvl)
 have hw : wrN p = nM p.y (pw p.z e3R) + nM p.x (pw p.z e3R) % 2 * 2 ^ 255 := rfl
 generalize nM p.y (pw p.z e3R) = v at *
 generalize nM p.x (pw p.z e3R) = u at *
 generalize wrN p = r at *
 generalize pw p.z e3R = z at *
 obtain ⟨c1, c2, c3, _⟩ := cut4 (wd_len p.x) (wd_len p.y) (wd_len p.z) (wd_len p.t)
 rw [P4, w4]
 generalize p.x = px at *
 generalize p.y = py at *
 generalize p.z = pz at *
 generalize p.t = pt at *
 obtain ⟨X, hX⟩ : ∃ X, X = wd px := ⟨_, rfl⟩
 have lX : X.length = 4 := by rw [hX]; rfl
 obtain ⟨Y, hY⟩ : ∃ Y, Y = wd py := ⟨_, rfl⟩
 have lY : Y.length = 4 := by rw [hY]; rfl
 obtain ⟨Z, hZ⟩ : ∃ Z, Z = wd pz := ⟨_, rfl⟩
 have lZ : Z.length = 4 := by rw [hZ]; rfl
 obtain ⟨I, hI⟩ : ∃ I, I = wd z := ⟨_, rfl⟩
 have lI : I.length = 4 := by rw [hI]; rfl
 obtain ⟨U, hU⟩ : ∃ U, U = wd u := ⟨_, rfl⟩
 have lU : U.length = 4 := by rw [hU]; rfl
 obtain ⟨V, hV⟩ : ∃ V, V = wd v := ⟨_, rfl⟩
 have lV : V.length = 4 := by rw [hV]; rfl
 obtain ⟨P, hP⟩ : ∃ P, P = wd px ++ (wd py ++ (wd pz ++ wd pt)) := ⟨_, rfl⟩
 obtain ⟨B, hB⟩ : ∃ B, B = by32 v := ⟨_, rfl⟩
 obtain ⟨w0, hw0⟩ : ∃ w0, w0 = dg u 0 := ⟨_, rfl⟩
 obtain ⟨y1, hy1⟩ : ∃ y1, y1 = g B 31 := ⟨_, rfl⟩
 have lP : P.length = 16 := by rw [hP]; rfl
 have lB : B.length = 32 := by rw [hB, byk_len]
 have a1 : (Cont.flat .u64 U).at? 0 = some (.v (.int .u64 w0)) := by rw [hU, hw0]; rfl
 have a2 : (Cont.flat .u8 B).at? 31 = some (.v (.int .u8 y1)) := by rw [hy1]; exact at_g (by omega)
 have b0 : bits .and .u64 w0 1 = ((u % 2 : Nat) : Int) := by rw [hw0]; exact bit0_n u
 have hy : y1 = bt v 31 := by rw [hy1, hB, g_byk (by decide)]
 simp only [W] at f1 f2 f3 f4
 rw [F, ← hV, ← hB] at f4
 rw [← hY, ← hI, ← hV] at f3
 rw [← hX, ← hI, ← hU] at f2
 rw [← hZ, ← hI] at f1
 rw [← hP] at c1 c2 c3 ⊢
 rw [← hX] at c1
 rw [← hY] at c2
 rw [← hZ] at c3
 have hm : u % 2 = 0 ∨ u % 2 = 1 := by omega
 clear hX hY hZ hI hU hV hP
 rcases hm with hm | hm
 ·rw [hm] at b0 hw
  obtain ⟨L, hL⟩ : ∃ L, L = B.set 31 (bits .or .u8 y1 0) := ⟨_, rfl⟩
  have lL : L.length = 32 := by rw [hL, List.length_set, lB]
  have p2 : ∀ e : Int, e = 0 → layOne (.flat .u8 B) 31 (.flat .u8 [bits .or .u8 y1 e]) = some (.flat .u8 L) := by
   intro e he
   rw [he, hL]
   exact put_flat (by omega)
  have eL : L = by32 r := by
   rw [hL, hB, hy, hw]
   exact top_list v 0 _ (by omega) (by decide) rfl
  have nE : (Cont.flat .u8 L).len = 32 := lL
  have zE : layOne (.flat .u8 (List.replicate 32 0)) 0 (.flat .u8 L) = some (.flat .u8 L) := lay_all (by rw [List.length_replicate, lL]) (by omega)
  have cE : (Cont.flat .u8 L).cut 0 32 = some (.flat .u8 L) := cut_all lL
  rw [F, ← eL]
  clear eL hL hB hy1 hy hw0
  ((conv => whnf); repeat ((first | refine ⟨_, c1, ?_⟩ | refine ⟨_, c2, ?_⟩ | refine ⟨_, c3, ?_⟩ | refine ⟨_, a1, ?_⟩ | refine ⟨_, a2, ?_⟩ | refine ⟨_, p2 _ (by rw [b0]; rfl), ?_⟩ | refine ⟨_, zE, ?_⟩ | refine ⟨nE, ?_⟩ | refine ⟨_, cE, ?_⟩ | ((with_reducible refine isN_EE1 83 ?_); first | refine ⟨_, f1, ?_⟩) | ((with_reducible refine isN_EE1 82 ?_); first | refine ⟨_, f2, ?_⟩ | refine ⟨_, f3, ?_⟩) | ((with_reducible refine isN_EE1 35 ?_); first | refine ⟨_, f4, ?_⟩) | refine ⟨_, rfl, ?_⟩ | refine ⟨by decide, ?_⟩ | refine ⟨rfl, ?_⟩ | refine ⟨_, cut_all (by omega), ?_⟩ | refine ⟨_, lay_all (by (try simp only); (try simp only [List.length_replicate]); (try simp only [List.length_cons]); (try simp only [List.length_nil]); omega) (by omega), ?_⟩ | refine ⟨len_flat (by omega), ?_⟩); conv => whnf))
  rfl
 ·rw [hm] at b0 hw
  obtain ⟨L, hL⟩ : ∃ L, L = B.set 31 (bits .or .u8 y1 128) := ⟨_, rfl⟩
  have lL : L.length = 32 := by rw [hL, List.length_set, lB]
  have p2 : ∀ e : Int, e = 128 → layOne (.flat .u8 B) 31 (.flat .u8 [bits .or .u8 y1 e]) = some (.flat .u8 L) := by
   intro e he
   rw [he, hL]
   exact put_flat (by omega)
  have eL : L = by32 r := by
   rw [hL, hB, hy, hw]
   exact top_list v 1 _ (by omega) (by decide) rfl
  have nE : (Cont.flat .u8 L).len = 32 := lL
  have zE : layOne (.flat .u8 (List.replicate 32 0)) 0 (.flat .u8 L) = some (.flat .u8 L) := lay_all (by rw [List.length_replicate, lL]) (by omega)
  have cE : (Cont.flat .u8 L).cut 0 32 = some (.flat .u8 L) := cut_all lL
  rw [F, ← eL]
  clear eL hL hB hy1 hy hw0
  ((conv => whnf); repeat ((first | refine ⟨_, c1, ?_⟩ | refine ⟨_, c2, ?_⟩ | refine ⟨_, c3, ?_⟩ | refine ⟨_, a1, ?_⟩ | refine ⟨_, a2, ?_⟩ | refine ⟨_, p2 _ (by rw [b0]; rfl), ?_⟩ | refine ⟨_, zE, ?_⟩ | refine ⟨nE, ?_⟩ | refine ⟨_, cE, ?_⟩ | ((with_reducible refine isN_EE1 83 ?_); first | refine ⟨_, f1, ?_⟩) | ((with_reducible refine isN_EE1 82 ?_); first | refine ⟨_, f2, ?_⟩ | refine ⟨_, f3, ?_⟩) | ((with_reducible refine isN_EE1 35 ?_); first | refine ⟨_, f4, ?_⟩) | refine ⟨_, rfl, ?_⟩ | refine ⟨by decide, ?_⟩ | refine ⟨rfl, ?_⟩ | refine ⟨_, cut_all (by omega), ?_⟩ | refine ⟨_, lay_all (by (try simp only); (try simp only [List.length_replicate]); (try simp only [List.length_cons]); (try simp only [List.length_nil]); omega) (by omega), ?_⟩ | refine ⟨len_flat (by omega), ?_⟩); conv => whnf))
  rfl
set_option maxRecDepth 100000 in
set_option maxHeartbeats 8000000 in
theorem rRead_exec (n : Nat) (hn : n < 2 ^ 256) : execF EE1 Tryz.f41 [F n] (.many [.val (P4 (rdP n)), .val (.v (.bool (rdOk n)))]) := by
 have hy : n % 2 ^ 255 < 2 ^ 256 := by omega
 have f1 := g_Load hy
 have f2 := g_Below hy pP_lt
 have hpp : pP < 2 ^ 255 := by decide
 obtain ⟨l, hl⟩ : ∃ l, l = by32 n := ⟨_, rfl⟩
 have ll : l.length = 32 := by rw [hl, byk_len]
 obtain ⟨x1, hx1⟩ : ∃ x1, x1 = g l 31 := ⟨_, rfl⟩
 have a1 : (Cont.flat .u8 l).at? 31 = some (.v (.int .u8 x1)) := by rw [hx1]; exact at_g (by omega)
 obtain ⟨m1, hm1⟩ : ∃ m1, m1 = l.set 31 (bits .and .u8 x1 127) := ⟨_, rfl⟩
 have p1 : layOne (.flat .u8 l) 31 (.flat .u8 [bits .and .u8 x1 127]) = some (.flat .u8 m1) := by rw [hm1]; exact put_flat (by omega)
 have lm1 : m1.length = 32 := by rw [hm1, List.length_set]; exact ll
 have hx1' : x1 = bt n 31 := by rw [hx1, hl, g_byk (by decide)]
 have em : m1 = by32 (n % 2 ^ 255) := by
  have c1 := (clamp_bits (n / 2 ^ (8 * 31) % 256) (by omega)).2.2.2.2.2
  rw [hm1, hl]
  refine mask_list n _ ?_
  rw [hx1']; exact c1
 have cm : (Cont.flat .u8 m1).cut 0 32 = some (.flat .u8 m1) := cut_all lm1
 have sg : x1.fdiv (2 ^ min (Int.toNat 7) IntKind.u8.bits) = ((n / 2 ^ 255 : Nat) : Int) := by
  rw [hx1', bt]
  show (((n / 2 ^ (8 * 31) % 256 : Nat) : Int)).fdiv ((2 ^ 7 : Nat) : Int) = _
  rw [Int.fdiv_eq_ediv_of_nonneg _ (by omega), ← Int.natCast_ediv]
  congr 1
  omega
 obtain ⟨Y, hY⟩ : ∃ Y, Y = wd (n % 2 ^ 255) := ⟨_, rfl⟩
 have lY : Y.length = 4 := by rw [hY]; rfl
 have cY : (Cont.flat .u64 Y).cut 0 4 = some (.flat .u64 Y) := cut_all lY
 have fP := g_P
 rw [F, ← em, W, ← hY] at f1
 rw [W, ← hY] at f2
 rw [F, ← hl]
 by_cases h0 : n % 2 ^ 255 < pP
 case neg =>
  have ok : rdOk n = false := by unfold rdOk; rw [decide_eq_false h0]; rfl
  rw [decide_eq_false h0] at f2
  rw [rdP, ok, if_neg (by decide)]
  clear em hm1 hx1 hl hx1' hY
  ((conv => whnf); repeat ((first | refine ⟨_, a1, ?_⟩ | refine ⟨_, p1, ?_⟩ | refine ⟨_, cm, ?_⟩ | refine ⟨_, cY, ?_⟩ | ((with_reducible refine isN_EE1 63 ?_); first | refine ⟨_, f1, ?_⟩) | ((with_reducible refine isN_EE1 62 ?_); first | refine ⟨_, f2, ?_⟩) | ((with_reducible refine isN_EE1 36 ?_); first | refine ⟨_, fP, ?_⟩) | refine ⟨_, rfl, ?_⟩ | refine ⟨by decide, ?_⟩ | refine ⟨rfl, ?_⟩ | refine ⟨fun _ => ?_, fun h => absurd h (by decide)⟩ | refine ⟨_, lay_all (by (try simp only); (try simp only [List.length_replicate]); (try simp only [List.length_cons]); (try simp only [List.length_nil]); omega) (by omega), ?_⟩ | refine ⟨len_flat (by omega), ?_⟩); conv => whnf))
  rfl
 rw [decide_eq_true h0] at f2
 have hyy : nM (n % 2 ^ 255) (n % 2 ^ 255) < pP := nM_lp _ _
 have f3 := g_Times h0 h0
 have f4 := g_Minus hyy (show 1 < pP by decide)
 have f5 := g_Times dN_lt hyy
 have f6 := g_Plus (nM_lp dN (nM (n % 2 ^ 255) (n % 2 ^ 255))) (show 1 < pP by decide)
 have f7 := g_Inverse (nA_lt (nM dN (nM (n % 2 ^ 255) (n % 2 ^ 255))) 1)
 have f8 := g_Times (nS_lp (nM (n % 2 ^ 255) (n % 2 ^ 255)) 1) (pw_ltP (nA (nM dN (nM (n % 2 ^ 255) (n % 2 ^ 255))) 1))
 have f9 := g_Root (nM_lt (nS (nM (n % 2 ^ 255) (n % 2 ^ 255)) 1) (pw (nA (nM dN (nM (n % 2 ^ 255) (n % 2 ^ 255))) 1) e3R))
 rw [show rootR (nM (nS (nM (n % 2 ^ 255) (n % 2 ^ 255)) 1) (pw (nA (nM dN (nM (n % 2 ^ 255) (n % 2 ^ 255))) 1) e3R)) = rdX n from rfl] at f9
 have hx0 : (rdX n).1 < pP := rootR_lp _
 have g1 := g_Minus (show 0 < pP by decide) hx0
 have g2 := g_Times (rdS_lp n) h0
 have hok : rdOk n = ((rdX n).2 && !(decide ((rdX n).1 = 0) && decide (n / 2 ^ 255 = 1))) := by unfold rdOk; rw [decide_eq_true h0, Bool.true_and]
 have hS : rdS n = if n / 2 ^ 255 = 1 then nS 0 (rdX n).1 else (rdX n).1 := rfl
 have hP : rdP n = if rdOk n then ⟨rdS n, n % 2 ^ 255, 1, nM (rdS n) (n % 2 ^ 255)⟩ else ⟨0, 0, 0, 0⟩ := rfl
 have heq : (wd (rdX n).1 == [0, 0, 0, 0]) = decide ((rdX n).1 = 0) := beq_wdR (b := 0) (lt256 hx0) (by decide)
 rw [W_one] at f4 f6
 rw [W_zero] at g1
 have eD := e_D
 generalize rdOk n = ok at *
 generalize rdS n = xs at *
 generalize rdP n = res at *
 generalize (rdX n).2 = rb at *
 generalize (rdX n).1 = x0 at *
 generalize nM xs (n % 2 ^ 255) = tt at *
 generalize nM (nS (nM (n % 2 ^ 255) (n % 2 ^ 255)) 1) (pw (nA (nM dN (nM (n % 2 ^ 255) (n % 2 ^ 255))) 1) e3R) = v at *
 generalize pw (nA (nM dN (nM (n % 2 ^ 255) (n % 2 ^ 255))) 1) e3R = iv' at *
 generalize nA (nM dN (nM (n % 2 ^ 255) (n % 2 ^ 255))) 1 = de at *
 generalize nM dN (nM (n % 2 ^ 255) (n % 2 ^ 255)) = dy at *
 generalize nS (nM (n % 2 ^ 255) (n % 2 ^ 255)) 1 = nu at *
 generalize nM (n % 2 ^ 255) (n % 2 ^ 255) = yy at *
 simp only [W] at f3 f4 f5 f6 f7 f8 f9 g1 g2 eD
 obtain ⟨YY, hYY⟩ : ∃ YY, YY = wd yy := ⟨_, rfl⟩
 have lYY : YY.length = 4 := by rw [hYY]; rfl
 obtain ⟨NU, hNU⟩ : ∃ NU, NU = wd nu := ⟨_, rfl⟩
 have lNU : NU.length = 4 := by rw [hNU]; rfl
 obtain ⟨DY, hDY⟩ : ∃ DY, DY = wd dy := ⟨_, rfl⟩
 have lDY : DY.length = 4 := by rw [hDY]; rfl
 obtain ⟨DE, hDE⟩ : ∃ DE, DE = wd de := ⟨_, rfl⟩
 have lDE : DE.length = 4 := by rw [hDE]; rfl
 obtain ⟨IV, hIV⟩ : ∃ IV, IV = wd iv' := ⟨_, rfl⟩
 have lIV : IV.length = 4 := by rw [hIV]; rfl
 obtain ⟨VV, hVV⟩ : ∃ VV, VV = wd v := ⟨_, rfl⟩
 have lVV : VV.length = 4 := by rw [hVV]; rfl
 obtain ⟨X0, hX0⟩ : ∃ X0, X0 = wd x0 := ⟨_, rfl⟩
 have lX0 : X0.length = 4 := by rw [hX0]; rfl
 obtain ⟨DD, hDD⟩ : ∃ DD, DD = wd dN := ⟨_, rfl⟩
 have lDD : DD.length = 4 := by rw [hDD]; rfl
 obtain ⟨NG, hNG⟩ : ∃ NG, NG = wd (nS 0 x0) := ⟨_, rfl⟩
 have lNG : NG.length = 4 := by rw [hNG]; rfl
 obtain ⟨XS, hXS⟩ : ∃ XS, XS = wd xs := ⟨_, rfl⟩
 have lXS : XS.length = 4 := by rw [hXS]; rfl
 obtain ⟨TT, hTT⟩ : ∃ TT, TT = wd tt := ⟨_, rfl⟩
 have lTT : TT.length = 4 := by rw [hTT]; rfl
 rw [← hY, ← hYY] at f3
 rw [← hYY, ← hNU] at f4
 rw [← hDD, ← hYY, ← hDY] at f5
 rw [← hDY, ← hDE] at f6
 rw [← hDE, ← hIV] at f7
 rw [← hNU, ← hIV, ← hVV] at f8
 rw [← hVV, ← hX0] at f9
 rw [← hX0, ← hNG] at g1
 rw [← hXS, ← hY, ← hTT] at g2
 rw [← hDD] at eD
 rw [← hX0] at heq
 have cYY : (Cont.flat .u64 YY).cut 0 4 = some (.flat .u64 YY) := cut_all lYY
 have cX0 : (Cont.flat .u64 X0).cut 0 4 = some (.flat .u64 X0) := cut_all lX0
 have cXS : (Cont.flat .u64 XS).cut 0 4 = some (.flat .u64 XS) := cut_all lXS
 have cNG : (Cont.flat .u64 NG).cut 0 4 = some (.flat .u64 NG) := cut_all lNG
 have zX : layOne (.flat .u64 X0) 0 (.flat .u64 NG) = some (.flat .u64 NG) := lay_all (by rw [lX0, lNG]) (by omega)
 have nX : (Cont.flat .u64 NG).len = 4 := lNG
 have hs2 : n / 2 ^ 255 = 0 ∨ n / 2 ^ 255 = 1 := by omega
 cases rb with
 | false =>
  rw [hP, hok, Bool.false_and, if_neg (by decide)]
  clear em hm1 hx1 hl hx1' hY hYY hNU hDY hDE hIV hVV hX0 hDD hNG hTT hXS
  ((conv => whnf); repeat ((first | refine ⟨_, a1, ?_⟩ | refine ⟨_, p1, ?_⟩ | refine ⟨_, cm, ?_⟩ | refine ⟨_, cY, ?_⟩ | refine ⟨_, cYY, ?_⟩ | ((with_reducible refine isN_EE1 63 ?_); first | refine ⟨_, f1, ?_⟩) | ((with_reducible refine isN_EE1 62 ?_); first | refine ⟨_, f2, ?_⟩) | ((with_reducible refine isN_EE1 36 ?_); first | refine ⟨_, fP, ?_⟩) | ((with_reducible refine isN_EE1 44 ?_); first | refine ⟨_, eD, ?_⟩) | ((with_reducible refine isN_EE1 82 ?_); first | refine ⟨_, f3, ?_⟩ | refine ⟨_, f5, ?_⟩ | refine ⟨_, f8, ?_⟩ | refine ⟨_, g2, ?_⟩) | ((with_reducible refine isN_EE1 73 ?_); first | refine ⟨_, f4, ?_⟩ | refine ⟨_, g1, ?_⟩) | ((with_reducible refine isN_EE1 74 ?_); first | refine ⟨_, f6, ?_⟩) | ((with_reducible refine isN_EE1 83 ?_); first | refine ⟨_, f7, ?_⟩) | ((with_reducible refine isN_EE1 71 ?_); first | refine ⟨_, f9, ?_⟩) | refine ⟨_, rfl, ?_⟩ | refine ⟨by decide, ?_⟩ | refine ⟨rfl, ?_⟩ | refine ⟨fun _ => ?_, fun h => absurd h (by decide)⟩ | refine ⟨fun h => absurd h (by decide), fun _ => ?_⟩ | refine ⟨_, lay_all (by (try simp only); (try simp only [List.length_replicate]); (try simp only [List.length_cons]); (try simp only [List.length_nil]); omega) (by omega), ?_⟩ | refine ⟨len_flat (by omega), ?_⟩); conv => whnf))
  rfl
 | true =>
  rw [Bool.true_and] at hok
  rcases hs2 with hs | hs
  ·have qs : (x1.fdiv (2 ^ min (Int.toNat 7) IntKind.u8.bits) == 1) = false := by rw [sg, hs]; rfl
   have hd1 : decide (n / 2 ^ 255 = 1) = false := by rw [hs]; rfl
   rw [hs, if_neg (by decide)] at hS
   by_cases hz : x0 = 0
   ·have heq' : (X0 == [0, 0, 0, 0]) = true := by rw [heq]; exact decide_eq_true hz
    have hdz : decide (x0 = 0) = true := decide_eq_true hz
    rw [hdz, hd1] at hok
    have hok' : ok = true := hok
    rw [hP, hok', if_pos rfl]
    have hbd := build4 (x := X0) (y := Y) (z := [1, 0, 0, 0]) (t := TT) lX0 lY rfl lTT
    obtain ⟨V, hV⟩ : ∃ V, V = X0 ++ (Y ++ ([1, 0, 0, 0] ++ TT)) := ⟨_, rfl⟩
    have lV : V.length = 16 := by rw [hV, List.length_append, List.length_append, List.length_append, lX0, lY, lTT]; rfl
    rw [← hV] at hbd
    have eXX : XS = X0 := by rw [hXS, hX0, hS]
    have eV := P4_one xs (n % 2 ^ 255) tt
    rw [← hXS, ← hY, ← hTT, eXX, ← hV] at eV
    rw [eXX] at g2
    clear hV eXX cXS lXS hok hok' hz hdz heq em hm1 hx1 hl hx1' hY hYY hNU hDY hDE hIV hVV hX0 hDD hNG hTT hXS
    rw [eV]
    clear eV
    have zV : layOne (.flat .u64 (List.replicate 16 0)) 0 (.flat .u64 V) = some (.flat .u64 V) := lay_all (by rw [List.length_replicate, lV]) (by omega)
    have nV : (Cont.flat .u64 V).len = 16 := lV
    have cV : (Cont.flat .u64 V).cut 0 16 = some (.flat .u64 V) := cut_all lV
    ((conv => whnf); repeat ((first | refine ⟨_, a1, ?_⟩ | refine ⟨_, p1, ?_⟩ | refine ⟨_, cm, ?_⟩ | refine ⟨_, cY, ?_⟩ | refine ⟨_, cYY, ?_⟩ | refine ⟨_, cX0, ?_⟩ | refine ⟨fun _ => ?_, fun h => absurd ((qs).symm.trans h) (by decide)⟩ | refine ⟨fun h => absurd ((qs).symm.trans h) (by decide), fun _ => ?_⟩ | refine ⟨_, zV, ?_⟩ | refine ⟨nV, ?_⟩ | refine ⟨_, cV, ?_⟩ | ((with_reducible refine isN_EE1 63 ?_); first | refine ⟨_, f1, ?_⟩) | ((with_reducible refine isN_EE1 62 ?_); first | refine ⟨_, f2, ?_⟩) | ((with_reducible refine isN_EE1 36 ?_); first | refine ⟨_, fP, ?_⟩) | ((with_reducible refine isN_EE1 44 ?_); first | refine ⟨_, eD, ?_⟩) | ((with_reducible refine isN_EE1 82 ?_); first | refine ⟨_, f3, ?_⟩ | refine ⟨_, f5, ?_⟩ | refine ⟨_, f8, ?_⟩ | refine ⟨_, g2, ?_⟩) | ((with_reducible refine isN_EE1 73 ?_); first | refine ⟨_, f4, ?_⟩ | refine ⟨_, g1, ?_⟩) | ((with_reducible refine isN_EE1 74 ?_); first | refine ⟨_, f6, ?_⟩) | ((with_reducible refine isN_EE1 83 ?_); first | refine ⟨_, f7, ?_⟩) | ((with_reducible refine isN_EE1 71 ?_); first | refine ⟨_, f9, ?_⟩) | refine ⟨_, rfl, ?_⟩ | refine ⟨by decide, ?_⟩ | refine ⟨rfl, ?_⟩ | refine ⟨fun _ => ?_, fun h => absurd h (by decide)⟩ | refine ⟨fun h => absurd h (by decide), fun _ => ?_⟩ | refine ⟨_, lay_all (by (try simp only); (try simp only [List.length_replicate]); (try simp only [List.length_cons]); (try simp only [List.length_nil]); omega) (by omega), ?_⟩ | refine ⟨len_flat (by omega), ?_⟩ | refine eql_goN lX0 rfl heq' ?_ | refine runs_eq (bdE hbd) ?_); conv => whnf))
    rfl
   ·have heq' : (X0 == [0, 0, 0, 0]) = false := by rw [heq]; exact decide_eq_false hz
    have hdz : decide (x0 = 0) = false := decide_eq_false hz
    rw [hdz, hd1] at hok
    have hok' : ok = true := hok
    rw [hP, hok', if_pos rfl]
    have hbd := build4 (x := X0) (y := Y) (z := [1, 0, 0, 0]) (t := TT) lX0 lY rfl lTT
    obtain ⟨V, hV⟩ : ∃ V, V = X0 ++ (Y ++ ([1, 0, 0, 0] ++ TT)) := ⟨_, rfl⟩
    have lV : V.length = 16 := by rw [hV, List.length_append, List.length_append, List.length_append, lX0, lY, lTT]; rfl
    rw [← hV] at hbd
    have eXX : XS = X0 := by rw [hXS, hX0, hS]
    have eV := P4_one xs (n % 2 ^ 255) tt
    rw [← hXS, ← hY, ← hTT, eXX, ← hV] at eV
    rw [eXX] at g2
    clear hV eXX cXS lXS hok hok' hz hdz heq em hm1 hx1 hl hx1' hY hYY hNU hDY hDE hIV hVV hX0 hDD hNG hTT hXS
    rw [eV]
    clear eV
    have zV : layOne (.flat .u64 (List.replicate 16 0)) 0 (.flat .u64 V) = some (.flat .u64 V) := lay_all (by rw [List.length_replicate, lV]) (by omega)
    have nV : (Cont.flat .u64 V).len = 16 := lV
    have cV : (Cont.flat .u64 V).cut 0 16 = some (.flat .u64 V) := cut_all lV
    ((conv => whnf); repeat ((first | refine ⟨_, a1, ?_⟩ | refine ⟨_, p1, ?_⟩ | refine ⟨_, cm, ?_⟩ | refine ⟨_, cY, ?_⟩ | refine ⟨_, cYY, ?_⟩ | refine ⟨_, cX0, ?_⟩ | refine ⟨fun _ => ?_, fun h => absurd ((qs).symm.trans h) (by decide)⟩ | refine ⟨fun h => absurd ((qs).symm.trans h) (by decide), fun _ => ?_⟩ | refine ⟨_, zV, ?_⟩ | refine ⟨nV, ?_⟩ | refine ⟨_, cV, ?_⟩ | ((with_reducible refine isN_EE1 63 ?_); first | refine ⟨_, f1, ?_⟩) | ((with_reducible refine isN_EE1 62 ?_); first | refine ⟨_, f2, ?_⟩) | ((with_reducible refine isN_EE1 36 ?_); first | refine ⟨_, fP, ?_⟩) | ((with_reducible refine isN_EE1 44 ?_); first | refine ⟨_, eD, ?_⟩) | ((with_reducible refine isN_EE1 82 ?_); first | refine ⟨_, f3, ?_⟩ | refine ⟨_, f5, ?_⟩ | refine ⟨_, f8, ?_⟩ | refine ⟨_, g2, ?_⟩) | ((with_reducible refine isN_EE1 73 ?_); first | refine ⟨_, f4, ?_⟩ | refine ⟨_, g1, ?_⟩) | ((with_reducible refine isN_EE1 74 ?_); first | refine ⟨_, f6, ?_⟩) | ((with_reducible refine isN_EE1 83 ?_); first | refine ⟨_, f7, ?_⟩) | ((with_reducible refine isN_EE1 71 ?_); first | refine ⟨_, f9, ?_⟩) | refine ⟨_, rfl, ?_⟩ | refine ⟨by decide, ?_⟩ | refine ⟨rfl, ?_⟩ | refine ⟨fun _ => ?_, fun h => absurd h (by decide)⟩ | refine ⟨fun h => absurd h (by decide), fun _ => ?_⟩ | refine ⟨_, lay_all (by (try simp only); (try simp only [List.length_replicate]); (try simp only [List.length_cons]); (try simp only [List.length_nil]); omega) (by omega), ?_⟩ | refine ⟨len_flat (by omega), ?_⟩ | refine eql_goN lX0 rfl heq' ?_ | refine runs_eq (bdE hbd) ?_); conv => whnf))
    rfl
  ·have qs : (x1.fdiv (2 ^ min (Int.toNat 7) IntKind.u8.bits) == 1) = true := by rw [sg, hs]; rfl
   have hd1 : decide (n / 2 ^ 255 = 1) = true := by rw [hs]; rfl
   rw [hs, if_pos rfl] at hS
   by_cases hz : x0 = 0
   ·have heq' : (X0 == [0, 0, 0, 0]) = true := by rw [heq]; exact decide_eq_true hz
    have hdz : decide (x0 = 0) = true := decide_eq_true hz
    rw [hdz, hd1] at hok
    have hok' : ok = false := hok
    rw [hP, hok', if_neg (by decide)]
    clear hok hok' hz hdz heq em hm1 hx1 hl hx1' hY hYY hNU hDY hDE hIV hVV hX0 hDD hNG hTT hXS
    ((conv => whnf); repeat ((first | refine ⟨_, a1, ?_⟩ | refine ⟨_, p1, ?_⟩ | refine ⟨_, cm, ?_⟩ | refine ⟨_, cY, ?_⟩ | refine ⟨_, cYY, ?_⟩ | refine ⟨_, cX0, ?_⟩ | refine ⟨fun _ => ?_, fun h => absurd ((qs).symm.trans h) (by decide)⟩ | refine ⟨fun h => absurd ((qs).symm.trans h) (by decide), fun _ => ?_⟩ | ((with_reducible refine isN_EE1 63 ?_); first | refine ⟨_, f1, ?_⟩) | ((with_reducible refine isN_EE1 62 ?_); first | refine ⟨_, f2, ?_⟩) | ((with_reducible refine isN_EE1 36 ?_); first | refine ⟨_, fP, ?_⟩) | ((with_reducible refine isN_EE1 44 ?_); first | refine ⟨_, eD, ?_⟩) | ((with_reducible refine isN_EE1 82 ?_); first | refine ⟨_, f3, ?_⟩ | refine ⟨_, f5, ?_⟩ | refine ⟨_, f8, ?_⟩ | refine ⟨_, g2, ?_⟩) | ((with_reducible refine isN_EE1 73 ?_); first | refine ⟨_, f4, ?_⟩ | refine ⟨_, g1, ?_⟩) | ((with_reducible refine isN_EE1 74 ?_); first | refine ⟨_, f6, ?_⟩) | ((with_reducible refine isN_EE1 83 ?_); first | refine ⟨_, f7, ?_⟩) | ((with_reducible refine isN_EE1 71 ?_); first | refine ⟨_, f9, ?_⟩) | refine ⟨_, rfl, ?_⟩ | refine ⟨by decide, ?_⟩ | refine ⟨rfl, ?_⟩ | refine ⟨fun _ => ?_, fun h => absurd h (by decide)⟩ | refine ⟨fun h => absurd h (by decide), fun _ => ?_⟩ | refine ⟨_, lay_all (by (try simp only); (try simp only [List.length_replicate]); (try simp only [List.length_cons]); (try simp only [List.length_nil]); omega) (by omega), ?_⟩ | refine ⟨len_flat (by omega), ?_⟩ | refine eql_goN lX0 rfl heq' ?_); conv => whnf))
    rfl
   ·have heq' : (X0 == [0, 0, 0, 0]) = false := by rw [heq]; exact decide_eq_false hz
    have hdz : decide (x0 = 0) = false := decide_eq_false hz
    rw [hdz, hd1] at hok
    have hok' : ok = true := hok
    rw [hP, hok', if_pos rfl]
    have hbd := build4 (x := NG) (y := Y) (z := [1, 0, 0, 0]) (t := TT) lNG lY rfl lTT
    obtain ⟨V, hV⟩ : ∃ V, V = NG ++ (Y ++ ([1, 0, 0, 0] ++ TT)) := ⟨_, rfl⟩
    have lV : V.length = 16 := by rw [hV, List.length_append, List.length_append, List.length_append, lNG, lY, lTT]; rfl
    rw [← hV] at hbd
    have eXX : XS = NG := by rw [hXS, hNG, hS]
    have eV := P4_one xs (n % 2 ^ 255) tt
    rw [← hXS, ← hY, ← hTT, eXX, ← hV] at eV
    rw [eXX] at g2
    clear hV eXX cXS lXS hok hok' hz hdz heq em hm1 hx1 hl hx1' hY hYY hNU hDY hDE hIV hVV hX0 hDD hNG hTT hXS
    rw [eV]
    clear eV
    have zV : layOne (.flat .u64 (List.replicate 16 0)) 0 (.flat .u64 V) = some (.flat .u64 V) := lay_all (by rw [List.length_replicate, lV]) (by omega)
    have nV : (Cont.flat .u64 V).len = 16 := lV
    have cV : (Cont.flat .u64 V).cut 0 16 = some (.flat .u64 V) := cut_all lV
    ((conv => whnf); repeat ((first | refine ⟨_, a1, ?_⟩ | refine ⟨_, p1, ?_⟩ | refine ⟨_, cm, ?_⟩ | refine ⟨_, cY, ?_⟩ | refine ⟨_, cYY, ?_⟩ | refine ⟨_, cX0, ?_⟩ | refine ⟨_, cNG, ?_⟩ | refine ⟨_, zX, ?_⟩ | refine ⟨nX, ?_⟩ | refine ⟨fun _ => ?_, fun h => absurd ((qs).symm.trans h) (by decide)⟩ | refine ⟨fun h => absurd ((qs).symm.trans h) (by decide), fun _ => ?_⟩ | refine ⟨_, zV, ?_⟩ | refine ⟨nV, ?_⟩ | refine ⟨_, cV, ?_⟩ | ((with_reducible refine isN_EE1 63 ?_); first | refine ⟨_, f1, ?_⟩) | ((with_reducible refine isN_EE1 62 ?_); first | refine ⟨_, f2, ?_⟩) | ((with_reducible refine isN_EE1 36 ?_); first | refine ⟨_, fP, ?_⟩) | ((with_reducible refine isN_EE1 44 ?_); first | refine ⟨_, eD, ?_⟩) | ((with_reducible refine isN_EE1 82 ?_); first | refine ⟨_, f3, ?_⟩ | refine ⟨_, f5, ?_⟩ | refine ⟨_, f8, ?_⟩ | refine ⟨_, g2, ?_⟩) | ((with_reducible refine isN_EE1 73 ?_); first | refine ⟨_, f4, ?_⟩ | refine ⟨_, g1, ?_⟩) | ((with_reducible refine isN_EE1 74 ?_); first | refine ⟨_, f6, ?_⟩) | ((with_reducible refine isN_EE1 83 ?_); first | refine ⟨_, f7, ?_⟩) | ((with_reducible refine isN_EE1 71 ?_); first | refine ⟨_, f9, ?_⟩) | refine ⟨_, rfl, ?_⟩ | refine ⟨by decide, ?_⟩ | refine ⟨rfl, ?_⟩ | refine ⟨fun _ => ?_, fun h => absurd h (by decide)⟩ | refine ⟨fun h => absurd h (by decide), fun _ => ?_⟩ | refine ⟨_, lay_all (by (try simp only); (try simp only [List.length_replicate]); (try simp only [List.length_cons]); (try simp only [List.length_nil]); omega) (by omega), ?_⟩ | refine ⟨len_flat (by omega), ?_⟩ | refine eql_goN lX0 rfl heq' ?_ | refine runs_eq (bdE hbd) ?_); conv => whnf))
    rfl
end Go.Proofs.YtdeigmjbcbjgeaaGreatDoor
namespace Go.Proofs.YtdeigmjbcbjgeaaGreatDoor
open Go.RowKit
def baseN : Nat := 46316835694926478169428394003475163141307993866256225615783033603165251855960
theorem rWrite_row {a : List Int} (hc : isP a = true ∧ (pnOf a).ok = true) : CallOk Tryz.prog 42 [.agg (.flat .u64 a)] (ret1 (F (wrN (pnOf a)))) := by
 have h := execF_ok follows_ok EE1_ok Tryz.func42 (rWrite_exec (pnOf a) (Pn.ok_iff.1 hc.2))
 rwa [P4, ← isP_eq hc.1] at h
theorem rTimes10_row {a b : List Int} (hc : isF a = true ∧ isP b = true ∧ (pnOf b).ok = true) : CallOk Tryz.prog 48 [.agg (.flat .u8 a), .agg (.flat .u64 b)] (ret1 (P4 (timN dN (nb a) (pnOf b) 256))) := by
 have h := execF_ok follows_ok EE1_ok Tryz.func48 (rTimes10_exec (nb a) a (pnOf b) (isF_eq hc.1) (Pn.ok_iff.1 hc.2.2))
 rwa [P4, ← isP_eq hc.2.1] at h
theorem rRead10_call (a : Nat) (ha : a < 2 ^ 256) : CallOk Tryz.prog 41 [F a] (.many [.val (P4 (rdP a)), .val (.v (.bool (rdOk a)))]) := execF_ok follows_ok EE1_ok Tryz.func41 (rRead_exec a ha)
set_option maxRecDepth 100000 in
theorem rBase_call : CallOk Tryz.prog 13 [] (ret1 (F baseN)) := runF_ok follows_ok EE1_ok Tryz.func13 (fuel := 1000) (by kernel_rfl)
theorem rRead10_row {a : List Int} (hc : isF a = true) : CallOk Tryz.prog 41 [.agg (.flat .u8 a)] (.many [.val (P4 (rdP (nb a))), .val (.v (.bool (rdOk (nb a))))]) := by
 have h0 := hc
 clear hc
 have e0 := isF_eq h0
 have l0 := nb32_lt h0
 clear h0
 generalize nb a = n0 at *
 subst e0
 exact rRead10_call n0 l0
def orcE2 (f : Nat) (ds : List LV) : Option LRes :=
 match f with
 | 41 => match ds with
  | [.agg (.flat .u8 a)] => if isF a = true then some (.many [.val (P4 (rdP (nb a))), .val (.v (.bool (rdOk (nb a))))]) else none
  | _ => none
 | 13 => match ds with
  | [] => some (ret1 (F baseN))
  | _ => none
 | 42 => match ds with
  | [.agg (.flat .u64 a)] => if isP a = true ∧ (pnOf a).ok = true then some (ret1 (F (wrN (pnOf a)))) else none
  | _ => none
 | 48 => match ds with
  | [.agg (.flat .u8 a), .agg (.flat .u64 b)] => if isF a = true ∧ isP b = true ∧ (pnOf b).ok = true then some (ret1 (P4 (timN dN (nb a) (pnOf b) 256))) else none
  | _ => none
 | _ => orcE1 f ds
theorem orcE2_ok : Known Tryz.prog orcE2 := by
 intro f ds r h
 unfold orcE2 at h
 split at h
 ·split at h
  ·split at h
   ·rename_i hc
    cases h
    exact .inl ⟨⟨_, Tryz.func41, name_ne _ (by kernel_rfl), rfl⟩, rRead10_row hc⟩
   ·cases h
  ·cases h
 ·split at h
  ·cases h
   exact .inl ⟨⟨_, Tryz.func13, name_ne _ (by kernel_rfl), rfl⟩, rBase_call⟩
  ·cases h
 ·split at h
  ·split at h
   ·rename_i hc
    cases h
    exact .inl ⟨⟨_, Tryz.func42, name_ne _ (by kernel_rfl), rfl⟩, rWrite_row hc⟩
   ·cases h
  ·cases h
 ·split at h
  ·split at h
   ·rename_i hc
    cases h
    exact .inl ⟨⟨_, Tryz.func48, name_ne _ (by kernel_rfl), rfl⟩, rTimes10_row hc⟩
   ·cases h
  ·cases h
 ·exact orcE1_ok f ds r h
def EE2 : Env := ⟨tyL, orcE2, false, noWk, noOrw⟩
theorem EE2_ok : EnvOk Tryz.prog EE2 := ⟨tyL_ok, orcE2_ok, noOrw_ok⟩
set_option maxRecDepth 100000 in
theorem o_rRead10 {a : Nat} (ha : a < 2 ^ 256) : EE2.orc 41 [F a] = some (.many [.val (P4 (rdP a)), .val (.v (.bool (rdOk a)))]) :=
 (if_pos (isF_by _)).trans (by rw [nb_by32 ha])
theorem o_rBase : EE2.orc 13 [] = some (ret1 (F baseN)) := rfl
theorem isN_EE2 (f : Nat) {ds : List LV} {K : LRes → Prop} (h : ∃ y, EE2.orc f ds = some y ∧ K y) : ∃ y, EE2.orc f ds = some y ∧ K y := h
theorem e2_Write {p : Pn} (hp : p.lt) : EE2.orc 42 [P4 p] = some (ret1 (F (wrN p))) := (if_pos ⟨(isP_w4 hp).1, by rw [(isP_w4 hp).2]; exact Pn.ok_iff.2 hp⟩).trans (by rw [(isP_w4 hp).2])
set_option maxRecDepth 100000 in
theorem e2_Times {k : Nat} {p : Pn} (hk : k < 2 ^ 256) (hp : p.lt) : EE2.orc 48 [F k, P4 p] = some (ret1 (P4 (timN dN k p 256))) := (if_pos ⟨isF_by _, (isP_w4 hp).1, by rw [(isP_w4 hp).2]; exact Pn.ok_iff.2 hp⟩).trans (by rw [(isP_w4 hp).2, nb_by32 hk])
theorem e2_Sum {p q : Pn} {d : Nat} (hp : p.lt) (hq : q.lt) (hd : d < pP) : EE2.orc 43 [P4 p, P4 q, W d] = some (ret1 (P4 (sumN d p q))) := (show EE2.orc 43 [P4 p, P4 q, W d] = EE1.orc 43 [P4 p, P4 q, W d] from rfl).trans (e_Sum hp hq hd)
theorem e2_D : EE2.orc 44 [] = some (ret1 (W dN)) := rfl
theorem lay4 {x y z t u v : List Int} (hx : x.length = 4) (hy : y.length = 4) (hz : z.length = 4) (ht : t.length = 4) (hu : u.length = 4) (hv : v.length = 4) :
  layOne (.flat .u64 (x ++ (y ++ (z ++ t)))) 0 (.flat .u64 u) = some (.flat .u64 (u ++ (y ++ (z ++ t)))) ∧ layOne (.flat .u64 (u ++ (y ++ (z ++ t)))) 12 (.flat .u64 v) = some (.flat .u64 (u ++ (y ++ (z ++ v)))) := by
 obtain ⟨_, _, _, _, rfl⟩ := len4 hx
 obtain ⟨_, _, _, _, rfl⟩ := len4 hy
 obtain ⟨_, _, _, _, rfl⟩ := len4 hz
 obtain ⟨_, _, _, _, rfl⟩ := len4 ht
 obtain ⟨_, _, _, _, rfl⟩ := len4 hu
 obtain ⟨_, _, _, _, rfl⟩ := len4 hv
 exact ⟨rfl, rfl⟩
def oppN (p : Pn) : Pn := ⟨nS 0 p.x, p.y, p.z, nS 0 p.t⟩
theorem oppN_lt {p : Pn} (h : p.lt) : (oppN p).lt := ⟨nS_lp _ _, h.2.1, h.2.2.1, nS_lp _ _⟩
theorem e2_Minus {a b : Nat} (ha : a < pP) (hb : b < pP) : EE2.orc 73 [W a, W b] = some (ret1 (W (nS a b))) := (show EE2.orc 73 [W a, W b] = EE1.orc 73 [W a, W b] from rfl).trans (g_Minus ha hb)
set_option maxRecDepth 100000 in
set_option maxHeartbeats 8000000 in
theorem opp_gen (x y z t u v : List Int) (lx : x.length = 4) (ly : y.length = 4) (lz : z.length = 4) (lt : t.length = 4) (lu : u.length = 4) (lv : v.length = 4)
  (h0 : EE2.orc 73 [.agg (.flat .u64 [0, 0, 0, 0]), .agg (.flat .u64 x)] = some (ret1 (.agg (.flat .u64 u)))) (h1 : EE2.orc 73 [.agg (.flat .u64 [0, 0, 0, 0]), .agg (.flat .u64 t)] = some (ret1 (.agg (.flat .u64 v)))) : execF EE2 Tryz.f65 [.agg (.flat .u64 (x ++ (y ++ (z ++ t))))] (ret1 (.agg (.flat .u64 (u ++ (y ++ (z ++ v)))))) := by
 obtain ⟨c0, _, _, c3⟩ := cut4 lx ly lz lt
 obtain ⟨y0, y1⟩ := lay4 lx ly lz lt lu lv
 obtain ⟨P, hP⟩ : ∃ P, P = x ++ (y ++ (z ++ t)) := ⟨_, rfl⟩
 obtain ⟨Q, hQ⟩ : ∃ Q, Q = u ++ (y ++ (z ++ t)) := ⟨_, rfl⟩
 obtain ⟨V, hV⟩ : ∃ V, V = u ++ (y ++ (z ++ v)) := ⟨_, rfl⟩
 have lV : V.length = 16 := by rw [hV, List.length_append, List.length_append, List.length_append]; omega
 have lQ : Q.length = 16 := by rw [hQ, List.length_append, List.length_append, List.length_append]; omega
 rw [← hV] at y1 ⊢
 rw [← hQ] at y0 y1
 rw [← hP] at y0 c0 c3 ⊢
 clear hP hQ hV
 have zV : layOne (.flat .u64 (List.replicate 16 0)) 0 (.flat .u64 V) = some (.flat .u64 V) := lay_all (by rw [List.length_replicate, lV]) (by omega)
 have nV : (Cont.flat .u64 V).len = 16 := lV
 have cV : (Cont.flat .u64 V).cut 0 16 = some (.flat .u64 V) := cut_all lV
 ((conv => whnf); repeat ((first | refine ⟨_, c0, ?_⟩ | refine ⟨_, c3, ?_⟩ | refine ⟨_, y0, ?_⟩ | refine ⟨_, y1, ?_⟩ | refine ⟨_, zV, ?_⟩ | refine ⟨_, cV, ?_⟩ | refine ⟨nV, ?_⟩ | ((with_reducible refine isN_EE2 73 ?_); first | refine ⟨_, h0, ?_⟩ | refine ⟨_, h1, ?_⟩) | refine ⟨_, rfl, ?_⟩ | refine ⟨by decide, ?_⟩ | refine ⟨rfl, ?_⟩ | refine ⟨len_flat (by omega), ?_⟩); conv => whnf))
 rfl
theorem rOpp_call (p : Pn) (hp : p.lt) : CallOk Tryz.prog 65 [P4 p] (ret1 (P4 (oppN p))) := by
 have h0 := e2_Minus (show 0 < pP by decide) hp.1
 have h1 := e2_Minus (show 0 < pP by decide) hp.2.2.2
 rw [W_zero] at h0 h1
 exact execF_ok follows_ok EE2_ok Tryz.func65 (opp_gen (wd p.x) (wd p.y) (wd p.z) (wd p.t) _ _ rfl rfl rfl rfl rfl rfl h0 h1)
set_option maxRecDepth 100000 in
set_option maxHeartbeats 8000000 in
theorem baseP_gen (b : List Int) (V : List Int) (k : Bool) (lV : V.length = 16) (f1 : EE2.orc 13 [] = some (ret1 (.agg (.flat .u8 b)))) (f2 : (EE2.orc 41 [.agg (.flat .u8 b)] = some (.many [.val (.agg (.flat .u64 V)), .val (.v (.bool k))]))) : execF EE2 Tryz.f53 [] (ret1 (.agg (.flat .u64 V))) := by
 have zV : layOne (.flat .u64 (List.replicate 16 0)) 0 (.flat .u64 V) = some (.flat .u64 V) := lay_all (by rw [List.length_replicate, lV]) (by omega)
 have nV : (Cont.flat .u64 V).len = 16 := lV
 have cV : (Cont.flat .u64 V).cut 0 16 = some (.flat .u64 V) := cut_all lV
 ((conv => whnf); repeat ((first | refine ⟨_, zV, ?_⟩ | refine ⟨nV, ?_⟩ | refine ⟨_, cV, ?_⟩ | ((with_reducible refine isN_EE2 13 ?_); first | refine ⟨_, f1, ?_⟩) | ((with_reducible refine isN_EE2 41 ?_); first | refine ⟨_, f2, ?_⟩) | refine ⟨_, rfl, ?_⟩ | refine ⟨rfl, ?_⟩); conv => whnf))
 rfl
theorem rBaseP_call : CallOk Tryz.prog 53 [] (ret1 (P4 (rdP baseN))) := execF_ok follows_ok EE2_ok Tryz.func53 (baseP_gen _ _ _ (w4_len _) o_rBase (o_rRead10 (a := baseN) (by decide)))
set_option maxRecDepth 100000 in
set_option maxHeartbeats 8000000 in
theorem dec_gen (a V : List Int) (k : Bool) (la : a.length = 32) (lV : V.length = 16) (f1 : (EE2.orc 41 [.agg (.flat .u8 a)] = some (.many [.val (.agg (.flat .u64 V)), .val (.v (.bool k))]))) : execF EE2 Tryz.f15 [.agg (.flat .u8 a)] (ret1 (.v (.bool k))) := by
 have ca : (Cont.flat .u8 a).cut 0 32 = some (.flat .u8 a) := cut_all la
 have zV : layOne (.flat .u64 (List.replicate 16 0)) 0 (.flat .u64 V) = some (.flat .u64 V) := lay_all (by rw [List.length_replicate, lV]) (by omega)
 have nV : (Cont.flat .u64 V).len = 16 := lV
 have cV : (Cont.flat .u64 V).cut 0 16 = some (.flat .u64 V) := cut_all lV
 ((conv => whnf); repeat ((first | refine ⟨_, ca, ?_⟩ | refine ⟨_, zV, ?_⟩ | refine ⟨nV, ?_⟩ | ((with_reducible refine isN_EE2 41 ?_); first | refine ⟨_, f1, ?_⟩) | refine ⟨_, rfl, ?_⟩ | refine ⟨rfl, ?_⟩); conv => whnf))
 rfl
theorem rDec_call (a : Nat) (ha : a < 2 ^ 256) : CallOk Tryz.prog 15 [F a] (ret1 (.v (.bool (rdOk a)))) := execF_ok follows_ok EE2_ok Tryz.func15 (dec_gen _ _ _ (byk_len _ _) (w4_len _) (o_rRead10 ha))
theorem by32_z : by32 0 = List.replicate 32 0 := by kernel_rfl
set_option maxRecDepth 100000 in
set_option maxHeartbeats 8000000 in
theorem add_gen (a b V U S D r : List Int) (k j : Bool) (la : a.length = 32) (lb : b.length = 32) (lV : V.length = 16) (lU : U.length = 16) (_ : S.length = 16) (lr : r.length = 32) (f1 : (EE2.orc 41 [.agg (.flat .u8 a)] = some (.many [.val (.agg (.flat .u64 V)), .val (.v (.bool k))]))) (f2 : (EE2.orc 41 [.agg (.flat .u8 b)] = some (.many [.val (.agg (.flat .u64 U)), .val (.v (.bool j))]))) (f3 : EE2.orc 44 [] = some (ret1 (.agg (.flat .u64 D)))) (f4 : EE2.orc 43 [.agg (.flat .u64 V), .agg (.flat .u64 U), .agg (.flat .u64 D)] = some (ret1 (.agg (.flat .u64 S)))) (f5 : EE2.orc 42 [.agg (.flat .u64 S)] = some (ret1 (.agg (.flat .u8 r)))) :
  execF EE2 Tryz.f11 [.agg (.flat .u8 a), .agg (.flat .u8 b)] (if k && j then .many [.val (.agg (.flat .u8 r)), .val (iv .i64 0)] else .many [.val (F 0), .val (iv .i64 12)]) := by
 have ca : (Cont.flat .u8 a).cut 0 32 = some (.flat .u8 a) := cut_all la
 have cb : (Cont.flat .u8 b).cut 0 32 = some (.flat .u8 b) := cut_all lb
 have zV : layOne (.flat .u64 (List.replicate 16 0)) 0 (.flat .u64 V) = some (.flat .u64 V) := lay_all (by rw [List.length_replicate, lV]) (by omega)
 have nV : (Cont.flat .u64 V).len = 16 := lV
 have cV : (Cont.flat .u64 V).cut 0 16 = some (.flat .u64 V) := cut_all lV
 have zU : layOne (.flat .u64 (List.replicate 16 0)) 0 (.flat .u64 U) = some (.flat .u64 U) := lay_all (by rw [List.length_replicate, lU]) (by omega)
 have nU : (Cont.flat .u64 U).len = 16 := lU
 have cU : (Cont.flat .u64 U).cut 0 16 = some (.flat .u64 U) := cut_all lU
 have zr : layOne (.flat .u8 (List.replicate 32 0)) 0 (.flat .u8 r) = some (.flat .u8 r) := lay_all (by rw [List.length_replicate, lr]) (by omega)
 have nr : (Cont.flat .u8 r).len = 32 := lr
 have cr : (Cont.flat .u8 r).cut 0 32 = some (.flat .u8 r) := cut_all lr
 rw [F, by32_z]
 cases k <;> cases j
 all_goals
  ((conv => whnf); repeat ((first | refine ⟨_, ca, ?_⟩ | refine ⟨_, cb, ?_⟩ | refine ⟨_, zV, ?_⟩ | refine ⟨nV, ?_⟩ | refine ⟨_, cV, ?_⟩ | refine ⟨_, zU, ?_⟩ | refine ⟨nU, ?_⟩ | refine ⟨_, cU, ?_⟩ | refine ⟨_, zr, ?_⟩ | refine ⟨nr, ?_⟩ | refine ⟨_, cr, ?_⟩ | ((with_reducible refine isN_EE2 41 ?_); first | refine ⟨_, f1, ?_⟩ | refine ⟨_, f2, ?_⟩) | ((with_reducible refine isN_EE2 44 ?_); first | refine ⟨_, f3, ?_⟩) | ((with_reducible refine isN_EE2 43 ?_); first | refine ⟨_, f4, ?_⟩) | ((with_reducible refine isN_EE2 42 ?_); first | refine ⟨_, f5, ?_⟩) | refine ⟨_, rfl, ?_⟩ | refine ⟨by decide, ?_⟩ | refine ⟨rfl, ?_⟩ | refine ⟨fun _ => ?_, fun h => absurd h (by decide)⟩ | refine ⟨fun h => absurd h (by decide), fun _ => ?_⟩); conv => whnf))
  rfl
def addR (a b : Nat) : LRes := if rdOk a && rdOk b then .many [.val (F (wrN (sumN dN (rdP a) (rdP b)))), .val (iv .i64 0)] else .many [.val (F 0), .val (iv .i64 12)]
theorem rAdd10_call (a b : Nat) (ha : a < 2 ^ 256) (hb : b < 2 ^ 256) : CallOk Tryz.prog 11 [F a, F b] (addR a b) := execF_ok follows_ok EE2_ok Tryz.func11 (add_gen _ _ _ _ _ _ _ _ _ (byk_len _ _) (byk_len _ _) (w4_len _) (w4_len _) (w4_len _) (byk_len _ _) (o_rRead10 ha) (o_rRead10 hb) e2_D (e2_Sum (rdP_lt a) (rdP_lt b) dN_lt) (e2_Write (sumN_lt _ _ _)))
set_option maxRecDepth 100000 in
set_option maxHeartbeats 8000000 in
theorem mul_gen (q a V S r : List Int) (k : Bool) (lq : q.length = 32) (la : a.length = 32) (lV : V.length = 16) (_ : S.length = 16) (lr : r.length = 32) (f1 : (EE2.orc 41 [.agg (.flat .u8 a)] = some (.many [.val (.agg (.flat .u64 V)), .val (.v (.bool k))]))) (f4 : EE2.orc 48 [.agg (.flat .u8 q), .agg (.flat .u64 V)] = some (ret1 (.agg (.flat .u64 S)))) (f5 : EE2.orc 42 [.agg (.flat .u64 S)] = some (ret1 (.agg (.flat .u8 r)))) :
  execF EE2 Tryz.f20 [.agg (.flat .u8 q), .agg (.flat .u8 a)] (if k then .many [.val (.agg (.flat .u8 r)), .val (iv .i64 0)] else .many [.val (F 0), .val (iv .i64 12)]) := by
 have ca : (Cont.flat .u8 a).cut 0 32 = some (.flat .u8 a) := cut_all la
 have cq : (Cont.flat .u8 q).cut 0 32 = some (.flat .u8 q) := cut_all lq
 have zV : layOne (.flat .u64 (List.replicate 16 0)) 0 (.flat .u64 V) = some (.flat .u64 V) := lay_all (by rw [List.length_replicate, lV]) (by omega)
 have nV : (Cont.flat .u64 V).len = 16 := lV
 have cV : (Cont.flat .u64 V).cut 0 16 = some (.flat .u64 V) := cut_all lV
 have zr : layOne (.flat .u8 (List.replicate 32 0)) 0 (.flat .u8 r) = some (.flat .u8 r) := lay_all (by rw [List.length_replicate, lr]) (by omega)
 have nr : (Cont.flat .u8 r).len = 32 := lr
 have cr : (Cont.flat .u8 r).cut 0 32 = some (.flat .u8 r) := cut_all lr
 rw [F, by32_z]
 cases k
 all_goals
  ((conv => whnf); repeat ((first | refine ⟨_, ca, ?_⟩ | refine ⟨_, cq, ?_⟩ | refine ⟨_, zV, ?_⟩ | refine ⟨nV, ?_⟩ | refine ⟨_, cV, ?_⟩ | refine ⟨_, zr, ?_⟩ | refine ⟨nr, ?_⟩ | refine ⟨_, cr, ?_⟩ | ((with_reducible refine isN_EE2 41 ?_); first | refine ⟨_, f1, ?_⟩) | ((with_reducible refine isN_EE2 48 ?_); first | refine ⟨_, f4, ?_⟩) | ((with_reducible refine isN_EE2 42 ?_); first | refine ⟨_, f5, ?_⟩) | refine ⟨_, rfl, ?_⟩ | refine ⟨by decide, ?_⟩ | refine ⟨rfl, ?_⟩ | refine ⟨fun _ => ?_, fun h => absurd h (by decide)⟩ | refine ⟨fun h => absurd h (by decide), fun _ => ?_⟩); conv => whnf))
  rfl
def mulR (k a : Nat) : LRes := if rdOk a then .many [.val (F (wrN (timN dN k (rdP a) 256))), .val (iv .i64 0)] else .many [.val (F 0), .val (iv .i64 12)]
theorem rMult10_call (k a : Nat) (hk : k < 2 ^ 256) (ha : a < 2 ^ 256) : CallOk Tryz.prog 20 [F k, F a] (mulR k a) := execF_ok follows_ok EE2_ok Tryz.func20 (mul_gen _ _ _ _ _ _ (byk_len _ _) (byk_len _ _) (w4_len _) (w4_len _) (byk_len _ _) (o_rRead10 ha) (e2_Times hk (rdP_lt a)) (e2_Write (timN_lt _ _ _ _)))
theorem eql_goE {a b : List Int} {q : Bool} {K : LV × List (Nat × Blk) → Prop} (ha : a.length = 32) (hb : b.length = 32) (hq : (a == b) = q) (h : K (.v (.bool q), [])) : runs (opBin EE2 .eql 23 (.agg (.flat .u8 a)) (.agg (.flat .u8 b))) K := by
 have e : opBin EE2 .eql 23 (.agg (.flat .u8 a)) (.agg (.flat .u8 b)) = some (.v (.bool (a == b)), []) := if_pos ⟨rfl, ha, hb⟩
 rw [e, hq]
 exact h
theorem by32_8 : by32 8 = [8, 0, 0, 0, 0, 0, 0, 0, 0, 0, 0, 0, 0, 0, 0, 0, 0, 0, 0, 0, 0, 0, 0, 0, 0, 0, 0, 0, 0, 0, 0, 0] := by kernel_rfl
theorem by32_1 : by32 1 = [1, 0, 0, 0, 0, 0, 0, 0, 0, 0, 0, 0, 0, 0, 0, 0, 0, 0, 0, 0, 0, 0, 0, 0, 0, 0, 0, 0, 0, 0, 0, 0] := by kernel_rfl
set_option maxRecDepth 100000 in
set_option maxHeartbeats 8000000 in
theorem small_gen (a V S r : List Int) (k q : Bool) (la : a.length = 32) (lV : V.length = 16) (_ : S.length = 16) (lr : r.length = 32) (f1 : (EE2.orc 41 [.agg (.flat .u8 a)] = some (.many [.val (.agg (.flat .u64 V)), .val (.v (.bool k))]))) (f4 : EE2.orc 48 [.agg (.flat .u8 [8, 0, 0, 0, 0, 0, 0, 0, 0, 0, 0, 0, 0, 0, 0, 0, 0, 0, 0, 0, 0, 0, 0, 0, 0, 0, 0, 0, 0, 0, 0, 0]), .agg (.flat .u64 V)] = some (ret1 (.agg (.flat .u64 S)))) (f5 : EE2.orc 42 [.agg (.flat .u64 S)] = some (ret1 (.agg (.flat .u8 r)))) (hq : (r == [1, 0, 0, 0, 0, 0, 0, 0, 0, 0, 0, 0, 0, 0, 0, 0, 0, 0, 0, 0, 0, 0, 0, 0, 0, 0, 0, 0, 0, 0, 0, 0]) = q) :
  execF EE2 Tryz.f17 [.agg (.flat .u8 a)] (ret1 (.v (.bool (k && q)))) := by
 have ca : (Cont.flat .u8 a).cut 0 32 = some (.flat .u8 a) := cut_all la
 have zV : layOne (.flat .u64 (List.replicate 16 0)) 0 (.flat .u64 V) = some (.flat .u64 V) := lay_all (by rw [List.length_replicate, lV]) (by omega)
 have nV : (Cont.flat .u64 V).len = 16 := lV
 have cV : (Cont.flat .u64 V).cut 0 16 = some (.flat .u64 V) := cut_all lV
 cases k
 ·show execF _ _ _ (ret1 (.v (.bool false)))
  ((conv => whnf); repeat ((first | refine ⟨_, ca, ?_⟩ | refine ⟨_, zV, ?_⟩ | refine ⟨nV, ?_⟩ | ((with_reducible refine isN_EE2 41 ?_); first | refine ⟨_, f1, ?_⟩) | refine ⟨_, rfl, ?_⟩ | refine ⟨rfl, ?_⟩ | refine ⟨fun h => absurd h (by decide), fun _ => ?_⟩); conv => whnf))
  rfl
 ·show execF _ _ _ (ret1 (.v (.bool q)))
  ((conv => whnf); repeat ((first | refine ⟨_, ca, ?_⟩ | refine ⟨_, zV, ?_⟩ | refine ⟨nV, ?_⟩ | refine ⟨_, cV, ?_⟩ | ((with_reducible refine isN_EE2 41 ?_); first | refine ⟨_, f1, ?_⟩) | ((with_reducible refine isN_EE2 48 ?_); first | refine ⟨_, f4, ?_⟩) | ((with_reducible refine isN_EE2 42 ?_); first | refine ⟨_, f5, ?_⟩) | refine ⟨_, rfl, ?_⟩ | refine ⟨rfl, ?_⟩ | refine ⟨fun _ => ?_, fun h => absurd h (by decide)⟩); conv => whnf))
  refine eql_goE lr rfl hq ?_
  clear hq
  cases q
  ·skip
   ((conv => whnf); repeat ((first | refine ⟨_, rfl, ?_⟩ | refine ⟨by decide, ?_⟩ | refine ⟨rfl, ?_⟩ | refine ⟨fun _ => ?_, fun h => absurd h (by decide)⟩); conv => whnf))
   rfl
  ·skip
   ((conv => whnf); repeat ((first | refine ⟨_, rfl, ?_⟩ | refine ⟨by decide, ?_⟩ | refine ⟨rfl, ?_⟩ | refine ⟨fun _ => ?_, fun h => absurd h (by decide)⟩); conv => whnf))
   rfl
def smaN (a : Nat) : Bool := rdOk a && decide (wrN (timN dN 8 (rdP a) 256) = 1)
theorem rSmall_call (a : Nat) (ha : a < 2 ^ 256) : CallOk Tryz.prog 17 [F a] (ret1 (.v (.bool (smaN a)))) := by
 have f4 := e2_Times (k := 8) (by decide) (rdP_lt a)
 have hq := beq_by (wrN_lt (timN dN 8 (rdP a) 256)) (show 1 < 2 ^ 256 by decide)
 rw [F, by32_8] at f4
 rw [by32_1] at hq
 exact execF_ok follows_ok EE2_ok Tryz.func17 (small_gen _ _ _ _ _ _ (byk_len _ _) (w4_len _) (w4_len _) (byk_len _ _) (o_rRead10 ha) f4 (e2_Write (timN_lt _ _ _ _)) hq)
end Go.Proofs.YtdeigmjbcbjgeaaGreatDoor
