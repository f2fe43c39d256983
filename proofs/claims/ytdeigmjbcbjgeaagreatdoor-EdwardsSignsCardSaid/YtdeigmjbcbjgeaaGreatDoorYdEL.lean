/-
  Layer 10: the program's number, read, clamp, secret, hashed.
-/
import Derived.Test.YtdeigmjbcbjgeaaGreatDoorYdEF
import Derived.Test.YtdeigmjbcbjgeaaGreatDoorYdEI
import Derived.Test.YtdeigmjbcbjgeaaGreatDoorYdGM
import Derived.Test.YtdeigmjbcbjgeaaGreatDoorYdPrgSum
namespace Go.Proofs.YtdeigmjbcbjgeaaGreatDoor
open Go.RowKit

theorem by_take {l : List Int} (h : By l) (n : Nat) : By (l.take n) := fun x hx => h x (List.mem_of_mem_take hx)
theorem by_drop {l : List Int} (h : By l) (n : Nat) : By (l.drop n) := fun x hx => h x (List.mem_of_mem_drop hx)
theorem pSum512_fn : BytesFn 91 1000000 sha512 := fun a c b w hb hc hr => prgSum512 a c b w hb hc hr
theorem pSha_call {n : Nat} {c : Option Nat} {l : List Int} (hn : l.length = n) (hb : byteOk l = true) (hl : n ≤ 1000000) : CallOk Tryz.prog 91 [.im 1 n c (.flat .u8 l)] (.one (.own 1 64 5 (.flat .u8 (sha512 l)))) := by
  have h := bytesFn_call pSum512_fn (by decide) n c l hn (byteAll hb) hl
  rwa [sh_len] at h
theorem pMulAdd10_row {a b c : List Int} (hc : isF a = true ∧ isF b = true ∧ isF c = true) : CallOk Tryz.prog 55 [.agg (.flat .u8 a), .agg (.flat .u8 b), .agg (.flat .u8 c)] (ret1 (F (((nb a) * (nb b) + (nb c)) % qQ))) := by
  have h := pMulAdd_call (nb a) (nb b) (nb c) (nb32_lt hc.1) (nb32_lt hc.2.1) (nb32_lt hc.2.2)
  rwa [F, F, F, ← isF_eq hc.1, ← isF_eq hc.2.1, ← isF_eq hc.2.2] at h
def orcPE4 (f : Nat) (ds : List LV) : Option LRes :=
  match f with
  | 51 => match ds with
    | [] => some (ret1 (Q4 (rdP baseN)))
    | _ => none
  | 91 => match ds with
    | [.im 1 n _ (.flat .u8 l)] => if l.length = n ∧ byteOk l = true ∧ n ≤ 1000000 then some (LRes.one (.own 1 64 5 (.flat .u8 (sha512 l)))) else none
    | _ => none
  | 31 => match ds with
    | [.im 1 n _ (.flat .u8 b)] => if b.length = n ∧ byteOk b = true then some (wideR n b) else none
    | _ => none
  | 55 => match ds with
    | [.agg (.flat .u8 a), .agg (.flat .u8 b), .agg (.flat .u8 c)] => if isF a = true ∧ isF b = true ∧ isF c = true then some (ret1 (F (((nb a) * (nb b) + (nb c)) % qQ))) else none
    | _ => none
  | 56 => match ds with
    | [.im 1 3 _ (.gen [.im 1 n1 _ (.flat .u8 l1), .im 1 n2 _ (.flat .u8 l2), .im 1 n3 _ (.flat .u8 l3)])] => if l1.length = n1 ∧ l2.length = n2 ∧ l3.length = n3 ∧ n1 ≤ 100000 ∧ n2 ≤ 100000 ∧ n3 ≤ 100000 then some (LRes.one (.own 1 (n1 + n2 + n3) 5 (.flat .u8 (l1 ++ l2 ++ l3)))) else none
    | [.im 1 2 _ (.gen [.im 1 n1 _ (.flat .u8 l1), .im 1 n2 _ (.flat .u8 l2)])] => if l1.length = n1 ∧ l2.length = n2 ∧ n1 ≤ 100000 ∧ n2 ≤ 100000 then some (LRes.one (.own 1 (n1 + n2) 5 (.flat .u8 (l1 ++ l2)))) else none
    | _ => none
  | _ => orcPE3 f ds
theorem orcPE4_ok : Known Tryz.prog orcPE4 := by
  intro f ds r h
  unfold orcPE4 at h
  split at h
  · split at h
    · cases h
      exact .inl ⟨⟨_, Tryz.func51, name_ne _ (by kernel_rfl), rfl⟩, ebase_call⟩
    · cases h
  · split at h
    · split at h
      · rename_i hc
        cases h
        exact .inl ⟨⟨_, Tryz.func91, name_ne _ (by kernel_rfl), rfl⟩, pSha_call hc.1 hc.2.1 hc.2.2⟩
      · cases h
    · cases h
  · split at h
    · split at h
      · rename_i hc
        cases h
        exact .inl ⟨⟨_, Tryz.func31, name_ne _ (by kernel_rfl), rfl⟩, pWide_call _ _ _ hc.1 (byteAll hc.2)⟩
      · cases h
    · cases h
  · split at h
    · split at h
      · rename_i hc
        cases h
        exact .inl ⟨⟨_, Tryz.func55, name_ne _ (by kernel_rfl), rfl⟩, pMulAdd10_row hc⟩
      · cases h
    · cases h
  · split at h
    · split at h
      · rename_i hc
        cases h
        exact .inl ⟨⟨_, Tryz.func56, name_ne _ (by kernel_rfl), rfl⟩, execF_ok follows_ok EG_ok Tryz.func56 (concat3_exec _ _ _ _ _ _ _ _ _ _ hc.1 hc.2.1 hc.2.2.1 hc.2.2.2.1 hc.2.2.2.2.1 hc.2.2.2.2.2)⟩
      · cases h
    · split at h
      · rename_i hc
        cases h
        exact .inl ⟨⟨_, Tryz.func56, name_ne _ (by kernel_rfl), rfl⟩, execF_ok follows_ok EG_ok Tryz.func56 (concat2_exec _ _ _ _ _ _ _ hc.1 hc.2.1 hc.2.2.1 hc.2.2.2)⟩
      · cases h
    · cases h
  · exact orcPE3_ok f ds r h
def PE4 : Env := ⟨tyL, orcPE4, false, noWk, noOrw⟩
theorem PE4_ok : EnvOk Tryz.prog PE4 := ⟨tyL_ok, orcPE4_ok, noOrw_ok⟩
theorem isN_PE4 (f : Nat) {ds : List LV} {K : LRes → Prop} (h : ∃ y, PE4.orc f ds = some y ∧ K y) : ∃ y, PE4.orc f ds = some y ∧ K y := h
theorem p4_Wide {n : Nat} {c : Option Nat} {b : List Int} (h : b.length = n) (hb : By b) (hn : n ≤ 64) : PE4.orc 31 [.im 1 n c (.flat .u8 b)] = some (.many [.val (F (nb b % qQ)), .val (iv .i64 0)]) := (if_pos ⟨h, hb.ok⟩).trans (by rw [wideR, if_neg (by omega)])
set_option maxRecDepth 100000 in
set_option maxHeartbeats 8000000 in
theorem number_gen (n : Nat) (c : Option Nat) (b r : List Int) (lr : r.length = 32) (f1 : PE4.orc 31 [.im 1 n c (.flat .u8 b)] = some (.many [.val (.agg (.flat .u8 r)), .val (iv .i64 0)])) : execF PE4 Tryz.f60 [.im 1 n c (.flat .u8 b)] (ret1 (.agg (.flat .u8 r))) := by
  have cr : (Cont.flat .u8 r).cut 0 32 = some (.flat .u8 r) := cut_all lr
  have nr : (Cont.flat .u8 r).len = 32 := lr
  have zr : layOne (.flat .u8 (List.replicate 32 0)) 0 (.flat .u8 r) = some (.flat .u8 r) := lay_all (by rw [List.length_replicate, lr]) (by omega)
  ((conv => whnf); repeat ((first | refine ⟨_, cr, ?_⟩ | refine ⟨_, zr, ?_⟩ | refine ⟨nr, ?_⟩ | ((with_reducible refine isN_PE4 31 ?_); refine ⟨_, f1, ?_⟩) | refine ⟨_, rfl, ?_⟩ | refine ⟨rfl, ?_⟩); conv => whnf))
  rfl
theorem number_call {n : Nat} {c : Option Nat} {b : List Int} (h : b.length = n) (hb : By b) (hn : n ≤ 64) : CallOk Tryz.prog 60 [.im 1 n c (.flat .u8 b)] (ret1 (F (nb b % qQ))) := execF_ok follows_ok PE4_ok Tryz.func60 (number_gen _ _ _ _ (byk_len _ _) (p4_Wide h hb hn))
theorem copy_pre {β : Nat → Option Blk} {b e n : Nat} {sp : Bool} {c : Option Nat} {l x : List Int} (hb : β b = some ⟨.flat .u8 x, e, sp⟩) (hx : x.length = 32) (hl : l.length = n) (hn : 32 ≤ n) : opCopy PE4 β 33 (.sl 1 b 0 32 (some 32)) (.im 1 n c (.flat .u8 l)) = some ⟨none, none, iv .i64 ((min n 32 : Nat) : Int), [(b, ⟨.flat .u8 (l.take 32), e, sp⟩)]⟩ := by
  have c1 : (Cont.flat .u8 l).cut 0 (min n 32 * 1) = some (.flat .u8 (l.take 32)) := by rw [show min n 32 * 1 = 32 by omega]; exact cut_take (by omega)
  have lt : (l.take 32).length = 32 := by rw [List.length_take]; omega
  have c2 : (Cont.flat .u8 x).lay 0 (.flat .u8 (l.take 32)) = some (.flat .u8 (l.take 32)) := by
    simp [Cont.lay, Cont.len, hx, lt]
  have e1 : shown β 1 (.im 1 n c (.flat .u8 l)) = some (.flat .u8 l, n) := rfl
  show (match shown β 1 (.im 1 n c (.flat .u8 l)), β b with | some (y, cnt), some k => if 1 = 1 ∧ y.leaves = true then (match y.cut 0 (min cnt 32 * 1) with | some y => (match k.x.lay 0 y with | some x => some (⟨none, none, .v (.int .i64 (min cnt 32 : Nat)), [(b, ⟨x, k.e, k.spare⟩)]⟩ : Upd) | none => none) | none => none) else none | _, _ => none) = _
  rw [e1, hb]
  show (if 1 = 1 ∧ (Cont.flat .u8 l).leaves = true then (match (Cont.flat .u8 l).cut 0 (min n 32 * 1) with | some y => (match (Cont.flat .u8 x).lay 0 y with | some x => some (⟨none, none, .v (.int .i64 (min n 32 : Nat)), [(b, ⟨x, e, sp⟩)]⟩ : Upd) | none => none) | none => none) else none) = _
  rw [if_pos ⟨rfl, rfl⟩, c1]
  show (match (Cont.flat .u8 x).lay 0 (.flat .u8 (l.take 32)) with | some x => some (⟨none, none, .v (.int .i64 (min n 32 : Nat)), [(b, ⟨x, e, sp⟩)]⟩ : Upd) | none => none) = _
  rw [c2]
set_option maxRecDepth 100000 in
set_option maxHeartbeats 1600000 in
theorem eRead_call {n : Nat} {c : Option Nat} {l : List Int} (hl : l.length = n) (hn : 32 ≤ n) : CallOk Tryz.prog 59 [.im 1 n c (.flat .u8 l)] (ret1 (.agg (.flat .u8 (l.take 32)))) := by
  refine execF_ok follows_ok PE4_ok Tryz.func59 ?_
  have lt : (l.take 32).length = 32 := by rw [List.length_take]; omega
  have hc := fun (β : Nat → Option Blk) (hb : β 24 = some ⟨.flat .u8 (List.replicate 32 0), 23, false⟩) => copy_pre (c := c) hb (List.length_replicate ..) hl hn
  generalize l.take 32 = k at *
  have cl : (Cont.flat .u8 k).cut 0 32 = some (.flat .u8 k) := cut_all lt
  have nE : (Cont.flat .u8 k).len = 32 := lt
  have zE : layOne (.flat .u8 (List.replicate 32 0)) 0 (.flat .u8 k) = some (.flat .u8 k) := lay_all (by rw [List.length_replicate, lt]) (by omega)
  ((conv => whnf); repeat ((first | refine ⟨_, hc _ rfl, ?_⟩ | refine ⟨_, cl, ?_⟩ | refine ⟨_, zE, ?_⟩ | refine ⟨nE, ?_⟩ | refine ⟨_, rfl, ?_⟩ | refine ⟨by decide, ?_⟩ | refine ⟨rfl, ?_⟩); conv => whnf))
  rfl
set_option maxRecDepth 100000 in
set_option maxHeartbeats 8000000 in
theorem eClamp_exec (n : Nat) (l : List Int) (hl : l = by32 n) : execF PE4 Tryz.f92 [.agg (.flat .u8 l)] (ret1 (F (clampN n))) := by
  have ll : l.length = 32 := by rw [hl, byk_len]
  obtain ⟨x0, hx0⟩ : ∃ x0, x0 = g l 0 := ⟨_, rfl⟩
  have a0 : (Cont.flat .u8 l).at? 0 = some (.v (.int .u8 x0)) := by rw [hx0]; exact at_g (by omega)
  obtain ⟨m1, hm1⟩ : ∃ m1, m1 = l.set 0 (bits .andNot .u8 x0 7) := ⟨_, rfl⟩
  have p0 : layOne (.flat .u8 l) 0 (.flat .u8 [bits .andNot .u8 x0 7]) = some (.flat .u8 m1) := by rw [hm1]; exact put_flat (by omega)
  have lm1 : m1.length = 32 := by rw [hm1, List.length_set]; exact ll
  obtain ⟨x1, hx1⟩ : ∃ x1, x1 = g m1 31 := ⟨_, rfl⟩
  have a1 : (Cont.flat .u8 m1).at? 31 = some (.v (.int .u8 x1)) := by rw [hx1]; exact at_g (by omega)
  obtain ⟨m2, hm2⟩ : ∃ m2, m2 = m1.set 31 (bits .or .u8 (bits .and .u8 x1 127) 64) := ⟨_, rfl⟩
  have p1 : layOne (.flat .u8 m1) 31 (.flat .u8 [bits .or .u8 (bits .and .u8 x1 127) 64]) = some (.flat .u8 m2) := by rw [hm2]; exact put_flat (by omega)
  have lm2 : m2.length = 32 := by rw [hm2, List.length_set]; exact lm1
  have nE : (Cont.flat .u8 m2).len = 32 := lm2
  have zE : layOne (.flat .u8 (List.replicate 32 0)) 0 (.flat .u8 m2) = some (.flat .u8 m2) := lay_all (by rw [List.length_replicate, lm2]) (by omega)
  have cE : (Cont.flat .u8 m2).cut 0 32 = some (.flat .u8 m2) := cut_all lm2
  have e : m2 = by32 (clampN n) := by
    have hx1' : x1 = bt n 31 := by rw [hx1, hm1, hl, g_set (by rw [byk_len]; decide), if_neg (by decide), g_byk (by decide)]
    have hx0' : x0 = bt n 0 := by rw [hx0, hl, g_byk (by decide)]
    have c0 := (clamp_bits (n / 2 ^ (8 * 0) % 256) (by omega)).1
    have c1 := (clamp_bits (n / 2 ^ (8 * 31) % 256) (by omega)).2.2.2.1
    rw [hm2, hm1, hl]
    refine clamp_list n _ _ ?_ ?_
    · rw [hx0']; exact c0
    · rw [hx1']; exact c1
  clear hm1 hm2 hx0 hx1 hl
  ((conv => whnf); repeat ((first | refine ⟨_, a0, ?_⟩ | refine ⟨_, a1, ?_⟩ | refine ⟨_, p0, ?_⟩ | refine ⟨_, p1, ?_⟩ | refine ⟨_, cE, ?_⟩ | refine ⟨_, zE, ?_⟩ | refine ⟨nE, ?_⟩ | refine ⟨_, rfl, ?_⟩ | refine ⟨by decide, ?_⟩ | refine ⟨rfl, ?_⟩); conv => whnf))
  rw [e]
  rfl
theorem eClamp_row {a : List Int} (hc : isF a = true) : CallOk Tryz.prog 92 [.agg (.flat .u8 a)] (ret1 (F (clampN (nb a)))) := execF_ok follows_ok PE4_ok Tryz.func92 (eClamp_exec (nb a) a (isF_eq hc))
def orcPE5 (f : Nat) (ds : List LV) : Option LRes :=
  match f with
  | 60 => match ds with
    | [.im 1 n _ (.flat .u8 b)] => if b.length = n ∧ byteOk b = true ∧ n ≤ 64 then some (ret1 (F (nb b % qQ))) else none
    | _ => none
  | 59 => match ds with
    | [.im 1 n _ (.flat .u8 b)] => if b.length = n ∧ 32 ≤ n then some (ret1 (.agg (.flat .u8 (b.take 32)))) else none
    | _ => none
  | 92 => match ds with
    | [.agg (.flat .u8 a)] => if isF a = true then some (ret1 (F (clampN (nb a)))) else none
    | _ => none
  | _ => orcPE4 f ds
theorem orcPE5_ok : Known Tryz.prog orcPE5 := by
  intro f ds r h
  unfold orcPE5 at h
  split at h
  · split at h
    · split at h
      · rename_i hc
        cases h
        exact .inl ⟨⟨_, Tryz.func60, name_ne _ (by kernel_rfl), rfl⟩, number_call hc.1 (byteAll hc.2.1) hc.2.2⟩
      · cases h
    · cases h
  · split at h
    · split at h
      · rename_i hc
        cases h
        exact .inl ⟨⟨_, Tryz.func59, name_ne _ (by kernel_rfl), rfl⟩, eRead_call hc.1 hc.2⟩
      · cases h
    · cases h
  · split at h
    · split at h
      · rename_i hc
        cases h
        exact .inl ⟨⟨_, Tryz.func92, name_ne _ (by kernel_rfl), rfl⟩, eClamp_row hc⟩
      · cases h
    · cases h
  · exact orcPE4_ok f ds r h
def PE5 : Env := ⟨tyL, orcPE5, false, noWk, noOrw⟩
theorem PE5_ok : EnvOk Tryz.prog PE5 := ⟨tyL_ok, orcPE5_ok, noOrw_ok⟩
theorem isN_PE5 (f : Nat) {ds : List LV} {K : LRes → Prop} (h : ∃ y, PE5.orc f ds = some y ∧ K y) : ∃ y, PE5.orc f ds = some y ∧ K y := h
theorem p5_Sha {n : Nat} {c : Option Nat} {l : List Int} (hn : l.length = n) (hb : By l) (hl : n ≤ 1000000) : PE5.orc 91 [.im 1 n c (.flat .u8 l)] = some (.one (.own 1 64 5 (.flat .u8 (sha512 l)))) := if_pos ⟨hn, hb.ok, hl⟩
theorem p5_number {n : Nat} {c : Option Nat} {b : List Int} (h : b.length = n) (hb : By b) (hn : n ≤ 64) : PE5.orc 60 [.im 1 n c (.flat .u8 b)] = some (ret1 (F (nb b % qQ))) := if_pos ⟨h, hb.ok, hn⟩
theorem p5_read {n : Nat} {c : Option Nat} {b : List Int} (h : b.length = n) (hn : 32 ≤ n) : PE5.orc 59 [.im 1 n c (.flat .u8 b)] = some (ret1 (.agg (.flat .u8 (b.take 32)))) := if_pos ⟨h, hn⟩
theorem p5_clamp {a : List Int} (h : isF a = true) : PE5.orc 92 [.agg (.flat .u8 a)] = some (ret1 (F (clampN (nb a)))) := if_pos h
theorem p5_Cat3 (n1 n2 n3 : Nat) (c c1 c2 c3 : Option Nat) (l1 l2 l3 : List Int) (h1 : l1.length = n1) (h2 : l2.length = n2) (h3 : l3.length = n3) (m1 : n1 ≤ 100000) (m2 : n2 ≤ 100000) (m3 : n3 ≤ 100000) :
    PE5.orc 56 [.im 1 3 c (.gen [.im 1 n1 c1 (.flat .u8 l1), .im 1 n2 c2 (.flat .u8 l2), .im 1 n3 c3 (.flat .u8 l3)])] = some (LRes.one (.own 1 (n1 + n2 + n3) 5 (.flat .u8 (l1 ++ l2 ++ l3)))) := if_pos ⟨h1, h2, h3, m1, m2, m3⟩
theorem p5_Cat2 (n1 n2 : Nat) (c c1 c2 : Option Nat) (l1 l2 : List Int) (h1 : l1.length = n1) (h2 : l2.length = n2) (m1 : n1 ≤ 100000) (m2 : n2 ≤ 100000) :
    PE5.orc 56 [.im 1 2 c (.gen [.im 1 n1 c1 (.flat .u8 l1), .im 1 n2 c2 (.flat .u8 l2)])] = some (LRes.one (.own 1 (n1 + n2) 5 (.flat .u8 (l1 ++ l2)))) := if_pos ⟨h1, h2, m1, m2⟩
set_option maxRecDepth 100000 in
set_option maxHeartbeats 8000000 in
theorem eSecret_gen (n : Nat) (c : Option Nat) (s h k r p : List Int) (lh : h.length = 64) (lr : r.length = 32) (hp : h.drop 32 = p) (hpl : p.length = 32)
    (f1 : PE5.orc 91 [.im 1 n c (.flat .u8 s)] = some (.one (.own 1 64 5 (.flat .u8 h)))) (f2 : ∀ c, PE5.orc 59 [.im 1 64 c (.flat .u8 h)] = some (ret1 (.agg (.flat .u8 k)))) (f3 : PE5.orc 92 [.agg (.flat .u8 k)] = some (ret1 (.agg (.flat .u8 r)))) :
    execF PE5 Tryz.f50 [.im 1 n c (.flat .u8 s)] (.many [.val (.agg (.flat .u8 r)), .val (.im 1 32 none (.flat .u8 p))]) := by
  have c2 : (Cont.flat .u8 h).cut 32 (32 * 1) = some (.flat .u8 p) := by rw [cut_flat (by omega), hp, List.take_of_length_le (by omega)]
  have zr : layOne (.flat .u8 (List.replicate 32 0)) 0 (.flat .u8 r) = some (.flat .u8 r) := lay_all (by rw [List.length_replicate, lr]) (by omega)
  have nr : (Cont.flat .u8 r).len = 32 := lr
  have cr : (Cont.flat .u8 r).cut 0 32 = some (.flat .u8 r) := cut_all lr
  have ch : (Cont.flat .u8 h).cut 0 (64 * 1) = some (.flat .u8 h) := cut_all (by omega)
  ((conv => whnf); repeat ((first | refine ⟨_, zr, ?_⟩ | refine ⟨nr, ?_⟩ | refine ⟨_, cr, ?_⟩ | refine ⟨_, expo_sl rfl ch, ?_⟩ | ((with_reducible refine isN_PE5 91 ?_); refine ⟨_, f1, ?_⟩) | ((with_reducible refine isN_PE5 59 ?_); refine ⟨_, f2 _, ?_⟩) | ((with_reducible refine isN_PE5 92 ?_); refine ⟨_, f3, ?_⟩) | refine ⟨_, rfl, ?_⟩ | refine ⟨by decide, ?_⟩ | refine ⟨rfl, ?_⟩); conv => whnf))
  refine ⟨_, resSlot_tail (e' := 5) (s' := true) rfl (by kernel_rfl) c2, ?_⟩
  ((conv => whnf); repeat ((first | refine ⟨_, cr, ?_⟩ | refine ⟨_, rfl, ?_⟩ | refine ⟨by decide, ?_⟩ | refine ⟨rfl, ?_⟩ | refine ⟨fun _ => ?_, fun h => absurd h (by decide)⟩ | refine ⟨fun h => absurd h (by decide), fun _ => ?_⟩ | refine ⟨inI_of (by omega), ?_⟩ | refine ⟨⟨rfl, inI_of (by omega)⟩, ?_⟩ | refine ⟨⟨rfl, by decide⟩, ?_⟩ | (apply Exists.intro; refine ⟨?_, ?_⟩; ((try simp only); (try simp only [Nat.zero_add]); (try simp only [Nat.mul_one]); (try simp only [Int.toNat_natCast]); first | exact at_g (by omega) | exact put_flat (by omega))) | refine ⟨_, cut_all (by omega), ?_⟩ | refine ⟨_, lay_all (by omega) (by omega), ?_⟩ | refine ⟨_, lay_all (by (try simp only); (try simp only [List.length_replicate]); (try simp only [List.length_cons]); (try simp only [List.length_nil]); omega) (by omega), ?_⟩ | refine ⟨by omega, ?_⟩ | refine ⟨len_flat (by omega), ?_⟩ | refine ⟨apart_uv _ _ _, ?_⟩ | refine ⟨_, resSlot_own rfl (by omega) (by first | exact .inl rfl | exact .inr ⟨rfl, rfl⟩), ?_⟩ | refine ⟨(by kernel_rfl : regB _ = true), ?_⟩ | refine ⟨⟨rfl, inI_of (by omega), by decide⟩, ?_⟩ | (apply Exists.intro; refine ⟨?_, ?_⟩; ((try simp only); (try simp only [Nat.zero_add]); (try simp only [Nat.mul_one]); (try simp only [Int.toNat_natCast]); first | exact at_drop_g (by omega) | exact cut_rest (by omega)))); conv => whnf))
  rfl
theorem secN_lt (s : List Int) : secN s < 2 ^ 256 := clampN_lt _
theorem isF_take (s : List Int) : isF ((sha512 s).take 32) = true := isF_of (by rw [List.length_take, sh_len]; decide) (by_take (sh_by s) 32)
theorem eSecret_call {n : Nat} {c : Option Nat} {s : List Int} (hs : s.length = n) (hb : By s) (hn : n ≤ 1000000) : CallOk Tryz.prog 50 [.im 1 n c (.flat .u8 s)] (.many [.val (F (secN s)), .val (.im 1 32 none (.flat .u8 (secP s)))]) :=
  execF_ok follows_ok PE5_ok Tryz.func50 (eSecret_gen n c s (sha512 s) ((sha512 s).take 32) _ _ (sh_len s) (byk_len _ _) rfl (secP_len s) (p5_Sha hs hb hn) (fun _ => p5_read (sh_len s) (by decide)) (p5_clamp (isF_take s)))
set_option maxRecDepth 100000 in
set_option maxHeartbeats 8000000 in
theorem hashed2_gen (n1 n2 : Nat) (c1 c2 : Option Nat) (l1 l2 L h r : List Int) (N : Nat) (c : Option Nat) (lL : L.length = N) (lh : h.length = 64) (lr : r.length = 32)
    (f1 : PE5.orc 56 [.im 1 2 c (.gen [.im 1 n1 c1 (.flat .u8 l1), .im 1 n2 c2 (.flat .u8 l2)])] = some (LRes.one (.own 1 N 5 (.flat .u8 L)))) (f2 : ∀ c, PE5.orc 91 [.im 1 N c (.flat .u8 L)] = some (.one (.own 1 64 5 (.flat .u8 h)))) (f3 : ∀ c, PE5.orc 60 [.im 1 64 c (.flat .u8 h)] = some (ret1 (.agg (.flat .u8 r)))) :
    execF PE5 Tryz.f54 [.im 1 2 c (.gen [.im 1 n1 c1 (.flat .u8 l1), .im 1 n2 c2 (.flat .u8 l2)])] (ret1 (.agg (.flat .u8 r))) := by
  have zr : layOne (.flat .u8 (List.replicate 32 0)) 0 (.flat .u8 r) = some (.flat .u8 r) := lay_all (by rw [List.length_replicate, lr]) (by omega)
  have nr : (Cont.flat .u8 r).len = 32 := lr
  have cr : (Cont.flat .u8 r).cut 0 32 = some (.flat .u8 r) := cut_all lr
  have cL : (Cont.flat .u8 L).cut 0 (N * 1) = some (.flat .u8 L) := cut_all (by omega)
  have ch : (Cont.flat .u8 h).cut 0 (64 * 1) = some (.flat .u8 h) := cut_all (by omega)
  ((conv => whnf); repeat ((first | refine ⟨_, expo_sl rfl cL, ?_⟩ | refine ⟨_, expo_sl rfl ch, ?_⟩ | refine ⟨_, zr, ?_⟩ | refine ⟨nr, ?_⟩ | refine ⟨_, cr, ?_⟩ | ((with_reducible refine isN_PE5 56 ?_); refine ⟨_, f1, ?_⟩) | ((with_reducible refine isN_PE5 91 ?_); refine ⟨_, f2 _, ?_⟩) | ((with_reducible refine isN_PE5 60 ?_); refine ⟨_, f3 _, ?_⟩) | refine ⟨_, rfl, ?_⟩ | refine ⟨rfl, ?_⟩); conv => whnf))
  rfl
theorem hashed2_row {n1 n2 : Nat} {c c1 c2 : Option Nat} {l1 l2 : List Int} (hc : l1.length = n1 ∧ l2.length = n2 ∧ byteOk l1 = true ∧ byteOk l2 = true ∧ n1 ≤ 100000 ∧ n2 ≤ 100000) : CallOk Tryz.prog 54 [.im 1 2 c (.gen [.im 1 n1 c1 (.flat .u8 l1), .im 1 n2 c2 (.flat .u8 l2)])] (ret1 (F (nb (sha512 (l1 ++ l2)) % qQ))) := by
  have hl : (l1 ++ l2).length = n1 + n2 := by simp only [List.length_append]; omega
  exact execF_ok follows_ok PE5_ok Tryz.func54 (hashed2_gen _ _ _ _ _ _ _ _ _ _ c hl (sh_len _) (byk_len _ _) (p5_Cat2 _ _ _ _ _ _ _ hc.1 hc.2.1 hc.2.2.2.2.1 hc.2.2.2.2.2) (fun _ => p5_Sha hl ((byteAll hc.2.2.1).append (byteAll hc.2.2.2.1)) (by omega)) (fun _ => p5_number (sh_len _) (sh_by _) (by decide)))
set_option maxRecDepth 100000 in
set_option maxHeartbeats 8000000 in
theorem hashed3_gen (n1 n2 n3 : Nat) (c1 c2 c3 : Option Nat) (l1 l2 l3 L h r : List Int) (N : Nat) (c : Option Nat) (lL : L.length = N) (lh : h.length = 64) (lr : r.length = 32)
    (f1 : PE5.orc 56 [.im 1 3 c (.gen [.im 1 n1 c1 (.flat .u8 l1), .im 1 n2 c2 (.flat .u8 l2), .im 1 n3 c3 (.flat .u8 l3)])] = some (LRes.one (.own 1 N 5 (.flat .u8 L)))) (f2 : ∀ c, PE5.orc 91 [.im 1 N c (.flat .u8 L)] = some (.one (.own 1 64 5 (.flat .u8 h)))) (f3 : ∀ c, PE5.orc 60 [.im 1 64 c (.flat .u8 h)] = some (ret1 (.agg (.flat .u8 r)))) :
    execF PE5 Tryz.f54 [.im 1 3 c (.gen [.im 1 n1 c1 (.flat .u8 l1), .im 1 n2 c2 (.flat .u8 l2), .im 1 n3 c3 (.flat .u8 l3)])] (ret1 (.agg (.flat .u8 r))) := by
  have zr : layOne (.flat .u8 (List.replicate 32 0)) 0 (.flat .u8 r) = some (.flat .u8 r) := lay_all (by rw [List.length_replicate, lr]) (by omega)
  have nr : (Cont.flat .u8 r).len = 32 := lr
  have cr : (Cont.flat .u8 r).cut 0 32 = some (.flat .u8 r) := cut_all lr
  have cL : (Cont.flat .u8 L).cut 0 (N * 1) = some (.flat .u8 L) := cut_all (by omega)
  have ch : (Cont.flat .u8 h).cut 0 (64 * 1) = some (.flat .u8 h) := cut_all (by omega)
  ((conv => whnf); repeat ((first | refine ⟨_, expo_sl rfl cL, ?_⟩ | refine ⟨_, expo_sl rfl ch, ?_⟩ | refine ⟨_, zr, ?_⟩ | refine ⟨nr, ?_⟩ | refine ⟨_, cr, ?_⟩ | ((with_reducible refine isN_PE5 56 ?_); refine ⟨_, f1, ?_⟩) | ((with_reducible refine isN_PE5 91 ?_); refine ⟨_, f2 _, ?_⟩) | ((with_reducible refine isN_PE5 60 ?_); refine ⟨_, f3 _, ?_⟩) | refine ⟨_, rfl, ?_⟩ | refine ⟨rfl, ?_⟩); conv => whnf))
  rfl
theorem hashed3_row {n1 n2 n3 : Nat} {c c1 c2 c3 : Option Nat} {l1 l2 l3 : List Int} (hc : l1.length = n1 ∧ l2.length = n2 ∧ l3.length = n3 ∧ byteOk l1 = true ∧ byteOk l2 = true ∧ byteOk l3 = true ∧ n1 ≤ 100000 ∧ n2 ≤ 100000 ∧ n3 ≤ 100000) : CallOk Tryz.prog 54 [.im 1 3 c (.gen [.im 1 n1 c1 (.flat .u8 l1), .im 1 n2 c2 (.flat .u8 l2), .im 1 n3 c3 (.flat .u8 l3)])] (ret1 (F (nb (sha512 (l1 ++ l2 ++ l3)) % qQ))) := by
  have hl : (l1 ++ l2 ++ l3).length = n1 + n2 + n3 := by simp only [List.length_append]; omega
  exact execF_ok follows_ok PE5_ok Tryz.func54 (hashed3_gen _ _ _ _ _ _ _ _ _ _ _ _ _ c hl (sh_len _) (byk_len _ _) (p5_Cat3 _ _ _ _ _ _ _ _ _ _ hc.1 hc.2.1 hc.2.2.1 hc.2.2.2.2.2.2.1 hc.2.2.2.2.2.2.2.1 hc.2.2.2.2.2.2.2.2) (fun _ => p5_Sha hl (((byteAll hc.2.2.2.1).append (byteAll hc.2.2.2.2.1)).append (byteAll hc.2.2.2.2.2.1)) (by omega)) (fun _ => p5_number (sh_len _) (sh_by _) (by decide)))
def orcPE6 (f : Nat) (ds : List LV) : Option LRes :=
  match f with
  | 50 => match ds with
    | [.im 1 n _ (.flat .u8 s)] => if s.length = n ∧ byteOk s = true ∧ n ≤ 1000000 then some (.many [.val (F (secN s)), .val (.im 1 32 none (.flat .u8 (secP s)))]) else none
    | _ => none
  | 54 => match ds with
    | [.im 1 3 _ (.gen [.im 1 n1 _ (.flat .u8 l1), .im 1 n2 _ (.flat .u8 l2), .im 1 n3 _ (.flat .u8 l3)])] => if l1.length = n1 ∧ l2.length = n2 ∧ l3.length = n3 ∧ byteOk l1 = true ∧ byteOk l2 = true ∧ byteOk l3 = true ∧ n1 ≤ 100000 ∧ n2 ≤ 100000 ∧ n3 ≤ 100000 then some (ret1 (F (nb (sha512 (l1 ++ l2 ++ l3)) % qQ))) else none
    | [.im 1 2 _ (.gen [.im 1 n1 _ (.flat .u8 l1), .im 1 n2 _ (.flat .u8 l2)])] => if l1.length = n1 ∧ l2.length = n2 ∧ byteOk l1 = true ∧ byteOk l2 = true ∧ n1 ≤ 100000 ∧ n2 ≤ 100000 then some (ret1 (F (nb (sha512 (l1 ++ l2)) % qQ))) else none
    | _ => none
  | _ => orcPE5 f ds
theorem orcPE6_ok : Known Tryz.prog orcPE6 := by
  intro f ds r h
  unfold orcPE6 at h
  split at h
  · split at h
    · split at h
      · rename_i hc
        cases h
        exact .inl ⟨⟨_, Tryz.func50, name_ne _ (by kernel_rfl), rfl⟩, eSecret_call hc.1 (byteAll hc.2.1) hc.2.2⟩
      · cases h
    · cases h
  · split at h
    · split at h
      · rename_i hc
        cases h
        exact .inl ⟨⟨_, Tryz.func54, name_ne _ (by kernel_rfl), rfl⟩, hashed3_row hc⟩
      · cases h
    · split at h
      · rename_i hc
        cases h
        exact .inl ⟨⟨_, Tryz.func54, name_ne _ (by kernel_rfl), rfl⟩, hashed2_row hc⟩
      · cases h
    · cases h
  · exact orcPE5_ok f ds r h
def PE6 : Env := ⟨tyL, orcPE6, false, noWk, noOrw⟩
theorem PE6_ok : EnvOk Tryz.prog PE6 := ⟨tyL_ok, orcPE6_ok, noOrw_ok⟩
theorem isN_PE6 (f : Nat) {ds : List LV} {K : LRes → Prop} (h : ∃ y, PE6.orc f ds = some y ∧ K y) : ∃ y, PE6.orc f ds = some y ∧ K y := h
end Go.Proofs.YtdeigmjbcbjgeaaGreatDoor
