/-
  Layer 10: the program's number, read, clamp, secret, hashed.
-/
import Derived.Test.YtdeigmjbcbjgeaaGreatDoorQEF
import Derived.Test.YtdeigmjbcbjgeaaGreatDoorQEJ
import Derived.Test.YtdeigmjbcbjgeaaGreatDoorQFC
import Derived.Test.YtdeigmjbcbjgeaaGreatDoorQPrgSum
import Derived.Test.YtdeigmjbcbjgeaaGreatDoorQLst
import Derived.Test.YtdeigmjbcbjgeaaGreatDoorQMkP
namespace Go.Proofs.YtdeigmjbcbjgeaaGreatDoor
open Go.RowKit

theorem by_take {l : List Int} (h : By l) (n : Nat) : By (l.take n) := fun x hx => h x (List.mem_of_mem_take hx)
theorem by_drop {l : List Int} (h : By l) (n : Nat) : By (l.drop n) := fun x hx => h x (List.mem_of_mem_drop hx)
theorem pSum512_fn : BytesFn 91 1000000 sha512 := fun a c b w hb hc hr => prgSum512 a c b w hb hc hr
theorem pSha_call {n : Nat} {c : Option Nat} {l : List Int} (hn : l.length = n) (hb : byteOk l = true) (hl : n ≤ 1000000) : CallOk Tryz.prog 91 [.im 1 n c (.flat .u8 l)] (.one (.own 1 64 5 (.flat .u8 (sha512 l)))) := by
  have h := bytesFn_call pSum512_fn (by decide) n c l hn (byteAll hb) hl
  rwa [sh_len] at h
theorem pMulAdd10_row {a b c : List Int} (hc : isF a = true ∧ isF b = true ∧ isF c = true) : CallOk Tryz.prog 55 [.agg (.flat .u8 a), .agg (.flat .u8 b), .agg (.flat .u8 c)] (ret1 (F (((nb a) * (nb b) + (nb c)) % qQ))) := by
  have h := pMulAdd_call (nb a) (nb b) (nb c) (nb32_lt hc.1) (nb32_lt hc.2.1) (nb32_lt hc.2.2)
  rwa [F, F, F, ← isF_eq hc.1, ← isF_eq hc.2.1, ← isF_eq hc.2.2] at h
def orcPE4 (f : Nat) (ds : List LV) : Option LRes :=
  match f with
  | 51 => match ds with
    | [] => some (ret1 (Q4 (rdP baseN)))
    | _ => none
  | 91 => match ds with
    | [.im 1 n _ (.flat .u8 l)] => if l.length = n ∧ byteOk l = true ∧ n ≤ 1000000 then some (LRes.one (.own 1 64 5 (.flat .u8 (sha512 l)))) else none
    | _ => none
  | 31 => match ds with
    | [.im 1 n _ (.flat .u8 b)] => if b.length = n ∧ byteOk b = true then some (wideR n b) else none
    | _ => none
  | 55 => match ds with
    | [.agg (.flat .u8 a), .agg (.flat .u8 b), .agg (.flat .u8 c)] => if isF a = true ∧ isF b = true ∧ isF c = true then some (ret1 (F (((nb a) * (nb b) + (nb c)) % qQ))) else none
    | _ => none
  | 56 => match ds with
    | [.im 1 3 _ (.gen [.im 1 n1 _ (.flat .u8 l1), .im 1 n2 _ (.flat .u8 l2), .im 1 n3 _ (.flat .u8 l3)])] => if l1.length = n1 ∧ l2.length = n2 ∧ l3.length = n3 ∧ n1 ≤ 100000 ∧ n2 ≤ 100000 ∧ n3 ≤ 100000 then some (LRes.one (.own 1 (n1 + n2 + n3) 5 (.flat .u8 (l1 ++ l2 ++ l3)))) else none
    | [.im 1 2 _ (.gen [.im 1 n1 _ (.flat .u8 l1), .im 1 n2 _ (.flat .u8 l2)])] => if l1.length = n1 ∧ l2.length = n2 ∧ n1 ≤ 100000 ∧ n2 ≤ 100000 then some (LRes.one (.own 1 (n1 + n2) 5 (.flat .u8 (l1 ++ l2)))) else none
    | _ => none
  | _ => orcPE3 f ds
theorem orcPE4_ok : Known Tryz.prog orcPE4 := by
  intro f ds r h
  unfold orcPE4 at h
  split at h
  · split at h
    · cases h
      exact .inl ⟨⟨_, Tryz.func51, name_ne _ (by kernel_rfl), rfl⟩, ebase_call⟩
    · cases h
  · split at h
    · split at h
      · rename_i hc
        cases h
        exact .inl ⟨⟨_, Tryz.func91, name_ne _ (by kernel_rfl), rfl⟩, pSha_call hc.1 hc.2.1 hc.2.2⟩
      · cases h
    · cases h
  · split at h
    · split at h
      · rename_i hc
        cases h
        exact .inl ⟨⟨_, Tryz.func31, name_ne _ (by kernel_rfl), rfl⟩, pWide_call _ _ _ hc.1 (byteAll hc.2)⟩
      · cases h
    · cases h
  · split at h
    · split at h
      · rename_i hc
        cases h
        exact .inl ⟨⟨_, Tryz.func55, name_ne _ (by kernel_rfl), rfl⟩, pMulAdd10_row hc⟩
      · cases h
    · cases h
  · split at h
    · split at h
      · rename_i hc
        cases h
        exact .inl ⟨⟨_, Tryz.func56, name_ne _ (by kernel_rfl), rfl⟩, execF_ok follows_ok EG_ok Tryz.func56 (concat3_exec _ _ _ _ _ _ _ _ _ _ hc.1 hc.2.1 hc.2.2.1 hc.2.2.2.1 hc.2.2.2.2.1 hc.2.2.2.2.2)⟩
      · cases h
    · split at h
      · rename_i hc
        cases h
        exact .inl ⟨⟨_, Tryz.func56, name_ne _ (by kernel_rfl), rfl⟩, execF_ok follows_ok EG_ok Tryz.func56 (concat2_exec _ _ _ _ _ _ _ hc.1 hc.2.1 hc.2.2.1 hc.2.2.2)⟩
      · cases h
    · cases h
  · exact orcPE3_ok f ds r h
def PE4 : Env := ⟨tyL, orcPE4, false, noWk, noOrw⟩
theorem PE4_ok : EnvOk Tryz.prog PE4 := ⟨tyL_ok, orcPE4_ok, noOrw_ok⟩
theorem isN_PE4 (f : Nat) {ds : List LV} {K : LRes → Prop} (h : ∃ y, PE4.orc f ds = some y ∧ K y) : ∃ y, PE4.orc f ds = some y ∧ K y := h
theorem p4_Wide {n : Nat} {c : Option Nat} {b : List Int} (h : b.length = n) (hb : By b) (hn : n ≤ 64) : PE4.orc 31 [.im 1 n c (.flat .u8 b)] = some (.many [.val (F (nb b % qQ)), .val (iv .i64 0)]) := (if_pos ⟨h, hb.ok⟩).trans (by rw [wideR, if_neg (by omega)])
set_option maxRecDepth 100000 in
set_option maxHeartbeats 8000000 in
theorem number_gen (n : Nat) (c : Option Nat) (b r : List Int) (lr : r.length = 32) (f1 : PE4.orc 31 [.im 1 n c (.flat .u8 b)] = some (.many [.val (.agg (.flat .u8 r)), .val (iv .i64 0)])) : execF PE4 Tryz.f60 [.im 1 n c (.flat .u8 b)] (ret1 (.agg (.flat .u8 r))) := by
  have cr : (Cont.flat .u8 r).cut 0 32 = some (.flat .u8 r) := cut_all lr
  have nr : (Cont.flat .u8 r).len = 32 := lr
  have zr : layOne (.flat .u8 (List.replicate 32 0)) 0 (.flat .u8 r) = some (.flat .u8 r) := lay_all (by rw [List.length_replicate, lr]) (by omega)
  ((conv => whnf); repeat ((first | refine ⟨_, cr, ?_⟩ | refine ⟨_, zr, ?_⟩ | refine ⟨nr, ?_⟩ | ((with_reducible refine isN_PE4 31 ?_); refine ⟨_, f1, ?_⟩) | refine ⟨_, rfl, ?_⟩ | refine ⟨by decide, ?_⟩ | refine ⟨rfl, ?_⟩ | refine ⟨fun _ => ?_, fun h => absurd h (by decide)⟩ | refine ⟨fun h => absurd h (by decide), fun _ => ?_⟩ | refine ⟨inI_of (by omega), ?_⟩ | refine ⟨⟨rfl, inI_of (by omega)⟩, ?_⟩ | refine ⟨⟨rfl, by decide⟩, ?_⟩ | (apply Exists.intro; refine ⟨?_, ?_⟩; ((try simp only); (try simp only [Nat.zero_add]); (try simp only [Nat.mul_one]); (try simp only [Int.toNat_natCast]); first | exact at_g (by omega) | exact put_flat (by omega))) | refine ⟨_, cut_all (by omega), ?_⟩ | refine ⟨_, lay_all (by omega) (by omega), ?_⟩ | refine ⟨_, lay_all (by (try simp only); (try simp only [List.length_replicate]); (try simp only [List.length_cons]); (try simp only [List.length_nil]); omega) (by omega), ?_⟩ | refine ⟨by omega, ?_⟩ | refine ⟨len_flat (by omega), ?_⟩ | refine ⟨apart_uv _ _ _, ?_⟩ | refine ⟨_, resSlot_own rfl (by omega) (by first | exact .inl rfl | exact .inr ⟨rfl, rfl⟩), ?_⟩ | refine ⟨(by kernel_rfl : regB _ = true), ?_⟩ | refine ⟨⟨rfl, inI_of (by omega), by decide⟩, ?_⟩ | (apply Exists.intro; refine ⟨?_, ?_⟩; ((try simp only); (try simp only [Nat.zero_add]); (try simp only [Nat.mul_one]); (try simp only [Int.toNat_natCast]); first | exact at_drop_g (by omega) | exact cut_rest (by omega)))); conv => whnf))
  rfl
theorem number_call {n : Nat} {c : Option Nat} {b : List Int} (h : b.length = n) (hb : By b) (hn : n ≤ 64) : CallOk Tryz.prog 60 [.im 1 n c (.flat .u8 b)] (ret1 (F (nb b % qQ))) := execF_ok follows_ok PE4_ok Tryz.func60 (number_gen _ _ _ _ (byk_len _ _) (p4_Wide h hb hn))
theorem copy_pre {β : Nat → Option Blk} {b e n : Nat} {sp : Bool} {c : Option Nat} {l x : List Int} (hb : β b = some ⟨.flat .u8 x, e, sp⟩) (hx : x.length = 32) (hl : l.length = n) (hn : 32 ≤ n) : opCopy PE4 β 33 (.sl 1 b 0 32 (some 32)) (.im 1 n c (.flat .u8 l)) = some ⟨none, none, iv .i64 ((min n 32 : Nat) : Int), [(b, ⟨.flat .u8 (l.take 32), e, sp⟩)]⟩ := by
  have c1 : (Cont.flat .u8 l).cut 0 (min n 32 * 1) = some (.flat .u8 (l.take 32)) := by rw [show min n 32 * 1 = 32 by omega]; exact cut_take (by omega)
  have lt : (l.take 32).length = 32 := by rw [List.length_take]; omega
  have c2 : (Cont.flat .u8 x).lay 0 (.flat .u8 (l.take 32)) = some (.flat .u8 (l.take 32)) := by
    simp [Cont.lay, Cont.len, hx, lt]
  have e1 : shown β 1 (.im 1 n c (.flat .u8 l)) = some (.flat .u8 l, n) := rfl
  show (match shown β 1 (.im 1 n c (.flat .u8 l)), β b with | some (y, cnt), some k => if 1 = 1 ∧ y.leaves = true then (match y.cut 0 (min cnt 32 * 1) with | some y => (match k.x.lay 0 y with | some x => some (⟨none, none, .v (.int .i64 (min cnt 32 : Nat)), [(b, ⟨x, k.e, k.spare⟩)]⟩ : Upd) | none => none) | none => none) else none | _, _ => none) = _
  rw [e1, hb]
  show (if 1 = 1 ∧ (Cont.flat .u8 l).leaves = true then (match (Cont.flat .u8 l).cut 0 (min n 32 * 1) with | some y => (match (Cont.flat .u8 x).lay 0 y with | some x => some (⟨none, none, .v (.int .i64 (min n 32 : Nat)), [(b, ⟨x, e, sp⟩)]⟩ : Upd) | none => none) | none => none) else none) = _
  rw [if_pos ⟨rfl, rfl⟩, c1]
  show (match (Cont.flat .u8 x).lay 0 (.flat .u8 (l.take 32)) with | some x => some (⟨none, none, .v (.int .i64 (min n 32 : Nat)), [(b, ⟨x, e, sp⟩)]⟩ : Upd) | none => none) = _
  rw [c2]
set_option maxRecDepth 100000 in
set_option maxHeartbeats 1600000 in
theorem eRead_call {n : Nat} {c : Option Nat} {l : List Int} (hl : l.length = n) (hn : 32 ≤ n) : CallOk Tryz.prog 59 [.im 1 n c (.flat .u8 l)] (ret1 (.agg (.flat .u8 (l.take 32)))) := by
  refine execF_ok follows_ok PE4_ok Tryz.func59 ?_
  have lt : (l.take 32).length = 32 := by rw [List.length_take]; omega
  have hc := fun (β : Nat → Option Blk) (hb : β 24 = some ⟨.flat .u8 (List.replicate 32 0), 23, false⟩) => copy_pre (c := c) hb (List.length_replicate ..) hl hn
  generalize l.take 32 = k at *
  have cl : (Cont.flat .u8 k).cut 0 32 = some (.flat .u8 k) := cut_all lt
  have nE : (Cont.flat .u8 k).len = 32 := lt
  have zE : layOne (.flat .u8 (List.replicate 32 0)) 0 (.flat .u8 k) = some (.flat .u8 k) := lay_all (by rw [List.length_replicate, lt]) (by omega)
  ((conv => whnf); repeat ((first | refine ⟨_, hc _ rfl, ?_⟩ | refine ⟨_, cl, ?_⟩ | refine ⟨_, zE, ?_⟩ | refine ⟨nE, ?_⟩ | refine ⟨_, rfl, ?_⟩ | refine ⟨by decide, ?_⟩ | refine ⟨rfl, ?_⟩ | refine ⟨fun _ => ?_, fun h => absurd h (by decide)⟩ | refine ⟨fun h => absurd h (by decide), fun _ => ?_⟩ | refine ⟨inI_of (by omega), ?_⟩ | refine ⟨⟨rfl, inI_of (by omega)⟩, ?_⟩ | refine ⟨⟨rfl, by decide⟩, ?_⟩ | (apply Exists.intro; refine ⟨?_, ?_⟩; ((try simp only); (try simp only [Nat.zero_add]); (try simp only [Nat.mul_one]); (try simp only [Int.toNat_natCast]); first | exact at_g (by omega) | exact put_flat (by omega))) | refine ⟨_, cut_all (by omega), ?_⟩ | refine ⟨_, lay_all (by omega) (by omega), ?_⟩ | refine ⟨_, lay_all (by (try simp only); (try simp only [List.length_replicate]); (try simp only [List.length_cons]); (try simp only [List.length_nil]); omega) (by omega), ?_⟩ | refine ⟨by omega, ?_⟩ | refine ⟨len_flat (by omega), ?_⟩ | refine ⟨apart_uv _ _ _, ?_⟩ | refine ⟨_, resSlot_own rfl (by omega) (by first | exact .inl rfl | exact .inr ⟨rfl, rfl⟩), ?_⟩ | refine ⟨(by kernel_rfl : regB _ = true), ?_⟩ | refine ⟨⟨rfl, inI_of (by omega), by decide⟩, ?_⟩ | (apply Exists.intro; refine ⟨?_, ?_⟩; ((try simp only); (try simp only [Nat.zero_add]); (try simp only [Nat.mul_one]); (try simp only [Int.toNat_natCast]); first | exact at_drop_g (by omega) | exact cut_rest (by omega)))); conv => whnf))
  rfl
set_option maxRecDepth 100000 in
set_option maxHeartbeats 8000000 in
theorem eClamp_exec (n : Nat) (l : List Int) (hl : l = by32 n) : execF PE4 Tryz.f92 [.agg (.flat .u8 l)] (ret1 (F (clampN n))) := by
  have ll : l.length = 32 := by rw [hl, byk_len]
  obtain ⟨x0, hx0⟩ : ∃ x0, x0 = g l 0 := ⟨_, rfl⟩
  have a0 : (Cont.flat .u8 l).at? 0 = some (.v (.int .u8 x0)) := by rw [hx0]; exact at_g (by omega)
  obtain ⟨m1, hm1⟩ : ∃ m1, m1 = l.set 0 (bits .andNot .u8 x0 7) := ⟨_, rfl⟩
  have p0 : layOne (.flat .u8 l) 0 (.flat .u8 [bits .andNot .u8 x0 7]) = some (.flat .u8 m1) := by rw [hm1]; exact put_flat (by omega)
  have lm1 : m1.length = 32 := by rw [hm1, List.length_set]; exact ll
  obtain ⟨x1, hx1⟩ : ∃ x1, x1 = g m1 31 := ⟨_, rfl⟩
  have a1 : (Cont.flat .u8 m1).at? 31 = some (.v (.int .u8 x1)) := by rw [hx1]; exact at_g (by omega)
  obtain ⟨m2, hm2⟩ : ∃ m2, m2 = m1.set 31 (bits .or .u8 (bits .and .u8 x1 127) 64) := ⟨_, rfl⟩
  have p1 : layOne (.flat .u8 m1) 31 (.flat .u8 [bits .or .u8 (bits .and .u8 x1 127) 64]) = some (.flat .u8 m2) := by rw [hm2]; exact put_flat (by omega)
  have lm2 : m2.length = 32 := by rw [hm2, List.length_set]; exact lm1
  have nE : (Cont.flat .u8 m2).len = 32 := lm2
  have zE : layOne (.flat .u8 (List.replicate 32 0)) 0 (.flat .u8 m2) = some (.flat .u8 m2) := lay_all (by rw [List.length_replicate, lm2]) (by omega)
  have cE : (Cont.flat .u8 m2).cut 0 32 = some (.flat .u8 m2) := cut_all lm2
  have e : m2 = by32 (clampN n) := by
    have hx1' : x1 = bt n 31 := by rw [hx1, hm1, hl, g_set (by rw [byk_len]; decide), if_neg (by decide), g_byk (by decide)]
    have hx0' : x0 = bt n 0 := by rw [hx0, hl, g_byk (by decide)]
    have c0 := (clamp_bits (n / 2 ^ (8 * 0) % 256) (by omega)).1
    have c1 := (clamp_bits (n / 2 ^ (8 * 31) % 256) (by omega)).2.2.2.1
    rw [hm2, hm1, hl]
    refine clamp_list n _ _ ?_ ?_
    · rw [hx0']; exact c0
    · rw [hx1']; exact c1
  clear hm1 hm2 hx0 hx1 hl
  ((conv => whnf); repeat ((first | refine ⟨_, a0, ?_⟩ | refine ⟨_, a1, ?_⟩ | refine ⟨_, p0, ?_⟩ | refine ⟨_, p1, ?_⟩ | refine ⟨_, cE, ?_⟩ | refine ⟨_, zE, ?_⟩ | refine ⟨nE, ?_⟩ | refine ⟨_, rfl, ?_⟩ | refine ⟨by decide, ?_⟩ | refine ⟨rfl, ?_⟩ | refine ⟨fun _ => ?_, fun h => absurd h (by decide)⟩ | refine ⟨fun h => absurd h (by decide), fun _ => ?_⟩ | refine ⟨inI_of (by omega), ?_⟩ | refine ⟨⟨rfl, inI_of (by omega)⟩, ?_⟩ | refine ⟨⟨rfl, by decide⟩, ?_⟩ | (apply Exists.intro; refine ⟨?_, ?_⟩; ((try simp only); (try simp only [Nat.zero_add]); (try simp only [Nat.mul_one]); (try simp only [Int.toNat_natCast]); first | exact at_g (by omega) | exact put_flat (by omega))) | refine ⟨_, cut_all (by omega), ?_⟩ | refine ⟨_, lay_all (by omega) (by omega), ?_⟩ | refine ⟨_, lay_all (by (try simp only); (try simp only [List.length_replicate]); (try simp only [List.length_cons]); (try simp only [List.length_nil]); omega) (by omega), ?_⟩ | refine ⟨by omega, ?_⟩ | refine ⟨len_flat (by omega), ?_⟩ | refine ⟨apart_uv _ _ _, ?_⟩ | refine ⟨_, resSlot_own rfl (by omega) (by first | exact .inl rfl | exact .inr ⟨rfl, rfl⟩), ?_⟩ | refine ⟨(by kernel_rfl : regB _ = true), ?_⟩ | refine ⟨⟨rfl, inI_of (by omega), by decide⟩, ?_⟩ | (apply Exists.intro; refine ⟨?_, ?_⟩; ((try simp only); (try simp only [Nat.zero_add]); (try simp only [Nat.mul_one]); (try simp only [Int.toNat_natCast]); first | exact at_drop_g (by omega) | exact cut_rest (by omega)))); conv => whnf))
  rw [e]
  rfl
theorem eClamp_row {a : List Int} (hc : isF a = true) : CallOk Tryz.prog 92 [.agg (.flat .u8 a)] (ret1 (F (clampN (nb a)))) := execF_ok follows_ok PE4_ok Tryz.func92 (eClamp_exec (nb a) a (isF_eq hc))
def orcPE5 (f : Nat) (ds : List LV) : Option LRes :=
  match f with
  | 60 => match ds with
    | [.im 1 n _ (.flat .u8 b)] => if b.length = n ∧ byteOk b = true ∧ n ≤ 64 then some (ret1 (F (nb b % qQ))) else none
    | _ => none
  | 59 => match ds with
    | [.im 1 n _ (.flat .u8 b)] => if b.length = n ∧ 32 ≤ n then some (ret1 (.agg (.flat .u8 (b.take 32)))) else none
    | _ => none
  | 92 => match ds with
    | [.agg (.flat .u8 a)] => if isF a = true then some (ret1 (F (clampN (nb a)))) else none
    | _ => none
  | _ => orcPE4 f ds
theorem orcPE5_ok : Known Tryz.prog orcPE5 := by
  intro f ds r h
  unfold orcPE5 at h
  split at h
  · split at h
    · split at h
      · rename_i hc
        cases h
        exact .inl ⟨⟨_, Tryz.func60, name_ne _ (by kernel_rfl), rfl⟩, number_call hc.1 (byteAll hc.2.1) hc.2.2⟩
      · cases h
    · cases h
  · split at h
    · split at h
      · rename_i hc
        cases h
        exact .inl ⟨⟨_, Tryz.func59, name_ne _ (by kernel_rfl), rfl⟩, eRead_call hc.1 hc.2⟩
      · cases h
    · cases h
  · split at h
    · split at h
      · rename_i hc
        cases h
        exact .inl ⟨⟨_, Tryz.func92, name_ne _ (by kernel_rfl), rfl⟩, eClamp_row hc⟩
      · cases h
    · cases h
  · exact orcPE4_ok f ds r h
def PE5 : Env := ⟨tyL, orcPE5, false, noWk, noOrw⟩
theorem PE5_ok : EnvOk Tryz.prog PE5 := ⟨tyL_ok, orcPE5_ok, noOrw_ok⟩
theorem isN_PE5 (f : Nat) {ds : List LV} {K : LRes → Prop} (h : ∃ y, PE5.orc f ds = some y ∧ K y) : ∃ y, PE5.orc f ds = some y ∧ K y := h
theorem p5_Sha {n : Nat} {c : Option Nat} {l : List Int} (hn : l.length = n) (hb : By l) (hl : n ≤ 1000000) : PE5.orc 91 [.im 1 n c (.flat .u8 l)] = some (.one (.own 1 64 5 (.flat .u8 (sha512 l)))) := if_pos ⟨hn, hb.ok, hl⟩
theorem p5_number {n : Nat} {c : Option Nat} {b : List Int} (h : b.length = n) (hb : By b) (hn : n ≤ 64) : PE5.orc 60 [.im 1 n c (.flat .u8 b)] = some (ret1 (F (nb b % qQ))) := if_pos ⟨h, hb.ok, hn⟩
theorem p5_read {n : Nat} {c : Option Nat} {b : List Int} (h : b.length = n) (hn : 32 ≤ n) : PE5.orc 59 [.im 1 n c (.flat .u8 b)] = some (ret1 (.agg (.flat .u8 (b.take 32)))) := if_pos ⟨h, hn⟩
theorem p5_clamp {a : List Int} (h : isF a = true) : PE5.orc 92 [.agg (.flat .u8 a)] = some (ret1 (F (clampN (nb a)))) := if_pos h
theorem p5_Cat3 (n1 n2 n3 : Nat) (c c1 c2 c3 : Option Nat) (l1 l2 l3 : List Int) (h1 : l1.length = n1) (h2 : l2.length = n2) (h3 : l3.length = n3) (m1 : n1 ≤ 100000) (m2 : n2 ≤ 100000) (m3 : n3 ≤ 100000) :
    PE5.orc 56 [.im 1 3 c (.gen [.im 1 n1 c1 (.flat .u8 l1), .im 1 n2 c2 (.flat .u8 l2), .im 1 n3 c3 (.flat .u8 l3)])] = some (LRes.one (.own 1 (n1 + n2 + n3) 5 (.flat .u8 (l1 ++ l2 ++ l3)))) := if_pos ⟨h1, h2, h3, m1, m2, m3⟩
theorem p5_Cat2 (n1 n2 : Nat) (c c1 c2 : Option Nat) (l1 l2 : List Int) (h1 : l1.length = n1) (h2 : l2.length = n2) (m1 : n1 ≤ 100000) (m2 : n2 ≤ 100000) :
    PE5.orc 56 [.im 1 2 c (.gen [.im 1 n1 c1 (.flat .u8 l1), .im 1 n2 c2 (.flat .u8 l2)])] = some (LRes.one (.own 1 (n1 + n2) 5 (.flat .u8 (l1 ++ l2)))) := if_pos ⟨h1, h2, m1, m2⟩
set_option maxRecDepth 100000 in
set_option maxHeartbeats 8000000 in
theorem eSecret_gen (n : Nat) (c : Option Nat) (s h k r p : List Int) (lh : h.length = 64) (lr : r.length = 32) (hp : h.drop 32 = p) (hpl : p.length = 32)
    (f1 : PE5.orc 91 [.im 1 n c (.flat .u8 s)] = some (.one (.own 1 64 5 (.flat .u8 h)))) (f2 : ∀ c, PE5.orc 59 [.im 1 64 c (.flat .u8 h)] = some (ret1 (.agg (.flat .u8 k)))) (f3 : PE5.orc 92 [.agg (.flat .u8 k)] = some (ret1 (.agg (.flat .u8 r)))) :
    execF PE5 Tryz.f50 [.im 1 n c (.flat .u8 s)] (.many [.val (.agg (.flat .u8 r)), .val (.im 1 32 none (.flat .u8 p))]) := by
  have c2 : (Cont.flat .u8 h).cut 32 (32 * 1) = some (.flat .u8 p) := by rw [cut_flat (by omega), hp, List.take_of_length_le (by omega)]
  have zr : layOne (.flat .u8 (List.replicate 32 0)) 0 (.flat .u8 r) = some (.flat .u8 r) := lay_all (by rw [List.length_replicate, lr]) (by omega)
  have nr : (Cont.flat .u8 r).len = 32 := lr
  have cr : (Cont.flat .u8 r).cut 0 32 = some (.flat .u8 r) := cut_all lr
  have ch : (Cont.flat .u8 h).cut 0 (64 * 1) = some (.flat .u8 h) := cut_all (by omega)
  ((conv => whnf); repeat ((first | refine ⟨_, c2, ?_⟩ | refine ⟨_, zr, ?_⟩ | refine ⟨nr, ?_⟩ | refine ⟨_, cr, ?_⟩ | refine ⟨_, ch, ?_⟩ | refine ⟨_, expo_sl rfl ch, ?_⟩ | ((with_reducible refine isN_PE5 91 ?_); refine ⟨_, f1, ?_⟩) | ((with_reducible refine isN_PE5 59 ?_); refine ⟨_, f2 _, ?_⟩) | ((with_reducible refine isN_PE5 92 ?_); refine ⟨_, f3, ?_⟩) | refine ⟨_, rfl, ?_⟩ | refine ⟨by decide, ?_⟩ | refine ⟨rfl, ?_⟩ | refine ⟨fun _ => ?_, fun h => absurd h (by decide)⟩ | refine ⟨fun h => absurd h (by decide), fun _ => ?_⟩ | refine ⟨inI_of (by omega), ?_⟩ | refine ⟨⟨rfl, inI_of (by omega)⟩, ?_⟩ | refine ⟨⟨rfl, by decide⟩, ?_⟩ | (apply Exists.intro; refine ⟨?_, ?_⟩; ((try simp only); (try simp only [Nat.zero_add]); (try simp only [Nat.mul_one]); (try simp only [Int.toNat_natCast]); first | exact at_g (by omega) | exact put_flat (by omega))) | refine ⟨_, cut_all (by omega), ?_⟩ | refine ⟨_, lay_all (by omega) (by omega), ?_⟩ | refine ⟨_, lay_all (by (try simp only); (try simp only [List.length_replicate]); (try simp only [List.length_cons]); (try simp only [List.length_nil]); omega) (by omega), ?_⟩ | refine ⟨by omega, ?_⟩ | refine ⟨len_flat (by omega), ?_⟩ | refine ⟨apart_uv _ _ _, ?_⟩ | refine ⟨_, resSlot_own rfl (by omega) (by first | exact .inl rfl | exact .inr ⟨rfl, rfl⟩), ?_⟩ | refine ⟨(by kernel_rfl : regB _ = true), ?_⟩ | refine ⟨⟨rfl, inI_of (by omega), by decide⟩, ?_⟩ | (apply Exists.intro; refine ⟨?_, ?_⟩; ((try simp only); (try simp only [Nat.zero_add]); (try simp only [Nat.mul_one]); (try simp only [Int.toNat_natCast]); first | exact at_drop_g (by omega) | exact cut_rest (by omega)))); conv => whnf))
  refine ⟨_, resSlot_tail (e' := 5) (s' := true) rfl (by kernel_rfl) c2, ?_⟩
  ((conv => whnf); repeat ((first | refine ⟨_, cr, ?_⟩ | refine ⟨_, rfl, ?_⟩ | refine ⟨by decide, ?_⟩ | refine ⟨rfl, ?_⟩ | refine ⟨fun _ => ?_, fun h => absurd h (by decide)⟩ | refine ⟨fun h => absurd h (by decide), fun _ => ?_⟩ | refine ⟨inI_of (by omega), ?_⟩ | refine ⟨⟨rfl, inI_of (by omega)⟩, ?_⟩ | refine ⟨⟨rfl, by decide⟩, ?_⟩ | (apply Exists.intro; refine ⟨?_, ?_⟩; ((try simp only); (try simp only [Nat.zero_add]); (try simp only [Nat.mul_one]); (try simp only [Int.toNat_natCast]); first | exact at_g (by omega) | exact put_flat (by omega))) | refine ⟨_, cut_all (by omega), ?_⟩ | refine ⟨_, lay_all (by omega) (by omega), ?_⟩ | refine ⟨_, lay_all (by (try simp only); (try simp only [List.length_replicate]); (try simp only [List.length_cons]); (try simp only [List.length_nil]); omega) (by omega), ?_⟩ | refine ⟨by omega, ?_⟩ | refine ⟨len_flat (by omega), ?_⟩ | refine ⟨apart_uv _ _ _, ?_⟩ | refine ⟨_, resSlot_own rfl (by omega) (by first | exact .inl rfl | exact .inr ⟨rfl, rfl⟩), ?_⟩ | refine ⟨(by kernel_rfl : regB _ = true), ?_⟩ | refine ⟨⟨rfl, inI_of (by omega), by decide⟩, ?_⟩ | (apply Exists.intro; refine ⟨?_, ?_⟩; ((try simp only); (try simp only [Nat.zero_add]); (try simp only [Nat.mul_one]); (try simp only [Int.toNat_natCast]); first | exact at_drop_g (by omega) | exact cut_rest (by omega)))); conv => whnf))
  rfl
theorem secN_lt (s : List Int) : secN s < 2 ^ 256 := clampN_lt _
theorem isF_take (s : List Int) : isF ((sha512 s).take 32) = true := isF_of (by rw [List.length_take, sh_len]; decide) (by_take (sh_by s) 32)
theorem eSecret_call {n : Nat} {c : Option Nat} {s : List Int} (hs : s.length = n) (hb : By s) (hn : n ≤ 1000000) : CallOk Tryz.prog 50 [.im 1 n c (.flat .u8 s)] (.many [.val (F (secN s)), .val (.im 1 32 none (.flat .u8 (secP s)))]) :=
  execF_ok follows_ok PE5_ok Tryz.func50 (eSecret_gen n c s (sha512 s) ((sha512 s).take 32) _ _ (sh_len s) (byk_len _ _) rfl (secP_len s) (p5_Sha hs hb hn) (fun _ => p5_read (sh_len s) (by decide)) (p5_clamp (isF_take s)))
set_option maxRecDepth 100000 in
set_option maxHeartbeats 8000000 in
theorem hashed2_gen (n1 n2 : Nat) (c1 c2 : Option Nat) (l1 l2 L h r : List Int) (N : Nat) (c : Option Nat) (lL : L.length = N) (lh : h.length = 64) (lr : r.length = 32)
    (f1 : PE5.orc 56 [.im 1 2 c (.gen [.im 1 n1 c1 (.flat .u8 l1), .im 1 n2 c2 (.flat .u8 l2)])] = some (LRes.one (.own 1 N 5 (.flat .u8 L)))) (f2 : ∀ c, PE5.orc 91 [.im 1 N c (.flat .u8 L)] = some (.one (.own 1 64 5 (.flat .u8 h)))) (f3 : ∀ c, PE5.orc 60 [.im 1 64 c (.flat .u8 h)] = some (ret1 (.agg (.flat .u8 r)))) :
    execF PE5 Tryz.f54 [.im 1 2 c (.gen [.im 1 n1 c1 (.flat .u8 l1), .im 1 n2 c2 (.flat .u8 l2)])] (ret1 (.agg (.flat .u8 r))) := by
  have zr : layOne (.flat .u8 (List.replicate 32 0)) 0 (.flat .u8 r) = some (.flat .u8 r) := lay_all (by rw [List.length_replicate, lr]) (by omega)
  have nr : (Cont.flat .u8 r).len = 32 := lr
  have cr : (Cont.flat .u8 r).cut 0 32 = some (.flat .u8 r) := cut_all lr
  have cL : (Cont.flat .u8 L).cut 0 (N * 1) = some (.flat .u8 L) := cut_all (by omega)
  have ch : (Cont.flat .u8 h).cut 0 (64 * 1) = some (.flat .u8 h) := cut_all (by omega)
  ((conv => whnf); repeat ((first | refine ⟨_, cL, ?_⟩ | refine ⟨_, ch, ?_⟩ | refine ⟨_, expo_sl rfl cL, ?_⟩ | refine ⟨_, expo_sl rfl ch, ?_⟩ | refine ⟨_, zr, ?_⟩ | refine ⟨nr, ?_⟩ | refine ⟨_, cr, ?_⟩ | ((with_reducible refine isN_PE5 56 ?_); refine ⟨_, f1, ?_⟩) | ((with_reducible refine isN_PE5 91 ?_); refine ⟨_, f2 _, ?_⟩) | ((with_reducible refine isN_PE5 60 ?_); refine ⟨_, f3 _, ?_⟩) | refine ⟨_, rfl, ?_⟩ | refine ⟨by decide, ?_⟩ | refine ⟨rfl, ?_⟩ | refine ⟨fun _ => ?_, fun h => absurd h (by decide)⟩ | refine ⟨fun h => absurd h (by decide), fun _ => ?_⟩ | refine ⟨inI_of (by omega), ?_⟩ | refine ⟨⟨rfl, inI_of (by omega)⟩, ?_⟩ | refine ⟨⟨rfl, by decide⟩, ?_⟩ | (apply Exists.intro; refine ⟨?_, ?_⟩; ((try simp only); (try simp only [Nat.zero_add]); (try simp only [Nat.mul_one]); (try simp only [Int.toNat_natCast]); first | exact at_g (by omega) | exact put_flat (by omega))) | refine ⟨_, cut_all (by omega), ?_⟩ | refine ⟨_, lay_all (by omega) (by omega), ?_⟩ | refine ⟨_, lay_all (by (try simp only); (try simp only [List.length_replicate]); (try simp only [List.length_cons]); (try simp only [List.length_nil]); omega) (by omega), ?_⟩ | refine ⟨by omega, ?_⟩ | refine ⟨len_flat (by omega), ?_⟩ | refine ⟨apart_uv _ _ _, ?_⟩ | refine ⟨_, resSlot_own rfl (by omega) (by first | exact .inl rfl | exact .inr ⟨rfl, rfl⟩), ?_⟩ | refine ⟨(by kernel_rfl : regB _ = true), ?_⟩ | refine ⟨⟨rfl, inI_of (by omega), by decide⟩, ?_⟩ | (apply Exists.intro; refine ⟨?_, ?_⟩; ((try simp only); (try simp only [Nat.zero_add]); (try simp only [Nat.mul_one]); (try simp only [Int.toNat_natCast]); first | exact at_drop_g (by omega) | exact cut_rest (by omega)))); conv => whnf))
  rfl
theorem hashed2_row {n1 n2 : Nat} {c c1 c2 : Option Nat} {l1 l2 : List Int} (hc : l1.length = n1 ∧ l2.length = n2 ∧ byteOk l1 = true ∧ byteOk l2 = true ∧ n1 ≤ 100000 ∧ n2 ≤ 100000) : CallOk Tryz.prog 54 [.im 1 2 c (.gen [.im 1 n1 c1 (.flat .u8 l1), .im 1 n2 c2 (.flat .u8 l2)])] (ret1 (F (nb (sha512 (l1 ++ l2)) % qQ))) := by
  have hl : (l1 ++ l2).length = n1 + n2 := by simp only [List.length_append]; omega
  exact execF_ok follows_ok PE5_ok Tryz.func54 (hashed2_gen _ _ _ _ _ _ _ _ _ _ c hl (sh_len _) (byk_len _ _) (p5_Cat2 _ _ _ _ _ _ _ hc.1 hc.2.1 hc.2.2.2.2.1 hc.2.2.2.2.2) (fun _ => p5_Sha hl ((byteAll hc.2.2.1).append (byteAll hc.2.2.2.1)) (by omega)) (fun _ => p5_number (sh_len _) (sh_by _) (by decide)))
set_option maxRecDepth 100000 in
set_option maxHeartbeats 8000000 in
theorem hashed3_gen (n1 n2 n3 : Nat) (c1 c2 c3 : Option Nat) (l1 l2 l3 L h r : List Int) (N : Nat) (c : Option Nat) (lL : L.length = N) (lh : h.length = 64) (lr : r.length = 32)
    (f1 : PE5.orc 56 [.im 1 3 c (.gen [.im 1 n1 c1 (.flat .u8 l1), .im 1 n2 c2 (.flat .u8 l2), .im 1 n3 c3 (.flat .u8 l3)])] = some (LRes.one (.own 1 N 5 (.flat .u8 L)))) (f2 : ∀ c, PE5.orc 91 [.im 1 N c (.flat .u8 L)] = some (.one (.own 1 64 5 (.flat .u8 h)))) (f3 : ∀ c, PE5.orc 60 [.im 1 64 c (.flat .u8 h)] = some (ret1 (.agg (.flat .u8 r)))) :
    execF PE5 Tryz.f54 [.im 1 3 c (.gen [.im 1 n1 c1 (.flat .u8 l1), .im 1 n2 c2 (.flat .u8 l2), .im 1 n3 c3 (.flat .u8 l3)])] (ret1 (.agg (.flat .u8 r))) := by
  have zr : layOne (.flat .u8 (List.replicate 32 0)) 0 (.flat .u8 r) = some (.flat .u8 r) := lay_all (by rw [List.length_replicate, lr]) (by omega)
  have nr : (Cont.flat .u8 r).len = 32 := lr
  have cr : (Cont.flat .u8 r).cut 0 32 = some (.flat .u8 r) := cut_all lr
  have cL : (Cont.flat .u8 L).cut 0 (N * 1) = some (.flat .u8 L) := cut_all (by omega)
  have ch : (Cont.flat .u8 h).cut 0 (64 * 1) = some (.flat .u8 h) := cut_all (by omega)
  ((conv => whnf); repeat ((first | refine ⟨_, cL, ?_⟩ | refine ⟨_, ch, ?_⟩ | refine ⟨_, expo_sl rfl cL, ?_⟩ | refine ⟨_, expo_sl rfl ch, ?_⟩ | refine ⟨_, zr, ?_⟩ | refine ⟨nr, ?_⟩ | refine ⟨_, cr, ?_⟩ | ((with_reducible refine isN_PE5 56 ?_); refine ⟨_, f1, ?_⟩) | ((with_reducible refine isN_PE5 91 ?_); refine ⟨_, f2 _, ?_⟩) | ((with_reducible refine isN_PE5 60 ?_); refine ⟨_, f3 _, ?_⟩) | refine ⟨_, rfl, ?_⟩ | refine ⟨by decide, ?_⟩ | refine ⟨rfl, ?_⟩ | refine ⟨fun _ => ?_, fun h => absurd h (by decide)⟩ | refine ⟨fun h => absurd h (by decide), fun _ => ?_⟩ | refine ⟨inI_of (by omega), ?_⟩ | refine ⟨⟨rfl, inI_of (by omega)⟩, ?_⟩ | refine ⟨⟨rfl, by decide⟩, ?_⟩ | (apply Exists.intro; refine ⟨?_, ?_⟩; ((try simp only); (try simp only [Nat.zero_add]); (try simp only [Nat.mul_one]); (try simp only [Int.toNat_natCast]); first | exact at_g (by omega) | exact put_flat (by omega))) | refine ⟨_, cut_all (by omega), ?_⟩ | refine ⟨_, lay_all (by omega) (by omega), ?_⟩ | refine ⟨_, lay_all (by (try simp only); (try simp only [List.length_replicate]); (try simp only [List.length_cons]); (try simp only [List.length_nil]); omega) (by omega), ?_⟩ | refine ⟨by omega, ?_⟩ | refine ⟨len_flat (by omega), ?_⟩ | refine ⟨apart_uv _ _ _, ?_⟩ | refine ⟨_, resSlot_own rfl (by omega) (by first | exact .inl rfl | exact .inr ⟨rfl, rfl⟩), ?_⟩ | refine ⟨(by kernel_rfl : regB _ = true), ?_⟩ | refine ⟨⟨rfl, inI_of (by omega), by decide⟩, ?_⟩ | (apply Exists.intro; refine ⟨?_, ?_⟩; ((try simp only); (try simp only [Nat.zero_add]); (try simp only [Nat.mul_one]); (try simp only [Int.toNat_natCast]); first | exact at_drop_g (by omega) | exact cut_rest (by omega)))); conv => whnf))
  rfl
theorem hashed3_row {n1 n2 n3 : Nat} {c c1 c2 c3 : Option Nat} {l1 l2 l3 : List Int} (hc : l1.length = n1 ∧ l2.length = n2 ∧ l3.length = n3 ∧ byteOk l1 = true ∧ byteOk l2 = true ∧ byteOk l3 = true ∧ n1 ≤ 100000 ∧ n2 ≤ 100000 ∧ n3 ≤ 100000) : CallOk Tryz.prog 54 [.im 1 3 c (.gen [.im 1 n1 c1 (.flat .u8 l1), .im 1 n2 c2 (.flat .u8 l2), .im 1 n3 c3 (.flat .u8 l3)])] (ret1 (F (nb (sha512 (l1 ++ l2 ++ l3)) % qQ))) := by
  have hl : (l1 ++ l2 ++ l3).length = n1 + n2 + n3 := by simp only [List.length_append]; omega
  exact execF_ok follows_ok PE5_ok Tryz.func54 (hashed3_gen _ _ _ _ _ _ _ _ _ _ _ _ _ c hl (sh_len _) (byk_len _ _) (p5_Cat3 _ _ _ _ _ _ _ _ _ _ hc.1 hc.2.1 hc.2.2.1 hc.2.2.2.2.2.2.1 hc.2.2.2.2.2.2.2.1 hc.2.2.2.2.2.2.2.2) (fun _ => p5_Sha hl (((byteAll hc.2.2.2.1).append (byteAll hc.2.2.2.2.1)).append (byteAll hc.2.2.2.2.2.1)) (by omega)) (fun _ => p5_number (sh_len _) (sh_by _) (by decide)))
def orcPE6 (f : Nat) (ds : List LV) : Option LRes :=
  match f with
  | 50 => match ds with
    | [.im 1 n _ (.flat .u8 s)] => if s.length = n ∧ byteOk s = true ∧ n ≤ 1000000 then some (.many [.val (F (secN s)), .val (.im 1 32 none (.flat .u8 (secP s)))]) else none
    | _ => none
  | 54 => match ds with
    | [.im 1 3 _ (.gen [.im 1 n1 _ (.flat .u8 l1), .im 1 n2 _ (.flat .u8 l2), .im 1 n3 _ (.flat .u8 l3)])] => if l1.length = n1 ∧ l2.length = n2 ∧ l3.length = n3 ∧ byteOk l1 = true ∧ byteOk l2 = true ∧ byteOk l3 = true ∧ n1 ≤ 100000 ∧ n2 ≤ 100000 ∧ n3 ≤ 100000 then some (ret1 (F (nb (sha512 (l1 ++ l2 ++ l3)) % qQ))) else none
    | [.im 1 2 _ (.gen [.im 1 n1 _ (.flat .u8 l1), .im 1 n2 _ (.flat .u8 l2)])] => if l1.length = n1 ∧ l2.length = n2 ∧ byteOk l1 = true ∧ byteOk l2 = true ∧ n1 ≤ 100000 ∧ n2 ≤ 100000 then some (ret1 (F (nb (sha512 (l1 ++ l2)) % qQ))) else none
    | _ => none
  | _ => orcPE5 f ds
theorem orcPE6_ok : Known Tryz.prog orcPE6 := by
  intro f ds r h
  unfold orcPE6 at h
  split at h
  · split at h
    · split at h
      · rename_i hc
        cases h
        exact .inl ⟨⟨_, Tryz.func50, name_ne _ (by kernel_rfl), rfl⟩, eSecret_call hc.1 (byteAll hc.2.1) hc.2.2⟩
      · cases h
    · cases h
  · split at h
    · split at h
      · rename_i hc
        cases h
        exact .inl ⟨⟨_, Tryz.func54, name_ne _ (by kernel_rfl), rfl⟩, hashed3_row hc⟩
      · cases h
    · split at h
      · rename_i hc
        cases h
        exact .inl ⟨⟨_, Tryz.func54, name_ne _ (by kernel_rfl), rfl⟩, hashed2_row hc⟩
      · cases h
    · cases h
  · exact orcPE5_ok f ds r h
def PE6 : Env := ⟨tyL, orcPE6, false, noWk, noOrw⟩
theorem PE6_ok : EnvOk Tryz.prog PE6 := ⟨tyL_ok, orcPE6_ok, noOrw_ok⟩
theorem isN_PE6 (f : Nat) {ds : List LV} {K : LRes → Prop} (h : ∃ y, PE6.orc f ds = some y ∧ K y) : ∃ y, PE6.orc f ds = some y ∧ K y := h
end Go.Proofs.YtdeigmjbcbjgeaaGreatDoor
/-
  Layer 10: the program's Public, Sign, Verify.
-/
namespace Go.Proofs.YtdeigmjbcbjgeaaGreatDoor
open Go.RowKit

theorem encP_lt (P : Pt) : encP P < 2 ^ 256 := by
  have h2 : pP < 2 ^ 255 := by decide
  have y1 := val_lt P.y
  unfold encP
  omega
theorem enc_base : encP Bp = baseN := by kernel_rfl
theorem base_For : (toE (rdP baseN)).For Bp := by
  have h := rd_For Bp
  rwa [enc_base] at h
/-- The encoding of k times the base point. -/
def mulB (k : Nat) : Nat := wrN (timN dN k (rdP baseN) 256)
theorem mulB_enc {k : Nat} (hk : k < 2 ^ 256) : mulB k = encP (Pt.mul k Bp) := wr_enc (For_tim hk base_For)
theorem pmulB {k : Nat} (hk : k < 2 ^ 256) : wrN (pmulN k (rdP baseN) 256) = mulB k := (wr_enc (For_pmul hk base_For)).trans (mulB_enc hk).symm
def rNum (s m : List Int) : Nat := nb (sha512 (secP s ++ m)) % qQ
def kNum (r a m : List Int) : Nat := nb (sha512 (r ++ a ++ m)) % qQ
def pubL (s : List Int) : List Int := by32 (mulB (secN s))
def fstL (s m : List Int) : List Int := by32 (mulB (rNum s m))
def sndL (s m : List Int) : List Int := by32 ((kNum (fstL s m) (pubL s) m * secN s + rNum s m) % qQ)
def sigL (s m : List Int) : List Int := fstL s m ++ sndL s m
theorem qQ_lt : qQ < 2 ^ 256 := by decide
theorem modq_lt (n : Nat) : n % qQ < 2 ^ 256 := Nat.lt_trans (Nat.mod_lt _ qQ_pos) qQ_lt
theorem pubL_len (s : List Int) : (pubL s).length = 32 := byk_len _ _
theorem fstL_len (s m : List Int) : (fstL s m).length = 32 := byk_len _ _
theorem sndL_len (s m : List Int) : (sndL s m).length = 32 := byk_len _ _
theorem sigL_len (s m : List Int) : (sigL s m).length = 64 := by rw [sigL, List.length_append, fstL_len, sndL_len]
theorem secP_by (s : List Int) : By (secP s) := by_drop (sh_by s) 32
set_option maxRecDepth 100000 in
theorem p6_mul {k : Nat} {p : Pn} (hk : k < 2 ^ 256) (hp : p.lt) : PE6.orc 49 [F k, Q4 p] = some (ret1 (Q4 (pmulN k p 256))) := (show PE6.orc 49 [F k, Q4 p] = PE3.orc 49 [F k, Q4 p] from rfl).trans (p_eMul hk hp)
theorem p6_enc {p : Pn} (hp : p.lt) : PE6.orc 39 [Q4 p] = some (ret1 (F (wrN p))) := (show PE6.orc 39 [Q4 p] = PE3.orc 39 [Q4 p] from rfl).trans (p_eEncode hp)
theorem p6_base : PE6.orc 51 [] = some (ret1 (Q4 (rdP baseN))) := rfl
theorem p6_secret {n : Nat} {c : Option Nat} {s : List Int} (h : s.length = n) (hb : By s) (hn : n ≤ 1000000) : PE6.orc 50 [.im 1 n c (.flat .u8 s)] = some (.many [.val (F (secN s)), .val (.im 1 32 none (.flat .u8 (secP s)))]) := if_pos ⟨h, hb.ok, hn⟩
set_option maxRecDepth 100000 in
theorem p6_MulAdd {a b c : Nat} (ha : a < 2 ^ 256) (hb : b < 2 ^ 256) (hc : c < 2 ^ 256) : PE6.orc 55 [F a, F b, F c] = some (ret1 (F ((a * b + c) % qQ))) := (if_pos ⟨isF_by _, isF_by _, isF_by _⟩).trans (by rw [nb_by32 ha, nb_by32 hb, nb_by32 hc])
theorem p6_hash2 {n1 n2 : Nat} {c c1 c2 : Option Nat} {l1 l2 : List Int} (h1 : l1.length = n1) (h2 : l2.length = n2) (b1 : By l1) (b2 : By l2) (m1 : n1 ≤ 100000) (m2 : n2 ≤ 100000) : PE6.orc 54 [.im 1 2 c (.gen [.im 1 n1 c1 (.flat .u8 l1), .im 1 n2 c2 (.flat .u8 l2)])] = some (ret1 (F (nb (sha512 (l1 ++ l2)) % qQ))) := if_pos ⟨h1, h2, b1.ok, b2.ok, m1, m2⟩
theorem p6_hash3 {n1 n2 n3 : Nat} {c c1 c2 c3 : Option Nat} {l1 l2 l3 : List Int} (h1 : l1.length = n1) (h2 : l2.length = n2) (h3 : l3.length = n3) (b1 : By l1) (b2 : By l2) (b3 : By l3) (m1 : n1 ≤ 100000) (m2 : n2 ≤ 100000) (m3 : n3 ≤ 100000) : PE6.orc 54 [.im 1 3 c (.gen [.im 1 n1 c1 (.flat .u8 l1), .im 1 n2 c2 (.flat .u8 l2), .im 1 n3 c3 (.flat .u8 l3)])] = some (ret1 (F (nb (sha512 (l1 ++ l2 ++ l3)) % qQ))) := if_pos ⟨h1, h2, h3, b1.ok, b2.ok, b3.ok, m1, m2, m3⟩
theorem p6_Cat2 (n1 n2 : Nat) (c c1 c2 : Option Nat) (l1 l2 : List Int) (h1 : l1.length = n1) (h2 : l2.length = n2) (m1 : n1 ≤ 100000) (m2 : n2 ≤ 100000) : PE6.orc 56 [.im 1 2 c (.gen [.im 1 n1 c1 (.flat .u8 l1), .im 1 n2 c2 (.flat .u8 l2)])] = some (LRes.one (.own 1 (n1 + n2) 5 (.flat .u8 (l1 ++ l2)))) := if_pos ⟨h1, h2, m1, m2⟩
set_option maxRecDepth 100000 in
set_option maxHeartbeats 8000000 in
theorem Public_gen (c : Option Nat) (s S B M E p : List Int) (lS : S.length = 32) (lE : E.length = 32)
    (f1 : ∀ c, PE6.orc 50 [.im 1 32 c (.flat .u8 s)] = some (.many [.val (.agg (.flat .u8 S)), .val (.im 1 32 none (.flat .u8 p))])) (f2 : PE6.orc 51 [] = some (ret1 (.agg (.flat .u8 B)))) (f3 : PE6.orc 49 [.agg (.flat .u8 S), .agg (.flat .u8 B)] = some (ret1 (.agg (.flat .u8 M)))) (f4 : PE6.orc 39 [.agg (.flat .u8 M)] = some (ret1 (.agg (.flat .u8 E)))) :
    execF PE6 Tryz.f24 [.im 1 32 c (.flat .u8 s)] (.many [.own 1 32 23 (.flat .u8 E), .val (iv .i64 0)]) := by
  have zS : layOne (.flat .u8 (List.replicate 32 0)) 0 (.flat .u8 S) = some (.flat .u8 S) := lay_all (by rw [List.length_replicate, lS]) (by omega)
  have nS : (Cont.flat .u8 S).len = 32 := lS
  have cS : (Cont.flat .u8 S).cut 0 32 = some (.flat .u8 S) := cut_all lS
  have dS : (Cont.flat .u8 S).cut 0 (32 * 1) = some (.flat .u8 S) := cut_all lS
  have zE : layOne (.flat .u8 (List.replicate 32 0)) 0 (.flat .u8 E) = some (.flat .u8 E) := lay_all (by rw [List.length_replicate, lE]) (by omega)
  have nE : (Cont.flat .u8 E).len = 32 := lE
  have cE : (Cont.flat .u8 E).cut 0 32 = some (.flat .u8 E) := cut_all lE
  have dE : (Cont.flat .u8 E).cut 0 (32 * 1) = some (.flat .u8 E) := cut_all lE
  ((conv => whnf); repeat ((first | refine ⟨_, resSlot_all rfl lE (by decide), ?_⟩ | refine ⟨_, cS, ?_⟩ | refine ⟨_, zS, ?_⟩ | refine ⟨_, dS, ?_⟩ | refine ⟨_, cE, ?_⟩ | refine ⟨_, zE, ?_⟩ | refine ⟨_, dE, ?_⟩ | refine ⟨_, expo_sl rfl dS, ?_⟩ | refine ⟨_, expo_sl rfl dE, ?_⟩ | refine ⟨nS, ?_⟩ | refine ⟨nE, ?_⟩ | ((with_reducible refine isN_PE6 50 ?_); first | refine ⟨_, f1 _, ?_⟩) | ((with_reducible refine isN_PE6 51 ?_); first | refine ⟨_, f2, ?_⟩) | ((with_reducible refine isN_PE6 49 ?_); first | refine ⟨_, f3, ?_⟩) | ((with_reducible refine isN_PE6 39 ?_); first | refine ⟨_, f4, ?_⟩) | refine ⟨_, rfl, ?_⟩ | refine ⟨by decide, ?_⟩ | refine ⟨rfl, ?_⟩ | refine ⟨fun _ => ?_, fun h => absurd h (by decide)⟩ | refine ⟨fun h => absurd h (by decide), fun _ => ?_⟩ | refine ⟨inI_of (by omega), ?_⟩ | refine ⟨⟨rfl, inI_of (by omega)⟩, ?_⟩ | refine ⟨⟨rfl, by decide⟩, ?_⟩ | (apply Exists.intro; refine ⟨?_, ?_⟩; ((try simp only); (try simp only [Nat.zero_add]); (try simp only [Nat.mul_one]); (try simp only [Int.toNat_natCast]); first | exact at_g (by omega) | exact put_flat (by omega))) | refine ⟨_, cut_all (by omega), ?_⟩ | refine ⟨_, lay_all (by omega) (by omega), ?_⟩ | refine ⟨_, lay_all (by (try simp only); (try simp only [List.length_replicate]); (try simp only [List.length_cons]); (try simp only [List.length_nil]); omega) (by omega), ?_⟩ | refine ⟨by omega, ?_⟩ | refine ⟨len_flat (by omega), ?_⟩ | refine ⟨apart_uv _ _ _, ?_⟩ | refine ⟨_, resSlot_own rfl (by omega) (by first | exact .inl rfl | exact .inr ⟨rfl, rfl⟩), ?_⟩ | refine ⟨(by kernel_rfl : regB _ = true), ?_⟩ | refine ⟨⟨rfl, inI_of (by omega), by decide⟩, ?_⟩ | (apply Exists.intro; refine ⟨?_, ?_⟩; ((try simp only); (try simp only [Nat.zero_add]); (try simp only [Nat.mul_one]); (try simp only [Int.toNat_natCast]); first | exact at_drop_g (by omega) | exact cut_rest (by omega)))); conv => whnf))
  rfl
def ePubR (n : Nat) (s : List Int) : LRes := if n = 32 then .many [.own 1 32 23 (.flat .u8 (pubL s)), .val (iv .i64 0)] else .many [.val nilV, .val (iv .i64 1)]
set_option maxRecDepth 100000 in
set_option maxHeartbeats 8000000 in
theorem Public_call {n : Nat} {c : Option Nat} {s : List Int} (hs : s.length = n) (hb : By s) : CallOk Tryz.prog 24 [.im 1 n c (.flat .u8 s)] (ePubR n s) := by
  unfold ePubR
  by_cases h : n = 32
  · subst h
    rw [if_pos rfl, pubL, ← pmulB (secN_lt s)]
    exact execF_ok follows_ok PE6_ok Tryz.func24 (Public_gen c s _ _ _ _ _ (byk_len _ _) (byk_len _ _) (fun _ => p6_secret hs hb (by decide)) p6_base (p6_mul (secN_lt s) (rdP_lt _)) (p6_enc (pmulN_lt _ _ _)))
  · rw [if_neg h]
    have q : (!((n : Int) == 32)) = true := by
      rw [Bool.not_eq_true', beq_eq_false_iff_ne]
      omega
    refine execF_ok follows_ok PE6_ok Tryz.func24 ?_
    ((conv => whnf); repeat ((first | refine ⟨fun _ => ?_, fun h => absurd ((q).symm.trans h) (by decide)⟩ | refine ⟨fun h => absurd ((q).symm.trans h) (by decide), fun _ => ?_⟩ | refine ⟨_, rfl, ?_⟩ | refine ⟨by decide, ?_⟩ | refine ⟨rfl, ?_⟩ | refine ⟨fun _ => ?_, fun h => absurd h (by decide)⟩ | refine ⟨fun h => absurd h (by decide), fun _ => ?_⟩ | refine ⟨inI_of (by omega), ?_⟩ | refine ⟨⟨rfl, inI_of (by omega)⟩, ?_⟩ | refine ⟨⟨rfl, by decide⟩, ?_⟩ | (apply Exists.intro; refine ⟨?_, ?_⟩; ((try simp only); (try simp only [Nat.zero_add]); (try simp only [Nat.mul_one]); (try simp only [Int.toNat_natCast]); first | exact at_g (by omega) | exact put_flat (by omega))) | refine ⟨_, cut_all (by omega), ?_⟩ | refine ⟨_, lay_all (by omega) (by omega), ?_⟩ | refine ⟨_, lay_all (by (try simp only); (try simp only [List.length_replicate]); (try simp only [List.length_cons]); (try simp only [List.length_nil]); omega) (by omega), ?_⟩ | refine ⟨by omega, ?_⟩ | refine ⟨len_flat (by omega), ?_⟩ | refine ⟨apart_uv _ _ _, ?_⟩ | refine ⟨_, resSlot_own rfl (by omega) (by first | exact .inl rfl | exact .inr ⟨rfl, rfl⟩), ?_⟩ | refine ⟨(by kernel_rfl : regB _ = true), ?_⟩ | refine ⟨⟨rfl, inI_of (by omega), by decide⟩, ?_⟩ | (apply Exists.intro; refine ⟨?_, ?_⟩; ((try simp only); (try simp only [Nat.zero_add]); (try simp only [Nat.mul_one]); (try simp only [Int.toNat_natCast]); first | exact at_drop_g (by omega) | exact cut_rest (by omega)))); conv => whnf))
    rfl
set_option maxRecDepth 100000 in
set_option maxHeartbeats 8000000 in
theorem Sign_gen (m : Nat) (c cm : Option Nat) (s g S B M1 EA M2 EF p r K T V : List Int) (lS : S.length = 32) (lA : EA.length = 32) (lF : EF.length = 32) (lr : r.length = 32) (lT : T.length = 32) (lV : V.length = 64)
    (f1 : ∀ c, PE6.orc 50 [.im 1 32 c (.flat .u8 s)] = some (.many [.val (.agg (.flat .u8 S)), .val (.im 1 32 none (.flat .u8 p))])) (f2 : ∀ c c1, PE6.orc 54 [.im 1 2 c (.gen [.im 1 32 c1 (.flat .u8 p), .im 1 m cm (.flat .u8 g)])] = some (ret1 (.agg (.flat .u8 r))))
    (f3 : PE6.orc 51 [] = some (ret1 (.agg (.flat .u8 B)))) (f4 : PE6.orc 49 [.agg (.flat .u8 S), .agg (.flat .u8 B)] = some (ret1 (.agg (.flat .u8 M1)))) (f5 : PE6.orc 39 [.agg (.flat .u8 M1)] = some (ret1 (.agg (.flat .u8 EA)))) (f6 : PE6.orc 49 [.agg (.flat .u8 r), .agg (.flat .u8 B)] = some (ret1 (.agg (.flat .u8 M2)))) (f7 : PE6.orc 39 [.agg (.flat .u8 M2)] = some (ret1 (.agg (.flat .u8 EF))))
    (f8 : ∀ c c1 c2, PE6.orc 54 [.im 1 3 c (.gen [.im 1 32 c1 (.flat .u8 EF), .im 1 32 c2 (.flat .u8 EA), .im 1 m cm (.flat .u8 g)])] = some (ret1 (.agg (.flat .u8 K)))) (f9 : PE6.orc 55 [.agg (.flat .u8 K), .agg (.flat .u8 S), .agg (.flat .u8 r)] = some (ret1 (.agg (.flat .u8 T))))
    (f0 : ∀ c c1 c2, PE6.orc 56 [.im 1 2 c (.gen [.im 1 32 c1 (.flat .u8 EF), .im 1 32 c2 (.flat .u8 T)])] = some (LRes.one (.own 1 64 5 (.flat .u8 V)))) :
    execF PE6 Tryz.f26 [.im 1 32 c (.flat .u8 s), .im 1 m cm (.flat .u8 g)] (.many [.own 1 64 5 (.flat .u8 V), .val (iv .i64 0)]) := by
  have zS : layOne (.flat .u8 (List.replicate 32 0)) 0 (.flat .u8 S) = some (.flat .u8 S) := lay_all (by rw [List.length_replicate, lS]) (by omega)
  have nS : (Cont.flat .u8 S).len = 32 := lS
  have cS : (Cont.flat .u8 S).cut 0 32 = some (.flat .u8 S) := cut_all lS
  have dS : (Cont.flat .u8 S).cut 0 (32 * 1) = some (.flat .u8 S) := cut_all lS
  have zA : layOne (.flat .u8 (List.replicate 32 0)) 0 (.flat .u8 EA) = some (.flat .u8 EA) := lay_all (by rw [List.length_replicate, lA]) (by omega)
  have nA : (Cont.flat .u8 EA).len = 32 := lA
  have cA : (Cont.flat .u8 EA).cut 0 32 = some (.flat .u8 EA) := cut_all lA
  have dA : (Cont.flat .u8 EA).cut 0 (32 * 1) = some (.flat .u8 EA) := cut_all lA
  have zF : layOne (.flat .u8 (List.replicate 32 0)) 0 (.flat .u8 EF) = some (.flat .u8 EF) := lay_all (by rw [List.length_replicate, lF]) (by omega)
  have nF : (Cont.flat .u8 EF).len = 32 := lF
  have cF : (Cont.flat .u8 EF).cut 0 32 = some (.flat .u8 EF) := cut_all lF
  have dF : (Cont.flat .u8 EF).cut 0 (32 * 1) = some (.flat .u8 EF) := cut_all lF
  have zr : layOne (.flat .u8 (List.replicate 32 0)) 0 (.flat .u8 r) = some (.flat .u8 r) := lay_all (by rw [List.length_replicate, lr]) (by omega)
  have nr : (Cont.flat .u8 r).len = 32 := lr
  have cr : (Cont.flat .u8 r).cut 0 32 = some (.flat .u8 r) := cut_all lr
  have dr : (Cont.flat .u8 r).cut 0 (32 * 1) = some (.flat .u8 r) := cut_all lr
  have zT : layOne (.flat .u8 (List.replicate 32 0)) 0 (.flat .u8 T) = some (.flat .u8 T) := lay_all (by rw [List.length_replicate, lT]) (by omega)
  have nT : (Cont.flat .u8 T).len = 32 := lT
  have cT : (Cont.flat .u8 T).cut 0 32 = some (.flat .u8 T) := cut_all lT
  have dT : (Cont.flat .u8 T).cut 0 (32 * 1) = some (.flat .u8 T) := cut_all lT
  have dV : (Cont.flat .u8 V).cut 0 (64 * 1) = some (.flat .u8 V) := cut_all lV
  have tV : V.take (64 * 1) = V := List.take_of_length_le (by omega)
  ((conv => whnf); repeat ((first | refine ⟨_, dV, ?_⟩ | refine ⟨_, expo_sl rfl dV, ?_⟩ | refine ⟨_, expo_g rfl rfl (om3 (expo_sl rfl dF) (expo_sl rfl dA) rfl), ?_⟩ | refine ⟨_, expo_g rfl rfl (om2 (expo_sl rfl dF) (expo_sl rfl dT)), ?_⟩ | refine ⟨_, cS, ?_⟩ | refine ⟨_, zS, ?_⟩ | refine ⟨_, dS, ?_⟩ | refine ⟨_, cA, ?_⟩ | refine ⟨_, zA, ?_⟩ | refine ⟨_, dA, ?_⟩ | refine ⟨_, cF, ?_⟩ | refine ⟨_, zF, ?_⟩ | refine ⟨_, dF, ?_⟩ | refine ⟨_, cr, ?_⟩ | refine ⟨_, zr, ?_⟩ | refine ⟨_, dr, ?_⟩ | refine ⟨_, cT, ?_⟩ | refine ⟨_, cK, ?_⟩ | refine ⟨_, zK, ?_⟩ | refine ⟨nK, ?_⟩ | refine ⟨_, zT, ?_⟩ | refine ⟨_, dT, ?_⟩ | refine ⟨_, expo_sl rfl dS, ?_⟩ | refine ⟨_, expo_sl rfl dA, ?_⟩ | refine ⟨_, expo_sl rfl dF, ?_⟩ | refine ⟨_, expo_sl rfl dr, ?_⟩ | refine ⟨_, expo_sl rfl dT, ?_⟩ | refine ⟨nS, ?_⟩ | refine ⟨nA, ?_⟩ | refine ⟨nF, ?_⟩ | refine ⟨nr, ?_⟩ | refine ⟨nT, ?_⟩ | ((with_reducible refine isN_PE6 50 ?_); first | refine ⟨_, f1 _, ?_⟩) | ((with_reducible refine isN_PE6 54 ?_); first | refine ⟨_, f2 _ _, ?_⟩ | refine ⟨_, f8 _ _ _, ?_⟩) | ((with_reducible refine isN_PE6 51 ?_); first | refine ⟨_, f3, ?_⟩) | ((with_reducible refine isN_PE6 49 ?_); first | refine ⟨_, f4, ?_⟩ | refine ⟨_, f6, ?_⟩) | ((with_reducible refine isN_PE6 39 ?_); first | refine ⟨_, f5, ?_⟩ | refine ⟨_, f7, ?_⟩) | ((with_reducible refine isN_PE6 55 ?_); first | refine ⟨_, f9, ?_⟩) | ((with_reducible refine isN_PE6 56 ?_); first | refine ⟨_, f0 _ _ _, ?_⟩) | refine ⟨_, rfl, ?_⟩ | refine ⟨by decide, ?_⟩ | refine ⟨rfl, ?_⟩ | refine ⟨fun _ => ?_, fun h => absurd h (by decide)⟩ | refine ⟨fun h => absurd h (by decide), fun _ => ?_⟩ | refine ⟨inI_of (by omega), ?_⟩ | refine ⟨⟨rfl, inI_of (by omega)⟩, ?_⟩ | refine ⟨⟨rfl, by decide⟩, ?_⟩ | (apply Exists.intro; refine ⟨?_, ?_⟩; ((try simp only); (try simp only [Nat.zero_add]); (try simp only [Nat.mul_one]); (try simp only [Int.toNat_natCast]); first | exact at_g (by omega) | exact put_flat (by omega))) | refine ⟨_, cut_all (by omega), ?_⟩ | refine ⟨_, lay_all (by omega) (by omega), ?_⟩ | refine ⟨_, lay_all (by (try simp only); (try simp only [List.length_replicate]); (try simp only [List.length_cons]); (try simp only [List.length_nil]); omega) (by omega), ?_⟩ | refine ⟨by omega, ?_⟩ | refine ⟨len_flat (by omega), ?_⟩ | refine ⟨apart_uv _ _ _, ?_⟩ | refine ⟨_, resSlot_own rfl (by omega) (by first | exact .inl rfl | exact .inr ⟨rfl, rfl⟩), ?_⟩ | refine ⟨(by kernel_rfl : regB _ = true), ?_⟩ | refine ⟨⟨rfl, inI_of (by omega), by decide⟩, ?_⟩ | (apply Exists.intro; refine ⟨?_, ?_⟩; ((try simp only); (try simp only [Nat.zero_add]); (try simp only [Nat.mul_one]); (try simp only [Int.toNat_natCast]); first | exact at_drop_g (by omega) | exact cut_rest (by omega)))); conv => whnf))
  rw [tV]
  rfl
def signR (n : Nat) (s g : List Int) : LRes := if n = 32 then .many [.own 1 64 5 (.flat .u8 (sigL s g)), .val (iv .i64 0)] else .many [.val nilV, .val (iv .i64 1)]
set_option maxRecDepth 100000 in
set_option maxHeartbeats 8000000 in
theorem Sign_call {n m : Nat} {c cm : Option Nat} {s g : List Int} (hs : s.length = n) (hb : By s) (hg : g.length = m) (hgb : By g) (hm : m ≤ 100000) : CallOk Tryz.prog 26 [.im 1 n c (.flat .u8 s), .im 1 m cm (.flat .u8 g)] (signR n s g) := by
  unfold signR
  by_cases h : n = 32
  · subst h
    rw [if_pos rfl]
    have f5 := p6_enc (pmulN_lt (secN s) (rdP baseN) 256)
    have f7 := p6_enc (pmulN_lt (rNum s g) (rdP baseN) 256)
    rw [pmulB (secN_lt s)] at f5
    rw [pmulB (show rNum s g < 2 ^ 256 from modq_lt _)] at f7
    have f8 := fun (c c1 c2 : Option Nat) => p6_hash3 (c := c) (c1 := c1) (c2 := c2) (c3 := cm) (fstL_len s g) (pubL_len s) hg (byk_by _ _) (byk_by _ _) hgb (by decide) (by decide) hm
    exact execF_ok follows_ok PE6_ok Tryz.func26 (Sign_gen m c cm s g _ _ _ _ _ _ _ _ _ _ _ (byk_len _ _) (byk_len _ _) (byk_len _ _) (byk_len _ _) (byk_len _ _) (sigL_len s g) (fun _ => p6_secret hs hb (by decide)) (fun _ _ => p6_hash2 (secP_len s) hg (secP_by s) hgb (by decide) hm)
      p6_base (p6_mul (secN_lt s) (rdP_lt _)) f5 (p6_mul (modq_lt _) (rdP_lt _)) f7 f8 (p6_MulAdd (modq_lt _) (secN_lt s) (modq_lt _)) (fun c c1 c2 => p6_Cat2 32 32 c c1 c2 (fstL s g) (sndL s g) (fstL_len s g) (sndL_len s g) (by decide) (by decide)))
  · rw [if_neg h]
    have q : (!((n : Int) == 32)) = true := by
      rw [Bool.not_eq_true', beq_eq_false_iff_ne]
      omega
    refine execF_ok follows_ok PE6_ok Tryz.func26 ?_
    ((conv => whnf); repeat ((first | refine ⟨fun _ => ?_, fun h => absurd ((q).symm.trans h) (by decide)⟩ | refine ⟨fun h => absurd ((q).symm.trans h) (by decide), fun _ => ?_⟩ | refine ⟨_, rfl, ?_⟩ | refine ⟨by decide, ?_⟩ | refine ⟨rfl, ?_⟩ | refine ⟨fun _ => ?_, fun h => absurd h (by decide)⟩ | refine ⟨fun h => absurd h (by decide), fun _ => ?_⟩ | refine ⟨inI_of (by omega), ?_⟩ | refine ⟨⟨rfl, inI_of (by omega)⟩, ?_⟩ | refine ⟨⟨rfl, by decide⟩, ?_⟩ | (apply Exists.intro; refine ⟨?_, ?_⟩; ((try simp only); (try simp only [Nat.zero_add]); (try simp only [Nat.mul_one]); (try simp only [Int.toNat_natCast]); first | exact at_g (by omega) | exact put_flat (by omega))) | refine ⟨_, cut_all (by omega), ?_⟩ | refine ⟨_, lay_all (by omega) (by omega), ?_⟩ | refine ⟨_, lay_all (by (try simp only); (try simp only [List.length_replicate]); (try simp only [List.length_cons]); (try simp only [List.length_nil]); omega) (by omega), ?_⟩ | refine ⟨by omega, ?_⟩ | refine ⟨len_flat (by omega), ?_⟩ | refine ⟨apart_uv _ _ _, ?_⟩ | refine ⟨_, resSlot_own rfl (by omega) (by first | exact .inl rfl | exact .inr ⟨rfl, rfl⟩), ?_⟩ | refine ⟨(by kernel_rfl : regB _ = true), ?_⟩ | refine ⟨⟨rfl, inI_of (by omega), by decide⟩, ?_⟩ | (apply Exists.intro; refine ⟨?_, ?_⟩; ((try simp only); (try simp only [Nat.zero_add]); (try simp only [Nat.mul_one]); (try simp only [Int.toNat_natCast]); first | exact at_drop_g (by omega) | exact cut_rest (by omega)))); conv => whnf))
    rfl
end Go.Proofs.YtdeigmjbcbjgeaaGreatDoor
/-
  Layer 10: EdwardsEquation.
-/
namespace Go.Proofs.YtdeigmjbcbjgeaaGreatDoor
open Go.RowKit

theorem mul_q (n : Nat) : Pt.mul (n % qQ) Bp = Pt.mul n Bp := by
  have h := Nat.div_add_mod n qQ
  have hq : Pt.mul qQ Bp = .zero := q_zero
  conv => rhs; rw [← h, Pt.mul_add, Nat.mul_comm, Pt.mul_mul, hq, Pt.mul_zero, Pt.zero_add]
/-- S B = R + k A. -/
theorem equation (s r k : Nat) : Pt.mul ((k * s + r) % qQ) Bp = (Pt.mul r Bp).add (Pt.mul k (Pt.mul s Bp)) := by
  rw [mul_q, Pt.mul_add, Pt.mul_mul, Pt.add_comm]
theorem short_row (n : Nat) (c : Option Nat) (x : Cont) : CallOk Tryz.prog 21 [.im 1 n c x] (ret1 (.v (.bool (decide ((n : Int) ≤ 600))))) := execF_ok follows_ok EM_ok Tryz.func21 (short_exec n c x)
theorem eAddZ_row {a b : List Int} (hc : isF a = true ∧ isF b = true) : CallOk Tryz.prog 10 [.agg (.flat .u8 a), .agg (.flat .u8 b)] (paddR (nb a) (nb b)) := by
  have h := eAddX_call (nb a) (nb b) (nb32_lt hc.1) (nb32_lt hc.2)
  rwa [F, F, ← isF_eq hc.1, ← isF_eq hc.2] at h
theorem eMulZ_row {a b : List Int} (hc : isF a = true ∧ isF b = true) : CallOk Tryz.prog 19 [.agg (.flat .u8 a), .agg (.flat .u8 b)] (pmulR (nb a) (nb b)) := by
  have h := eMulX_call (nb a) (nb b) (nb32_lt hc.1) (nb32_lt hc.2)
  rwa [F, F, ← isF_eq hc.1, ← isF_eq hc.2] at h
theorem rShaQ_call {n : Nat} {c : Option Nat} {l : List Int} (hn : l.length = n) (hb : byteOk l = true) (hl : n ≤ 1000000000) : CallOk Tryz.prog 32 [.im 1 n c (.flat .u8 l)] (.one (.own 1 64 5 (.flat .u8 (sha512 l)))) := by
  have h := bytesFn_call rSum512_fn (Nat.le_refl _) n c l hn (byteAll hb) hl
  rwa [sh_len] at h
def orcLQ (f : Nat) (ds : List LV) : Option LRes :=
  match f with
  | 22 => match ds with
    | [.v (.int .i64 k)] => some (LRes.one (.own 1 32 5 (.flat .u8 (sdP k))))
    | _ => none
  | 21 => match ds with
    | [.im 1 n _ _] => some (ret1 (.v (.bool (decide ((n : Int) ≤ 600)))))
    | _ => none
  | 12 => match ds with
    | [] => some (ret1 (F baseN))
    | _ => none
  | 10 => match ds with
    | [.agg (.flat .u8 a), .agg (.flat .u8 b)] => if isF a = true ∧ isF b = true then some (paddR (nb a) (nb b)) else none
    | _ => none
  | 19 => match ds with
    | [.agg (.flat .u8 a), .agg (.flat .u8 b)] => if isF a = true ∧ isF b = true then some (pmulR (nb a) (nb b)) else none
    | _ => none
  | 24 => match ds with
    | [.im 1 n _ (.flat .u8 s)] => if s.length = n ∧ byteOk s = true then some (ePubR n s) else none
    | _ => none
  | 26 => match ds with
    | [.im 1 n _ (.flat .u8 s), .im 1 m _ (.flat .u8 g)] => if (s.length = n ∧ byteOk s = true) ∧ g.length = m ∧ byteOk g = true ∧ m ≤ 100000 then some (signR n s g) else none
    | _ => none
  | 32 => match ds with
    | [.im 1 n _ (.flat .u8 l)] => if l.length = n ∧ byteOk l = true ∧ n ≤ 1000000000 then some (LRes.one (.own 1 64 5 (.flat .u8 (sha512 l)))) else none
    | _ => none
  | 31 => match ds with
    | [.im 1 n _ (.flat .u8 b)] => if b.length = n ∧ byteOk b = true then some (wideR n b) else none
    | _ => none
  | 18 => match ds with
    | [] => some (ret1 (.v (.bool true)))
    | _ => none
  | _ => none
theorem orcLQ_ok : Known Tryz.prog orcLQ := by
  intro f ds r h
  unfold orcLQ at h
  split at h
  · split at h
    · cases h
      exact .inl ⟨⟨_, Tryz.func22, name_ne _ (by kernel_rfl), rfl⟩, seed_call _⟩
    · cases h
  · split at h
    · cases h
      exact .inl ⟨⟨_, Tryz.func21, name_ne _ (by kernel_rfl), rfl⟩, short_row _ _ _⟩
    · cases h
  · split at h
    · cases h
      exact .inl ⟨⟨_, Tryz.func12, name_ne _ (by kernel_rfl), rfl⟩, eBase_call⟩
    · cases h
  · split at h
    · split at h
      · rename_i hc
        cases h
        exact .inl ⟨⟨_, Tryz.func10, name_ne _ (by kernel_rfl), rfl⟩, eAddZ_row hc⟩
      · cases h
    · cases h
  · split at h
    · split at h
      · rename_i hc
        cases h
        exact .inl ⟨⟨_, Tryz.func19, name_ne _ (by kernel_rfl), rfl⟩, eMulZ_row hc⟩
      · cases h
    · cases h
  · split at h
    · split at h
      · rename_i hc
        cases h
        exact .inl ⟨⟨_, Tryz.func24, name_ne _ (by kernel_rfl), rfl⟩, Public_call hc.1 (byteAll hc.2)⟩
      · cases h
    · cases h
  · split at h
    · split at h
      · rename_i hc
        cases h
        exact .inl ⟨⟨_, Tryz.func26, name_ne _ (by kernel_rfl), rfl⟩, Sign_call hc.1.1 (byteAll hc.1.2) hc.2.1 (byteAll hc.2.2.1) hc.2.2.2⟩
      · cases h
    · cases h
  · split at h
    · split at h
      · rename_i hc
        cases h
        exact .inl ⟨⟨_, Tryz.func32, name_ne _ (by kernel_rfl), rfl⟩, rShaQ_call hc.1 hc.2.1 hc.2.2⟩
      · cases h
    · cases h
  · split at h
    · split at h
      · rename_i hc
        cases h
        exact .inl ⟨⟨_, Tryz.func31, name_ne _ (by kernel_rfl), rfl⟩, pWide_call _ _ _ hc.1 (byteAll hc.2)⟩
      · cases h
    · cases h
  · split at h
    · cases h
      exact .inl ⟨⟨_, Tryz.func18, name_ne _ (by kernel_rfl), rfl⟩, awake10_call⟩
    · cases h
  · cases h
def LPQ : Env := ⟨tyL, orcLQ, false, noWk, noOrw⟩
theorem LPQ_ok : EnvOk Tryz.prog LPQ := ⟨tyL_ok, orcLQ_ok, noOrw_ok⟩
theorem isN_LPQ (f : Nat) {ds : List LV} {K : LRes → Prop} (h : ∃ y, LPQ.orc f ds = some y ∧ K y) : ∃ y, LPQ.orc f ds = some y ∧ K y := h
theorem lq_awake : LPQ.orc 18 [] = some (ret1 (.v (.bool true))) := rfl
theorem lq_Base : LPQ.orc 12 [] = some (ret1 (F baseN)) := rfl
theorem lq_Seed (k : Int) : LPQ.orc 22 [iv .i64 k] = some (.one (.own 1 32 5 (.flat .u8 (sdP k)))) := rfl
theorem lq_Short {n : Nat} {c : Option Nat} {x : Cont} {b : Bool} (h : decide ((n : Int) ≤ 600) = b) : LPQ.orc 21 [.im 1 n c x] = some (ret1 (.v (.bool b))) := by
  rw [← h]
  rfl
theorem lq_Public {n : Nat} {c : Option Nat} {s : List Int} (h : s.length = n) (hb : By s) : LPQ.orc 24 [.im 1 n c (.flat .u8 s)] = some (ePubR n s) := if_pos ⟨h, hb.ok⟩
theorem lq_Sign {n m : Nat} {c d : Option Nat} {s g : List Int} (h : s.length = n) (hb : By s) (hg : g.length = m) (hgb : By g) (hm : m ≤ 100000) : LPQ.orc 26 [.im 1 n c (.flat .u8 s), .im 1 m d (.flat .u8 g)] = some (signR n s g) := if_pos ⟨⟨h, hb.ok⟩, hg, hgb.ok, hm⟩
theorem lq_Sha {n : Nat} {c : Option Nat} {l : List Int} (hn : l.length = n) (hb : By l) (hl : n ≤ 1000000000) : LPQ.orc 32 [.im 1 n c (.flat .u8 l)] = some (.one (.own 1 64 5 (.flat .u8 (sha512 l)))) := if_pos ⟨hn, hb.ok, hl⟩
theorem lq_Wide {n : Nat} {c : Option Nat} {b : List Int} (h : b.length = n) (hb : By b) (hn : n ≤ 64) : LPQ.orc 31 [.im 1 n c (.flat .u8 b)] = some (.many [.val (F (nb b % qQ)), .val (iv .i64 0)]) := (if_pos ⟨h, hb.ok⟩).trans (by rw [wideR, if_neg (by omega)])
set_option maxRecDepth 100000 in
theorem lq_Mult {a b : Nat} (ha : a < 2 ^ 256) (hb : b < 2 ^ 256) : LPQ.orc 19 [F a, F b] = some (pmulR a b) := (if_pos ⟨isF_by _, isF_by _⟩).trans (by rw [nb_by32 ha, nb_by32 hb])
set_option maxRecDepth 100000 in
theorem lq_Add {a b : Nat} (ha : a < 2 ^ 256) (hb : b < 2 ^ 256) : LPQ.orc 10 [F a, F b] = some (paddR a b) := (if_pos ⟨isF_by _, isF_by _⟩).trans (by rw [nb_by32 ha, nb_by32 hb])
theorem eql_LQ {a b : List Int} {q : Bool} {K : LV × List (Nat × Blk) → Prop} (ha : a.length = 32) (hb : b.length = 32) (hq : (a == b) = q) (h : K (.v (.bool q), [])) : runs (opBin LPQ .eql 23 (.agg (.flat .u8 a)) (.agg (.flat .u8 b))) K := by
  have e : opBin LPQ .eql 23 (.agg (.flat .u8 a)) (.agg (.flat .u8 b)) = some (.v (.bool (a == b)), []) := if_pos ⟨rfl, ha, hb⟩
  rw [e, hq]
  exact h
theorem leq_self (l : List Int) : (l == l) = true := by simp
theorem ieq_self (l : Int) : (l == l) = true := by simp
theorem beq_self10 (l : Bool) : (l == l) = true := by simp
theorem pubL_by (s : List Int) : By (pubL s) := byk_by _ _
theorem fstL_by (s g : List Int) : By (fstL s g) := byk_by _ _
theorem encP_lt10 (P : Pt) : encP P < 2 ^ 256 := encP_lt P
theorem addR_enc (P Q : Pt) : paddR (encP P) (encP Q) = .many [.val (F (encP (P.add Q))), .val (iv .i64 0)] := by
  rw [paddR, rd_of, rd_of, Bool.and_self, if_pos rfl, wr_enc (For_padd (rd_For P) (rd_For Q))]
theorem mulR_enc {k : Nat} (hk : k < 2 ^ 256) (P : Pt) : pmulR k (encP P) = .many [.val (F (encP (Pt.mul k P))), .val (iv .i64 0)] := by
  rw [pmulR, rd_of, if_pos rfl, wr_enc (For_pmul hk (rd_For P))]
set_option maxRecDepth 100000 in
set_option maxHeartbeats 8000000 in
theorem equation_gen (n : Int) (m : Nat) (g S A F1 T V h K KA L B : List Int) (hm : m ≤ 600) (lg : g.length = m) (lS : S.length = 32) (lA : A.length = 32) (lF : F1.length = 32) (lT : T.length = 32) (lV : V.length = 64) (hVF : V.take 32 = F1) (hVT : V.drop 32 = T) (lh : h.length = 64) (lK : K.length = 32) (lKA : KA.length = 32) (lL : L.length = 32)
    (f0 : LPQ.orc 21 [.im 1 m none (.flat .u8 g)] = some (ret1 (.v (.bool true)))) (fs : LPQ.orc 22 [iv .i64 n] = some (.one (.own 1 32 5 (.flat .u8 S)))) (f1 : ∀ c, LPQ.orc 24 [.im 1 32 c (.flat .u8 S)] = some (.many [.own 1 32 23 (.flat .u8 A), .val (iv .i64 0)]))
    (f3 : ∀ c, LPQ.orc 26 [.im 1 32 c (.flat .u8 S), .im 1 m none (.flat .u8 g)] = some (.many [.own 1 64 5 (.flat .u8 V), .val (iv .i64 0)])) (f4 : ∀ c, LPQ.orc 32 [.im 1 (32 + 32 + m) c (.flat .u8 (F1 ++ A ++ g))] = some (.one (.own 1 64 5 (.flat .u8 h))))
    (f5 : ∀ c, LPQ.orc 31 [.im 1 64 c (.flat .u8 h)] = some (.many [.val (.agg (.flat .u8 K)), .val (iv .i64 0)])) (fb : LPQ.orc 12 [] = some (ret1 (.agg (.flat .u8 B)))) (f6 : LPQ.orc 19 [.agg (.flat .u8 T), .agg (.flat .u8 B)] = some (.many [.val (.agg (.flat .u8 L)), .val (iv .i64 0)])) (f7 : LPQ.orc 19 [.agg (.flat .u8 K), .agg (.flat .u8 A)] = some (.many [.val (.agg (.flat .u8 KA)), .val (iv .i64 0)])) (f8 : LPQ.orc 10 [.agg (.flat .u8 F1), .agg (.flat .u8 KA)] = some (.many [.val (.agg (.flat .u8 L)), .val (iv .i64 0)])) :
    execF LPQ Tryz.f8 [iv .i64 n, .im 1 m none (.flat .u8 g)] (ret1 (.v (.bool true))) := by
  have dS : (Cont.flat .u8 S).cut 0 (32 * 1) = some (.flat .u8 S) := cut_all lS
  have dA : (Cont.flat .u8 A).cut 0 (32 * 1) = some (.flat .u8 A) := cut_all lA
  have cA : (Cont.flat .u8 A).cut 0 32 = some (.flat .u8 A) := cut_all lA
  have dF : (Cont.flat .u8 V).cut 0 (32 * 1) = some (.flat .u8 F1) := by rw [← hVF]; exact cut_take (by omega)
  have dF2 : (Cont.flat .u8 V).cut 0 32 = some (.flat .u8 F1) := dF
  have dT : (Cont.flat .u8 V).cut 32 32 = some (.flat .u8 T) := by rw [cut_flat (by omega), hVT, List.take_of_length_le (by omega)]
  have dT2 : (Cont.flat .u8 V).cut (32 * 1) (32 * 1) = some (.flat .u8 T) := dT
  have lFA : (F1 ++ A).length = 32 + 32 := by rw [List.length_append, lF, lA]
  have lFg : (F1 ++ A ++ g).length = 32 + 32 + m := by rw [List.length_append, lFA, lg]
  have dg : (Cont.flat .u8 (F1 ++ A ++ g)).cut 0 ((32 + 32 + m) * 1) = some (.flat .u8 (F1 ++ A ++ g)) := cut_all (by omega)
  have dh : (Cont.flat .u8 h).cut 0 (64 * 1) = some (.flat .u8 h) := cut_all (by omega)
  have cF : (Cont.flat .u8 F1).cut 0 32 = some (.flat .u8 F1) := cut_all lF
  have cT : (Cont.flat .u8 T).cut 0 32 = some (.flat .u8 T) := cut_all lT
  have zK : layOne (.flat .u8 (List.replicate 32 0)) 0 (.flat .u8 K) = some (.flat .u8 K) := lay_all (by rw [List.length_replicate, lK]) (by omega)
  have nK : (Cont.flat .u8 K).len = 32 := lK
  have cK : (Cont.flat .u8 K).cut 0 32 = some (.flat .u8 K) := cut_all lK
  have zKA : layOne (.flat .u8 (List.replicate 32 0)) 0 (.flat .u8 KA) = some (.flat .u8 KA) := lay_all (by rw [List.length_replicate, lKA]) (by omega)
  have nKA : (Cont.flat .u8 KA).len = 32 := lKA
  have cKA : (Cont.flat .u8 KA).cut 0 32 = some (.flat .u8 KA) := cut_all lKA
  have zL : layOne (.flat .u8 (List.replicate 32 0)) 0 (.flat .u8 L) = some (.flat .u8 L) := lay_all (by rw [List.length_replicate, lL]) (by omega)
  have nL : (Cont.flat .u8 L).len = 32 := lL
  have cL : (Cont.flat .u8 L).cut 0 32 = some (.flat .u8 L) := cut_all lL
  ((conv => whnf); repeat ((first | refine ⟨_, dS, ?_⟩ | refine ⟨_, dA, ?_⟩ | refine ⟨_, dF, ?_⟩ | refine ⟨_, dT, ?_⟩ | refine ⟨_, dF2, ?_⟩ | refine ⟨_, dT2, ?_⟩ | refine ⟨_, dg, ?_⟩ | refine ⟨_, dh, ?_⟩ | refine ⟨_, cA, ?_⟩ | refine ⟨_, cF, ?_⟩ | refine ⟨_, cT, ?_⟩ | refine ⟨_, cK, ?_⟩ | refine ⟨_, cKA, ?_⟩ | refine ⟨_, cL, ?_⟩ | refine ⟨_, zK, ?_⟩ | refine ⟨_, zKA, ?_⟩ | refine ⟨_, zL, ?_⟩ | refine ⟨_, expo_sl rfl dS, ?_⟩ | refine ⟨_, expo_sl rfl dA, ?_⟩ | refine ⟨_, expo_sl rfl dg, ?_⟩ | refine ⟨_, expo_sl rfl dh, ?_⟩ | refine ⟨_, expo_sl rfl dF, ?_⟩ | refine ⟨nK, ?_⟩ | refine ⟨nKA, ?_⟩ | refine ⟨nL, ?_⟩ | refine ⟨_, append_nil (cnt := 32) rfl rfl (shown_sl rfl dF) rfl rfl rfl (by decide) (by decide), ?_⟩ | refine ⟨_, append_grow (cnt := 32) rfl rfl (shown_sl rfl dA) rfl rfl lF rfl (by omega) (by omega), ?_⟩ | refine ⟨_, append_grow (cnt := m) rfl rfl ((rfl : shown _ 1 (.im 1 m none (.flat .u8 g)) = some (.flat .u8 g, m))) rfl rfl lFA rfl (by omega) (by omega), ?_⟩ | refine eql_LQ lL lL (leq_self _) ?_ | refine ⟨fun _ => ?_, fun h => absurd ((ieq_self _).symm.trans h) (by decide)⟩ | refine ⟨fun h => absurd ((ieq_self _).symm.trans h) (by decide), fun _ => ?_⟩ | refine ⟨fun _ => ?_, fun h => absurd ((beq_self10 _).symm.trans h) (by decide)⟩ | refine ⟨fun h => absurd ((beq_self10 _).symm.trans h) (by decide), fun _ => ?_⟩ | refine ⟨fun _ => ?_, fun h => absurd ((leq_self _).symm.trans h) (by decide)⟩ | refine ⟨fun h => absurd ((leq_self _).symm.trans h) (by decide), fun _ => ?_⟩ | ((with_reducible refine isN_LPQ 21 ?_); first | refine ⟨_, f0, ?_⟩) | ((with_reducible refine isN_LPQ 22 ?_); first | refine ⟨_, fs, ?_⟩) | ((with_reducible refine isN_LPQ 24 ?_); first | refine ⟨_, f1 _, ?_⟩) | ((with_reducible refine isN_LPQ 26 ?_); first | refine ⟨_, f3 _, ?_⟩) | ((with_reducible refine isN_LPQ 32 ?_); first | refine ⟨_, f4 _, ?_⟩) | ((with_reducible refine isN_LPQ 31 ?_); first | refine ⟨_, f5 _, ?_⟩) | ((with_reducible refine isN_LPQ 12 ?_); first | refine ⟨_, fb, ?_⟩) | ((with_reducible refine isN_LPQ 19 ?_); first | refine ⟨_, f6, ?_⟩ | refine ⟨_, f7, ?_⟩) | ((with_reducible refine isN_LPQ 10 ?_); first | refine ⟨_, f8, ?_⟩) | ((with_reducible refine isN_LPQ 18 ?_); first | refine ⟨_, lq_awake, ?_⟩) | refine ⟨_, rfl, ?_⟩ | refine ⟨by decide, ?_⟩ | refine ⟨rfl, ?_⟩ | refine ⟨fun _ => ?_, fun h => absurd h (by decide)⟩ | refine ⟨fun h => absurd h (by decide), fun _ => ?_⟩ | refine ⟨inI_of (by omega), ?_⟩ | refine ⟨⟨rfl, inI_of (by omega)⟩, ?_⟩ | refine ⟨⟨rfl, by decide⟩, ?_⟩ | (apply Exists.intro; refine ⟨?_, ?_⟩; ((try simp only); (try simp only [Nat.zero_add]); (try simp only [Nat.mul_one]); (try simp only [Int.toNat_natCast]); first | exact at_g (by omega) | exact put_flat (by omega))) | refine ⟨_, cut_all (by omega), ?_⟩ | refine ⟨_, lay_all (by omega) (by omega), ?_⟩ | refine ⟨_, lay_all (by (try simp only); (try simp only [List.length_replicate]); (try simp only [List.length_cons]); (try simp only [List.length_nil]); omega) (by omega), ?_⟩ | refine ⟨by omega, ?_⟩ | refine ⟨len_flat (by omega), ?_⟩ | refine ⟨apart_uv _ _ _, ?_⟩ | refine ⟨_, resSlot_own rfl (by omega) (by first | exact .inl rfl | exact .inr ⟨rfl, rfl⟩), ?_⟩ | refine ⟨(by kernel_rfl : regB _ = true), ?_⟩ | refine ⟨⟨rfl, inI_of (by omega), by decide⟩, ?_⟩ | (apply Exists.intro; refine ⟨?_, ?_⟩; ((try simp only); (try simp only [Nat.zero_add]); (try simp only [Nat.mul_one]); (try simp only [Int.toNat_natCast]); first | exact at_drop_g (by omega) | exact cut_rest (by omega)))); conv => whnf))
  rfl
set_option maxRecDepth 100000 in
set_option maxHeartbeats 8000000 in
theorem equation_long (n : Int) (m : Nat) (g : List Int) (f0 : LPQ.orc 21 [.im 1 m none (.flat .u8 g)] = some (ret1 (.v (.bool false)))) : execF LPQ Tryz.f8 [iv .i64 n, .im 1 m none (.flat .u8 g)] (ret1 (.v (.bool true))) := by
  ((conv => whnf); repeat ((first | ((with_reducible refine isN_LPQ 21 ?_); first | refine ⟨_, f0, ?_⟩) | ((with_reducible refine isN_LPQ 18 ?_); first | refine ⟨_, lq_awake, ?_⟩) | refine ⟨_, rfl, ?_⟩ | refine ⟨by decide, ?_⟩ | refine ⟨rfl, ?_⟩ | refine ⟨fun _ => ?_, fun h => absurd h (by decide)⟩ | refine ⟨fun h => absurd h (by decide), fun _ => ?_⟩ | refine ⟨inI_of (by omega), ?_⟩ | refine ⟨⟨rfl, inI_of (by omega)⟩, ?_⟩ | refine ⟨⟨rfl, by decide⟩, ?_⟩ | (apply Exists.intro; refine ⟨?_, ?_⟩; ((try simp only); (try simp only [Nat.zero_add]); (try simp only [Nat.mul_one]); (try simp only [Int.toNat_natCast]); first | exact at_g (by omega) | exact put_flat (by omega))) | refine ⟨_, cut_all (by omega), ?_⟩ | refine ⟨_, lay_all (by omega) (by omega), ?_⟩ | refine ⟨_, lay_all (by (try simp only); (try simp only [List.length_replicate]); (try simp only [List.length_cons]); (try simp only [List.length_nil]); omega) (by omega), ?_⟩ | refine ⟨by omega, ?_⟩ | refine ⟨len_flat (by omega), ?_⟩ | refine ⟨apart_uv _ _ _, ?_⟩ | refine ⟨_, resSlot_own rfl (by omega) (by first | exact .inl rfl | exact .inr ⟨rfl, rfl⟩), ?_⟩ | refine ⟨(by kernel_rfl : regB _ = true), ?_⟩ | refine ⟨⟨rfl, inI_of (by omega), by decide⟩, ?_⟩ | (apply Exists.intro; refine ⟨?_, ?_⟩; ((try simp only); (try simp only [Nat.zero_add]); (try simp only [Nat.mul_one]); (try simp only [Int.toNat_natCast]); first | exact at_drop_g (by omega) | exact cut_rest (by omega)))); conv => whnf))
  rfl
theorem equation_exec (n : Int) (g : List Int) (hg : By g) : execF LPQ Tryz.f8 [iv .i64 n, .im 1 g.length none (.flat .u8 g)] (ret1 (.v (.bool true))) := by
  by_cases hm : (g.length : Int) ≤ 600
  · have f0 := lq_Short (c := none) (x := .flat .u8 g) (decide_eq_true hm)
    have hm' : g.length ≤ 100000 := by omega
    have ls := sdP_len n
    have bs := sdP_by n
    have fs := lq_Seed n
    have f1 := fun (c : Option Nat) => lq_Public (c := c) ls bs
    have f3 := fun (c : Option Nat) => lq_Sign (c := c) (d := none) (g := g) ls bs rfl hg hm'
    generalize sdP n = s at *
    have l2 : (fstL s g ++ pubL s ++ g).length = 32 + 32 + g.length := by rw [List.length_append, List.length_append, fstL_len, pubL_len]
    have f4 := fun (c : Option Nat) => lq_Sha (c := c) l2 (((fstL_by s g).append (pubL_by s)).append hg) (by omega)
    have f5 := fun (c : Option Nat) => lq_Wide (c := c) (sh_len (fstL s g ++ pubL s ++ g)) (sh_by _) (by decide)
    have hS : (kNum (fstL s g) (pubL s) g * secN s + rNum s g) % qQ < 2 ^ 256 := modq_lt _
    have hk : kNum (fstL s g) (pubL s) g < 2 ^ 256 := modq_lt _
    have hr : rNum s g < 2 ^ 256 := modq_lt _
    have f6 := lq_Mult hS (encP_lt10 Bp)
    have f7 := lq_Mult hk (encP_lt10 (Pt.mul (secN s) Bp))
    have f8 := lq_Add (encP_lt10 (Pt.mul (rNum s g) Bp)) (encP_lt10 (Pt.mul (kNum (fstL s g) (pubL s) g) (Pt.mul (secN s) Bp)))
    rw [mulR_enc hS, equation] at f6
    rw [mulR_enc hk] at f7
    rw [addR_enc] at f8
    have fb := lq_Base
    rw [← enc_base] at fb
    have ea : pubL s = by32 (encP (Pt.mul (secN s) Bp)) := by rw [pubL, mulB_enc (secN_lt s)]
    have ef : fstL s g = by32 (encP (Pt.mul (rNum s g) Bp)) := by rw [fstL, mulB_enc hr]
    simp only [F] at f6 f7 f8 fb
    rw [← ea] at f7
    rw [← ef] at f8
    exact equation_gen n g.length g s (pubL s) (fstL s g) (sndL s g) (sigL s g) _ _ _ _ _ (by omega) rfl ls (pubL_len s) (fstL_len s g) (sndL_len s g) (sigL_len s g) (List.take_left' (fstL_len s g)) (List.drop_left' (fstL_len s g)) (sh_len _) (byk_len _ _) (byk_len _ _) (byk_len _ _) f0 fs f1 f3 f4 f5 fb f6 f7 f8
  · exact equation_long n _ g (lq_Short (decide_eq_false hm))
end Go.Proofs.YtdeigmjbcbjgeaaGreatDoor
