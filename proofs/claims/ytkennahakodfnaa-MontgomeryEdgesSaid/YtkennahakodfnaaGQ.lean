/-
  Layer 9: Public, Shared.
-/
import Derived.Test.YtkennahakodfnaaGP
import Derived.Test.YtkennahakodfnaaMkP
namespace Go.Proofs.Ytkennahakodfnaa
open Go.RowKit

theorem nM_lt' (a b : Nat) : nM a b < 2 ^ 256 := nM_lt a b
theorem x25_lt (k u : Nat) : x25 k u < 2 ^ 256 := nM_lt _ _
theorem pMult_call (a b : Nat) (ha : a < 2 ^ 256) (_ : b < 2 ^ 256) : CallOk Try.prog 11 [F a, F b] (ret1 (F (x25 a b))) := execF_ok follows_ok EG3_ok Try.func11 (pMult_exec a b _ _ ha rfl rfl)
theorem rMult_call (a b : Nat) (ha : a < 2 ^ 256) (_ : b < 2 ^ 256) : CallOk Try.prog 12 [F a, F b] (ret1 (F (x25 a b))) := execF_ok follows_ok EG3_ok Try.func12 (rMult_exec a b _ _ _ _ _ ha rfl rfl rfl rfl rfl)
theorem resSlot_all {β β' : Nat → Option Blk} {b e : Nat} {l : List Int} (hb : β b = some ⟨.flat .u8 l, e, false⟩) (hl : l.length = 32) (h7 : b % 8 ≠ 7) : resSlot β β' (.sl 1 b 0 32 (some 32)) = some (.own 1 32 e (.flat .u8 l)) := by
  rw [resSlot_own hb (by omega) (.inr ⟨rfl, by rw [hl]; rfl⟩) h7, List.take_of_length_le (by omega)]
theorem copy_all {β : Nat → Option Blk} {b e : Nat} {sp : Bool} {c : Option Nat} {l x : List Int} (hb : β b = some ⟨.flat .u8 x, e, sp⟩) (hx : x.length = 32) (hl : l.length = 32) : opCopy EG3 β 28 (.sl 1 b 0 32 (some 32)) (.im 1 32 c (.flat .u8 l)) = some ⟨none, none, iv .i64 (32 : Nat), [(b, ⟨.flat .u8 l, e, sp⟩)]⟩ := by
  have c1 : (Cont.flat .u8 l).cut 0 (32 * 1) = some (.flat .u8 l) := cut_all hl
  have c2 : (Cont.flat .u8 x).lay 0 (.flat .u8 l) = some (.flat .u8 l) := by
    simp [Cont.lay, Cont.len, hx, hl]
  have e1 : shown β 1 (.im 1 32 c (.flat .u8 l)) = some (.flat .u8 l, 32) := rfl
  show (match shown β 1 (.im 1 32 c (.flat .u8 l)), β b with | some (y, cnt), some k => if 1 = 1 ∧ y.leaves = true then (match y.cut 0 (min cnt 32 * 1) with | some y => (match k.x.lay 0 y with | some x => some (⟨none, none, .v (.int .i64 (min cnt 32 : Nat)), [(b, ⟨x, k.e, k.spare⟩)]⟩ : Upd) | none => none) | none => none) else none | _, _ => none) = _
  rw [e1, hb]
  show (if 1 = 1 ∧ (Cont.flat .u8 l).leaves = true then (match (Cont.flat .u8 l).cut 0 (32 * 1) with | some y => (match (Cont.flat .u8 x).lay 0 y with | some x => some (⟨none, none, .v (.int .i64 (32 : Nat)), [(b, ⟨x, e, sp⟩)]⟩ : Upd) | none => none) | none => none) else none) = _
  rw [if_pos ⟨rfl, rfl⟩, c1]
  show (match (Cont.flat .u8 x).lay 0 (.flat .u8 l) with | some x => some (⟨none, none, .v (.int .i64 (32 : Nat)), [(b, ⟨x, e, sp⟩)]⟩ : Upd) | none => none) = _
  rw [c2]
set_option maxRecDepth 100000 in
set_option maxHeartbeats 1600000 in
theorem read9_call {N : Nat} {c : Option Nat} {l : List Int} (hl : l.length = N) (hN : N = 32) : CallOk Try.prog 39 [.im 1 N c (.flat .u8 l)] (ret1 (.agg (.flat .u8 l))) := by
  subst hN
  refine execF_ok follows_ok EG3_ok Try.func39 ?_
  have cl : (Cont.flat .u8 l).cut 0 32 = some (.flat .u8 l) := cut_all hl
  have nE : (Cont.flat .u8 l).len = 32 := hl
  have zE : layOne (.flat .u8 (List.replicate 32 0)) 0 (.flat .u8 l) = some (.flat .u8 l) := lay_all (by rw [List.length_replicate, hl]) (by omega)
  ((conv => whnf); repeat ((first | refine ⟨_, copy_all rfl rfl hl, ?_⟩ | refine ⟨_, cl, ?_⟩ | refine ⟨_, zE, ?_⟩ | refine ⟨nE, ?_⟩ | refine ⟨_, rfl, ?_⟩ | refine ⟨by decide, ?_⟩ | refine ⟨rfl, ?_⟩ | refine ⟨fun _ => ?_, fun h => absurd h (by decide)⟩ | refine ⟨fun h => absurd h (by decide), fun _ => ?_⟩ | refine ⟨inI_of (by omega), ?_⟩ | refine ⟨⟨rfl, inI_of (by omega)⟩, ?_⟩ | refine ⟨⟨rfl, by decide⟩, ?_⟩ | (apply Exists.intro; refine ⟨?_, ?_⟩; ((try simp only); (try simp only [Nat.zero_add]); (try simp only [Nat.mul_one]); (try simp only [Int.toNat_natCast]); exact at_g (by omega))) | (apply Exists.intro; refine ⟨?_, ?_⟩; ((try simp only); (try simp only [Nat.zero_add]); (try simp only [Nat.mul_one]); (try simp only [Int.toNat_natCast]); exact put_flat (by omega))) | refine ⟨_, cut_all (by omega), ?_⟩ | refine ⟨_, lay_all (by omega) (by omega), ?_⟩ | refine ⟨_, lay_all (by (try simp only); (try simp only [List.length_replicate]); (try simp only [List.length_cons]); (try simp only [List.length_nil]); omega) (by omega), ?_⟩ | refine ⟨by omega, ?_⟩ | refine ⟨len_flat (by omega), ?_⟩ | refine ⟨apart_uv _ _ _, ?_⟩ | refine ⟨_, resSlot_own rfl (by omega) (by first | exact .inl rfl | exact .inr ⟨rfl, rfl⟩), ?_⟩ | refine ⟨(by kernel_rfl : regB _ = true), ?_⟩ | refine ⟨⟨rfl, inI_of (by omega), by decide⟩, ?_⟩ | (apply Exists.intro; refine ⟨?_, ?_⟩; ((try simp only); (try simp only [Nat.zero_add]); (try simp only [Nat.mul_one]); (try simp only [Int.toNat_natCast]); exact at_drop_g (by omega))) | (apply Exists.intro; refine ⟨?_, ?_⟩; ((try simp only); (try simp only [Nat.zero_add]); (try simp only [Nat.mul_one]); (try simp only [Int.toNat_natCast]); exact cut_rest (by omega)))); conv => whnf))
  rfl
theorem pMult_row {a b : List Int} (hc : isF a = true ∧ isF b = true) : CallOk Try.prog 11 [.agg (.flat .u8 a), .agg (.flat .u8 b)] (ret1 (F (x25 (nb a) (nb b)))) := by
  obtain ⟨h0, h1⟩ := hc
  have e0 := isF_eq h0
  have l0 := nb32_lt h0
  clear h0
  generalize nb a = n0 at *
  subst e0
  have e1 := isF_eq h1
  have l1 := nb32_lt h1
  clear h1
  generalize nb b = n1 at *
  subst e1
  exact pMult_call n0 n1 l0 l1 
theorem rMult_row {a b : List Int} (hc : isF a = true ∧ isF b = true) : CallOk Try.prog 12 [.agg (.flat .u8 a), .agg (.flat .u8 b)] (ret1 (F (x25 (nb a) (nb b)))) := by
  obtain ⟨h0, h1⟩ := hc
  have e0 := isF_eq h0
  have l0 := nb32_lt h0
  clear h0
  generalize nb a = n0 at *
  subst e0
  have e1 := isF_eq h1
  have l1 := nb32_lt h1
  clear h1
  generalize nb b = n1 at *
  subst e1
  exact rMult_call n0 n1 l0 l1 
def orcG4 (f : Nat) (ds : List LV) : Option LRes :=
  match f with
  | 11 => match ds with
    | [.agg (.flat .u8 a), .agg (.flat .u8 b)] => if isF a = true ∧ isF b = true then some (ret1 (F (x25 (nb a) (nb b)))) else none
    | _ => none
  | 12 => match ds with
    | [.agg (.flat .u8 a), .agg (.flat .u8 b)] => if isF a = true ∧ isF b = true then some (ret1 (F (x25 (nb a) (nb b)))) else none
    | _ => none
  | 39 => match ds with
    | [.im 1 n _ (.flat .u8 l)] => if l.length = n ∧ n = 32 then some (ret1 (.agg (.flat .u8 l))) else none
    | _ => none
  | 14 => match ds with
    | [.v (.int .i64 k)] => some (LRes.one (.own 1 32 5 (.flat .u8 (sdP k))))
    | _ => none
  | 21 => match ds with
    | [.v (.int .i64 k), .v (.int .i64 (.ofNat m))] => if m ≤ 100000 ∧ 0 < m then some (LRes.one (.own 1 m 5 (.flat .u8 (smP k m)))) else none
    | _ => none
  | 18 => match ds with
    | [.v (.int .i64 v), .v (.int .i64 n)] => if 0 < n ∧ n < 9223372036854775808 then some (ret1 (iv .i64 (v % n))) else none
    | _ => none
  | _ => orcG3 f ds
theorem orcG4_ok : Known Try.prog orcG4 := by
  intro f ds r h
  unfold orcG4 at h
  split at h
  · split at h
    · split at h
      · rename_i hc
        cases h
        exact .inl ⟨⟨_, Try.func11, name_ne _ (by kernel_rfl), rfl⟩, pMult_row hc⟩
      · cases h
    · cases h
  · split at h
    · split at h
      · rename_i hc
        cases h
        exact .inl ⟨⟨_, Try.func12, name_ne _ (by kernel_rfl), rfl⟩, rMult_row hc⟩
      · cases h
    · cases h
  · split at h
    · split at h
      · rename_i hc
        cases h
        exact .inl ⟨⟨_, Try.func39, name_ne _ (by kernel_rfl), rfl⟩, read9_call hc.1 hc.2⟩
      · cases h
    · cases h
  · split at h
    · cases h
      exact .inl ⟨⟨_, Try.func14, name_ne _ (by kernel_rfl), rfl⟩, seed_call _⟩
    · cases h
  · split at h
    · split at h
      · rename_i hc
        cases h
        exact .inl ⟨⟨_, Try.func21, name_ne _ (by kernel_rfl), rfl⟩, some_call _ _ hc.1 hc.2⟩
      · cases h
    · cases h
  · split at h
    · split at h
      · rename_i hc
        cases h
        exact .inl ⟨⟨_, Try.func18, name_ne _ (by kernel_rfl), rfl⟩, mod_call _ _ hc.1 hc.2⟩
      · cases h
    · cases h
  · exact orcG3_ok f ds r h
def EG4 : Env := ⟨tyL, orcG4, false, noWk, noOrw⟩
theorem EG4_ok : EnvOk Try.prog EG4 := ⟨tyL_ok, orcG4_ok, noOrw_ok⟩
theorem is_EG4 {f : Nat} {ds : List LV} {K : LRes → Prop} (h : ∃ y, EG4.orc f ds = some y ∧ K y) : ∃ y, EG4.orc f ds = some y ∧ K y := h
set_option maxRecDepth 100000 in
theorem o_pMult {a b : Nat} (ha : a < 2 ^ 256) (hb : b < 2 ^ 256) : EG4.orc 11 [F a, F b] = some (ret1 (F (x25 a b))) :=
  (if_pos ⟨isF_by _, isF_by _⟩).trans (by rw [nb_by32 ha, nb_by32 hb])
set_option maxRecDepth 100000 in
theorem o_rMult {a b : Nat} (ha : a < 2 ^ 256) (hb : b < 2 ^ 256) : EG4.orc 12 [F a, F b] = some (ret1 (F (x25 a b))) :=
  (if_pos ⟨isF_by _, isF_by _⟩).trans (by rw [nb_by32 ha, nb_by32 hb])
theorem isN_EG4 (f : Nat) {ds : List LV} {K : LRes → Prop} (h : ∃ y, EG4.orc f ds = some y ∧ K y) : ∃ y, EG4.orc f ds = some y ∧ K y := h
theorem g4_read {N : Nat} {c : Option Nat} {l : List Int} (hl : l.length = N) (hN : N = 32) : EG4.orc 39 [.im 1 N c (.flat .u8 l)] = some (ret1 (.agg (.flat .u8 l))) := if_pos ⟨hl, hN⟩
/-- What Public returns. -/
def pubR (z : Nat) (N : Nat) (l : List Int) : LRes := if N = 32 then ret2 (.own 1 32 z (.flat .u8 (by32 (x25 (nb l) 9)))) 0 else no2 1
/-- What Shared returns. -/
def shaR (z : Nat) (N M : Nat) (l m : List Int) : LRes := if N = 32 ∧ M = 32 then (if x25 (nb l) (nb m) = 0 then no2 13 else ret2 (.own 1 32 z (.flat .u8 (by32 (x25 (nb l) (nb m))))) 0) else no2 1
theorem app_nil4 {β : Nat → Option Blk} {d b n e : Nat} {sp : Bool} {l : List Int} {c : Option Nat} (hk : β b = some ⟨.flat .u8 l, e, sp⟩) (hc : (Cont.flat .u8 l).cut 0 (n * 1) = some (.flat .u8 l)) (hn : appOk 1 1 1 n (.flat .u8 [0]) = true) :
    opAppend EG4 β d 28 (.v (.slice none 0 0)) (.sl 1 b 0 n c) = some ⟨none, newB β d, .sl 1 (8 * d) 0 n none, [(8 * d, ⟨.flat .u8 l, 5, true⟩)]⟩ := by
  have e1 : shown β 1 (.sl 1 b 0 n c) = some (.flat .u8 l, n) := by
    show (match β b with | some k => (k.x.cut 0 (n * 1)).map fun y => (y, n) | none => none) = _
    rw [hk]
    show ((Cont.flat .u8 l).cut 0 (n * 1)).map _ = _
    rw [hc]
    rfl
  show (match shown β 1 (.sl 1 b 0 n c) with | some (y, cnt) => if y.leaves then appX EG4 β d 28 (.v (.slice none 0 0)) y cnt else none | none => none) = _
  rw [e1]
  show (if (Cont.flat .u8 l).leaves = true then appX EG4 β d 28 (.v (.slice none 0 0)) (.flat .u8 l) n else none) = _
  rw [if_pos (show (Cont.flat .u8 l).leaves = true from rfl)]
  exact if_pos (c := appOk 1 1 1 n (.flat .u8 [0]) = true ∧ ((newB β d).isNone || (Cont.flat .u8 l).free (8 * d)) = true) ⟨hn, by show ((newB β d).isNone || true) = true; rw [Bool.or_true]⟩
theorem resSlot_app {β β' : Nat → Option Blk} {b e : Nat} {l : List Int} (hb : β b = some ⟨.flat .u8 l, e, true⟩) (hl : l.length = 32) (h7 : b % 8 ≠ 7) : resSlot β β' (.sl 1 b 0 32 none) = some (.own 1 32 e (.flat .u8 l)) := by
  rw [resSlot_own hb (by omega) (.inl rfl) h7, List.take_of_length_le (by omega)]
theorem eql_go4 {a b : List Int} {q : Bool} {K : LV × List (Nat × Blk) → Prop} (ha : a.length = 32) (hb : b.length = 32) (hq : (a == b) = q) (h : K (.v (.bool q), [])) : runs (opBin EG4 .eql 23 (.agg (.flat .u8 a)) (.agg (.flat .u8 b))) K := by
  have e : opBin EG4 .eql 23 (.agg (.flat .u8 a)) (.agg (.flat .u8 b)) = some (.v (.bool (a == b)), []) := if_pos ⟨rfl, ha, hb⟩
  rw [e, hq]
  exact h
theorem F_nine : F 9 = .agg (.flat .u8 [9, 0, 0, 0, 0, 0, 0, 0, 0, 0, 0, 0, 0, 0, 0, 0, 0, 0, 0, 0, 0, 0, 0, 0, 0, 0, 0, 0, 0, 0, 0, 0]) := by kernel_rfl
theorem by32_zero : by32 0 = List.replicate 32 0 := by kernel_rfl
theorem x25_q (l m : List Int) : (by32 (x25 (nb l) (nb m)) == List.replicate 32 0) = decide (x25 (nb l) (nb m) = 0) := by rw [← by32_zero]; exact beq_by (x25_lt _ _) (by decide)
set_option maxRecDepth 100000 in
set_option maxHeartbeats 8000000 in
theorem pPublic_exec (N : Nat) (c : Option Nat) (l : List Int) (hN : l.length = N) (hb : By l) : execF EG4 Try.f22 [.im 1 N c (.flat .u8 l)] (pubR 23 N l) := by
  unfold pubR
  by_cases h : N = 32
  · subst h
    rw [if_pos rfl]
    have q : (!(((32 : Nat) : Int) == 32)) = false := rfl
    have hF : isF l = true := isF_of hN hb
    have f1 := o_pMult (nb32_lt hF) (show 9 < 2 ^ 256 by decide)
    rw [F_nine, F, ← isF_eq hF] at f1
    obtain ⟨r, hr⟩ : ∃ r, r = by32 (x25 (nb l) 9) := ⟨_, rfl⟩
    have lr : r.length = 32 := by rw [hr, byk_len]
    have cr : (Cont.flat .u8 r).cut 0 (32 * 1) = some (.flat .u8 r) := cut_all lr
    have cl : (Cont.flat .u8 l).cut 0 32 = some (.flat .u8 l) := cut_all hN
    rw [F, ← hr] at f1
    rw [← hr]
    clear hF hb hr
    ((conv => whnf); repeat ((first | refine ⟨fun _ => ?_, fun h => absurd ((q).symm.trans h) (by decide)⟩ | refine ⟨fun h => absurd ((q).symm.trans h) (by decide), fun _ => ?_⟩ | refine ⟨_, resSlot_all rfl lr (by decide), ?_⟩ | refine ⟨_, resSlot_app rfl lr (by decide), ?_⟩ | refine ⟨_, app_nil4 rfl cr (by decide), ?_⟩ | refine ⟨_, cl, ?_⟩ | refine ⟨_, cr, ?_⟩ | ((with_reducible refine isN_EG4 39 ?_); refine ⟨_, g4_read hN rfl, ?_⟩) | ((with_reducible refine isN_EG4 11 ?_); refine ⟨_, f1, ?_⟩) | refine ⟨_, rfl, ?_⟩ | refine ⟨by decide, ?_⟩ | refine ⟨rfl, ?_⟩ | refine ⟨fun _ => ?_, fun h => absurd h (by decide)⟩ | refine ⟨fun h => absurd h (by decide), fun _ => ?_⟩ | refine ⟨inI_of (by omega), ?_⟩ | refine ⟨⟨rfl, inI_of (by omega)⟩, ?_⟩ | refine ⟨⟨rfl, by decide⟩, ?_⟩ | (apply Exists.intro; refine ⟨?_, ?_⟩; ((try simp only); (try simp only [Nat.zero_add]); (try simp only [Nat.mul_one]); (try simp only [Int.toNat_natCast]); exact at_g (by omega))) | (apply Exists.intro; refine ⟨?_, ?_⟩; ((try simp only); (try simp only [Nat.zero_add]); (try simp only [Nat.mul_one]); (try simp only [Int.toNat_natCast]); exact put_flat (by omega))) | refine ⟨_, cut_all (by omega), ?_⟩ | refine ⟨_, lay_all (by omega) (by omega), ?_⟩ | refine ⟨_, lay_all (by (try simp only); (try simp only [List.length_replicate]); (try simp only [List.length_cons]); (try simp only [List.length_nil]); omega) (by omega), ?_⟩ | refine ⟨by omega, ?_⟩ | refine ⟨len_flat (by omega), ?_⟩ | refine ⟨apart_uv _ _ _, ?_⟩ | refine ⟨_, resSlot_own rfl (by omega) (by first | exact .inl rfl | exact .inr ⟨rfl, rfl⟩), ?_⟩ | refine ⟨(by kernel_rfl : regB _ = true), ?_⟩ | refine ⟨⟨rfl, inI_of (by omega), by decide⟩, ?_⟩ | (apply Exists.intro; refine ⟨?_, ?_⟩; ((try simp only); (try simp only [Nat.zero_add]); (try simp only [Nat.mul_one]); (try simp only [Int.toNat_natCast]); exact at_drop_g (by omega))) | (apply Exists.intro; refine ⟨?_, ?_⟩; ((try simp only); (try simp only [Nat.zero_add]); (try simp only [Nat.mul_one]); (try simp only [Int.toNat_natCast]); exact cut_rest (by omega)))); conv => whnf))
    rfl
  · rw [if_neg h]
    have q : (!((N : Int) == 32)) = true := by
      rw [Bool.not_eq_true', beq_eq_false_iff_ne]
      omega
    ((conv => whnf); repeat ((first | refine ⟨fun _ => ?_, fun h => absurd ((q).symm.trans h) (by decide)⟩ | refine ⟨fun h => absurd ((q).symm.trans h) (by decide), fun _ => ?_⟩ | refine ⟨_, rfl, ?_⟩ | refine ⟨by decide, ?_⟩ | refine ⟨rfl, ?_⟩ | refine ⟨fun _ => ?_, fun h => absurd h (by decide)⟩ | refine ⟨fun h => absurd h (by decide), fun _ => ?_⟩ | refine ⟨inI_of (by omega), ?_⟩ | refine ⟨⟨rfl, inI_of (by omega)⟩, ?_⟩ | refine ⟨⟨rfl, by decide⟩, ?_⟩ | (apply Exists.intro; refine ⟨?_, ?_⟩; ((try simp only); (try simp only [Nat.zero_add]); (try simp only [Nat.mul_one]); (try simp only [Int.toNat_natCast]); exact at_g (by omega))) | (apply Exists.intro; refine ⟨?_, ?_⟩; ((try simp only); (try simp only [Nat.zero_add]); (try simp only [Nat.mul_one]); (try simp only [Int.toNat_natCast]); exact put_flat (by omega))) | refine ⟨_, cut_all (by omega), ?_⟩ | refine ⟨_, lay_all (by omega) (by omega), ?_⟩ | refine ⟨_, lay_all (by (try simp only); (try simp only [List.length_replicate]); (try simp only [List.length_cons]); (try simp only [List.length_nil]); omega) (by omega), ?_⟩ | refine ⟨by omega, ?_⟩ | refine ⟨len_flat (by omega), ?_⟩ | refine ⟨apart_uv _ _ _, ?_⟩ | refine ⟨_, resSlot_own rfl (by omega) (by first | exact .inl rfl | exact .inr ⟨rfl, rfl⟩), ?_⟩ | refine ⟨(by kernel_rfl : regB _ = true), ?_⟩ | refine ⟨⟨rfl, inI_of (by omega), by decide⟩, ?_⟩ | (apply Exists.intro; refine ⟨?_, ?_⟩; ((try simp only); (try simp only [Nat.zero_add]); (try simp only [Nat.mul_one]); (try simp only [Int.toNat_natCast]); exact at_drop_g (by omega))) | (apply Exists.intro; refine ⟨?_, ?_⟩; ((try simp only); (try simp only [Nat.zero_add]); (try simp only [Nat.mul_one]); (try simp only [Int.toNat_natCast]); exact cut_rest (by omega)))); conv => whnf))
    rfl
set_option maxRecDepth 100000 in
set_option maxHeartbeats 8000000 in
theorem rPublic_exec (N : Nat) (c : Option Nat) (l : List Int) (hN : l.length = N) (hb : By l) : execF EG4 Try.f23 [.im 1 N c (.flat .u8 l)] (pubR 5 N l) := by
  unfold pubR
  by_cases h : N = 32
  · subst h
    rw [if_pos rfl]
    have q : (!(((32 : Nat) : Int) == 32)) = false := rfl
    have hF : isF l = true := isF_of hN hb
    have f1 := o_rMult (nb32_lt hF) (show 9 < 2 ^ 256 by decide)
    rw [F_nine, F, ← isF_eq hF] at f1
    obtain ⟨r, hr⟩ : ∃ r, r = by32 (x25 (nb l) 9) := ⟨_, rfl⟩
    have lr : r.length = 32 := by rw [hr, byk_len]
    have cr : (Cont.flat .u8 r).cut 0 (32 * 1) = some (.flat .u8 r) := cut_all lr
    have cl : (Cont.flat .u8 l).cut 0 32 = some (.flat .u8 l) := cut_all hN
    rw [F, ← hr] at f1
    rw [← hr]
    clear hF hb hr
    ((conv => whnf); repeat ((first | refine ⟨fun _ => ?_, fun h => absurd ((q).symm.trans h) (by decide)⟩ | refine ⟨fun h => absurd ((q).symm.trans h) (by decide), fun _ => ?_⟩ | refine ⟨_, resSlot_all rfl lr (by decide), ?_⟩ | refine ⟨_, resSlot_app rfl lr (by decide), ?_⟩ | refine ⟨_, app_nil4 rfl cr (by decide), ?_⟩ | refine ⟨_, cl, ?_⟩ | refine ⟨_, cr, ?_⟩ | ((with_reducible refine isN_EG4 39 ?_); refine ⟨_, g4_read hN rfl, ?_⟩) | ((with_reducible refine isN_EG4 12 ?_); refine ⟨_, f1, ?_⟩) | refine ⟨_, rfl, ?_⟩ | refine ⟨by decide, ?_⟩ | refine ⟨rfl, ?_⟩ | refine ⟨fun _ => ?_, fun h => absurd h (by decide)⟩ | refine ⟨fun h => absurd h (by decide), fun _ => ?_⟩ | refine ⟨inI_of (by omega), ?_⟩ | refine ⟨⟨rfl, inI_of (by omega)⟩, ?_⟩ | refine ⟨⟨rfl, by decide⟩, ?_⟩ | (apply Exists.intro; refine ⟨?_, ?_⟩; ((try simp only); (try simp only [Nat.zero_add]); (try simp only [Nat.mul_one]); (try simp only [Int.toNat_natCast]); exact at_g (by omega))) | (apply Exists.intro; refine ⟨?_, ?_⟩; ((try simp only); (try simp only [Nat.zero_add]); (try simp only [Nat.mul_one]); (try simp only [Int.toNat_natCast]); exact put_flat (by omega))) | refine ⟨_, cut_all (by omega), ?_⟩ | refine ⟨_, lay_all (by omega) (by omega), ?_⟩ | refine ⟨_, lay_all (by (try simp only); (try simp only [List.length_replicate]); (try simp only [List.length_cons]); (try simp only [List.length_nil]); omega) (by omega), ?_⟩ | refine ⟨by omega, ?_⟩ | refine ⟨len_flat (by omega), ?_⟩ | refine ⟨apart_uv _ _ _, ?_⟩ | refine ⟨_, resSlot_own rfl (by omega) (by first | exact .inl rfl | exact .inr ⟨rfl, rfl⟩), ?_⟩ | refine ⟨(by kernel_rfl : regB _ = true), ?_⟩ | refine ⟨⟨rfl, inI_of (by omega), by decide⟩, ?_⟩ | (apply Exists.intro; refine ⟨?_, ?_⟩; ((try simp only); (try simp only [Nat.zero_add]); (try simp only [Nat.mul_one]); (try simp only [Int.toNat_natCast]); exact at_drop_g (by omega))) | (apply Exists.intro; refine ⟨?_, ?_⟩; ((try simp only); (try simp only [Nat.zero_add]); (try simp only [Nat.mul_one]); (try simp only [Int.toNat_natCast]); exact cut_rest (by omega)))); conv => whnf))
    rfl
  · rw [if_neg h]
    have q : (!((N : Int) == 32)) = true := by
      rw [Bool.not_eq_true', beq_eq_false_iff_ne]
      omega
    ((conv => whnf); repeat ((first | refine ⟨fun _ => ?_, fun h => absurd ((q).symm.trans h) (by decide)⟩ | refine ⟨fun h => absurd ((q).symm.trans h) (by decide), fun _ => ?_⟩ | refine ⟨_, rfl, ?_⟩ | refine ⟨by decide, ?_⟩ | refine ⟨rfl, ?_⟩ | refine ⟨fun _ => ?_, fun h => absurd h (by decide)⟩ | refine ⟨fun h => absurd h (by decide), fun _ => ?_⟩ | refine ⟨inI_of (by omega), ?_⟩ | refine ⟨⟨rfl, inI_of (by omega)⟩, ?_⟩ | refine ⟨⟨rfl, by decide⟩, ?_⟩ | (apply Exists.intro; refine ⟨?_, ?_⟩; ((try simp only); (try simp only [Nat.zero_add]); (try simp only [Nat.mul_one]); (try simp only [Int.toNat_natCast]); exact at_g (by omega))) | (apply Exists.intro; refine ⟨?_, ?_⟩; ((try simp only); (try simp only [Nat.zero_add]); (try simp only [Nat.mul_one]); (try simp only [Int.toNat_natCast]); exact put_flat (by omega))) | refine ⟨_, cut_all (by omega), ?_⟩ | refine ⟨_, lay_all (by omega) (by omega), ?_⟩ | refine ⟨_, lay_all (by (try simp only); (try simp only [List.length_replicate]); (try simp only [List.length_cons]); (try simp only [List.length_nil]); omega) (by omega), ?_⟩ | refine ⟨by omega, ?_⟩ | refine ⟨len_flat (by omega), ?_⟩ | refine ⟨apart_uv _ _ _, ?_⟩ | refine ⟨_, resSlot_own rfl (by omega) (by first | exact .inl rfl | exact .inr ⟨rfl, rfl⟩), ?_⟩ | refine ⟨(by kernel_rfl : regB _ = true), ?_⟩ | refine ⟨⟨rfl, inI_of (by omega), by decide⟩, ?_⟩ | (apply Exists.intro; refine ⟨?_, ?_⟩; ((try simp only); (try simp only [Nat.zero_add]); (try simp only [Nat.mul_one]); (try simp only [Int.toNat_natCast]); exact at_drop_g (by omega))) | (apply Exists.intro; refine ⟨?_, ?_⟩; ((try simp only); (try simp only [Nat.zero_add]); (try simp only [Nat.mul_one]); (try simp only [Int.toNat_natCast]); exact cut_rest (by omega)))); conv => whnf))
    rfl
set_option maxRecDepth 100000 in
set_option maxHeartbeats 8000000 in
theorem pShared_exec (N M : Nat) (c d : Option Nat) (l m : List Int) (hN : l.length = N) (hM : m.length = M) (hb : By l) (hc : By m) : execF EG4 Try.f19 [.im 1 N c (.flat .u8 l), .im 1 M d (.flat .u8 m)] (shaR 23 N M l m) := by
  unfold shaR
  by_cases h : N = 32
  · subst h
    have q1 : (!(((32 : Nat) : Int) == 32)) = false := rfl
    by_cases h' : M = 32
    · subst h'
      rw [if_pos ⟨rfl, rfl⟩]
      have hF : isF l = true := isF_of hN hb
      have hG : isF m = true := isF_of hM hc
      have f1 := o_pMult (nb32_lt hF) (nb32_lt hG)
      rw [F, F, ← isF_eq hF, ← isF_eq hG] at f1
      obtain ⟨r, hr⟩ : ∃ r, r = by32 (x25 (nb l) (nb m)) := ⟨_, rfl⟩
      have lr : r.length = 32 := by rw [hr, byk_len]
      have cr : (Cont.flat .u8 r).cut 0 (32 * 1) = some (.flat .u8 r) := cut_all lr
      have cs : (Cont.flat .u8 r).cut 0 32 = some (.flat .u8 r) := cut_all lr
      have cl : (Cont.flat .u8 l).cut 0 32 = some (.flat .u8 l) := cut_all hN
      have cm : (Cont.flat .u8 m).cut 0 32 = some (.flat .u8 m) := cut_all hM
      have qz := x25_q l m
      rw [F, ← hr] at f1
      rw [← hr] at qz
      rw [← hr]
      clear hF hG hb hc hr
      by_cases hz : x25 (nb l) (nb m) = 0
      · rw [if_pos hz]
        rw [decide_eq_true hz] at qz
        clear hz
        ((conv => whnf); repeat ((first | refine ⟨fun _ => ?_, fun h => absurd ((q1).symm.trans h) (by decide)⟩ | refine ⟨fun h => absurd ((q1).symm.trans h) (by decide), fun _ => ?_⟩ | refine ⟨_, resSlot_all rfl lr (by decide), ?_⟩ | refine ⟨_, resSlot_app rfl lr (by decide), ?_⟩ | refine ⟨_, app_nil4 rfl cr (by decide), ?_⟩ | refine ⟨_, cl, ?_⟩ | refine ⟨_, cm, ?_⟩ | refine ⟨_, cs, ?_⟩ | refine ⟨_, cr, ?_⟩ | ((with_reducible refine isN_EG4 39 ?_); first | refine ⟨_, g4_read hN rfl, ?_⟩ | refine ⟨_, g4_read hM rfl, ?_⟩) | ((with_reducible refine isN_EG4 11 ?_); refine ⟨_, f1, ?_⟩) | refine ⟨_, rfl, ?_⟩ | refine ⟨by decide, ?_⟩ | refine ⟨rfl, ?_⟩ | refine ⟨fun _ => ?_, fun h => absurd h (by decide)⟩ | refine ⟨fun h => absurd h (by decide), fun _ => ?_⟩ | refine ⟨inI_of (by omega), ?_⟩ | refine ⟨⟨rfl, inI_of (by omega)⟩, ?_⟩ | refine ⟨⟨rfl, by decide⟩, ?_⟩ | (apply Exists.intro; refine ⟨?_, ?_⟩; ((try simp only); (try simp only [Nat.zero_add]); (try simp only [Nat.mul_one]); (try simp only [Int.toNat_natCast]); exact at_g (by omega))) | (apply Exists.intro; refine ⟨?_, ?_⟩; ((try simp only); (try simp only [Nat.zero_add]); (try simp only [Nat.mul_one]); (try simp only [Int.toNat_natCast]); exact put_flat (by omega))) | refine ⟨_, cut_all (by omega), ?_⟩ | refine ⟨_, lay_all (by omega) (by omega), ?_⟩ | refine ⟨_, lay_all (by (try simp only); (try simp only [List.length_replicate]); (try simp only [List.length_cons]); (try simp only [List.length_nil]); omega) (by omega), ?_⟩ | refine ⟨by omega, ?_⟩ | refine ⟨len_flat (by omega), ?_⟩ | refine ⟨apart_uv _ _ _, ?_⟩ | refine ⟨_, resSlot_own rfl (by omega) (by first | exact .inl rfl | exact .inr ⟨rfl, rfl⟩), ?_⟩ | refine ⟨(by kernel_rfl : regB _ = true), ?_⟩ | refine ⟨⟨rfl, inI_of (by omega), by decide⟩, ?_⟩ | (apply Exists.intro; refine ⟨?_, ?_⟩; ((try simp only); (try simp only [Nat.zero_add]); (try simp only [Nat.mul_one]); (try simp only [Int.toNat_natCast]); exact at_drop_g (by omega))) | (apply Exists.intro; refine ⟨?_, ?_⟩; ((try simp only); (try simp only [Nat.zero_add]); (try simp only [Nat.mul_one]); (try simp only [Int.toNat_natCast]); exact cut_rest (by omega)))); conv => whnf))
        refine eql_go4 lr rfl qz ?_
        ((conv => whnf); repeat ((first | refine ⟨_, resSlot_all rfl lr (by decide), ?_⟩ | refine ⟨_, resSlot_app rfl lr (by decide), ?_⟩ | refine ⟨_, app_nil4 rfl cr (by decide), ?_⟩ | refine ⟨_, cl, ?_⟩ | refine ⟨_, cm, ?_⟩ | refine ⟨_, cs, ?_⟩ | refine ⟨_, cr, ?_⟩ | ((with_reducible refine isN_EG4 39 ?_); first | refine ⟨_, g4_read hN rfl, ?_⟩ | refine ⟨_, g4_read hM rfl, ?_⟩) | ((with_reducible refine isN_EG4 11 ?_); refine ⟨_, f1, ?_⟩) | refine ⟨_, rfl, ?_⟩ | refine ⟨by decide, ?_⟩ | refine ⟨rfl, ?_⟩ | refine ⟨fun _ => ?_, fun h => absurd h (by decide)⟩ | refine ⟨fun h => absurd h (by decide), fun _ => ?_⟩ | refine ⟨inI_of (by omega), ?_⟩ | refine ⟨⟨rfl, inI_of (by omega)⟩, ?_⟩ | refine ⟨⟨rfl, by decide⟩, ?_⟩ | (apply Exists.intro; refine ⟨?_, ?_⟩; ((try simp only); (try simp only [Nat.zero_add]); (try simp only [Nat.mul_one]); (try simp only [Int.toNat_natCast]); exact at_g (by omega))) | (apply Exists.intro; refine ⟨?_, ?_⟩; ((try simp only); (try simp only [Nat.zero_add]); (try simp only [Nat.mul_one]); (try simp only [Int.toNat_natCast]); exact put_flat (by omega))) | refine ⟨_, cut_all (by omega), ?_⟩ | refine ⟨_, lay_all (by omega) (by omega), ?_⟩ | refine ⟨_, lay_all (by (try simp only); (try simp only [List.length_replicate]); (try simp only [List.length_cons]); (try simp only [List.length_nil]); omega) (by omega), ?_⟩ | refine ⟨by omega, ?_⟩ | refine ⟨len_flat (by omega), ?_⟩ | refine ⟨apart_uv _ _ _, ?_⟩ | refine ⟨_, resSlot_own rfl (by omega) (by first | exact .inl rfl | exact .inr ⟨rfl, rfl⟩), ?_⟩ | refine ⟨(by kernel_rfl : regB _ = true), ?_⟩ | refine ⟨⟨rfl, inI_of (by omega), by decide⟩, ?_⟩ | (apply Exists.intro; refine ⟨?_, ?_⟩; ((try simp only); (try simp only [Nat.zero_add]); (try simp only [Nat.mul_one]); (try simp only [Int.toNat_natCast]); exact at_drop_g (by omega))) | (apply Exists.intro; refine ⟨?_, ?_⟩; ((try simp only); (try simp only [Nat.zero_add]); (try simp only [Nat.mul_one]); (try simp only [Int.toNat_natCast]); exact cut_rest (by omega)))); conv => whnf))
        rfl
      · rw [if_neg hz]
        rw [decide_eq_false hz] at qz
        clear hz
        ((conv => whnf); repeat ((first | refine ⟨fun _ => ?_, fun h => absurd ((q1).symm.trans h) (by decide)⟩ | refine ⟨fun h => absurd ((q1).symm.trans h) (by decide), fun _ => ?_⟩ | refine ⟨_, resSlot_all rfl lr (by decide), ?_⟩ | refine ⟨_, resSlot_app rfl lr (by decide), ?_⟩ | refine ⟨_, app_nil4 rfl cr (by decide), ?_⟩ | refine ⟨_, cl, ?_⟩ | refine ⟨_, cm, ?_⟩ | refine ⟨_, cs, ?_⟩ | refine ⟨_, cr, ?_⟩ | ((with_reducible refine isN_EG4 39 ?_); first | refine ⟨_, g4_read hN rfl, ?_⟩ | refine ⟨_, g4_read hM rfl, ?_⟩) | ((with_reducible refine isN_EG4 11 ?_); refine ⟨_, f1, ?_⟩) | refine ⟨_, rfl, ?_⟩ | refine ⟨by decide, ?_⟩ | refine ⟨rfl, ?_⟩ | refine ⟨fun _ => ?_, fun h => absurd h (by decide)⟩ | refine ⟨fun h => absurd h (by decide), fun _ => ?_⟩ | refine ⟨inI_of (by omega), ?_⟩ | refine ⟨⟨rfl, inI_of (by omega)⟩, ?_⟩ | refine ⟨⟨rfl, by decide⟩, ?_⟩ | (apply Exists.intro; refine ⟨?_, ?_⟩; ((try simp only); (try simp only [Nat.zero_add]); (try simp only [Nat.mul_one]); (try simp only [Int.toNat_natCast]); exact at_g (by omega))) | (apply Exists.intro; refine ⟨?_, ?_⟩; ((try simp only); (try simp only [Nat.zero_add]); (try simp only [Nat.mul_one]); (try simp only [Int.toNat_natCast]); exact put_flat (by omega))) | refine ⟨_, cut_all (by omega), ?_⟩ | refine ⟨_, lay_all (by omega) (by omega), ?_⟩ | refine ⟨_, lay_all (by (try simp only); (try simp only [List.length_replicate]); (try simp only [List.length_cons]); (try simp only [List.length_nil]); omega) (by omega), ?_⟩ | refine ⟨by omega, ?_⟩ | refine ⟨len_flat (by omega), ?_⟩ | refine ⟨apart_uv _ _ _, ?_⟩ | refine ⟨_, resSlot_own rfl (by omega) (by first | exact .inl rfl | exact .inr ⟨rfl, rfl⟩), ?_⟩ | refine ⟨(by kernel_rfl : regB _ = true), ?_⟩ | refine ⟨⟨rfl, inI_of (by omega), by decide⟩, ?_⟩ | (apply Exists.intro; refine ⟨?_, ?_⟩; ((try simp only); (try simp only [Nat.zero_add]); (try simp only [Nat.mul_one]); (try simp only [Int.toNat_natCast]); exact at_drop_g (by omega))) | (apply Exists.intro; refine ⟨?_, ?_⟩; ((try simp only); (try simp only [Nat.zero_add]); (try simp only [Nat.mul_one]); (try simp only [Int.toNat_natCast]); exact cut_rest (by omega)))); conv => whnf))
        refine eql_go4 lr rfl qz ?_
        ((conv => whnf); repeat ((first | refine ⟨_, resSlot_all rfl lr (by decide), ?_⟩ | refine ⟨_, resSlot_app rfl lr (by decide), ?_⟩ | refine ⟨_, app_nil4 rfl cr (by decide), ?_⟩ | refine ⟨_, cl, ?_⟩ | refine ⟨_, cm, ?_⟩ | refine ⟨_, cs, ?_⟩ | refine ⟨_, cr, ?_⟩ | ((with_reducible refine isN_EG4 39 ?_); first | refine ⟨_, g4_read hN rfl, ?_⟩ | refine ⟨_, g4_read hM rfl, ?_⟩) | ((with_reducible refine isN_EG4 11 ?_); refine ⟨_, f1, ?_⟩) | refine ⟨_, rfl, ?_⟩ | refine ⟨by decide, ?_⟩ | refine ⟨rfl, ?_⟩ | refine ⟨fun _ => ?_, fun h => absurd h (by decide)⟩ | refine ⟨fun h => absurd h (by decide), fun _ => ?_⟩ | refine ⟨inI_of (by omega), ?_⟩ | refine ⟨⟨rfl, inI_of (by omega)⟩, ?_⟩ | refine ⟨⟨rfl, by decide⟩, ?_⟩ | (apply Exists.intro; refine ⟨?_, ?_⟩; ((try simp only); (try simp only [Nat.zero_add]); (try simp only [Nat.mul_one]); (try simp only [Int.toNat_natCast]); exact at_g (by omega))) | (apply Exists.intro; refine ⟨?_, ?_⟩; ((try simp only); (try simp only [Nat.zero_add]); (try simp only [Nat.mul_one]); (try simp only [Int.toNat_natCast]); exact put_flat (by omega))) | refine ⟨_, cut_all (by omega), ?_⟩ | refine ⟨_, lay_all (by omega) (by omega), ?_⟩ | refine ⟨_, lay_all (by (try simp only); (try simp only [List.length_replicate]); (try simp only [List.length_cons]); (try simp only [List.length_nil]); omega) (by omega), ?_⟩ | refine ⟨by omega, ?_⟩ | refine ⟨len_flat (by omega), ?_⟩ | refine ⟨apart_uv _ _ _, ?_⟩ | refine ⟨_, resSlot_own rfl (by omega) (by first | exact .inl rfl | exact .inr ⟨rfl, rfl⟩), ?_⟩ | refine ⟨(by kernel_rfl : regB _ = true), ?_⟩ | refine ⟨⟨rfl, inI_of (by omega), by decide⟩, ?_⟩ | (apply Exists.intro; refine ⟨?_, ?_⟩; ((try simp only); (try simp only [Nat.zero_add]); (try simp only [Nat.mul_one]); (try simp only [Int.toNat_natCast]); exact at_drop_g (by omega))) | (apply Exists.intro; refine ⟨?_, ?_⟩; ((try simp only); (try simp only [Nat.zero_add]); (try simp only [Nat.mul_one]); (try simp only [Int.toNat_natCast]); exact cut_rest (by omega)))); conv => whnf))
        rfl
    · rw [if_neg (fun e => h' e.2)]
      have q2 : (!((M : Int) == 32)) = true := by
        rw [Bool.not_eq_true', beq_eq_false_iff_ne]
        omega
      ((conv => whnf); repeat ((first | refine ⟨fun _ => ?_, fun h => absurd ((q1).symm.trans h) (by decide)⟩ | refine ⟨fun h => absurd ((q1).symm.trans h) (by decide), fun _ => ?_⟩ | refine ⟨fun _ => ?_, fun h => absurd ((q2).symm.trans h) (by decide)⟩ | refine ⟨fun h => absurd ((q2).symm.trans h) (by decide), fun _ => ?_⟩ | refine ⟨_, rfl, ?_⟩ | refine ⟨by decide, ?_⟩ | refine ⟨rfl, ?_⟩ | refine ⟨fun _ => ?_, fun h => absurd h (by decide)⟩ | refine ⟨fun h => absurd h (by decide), fun _ => ?_⟩ | refine ⟨inI_of (by omega), ?_⟩ | refine ⟨⟨rfl, inI_of (by omega)⟩, ?_⟩ | refine ⟨⟨rfl, by decide⟩, ?_⟩ | (apply Exists.intro; refine ⟨?_, ?_⟩; ((try simp only); (try simp only [Nat.zero_add]); (try simp only [Nat.mul_one]); (try simp only [Int.toNat_natCast]); exact at_g (by omega))) | (apply Exists.intro; refine ⟨?_, ?_⟩; ((try simp only); (try simp only [Nat.zero_add]); (try simp only [Nat.mul_one]); (try simp only [Int.toNat_natCast]); exact put_flat (by omega))) | refine ⟨_, cut_all (by omega), ?_⟩ | refine ⟨_, lay_all (by omega) (by omega), ?_⟩ | refine ⟨_, lay_all (by (try simp only); (try simp only [List.length_replicate]); (try simp only [List.length_cons]); (try simp only [List.length_nil]); omega) (by omega), ?_⟩ | refine ⟨by omega, ?_⟩ | refine ⟨len_flat (by omega), ?_⟩ | refine ⟨apart_uv _ _ _, ?_⟩ | refine ⟨_, resSlot_own rfl (by omega) (by first | exact .inl rfl | exact .inr ⟨rfl, rfl⟩), ?_⟩ | refine ⟨(by kernel_rfl : regB _ = true), ?_⟩ | refine ⟨⟨rfl, inI_of (by omega), by decide⟩, ?_⟩ | (apply Exists.intro; refine ⟨?_, ?_⟩; ((try simp only); (try simp only [Nat.zero_add]); (try simp only [Nat.mul_one]); (try simp only [Int.toNat_natCast]); exact at_drop_g (by omega))) | (apply Exists.intro; refine ⟨?_, ?_⟩; ((try simp only); (try simp only [Nat.zero_add]); (try simp only [Nat.mul_one]); (try simp only [Int.toNat_natCast]); exact cut_rest (by omega)))); conv => whnf))
      rfl
  · rw [if_neg (fun e => h e.1)]
    have q : (!((N : Int) == 32)) = true := by
      rw [Bool.not_eq_true', beq_eq_false_iff_ne]
      omega
    ((conv => whnf); repeat ((first | refine ⟨fun _ => ?_, fun h => absurd ((q).symm.trans h) (by decide)⟩ | refine ⟨fun h => absurd ((q).symm.trans h) (by decide), fun _ => ?_⟩ | refine ⟨_, rfl, ?_⟩ | refine ⟨by decide, ?_⟩ | refine ⟨rfl, ?_⟩ | refine ⟨fun _ => ?_, fun h => absurd h (by decide)⟩ | refine ⟨fun h => absurd h (by decide), fun _ => ?_⟩ | refine ⟨inI_of (by omega), ?_⟩ | refine ⟨⟨rfl, inI_of (by omega)⟩, ?_⟩ | refine ⟨⟨rfl, by decide⟩, ?_⟩ | (apply Exists.intro; refine ⟨?_, ?_⟩; ((try simp only); (try simp only [Nat.zero_add]); (try simp only [Nat.mul_one]); (try simp only [Int.toNat_natCast]); exact at_g (by omega))) | (apply Exists.intro; refine ⟨?_, ?_⟩; ((try simp only); (try simp only [Nat.zero_add]); (try simp only [Nat.mul_one]); (try simp only [Int.toNat_natCast]); exact put_flat (by omega))) | refine ⟨_, cut_all (by omega), ?_⟩ | refine ⟨_, lay_all (by omega) (by omega), ?_⟩ | refine ⟨_, lay_all (by (try simp only); (try simp only [List.length_replicate]); (try simp only [List.length_cons]); (try simp only [List.length_nil]); omega) (by omega), ?_⟩ | refine ⟨by omega, ?_⟩ | refine ⟨len_flat (by omega), ?_⟩ | refine ⟨apart_uv _ _ _, ?_⟩ | refine ⟨_, resSlot_own rfl (by omega) (by first | exact .inl rfl | exact .inr ⟨rfl, rfl⟩), ?_⟩ | refine ⟨(by kernel_rfl : regB _ = true), ?_⟩ | refine ⟨⟨rfl, inI_of (by omega), by decide⟩, ?_⟩ | (apply Exists.intro; refine ⟨?_, ?_⟩; ((try simp only); (try simp only [Nat.zero_add]); (try simp only [Nat.mul_one]); (try simp only [Int.toNat_natCast]); exact at_drop_g (by omega))) | (apply Exists.intro; refine ⟨?_, ?_⟩; ((try simp only); (try simp only [Nat.zero_add]); (try simp only [Nat.mul_one]); (try simp only [Int.toNat_natCast]); exact cut_rest (by omega)))); conv => whnf))
    rfl
set_option maxRecDepth 100000 in
set_option maxHeartbeats 8000000 in
theorem rShared_exec (N M : Nat) (c d : Option Nat) (l m : List Int) (hN : l.length = N) (hM : m.length = M) (hb : By l) (hc : By m) : execF EG4 Try.f20 [.im 1 N c (.flat .u8 l), .im 1 M d (.flat .u8 m)] (shaR 5 N M l m) := by
  unfold shaR
  by_cases h : N = 32
  · subst h
    have q1 : (!(((32 : Nat) : Int) == 32)) = false := rfl
    by_cases h' : M = 32
    · subst h'
      rw [if_pos ⟨rfl, rfl⟩]
      have hF : isF l = true := isF_of hN hb
      have hG : isF m = true := isF_of hM hc
      have f1 := o_rMult (nb32_lt hF) (nb32_lt hG)
      rw [F, F, ← isF_eq hF, ← isF_eq hG] at f1
      obtain ⟨r, hr⟩ : ∃ r, r = by32 (x25 (nb l) (nb m)) := ⟨_, rfl⟩
      have lr : r.length = 32 := by rw [hr, byk_len]
      have cr : (Cont.flat .u8 r).cut 0 (32 * 1) = some (.flat .u8 r) := cut_all lr
      have cs : (Cont.flat .u8 r).cut 0 32 = some (.flat .u8 r) := cut_all lr
      have cl : (Cont.flat .u8 l).cut 0 32 = some (.flat .u8 l) := cut_all hN
      have cm : (Cont.flat .u8 m).cut 0 32 = some (.flat .u8 m) := cut_all hM
      have qz := x25_q l m
      rw [F, ← hr] at f1
      rw [← hr] at qz
      rw [← hr]
      clear hF hG hb hc hr
      by_cases hz : x25 (nb l) (nb m) = 0
      · rw [if_pos hz]
        rw [decide_eq_true hz] at qz
        clear hz
        ((conv => whnf); repeat ((first | refine ⟨fun _ => ?_, fun h => absurd ((q1).symm.trans h) (by decide)⟩ | refine ⟨fun h => absurd ((q1).symm.trans h) (by decide), fun _ => ?_⟩ | refine ⟨_, resSlot_all rfl lr (by decide), ?_⟩ | refine ⟨_, resSlot_app rfl lr (by decide), ?_⟩ | refine ⟨_, app_nil4 rfl cr (by decide), ?_⟩ | refine ⟨_, cl, ?_⟩ | refine ⟨_, cm, ?_⟩ | refine ⟨_, cs, ?_⟩ | refine ⟨_, cr, ?_⟩ | ((with_reducible refine isN_EG4 39 ?_); first | refine ⟨_, g4_read hN rfl, ?_⟩ | refine ⟨_, g4_read hM rfl, ?_⟩) | ((with_reducible refine isN_EG4 12 ?_); refine ⟨_, f1, ?_⟩) | refine ⟨_, rfl, ?_⟩ | refine ⟨by decide, ?_⟩ | refine ⟨rfl, ?_⟩ | refine ⟨fun _ => ?_, fun h => absurd h (by decide)⟩ | refine ⟨fun h => absurd h (by decide), fun _ => ?_⟩ | refine ⟨inI_of (by omega), ?_⟩ | refine ⟨⟨rfl, inI_of (by omega)⟩, ?_⟩ | refine ⟨⟨rfl, by decide⟩, ?_⟩ | (apply Exists.intro; refine ⟨?_, ?_⟩; ((try simp only); (try simp only [Nat.zero_add]); (try simp only [Nat.mul_one]); (try simp only [Int.toNat_natCast]); exact at_g (by omega))) | (apply Exists.intro; refine ⟨?_, ?_⟩; ((try simp only); (try simp only [Nat.zero_add]); (try simp only [Nat.mul_one]); (try simp only [Int.toNat_natCast]); exact put_flat (by omega))) | refine ⟨_, cut_all (by omega), ?_⟩ | refine ⟨_, lay_all (by omega) (by omega), ?_⟩ | refine ⟨_, lay_all (by (try simp only); (try simp only [List.length_replicate]); (try simp only [List.length_cons]); (try simp only [List.length_nil]); omega) (by omega), ?_⟩ | refine ⟨by omega, ?_⟩ | refine ⟨len_flat (by omega), ?_⟩ | refine ⟨apart_uv _ _ _, ?_⟩ | refine ⟨_, resSlot_own rfl (by omega) (by first | exact .inl rfl | exact .inr ⟨rfl, rfl⟩), ?_⟩ | refine ⟨(by kernel_rfl : regB _ = true), ?_⟩ | refine ⟨⟨rfl, inI_of (by omega), by decide⟩, ?_⟩ | (apply Exists.intro; refine ⟨?_, ?_⟩; ((try simp only); (try simp only [Nat.zero_add]); (try simp only [Nat.mul_one]); (try simp only [Int.toNat_natCast]); exact at_drop_g (by omega))) | (apply Exists.intro; refine ⟨?_, ?_⟩; ((try simp only); (try simp only [Nat.zero_add]); (try simp only [Nat.mul_one]); (try simp only [Int.toNat_natCast]); exact cut_rest (by omega)))); conv => whnf))
        refine eql_go4 lr rfl qz ?_
        ((conv => whnf); repeat ((first | refine ⟨_, resSlot_all rfl lr (by decide), ?_⟩ | refine ⟨_, resSlot_app rfl lr (by decide), ?_⟩ | refine ⟨_, app_nil4 rfl cr (by decide), ?_⟩ | refine ⟨_, cl, ?_⟩ | refine ⟨_, cm, ?_⟩ | refine ⟨_, cs, ?_⟩ | refine ⟨_, cr, ?_⟩ | ((with_reducible refine isN_EG4 39 ?_); first | refine ⟨_, g4_read hN rfl, ?_⟩ | refine ⟨_, g4_read hM rfl, ?_⟩) | ((with_reducible refine isN_EG4 12 ?_); refine ⟨_, f1, ?_⟩) | refine ⟨_, rfl, ?_⟩ | refine ⟨by decide, ?_⟩ | refine ⟨rfl, ?_⟩ | refine ⟨fun _ => ?_, fun h => absurd h (by decide)⟩ | refine ⟨fun h => absurd h (by decide), fun _ => ?_⟩ | refine ⟨inI_of (by omega), ?_⟩ | refine ⟨⟨rfl, inI_of (by omega)⟩, ?_⟩ | refine ⟨⟨rfl, by decide⟩, ?_⟩ | (apply Exists.intro; refine ⟨?_, ?_⟩; ((try simp only); (try simp only [Nat.zero_add]); (try simp only [Nat.mul_one]); (try simp only [Int.toNat_natCast]); exact at_g (by omega))) | (apply Exists.intro; refine ⟨?_, ?_⟩; ((try simp only); (try simp only [Nat.zero_add]); (try simp only [Nat.mul_one]); (try simp only [Int.toNat_natCast]); exact put_flat (by omega))) | refine ⟨_, cut_all (by omega), ?_⟩ | refine ⟨_, lay_all (by omega) (by omega), ?_⟩ | refine ⟨_, lay_all (by (try simp only); (try simp only [List.length_replicate]); (try simp only [List.length_cons]); (try simp only [List.length_nil]); omega) (by omega), ?_⟩ | refine ⟨by omega, ?_⟩ | refine ⟨len_flat (by omega), ?_⟩ | refine ⟨apart_uv _ _ _, ?_⟩ | refine ⟨_, resSlot_own rfl (by omega) (by first | exact .inl rfl | exact .inr ⟨rfl, rfl⟩), ?_⟩ | refine ⟨(by kernel_rfl : regB _ = true), ?_⟩ | refine ⟨⟨rfl, inI_of (by omega), by decide⟩, ?_⟩ | (apply Exists.intro; refine ⟨?_, ?_⟩; ((try simp only); (try simp only [Nat.zero_add]); (try simp only [Nat.mul_one]); (try simp only [Int.toNat_natCast]); exact at_drop_g (by omega))) | (apply Exists.intro; refine ⟨?_, ?_⟩; ((try simp only); (try simp only [Nat.zero_add]); (try simp only [Nat.mul_one]); (try simp only [Int.toNat_natCast]); exact cut_rest (by omega)))); conv => whnf))
        rfl
      · rw [if_neg hz]
        rw [decide_eq_false hz] at qz
        clear hz
        ((conv => whnf); repeat ((first | refine ⟨fun _ => ?_, fun h => absurd ((q1).symm.trans h) (by decide)⟩ | refine ⟨fun h => absurd ((q1).symm.trans h) (by decide), fun _ => ?_⟩ | refine ⟨_, resSlot_all rfl lr (by decide), ?_⟩ | refine ⟨_, resSlot_app rfl lr (by decide), ?_⟩ | refine ⟨_, app_nil4 rfl cr (by decide), ?_⟩ | refine ⟨_, cl, ?_⟩ | refine ⟨_, cm, ?_⟩ | refine ⟨_, cs, ?_⟩ | refine ⟨_, cr, ?_⟩ | ((with_reducible refine isN_EG4 39 ?_); first | refine ⟨_, g4_read hN rfl, ?_⟩ | refine ⟨_, g4_read hM rfl, ?_⟩) | ((with_reducible refine isN_EG4 12 ?_); refine ⟨_, f1, ?_⟩) | refine ⟨_, rfl, ?_⟩ | refine ⟨by decide, ?_⟩ | refine ⟨rfl, ?_⟩ | refine ⟨fun _ => ?_, fun h => absurd h (by decide)⟩ | refine ⟨fun h => absurd h (by decide), fun _ => ?_⟩ | refine ⟨inI_of (by omega), ?_⟩ | refine ⟨⟨rfl, inI_of (by omega)⟩, ?_⟩ | refine ⟨⟨rfl, by decide⟩, ?_⟩ | (apply Exists.intro; refine ⟨?_, ?_⟩; ((try simp only); (try simp only [Nat.zero_add]); (try simp only [Nat.mul_one]); (try simp only [Int.toNat_natCast]); exact at_g (by omega))) | (apply Exists.intro; refine ⟨?_, ?_⟩; ((try simp only); (try simp only [Nat.zero_add]); (try simp only [Nat.mul_one]); (try simp only [Int.toNat_natCast]); exact put_flat (by omega))) | refine ⟨_, cut_all (by omega), ?_⟩ | refine ⟨_, lay_all (by omega) (by omega), ?_⟩ | refine ⟨_, lay_all (by (try simp only); (try simp only [List.length_replicate]); (try simp only [List.length_cons]); (try simp only [List.length_nil]); omega) (by omega), ?_⟩ | refine ⟨by omega, ?_⟩ | refine ⟨len_flat (by omega), ?_⟩ | refine ⟨apart_uv _ _ _, ?_⟩ | refine ⟨_, resSlot_own rfl (by omega) (by first | exact .inl rfl | exact .inr ⟨rfl, rfl⟩), ?_⟩ | refine ⟨(by kernel_rfl : regB _ = true), ?_⟩ | refine ⟨⟨rfl, inI_of (by omega), by decide⟩, ?_⟩ | (apply Exists.intro; refine ⟨?_, ?_⟩; ((try simp only); (try simp only [Nat.zero_add]); (try simp only [Nat.mul_one]); (try simp only [Int.toNat_natCast]); exact at_drop_g (by omega))) | (apply Exists.intro; refine ⟨?_, ?_⟩; ((try simp only); (try simp only [Nat.zero_add]); (try simp only [Nat.mul_one]); (try simp only [Int.toNat_natCast]); exact cut_rest (by omega)))); conv => whnf))
        refine eql_go4 lr rfl qz ?_
        ((conv => whnf); repeat ((first | refine ⟨_, resSlot_all rfl lr (by decide), ?_⟩ | refine ⟨_, resSlot_app rfl lr (by decide), ?_⟩ | refine ⟨_, app_nil4 rfl cr (by decide), ?_⟩ | refine ⟨_, cl, ?_⟩ | refine ⟨_, cm, ?_⟩ | refine ⟨_, cs, ?_⟩ | refine ⟨_, cr, ?_⟩ | ((with_reducible refine isN_EG4 39 ?_); first | refine ⟨_, g4_read hN rfl, ?_⟩ | refine ⟨_, g4_read hM rfl, ?_⟩) | ((with_reducible refine isN_EG4 12 ?_); refine ⟨_, f1, ?_⟩) | refine ⟨_, rfl, ?_⟩ | refine ⟨by decide, ?_⟩ | refine ⟨rfl, ?_⟩ | refine ⟨fun _ => ?_, fun h => absurd h (by decide)⟩ | refine ⟨fun h => absurd h (by decide), fun _ => ?_⟩ | refine ⟨inI_of (by omega), ?_⟩ | refine ⟨⟨rfl, inI_of (by omega)⟩, ?_⟩ | refine ⟨⟨rfl, by decide⟩, ?_⟩ | (apply Exists.intro; refine ⟨?_, ?_⟩; ((try simp only); (try simp only [Nat.zero_add]); (try simp only [Nat.mul_one]); (try simp only [Int.toNat_natCast]); exact at_g (by omega))) | (apply Exists.intro; refine ⟨?_, ?_⟩; ((try simp only); (try simp only [Nat.zero_add]); (try simp only [Nat.mul_one]); (try simp only [Int.toNat_natCast]); exact put_flat (by omega))) | refine ⟨_, cut_all (by omega), ?_⟩ | refine ⟨_, lay_all (by omega) (by omega), ?_⟩ | refine ⟨_, lay_all (by (try simp only); (try simp only [List.length_replicate]); (try simp only [List.length_cons]); (try simp only [List.length_nil]); omega) (by omega), ?_⟩ | refine ⟨by omega, ?_⟩ | refine ⟨len_flat (by omega), ?_⟩ | refine ⟨apart_uv _ _ _, ?_⟩ | refine ⟨_, resSlot_own rfl (by omega) (by first | exact .inl rfl | exact .inr ⟨rfl, rfl⟩), ?_⟩ | refine ⟨(by kernel_rfl : regB _ = true), ?_⟩ | refine ⟨⟨rfl, inI_of (by omega), by decide⟩, ?_⟩ | (apply Exists.intro; refine ⟨?_, ?_⟩; ((try simp only); (try simp only [Nat.zero_add]); (try simp only [Nat.mul_one]); (try simp only [Int.toNat_natCast]); exact at_drop_g (by omega))) | (apply Exists.intro; refine ⟨?_, ?_⟩; ((try simp only); (try simp only [Nat.zero_add]); (try simp only [Nat.mul_one]); (try simp only [Int.toNat_natCast]); exact cut_rest (by omega)))); conv => whnf))
        rfl
    · rw [if_neg (fun e => h' e.2)]
      have q2 : (!((M : Int) == 32)) = true := by
        rw [Bool.not_eq_true', beq_eq_false_iff_ne]
        omega
      ((conv => whnf); repeat ((first | refine ⟨fun _ => ?_, fun h => absurd ((q1).symm.trans h) (by decide)⟩ | refine ⟨fun h => absurd ((q1).symm.trans h) (by decide), fun _ => ?_⟩ | refine ⟨fun _ => ?_, fun h => absurd ((q2).symm.trans h) (by decide)⟩ | refine ⟨fun h => absurd ((q2).symm.trans h) (by decide), fun _ => ?_⟩ | refine ⟨_, rfl, ?_⟩ | refine ⟨by decide, ?_⟩ | refine ⟨rfl, ?_⟩ | refine ⟨fun _ => ?_, fun h => absurd h (by decide)⟩ | refine ⟨fun h => absurd h (by decide), fun _ => ?_⟩ | refine ⟨inI_of (by omega), ?_⟩ | refine ⟨⟨rfl, inI_of (by omega)⟩, ?_⟩ | refine ⟨⟨rfl, by decide⟩, ?_⟩ | (apply Exists.intro; refine ⟨?_, ?_⟩; ((try simp only); (try simp only [Nat.zero_add]); (try simp only [Nat.mul_one]); (try simp only [Int.toNat_natCast]); exact at_g (by omega))) | (apply Exists.intro; refine ⟨?_, ?_⟩; ((try simp only); (try simp only [Nat.zero_add]); (try simp only [Nat.mul_one]); (try simp only [Int.toNat_natCast]); exact put_flat (by omega))) | refine ⟨_, cut_all (by omega), ?_⟩ | refine ⟨_, lay_all (by omega) (by omega), ?_⟩ | refine ⟨_, lay_all (by (try simp only); (try simp only [List.length_replicate]); (try simp only [List.length_cons]); (try simp only [List.length_nil]); omega) (by omega), ?_⟩ | refine ⟨by omega, ?_⟩ | refine ⟨len_flat (by omega), ?_⟩ | refine ⟨apart_uv _ _ _, ?_⟩ | refine ⟨_, resSlot_own rfl (by omega) (by first | exact .inl rfl | exact .inr ⟨rfl, rfl⟩), ?_⟩ | refine ⟨(by kernel_rfl : regB _ = true), ?_⟩ | refine ⟨⟨rfl, inI_of (by omega), by decide⟩, ?_⟩ | (apply Exists.intro; refine ⟨?_, ?_⟩; ((try simp only); (try simp only [Nat.zero_add]); (try simp only [Nat.mul_one]); (try simp only [Int.toNat_natCast]); exact at_drop_g (by omega))) | (apply Exists.intro; refine ⟨?_, ?_⟩; ((try simp only); (try simp only [Nat.zero_add]); (try simp only [Nat.mul_one]); (try simp only [Int.toNat_natCast]); exact cut_rest (by omega)))); conv => whnf))
      rfl
  · rw [if_neg (fun e => h e.1)]
    have q : (!((N : Int) == 32)) = true := by
      rw [Bool.not_eq_true', beq_eq_false_iff_ne]
      omega
    ((conv => whnf); repeat ((first | refine ⟨fun _ => ?_, fun h => absurd ((q).symm.trans h) (by decide)⟩ | refine ⟨fun h => absurd ((q).symm.trans h) (by decide), fun _ => ?_⟩ | refine ⟨_, rfl, ?_⟩ | refine ⟨by decide, ?_⟩ | refine ⟨rfl, ?_⟩ | refine ⟨fun _ => ?_, fun h => absurd h (by decide)⟩ | refine ⟨fun h => absurd h (by decide), fun _ => ?_⟩ | refine ⟨inI_of (by omega), ?_⟩ | refine ⟨⟨rfl, inI_of (by omega)⟩, ?_⟩ | refine ⟨⟨rfl, by decide⟩, ?_⟩ | (apply Exists.intro; refine ⟨?_, ?_⟩; ((try simp only); (try simp only [Nat.zero_add]); (try simp only [Nat.mul_one]); (try simp only [Int.toNat_natCast]); exact at_g (by omega))) | (apply Exists.intro; refine ⟨?_, ?_⟩; ((try simp only); (try simp only [Nat.zero_add]); (try simp only [Nat.mul_one]); (try simp only [Int.toNat_natCast]); exact put_flat (by omega))) | refine ⟨_, cut_all (by omega), ?_⟩ | refine ⟨_, lay_all (by omega) (by omega), ?_⟩ | refine ⟨_, lay_all (by (try simp only); (try simp only [List.length_replicate]); (try simp only [List.length_cons]); (try simp only [List.length_nil]); omega) (by omega), ?_⟩ | refine ⟨by omega, ?_⟩ | refine ⟨len_flat (by omega), ?_⟩ | refine ⟨apart_uv _ _ _, ?_⟩ | refine ⟨_, resSlot_own rfl (by omega) (by first | exact .inl rfl | exact .inr ⟨rfl, rfl⟩), ?_⟩ | refine ⟨(by kernel_rfl : regB _ = true), ?_⟩ | refine ⟨⟨rfl, inI_of (by omega), by decide⟩, ?_⟩ | (apply Exists.intro; refine ⟨?_, ?_⟩; ((try simp only); (try simp only [Nat.zero_add]); (try simp only [Nat.mul_one]); (try simp only [Int.toNat_natCast]); exact at_drop_g (by omega))) | (apply Exists.intro; refine ⟨?_, ?_⟩; ((try simp only); (try simp only [Nat.zero_add]); (try simp only [Nat.mul_one]); (try simp only [Int.toNat_natCast]); exact cut_rest (by omega)))); conv => whnf))
    rfl
end Go.Proofs.Ytkennahakodfnaa
