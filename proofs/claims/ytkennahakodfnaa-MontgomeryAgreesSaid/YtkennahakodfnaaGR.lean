/-
  Layer 9: the laws' table; MontgomeryMults, MontgomeryBytes.
-/
import Derived.Test.YtkennahakodfnaaGQ
namespace Go.Proofs.Ytkennahakodfnaa
open Go.RowKit

theorem pPublic_call {N : Nat} {c : Option Nat} {l : List Int} (hN : l.length = N) (hb : byteOk l = true) : CallOk Try.prog 22 [.im 1 N c (.flat .u8 l)] (pubR 23 N l) := execF_ok follows_ok EG4_ok Try.func22 (pPublic_exec N c l hN (byteAll hb))
theorem rPublic_call {N : Nat} {c : Option Nat} {l : List Int} (hN : l.length = N) (hb : byteOk l = true) : CallOk Try.prog 23 [.im 1 N c (.flat .u8 l)] (pubR 5 N l) := execF_ok follows_ok EG4_ok Try.func23 (rPublic_exec N c l hN (byteAll hb))
theorem pShared_call {N M : Nat} {c d : Option Nat} {l m : List Int} (hN : l.length = N) (hM : m.length = M) (hb : byteOk l = true) (hc : byteOk m = true) : CallOk Try.prog 19 [.im 1 N c (.flat .u8 l), .im 1 M d (.flat .u8 m)] (shaR 23 N M l m) := execF_ok follows_ok EG4_ok Try.func19 (pShared_exec N M c d l m hN hM (byteAll hb) (byteAll hc))
theorem rShared_call {N M : Nat} {c d : Option Nat} {l m : List Int} (hN : l.length = N) (hM : m.length = M) (hb : byteOk l = true) (hc : byteOk m = true) : CallOk Try.prog 20 [.im 1 N c (.flat .u8 l), .im 1 M d (.flat .u8 m)] (shaR 5 N M l m) := execF_ok follows_ok EG4_ok Try.func20 (rShared_exec N M c d l m hN hM (byteAll hb) (byteAll hc))
theorem rSub9_call (a b : Nat) (ha : a < 2 ^ 256) (hb : b < 2 ^ 256) : CallOk Try.prog 17 [F a, F b] (ret1 (F (nS a b))) := rSub_call a b ha hb
theorem rSub9_row {a b : List Int} (hc : isF a = true ∧ isF b = true) : CallOk Try.prog 17 [.agg (.flat .u8 a), .agg (.flat .u8 b)] (ret1 (F (nS (nb a) (nb b)))) := by
  obtain ⟨h0, h1⟩ := hc
  have e0 := isF_eq h0
  have l0 := nb32_lt h0
  clear h0
  generalize nb a = n0 at *
  subst e0
  have e1 := isF_eq h1
  have l1 := nb32_lt h1
  clear h1
  generalize nb b = n1 at *
  subst e1
  exact rSub9_call n0 n1 l0 l1 
def orcGs (f : Nat) (ds : List LV) : Option LRes :=
  match f with
  | 17 => match ds with
    | [.agg (.flat .u8 a), .agg (.flat .u8 b)] => if isF a = true ∧ isF b = true then some (ret1 (F (nS (nb a) (nb b)))) else none
    | _ => none
  | _ => orcG4 f ds
theorem orcGs_ok : Known Try.prog orcGs := by
  intro f ds r h
  unfold orcGs at h
  split at h
  · split at h
    · split at h
      · rename_i hc
        cases h
        exact .inl ⟨⟨_, Try.func17, name_ne _ (by kernel_rfl), rfl⟩, rSub9_row hc⟩
      · cases h
    · cases h
  · exact orcG4_ok f ds r h
def EGs : Env := ⟨tyL, orcGs, false, noWk, noOrw⟩
theorem EGs_ok : EnvOk Try.prog EGs := ⟨tyL_ok, orcGs_ok, noOrw_ok⟩
theorem is_EGs {f : Nat} {ds : List LV} {K : LRes → Prop} (h : ∃ y, EGs.orc f ds = some y ∧ K y) : ∃ y, EGs.orc f ds = some y ∧ K y := h
set_option maxRecDepth 100000 in
theorem o_rSub9 {a b : Nat} (ha : a < 2 ^ 256) (hb : b < 2 ^ 256) : EGs.orc 17 [F a, F b] = some (ret1 (F (nS a b))) :=
  (if_pos ⟨isF_by _, isF_by _⟩).trans (by rw [nb_by32 ha, nb_by32 hb])
def orcG5 (f : Nat) (ds : List LV) : Option LRes :=
  match f with
  | 22 => match ds with
    | [.im 1 n _ (.flat .u8 l)] => if l.length = n ∧ byteOk l = true then some (pubR 23 n l) else none
    | _ => none
  | 23 => match ds with
    | [.im 1 n _ (.flat .u8 l)] => if l.length = n ∧ byteOk l = true then some (pubR 5 n l) else none
    | _ => none
  | 19 => match ds with
    | [.im 1 n _ (.flat .u8 l), .im 1 k _ (.flat .u8 m)] => if (l.length = n ∧ m.length = k) ∧ byteOk l = true ∧ byteOk m = true then some (shaR 23 n k l m) else none
    | _ => none
  | 20 => match ds with
    | [.im 1 n _ (.flat .u8 l), .im 1 k _ (.flat .u8 m)] => if (l.length = n ∧ m.length = k) ∧ byteOk l = true ∧ byteOk m = true then some (shaR 5 n k l m) else none
    | _ => none
  | _ => orcGs f ds
theorem orcG5_ok : Known Try.prog orcG5 := by
  intro f ds r h
  unfold orcG5 at h
  split at h
  · split at h
    · split at h
      · rename_i hc
        cases h
        exact .inl ⟨⟨_, Try.func22, name_ne _ (by kernel_rfl), rfl⟩, pPublic_call hc.1 hc.2⟩
      · cases h
    · cases h
  · split at h
    · split at h
      · rename_i hc
        cases h
        exact .inl ⟨⟨_, Try.func23, name_ne _ (by kernel_rfl), rfl⟩, rPublic_call hc.1 hc.2⟩
      · cases h
    · cases h
  · split at h
    · split at h
      · rename_i hc
        cases h
        exact .inl ⟨⟨_, Try.func19, name_ne _ (by kernel_rfl), rfl⟩, pShared_call hc.1.1 hc.1.2 hc.2.1 hc.2.2⟩
      · cases h
    · cases h
  · split at h
    · split at h
      · rename_i hc
        cases h
        exact .inl ⟨⟨_, Try.func20, name_ne _ (by kernel_rfl), rfl⟩, rShared_call hc.1.1 hc.1.2 hc.2.1 hc.2.2⟩
      · cases h
    · cases h
  · exact orcGs_ok f ds r h
def EG5 : Env := ⟨tyL, orcG5, false, noWk, noOrw⟩
theorem EG5_ok : EnvOk Try.prog EG5 := ⟨tyL_ok, orcG5_ok, noOrw_ok⟩
theorem isN_EG5 (f : Nat) {ds : List LV} {K : LRes → Prop} (h : ∃ y, EG5.orc f ds = some y ∧ K y) : ∃ y, EG5.orc f ds = some y ∧ K y := h
set_option maxRecDepth 100000 in
theorem awake9_call : CallOk Try.prog 13 [] (ret1 (.v (.bool true))) := runF_ok follows_ok EG5_ok Try.func13 (fuel := 200) (by kernel_rfl)
def orcG6 (f : Nat) (ds : List LV) : Option LRes :=
  match f with
  | 13 => match ds with
    | [] => some (ret1 (.v (.bool true)))
    | _ => none
  | _ => orcG5 f ds
theorem orcG6_ok : Known Try.prog orcG6 := by
  intro f ds r h
  unfold orcG6 at h
  split at h
  · split at h
    · cases h
      exact .inl ⟨⟨_, Try.func13, name_ne _ (by kernel_rfl), rfl⟩, awake9_call⟩
    · cases h
  · exact orcG5_ok f ds r h
def EG6 : Env := ⟨tyL, orcG6, false, noWk, noOrw⟩
theorem EG6_ok : EnvOk Try.prog EG6 := ⟨tyL_ok, orcG6_ok, noOrw_ok⟩
theorem isN_EG6 (f : Nat) {ds : List LV} {K : LRes → Prop} (h : ∃ y, EG6.orc f ds = some y ∧ K y) : ∃ y, EG6.orc f ds = some y ∧ K y := h
theorem l9_awake : EG6.orc 13 [] = some (ret1 (.v (.bool true))) := rfl
theorem l9_pClamp {a : Nat} (ha : a < 2 ^ 256) : EG6.orc 9 [F a] = some (ret1 (F (clampN a))) := (show EG6.orc 9 [F a] = EG3.orc 9 [F a] from rfl).trans (o_pClamp ha)
theorem l9_rClamp {a : Nat} (ha : a < 2 ^ 256) : EG6.orc 10 [F a] = some (ret1 (F (clampN a))) := (show EG6.orc 10 [F a] = EG3.orc 10 [F a] from rfl).trans (o_rClamp ha)
theorem l9_pReduce {a : Nat} (ha : a < 2 ^ 256) : EG6.orc 24 [F a] = some (ret1 (F (a % pP))) := (show EG6.orc 24 [F a] = EG3.orc 24 [F a] from rfl).trans (q3_Reduce ha)
theorem l9_pCanonical {a : Nat} (ha : a < 2 ^ 256) : EG6.orc 25 [F a] = some (ret1 (.v (.bool (decide (a < pP))))) := (show EG6.orc 25 [F a] = EG0.orc 25 [F a] from rfl).trans (o_pCanonical ha)
theorem l9_rSub {a b : Nat} (ha : a < 2 ^ 256) (hb : b < 2 ^ 256) : EG6.orc 17 [F a, F b] = some (ret1 (F (nS a b))) := (show EG6.orc 17 [F a, F b] = EGs.orc 17 [F a, F b] from rfl).trans (o_rSub9 ha hb)
theorem l9_pMult {a b : Nat} (ha : a < 2 ^ 256) (hb : b < 2 ^ 256) : EG6.orc 11 [F a, F b] = some (ret1 (F (x25 a b))) := (show EG6.orc 11 [F a, F b] = EG4.orc 11 [F a, F b] from rfl).trans (o_pMult ha hb)
theorem l9_rMult {a b : Nat} (ha : a < 2 ^ 256) (hb : b < 2 ^ 256) : EG6.orc 12 [F a, F b] = some (ret1 (F (x25 a b))) := (show EG6.orc 12 [F a, F b] = EG4.orc 12 [F a, F b] from rfl).trans (o_rMult ha hb)
theorem l9_pPublic {N : Nat} {c : Option Nat} {l : List Int} (hN : l.length = N) (hb : By l) : EG6.orc 22 [.im 1 N c (.flat .u8 l)] = some (pubR 23 N l) := if_pos ⟨hN, hb.ok⟩
theorem l9_pShared {N K : Nat} {c d : Option Nat} {l m : List Int} (hN : l.length = N) (hK : m.length = K) (hb : By l) (hc : By m) : EG6.orc 19 [.im 1 N c (.flat .u8 l), .im 1 K d (.flat .u8 m)] = some (shaR 23 N K l m) := if_pos ⟨⟨hN, hK⟩, hb.ok, hc.ok⟩
theorem l9_rPublic {N : Nat} {c : Option Nat} {l : List Int} (hN : l.length = N) (hb : By l) : EG6.orc 23 [.im 1 N c (.flat .u8 l)] = some (pubR 5 N l) := if_pos ⟨hN, hb.ok⟩
theorem l9_rShared {N K : Nat} {c d : Option Nat} {l m : List Int} (hN : l.length = N) (hK : m.length = K) (hb : By l) (hc : By m) : EG6.orc 20 [.im 1 N c (.flat .u8 l), .im 1 K d (.flat .u8 m)] = some (shaR 5 N K l m) := if_pos ⟨⟨hN, hK⟩, hb.ok, hc.ok⟩
theorem l9_Seed (k : Int) : EG6.orc 14 [iv .i64 k] = some (.one (.own 1 32 5 (.flat .u8 (sdP k)))) := rfl
theorem l9_Mod (v n : Int) (h : 0 < n ∧ n < 9223372036854775808) : EG6.orc 18 [iv .i64 v, iv .i64 n] = some (ret1 (iv .i64 (v % n))) := if_pos h
theorem l9_Some {k : Int} {m : Nat} (h0 : m ≤ 100000 ∧ 0 < m) : EG6.orc 21 [iv .i64 k, iv .i64 (m : Nat)] = some (.one (.own 1 m 5 (.flat .u8 (smP k m)))) := if_pos h0
theorem eql_go6 {a b : List Int} {q : Bool} {K : LV × List (Nat × Blk) → Prop} (ha : a.length = 32) (hb : b.length = 32) (hq : (a == b) = q) (h : K (.v (.bool q), [])) : runs (opBin EG6 .eql 23 (.agg (.flat .u8 a)) (.agg (.flat .u8 b))) K := by
  have e : opBin EG6 .eql 23 (.agg (.flat .u8 a)) (.agg (.flat .u8 b)) = some (.v (.bool (a == b)), []) := if_pos ⟨rfl, ha, hb⟩
  rw [e, hq]
  exact h
theorem leq_self (l : List Int) : (l == l) = true := by simp
theorem ieq_self (l : Int) : (l == l) = true := by simp
set_option maxRecDepth 100000 in
set_option maxHeartbeats 8000000 in
theorem mults_gen (k u c r : List Int) (lk : k.length = 32) (lu : u.length = 32) (lc : c.length = 32) (lr : r.length = 32)
    (f0 : EG6.orc 9 [.agg (.flat .u8 k)] = some (ret1 (.agg (.flat .u8 c)))) (f1 : EG6.orc 10 [.agg (.flat .u8 k)] = some (ret1 (.agg (.flat .u8 c)))) (f2 : EG6.orc 11 [.agg (.flat .u8 k), .agg (.flat .u8 u)] = some (ret1 (.agg (.flat .u8 r)))) (f3 : EG6.orc 12 [.agg (.flat .u8 k), .agg (.flat .u8 u)] = some (ret1 (.agg (.flat .u8 r)))) :
    execF EG6 Try.f3 [.agg (.flat .u8 k), .agg (.flat .u8 u)] (ret1 (.v (.bool true))) := by
  have ck : (Cont.flat .u8 k).cut 0 32 = some (.flat .u8 k) := cut_all lk
  have cu : (Cont.flat .u8 u).cut 0 32 = some (.flat .u8 u) := cut_all lu
  ((conv => whnf); repeat ((first | refine ⟨_, ck, ?_⟩ | refine ⟨_, cu, ?_⟩ | ((with_reducible refine isN_EG6 9 ?_); first | refine ⟨_, f0, ?_⟩) | ((with_reducible refine isN_EG6 10 ?_); first | refine ⟨_, f1, ?_⟩) | ((with_reducible refine isN_EG6 11 ?_); first | refine ⟨_, f2, ?_⟩) | ((with_reducible refine isN_EG6 12 ?_); first | refine ⟨_, f3, ?_⟩) | ((with_reducible refine isN_EG6 13 ?_); first | refine ⟨_, l9_awake, ?_⟩) | refine ⟨_, rfl, ?_⟩ | refine ⟨by decide, ?_⟩ | refine ⟨rfl, ?_⟩ | refine ⟨fun _ => ?_, fun h => absurd h (by decide)⟩ | refine ⟨fun h => absurd h (by decide), fun _ => ?_⟩ | refine ⟨inI_of (by omega), ?_⟩ | refine ⟨⟨rfl, inI_of (by omega)⟩, ?_⟩ | refine ⟨⟨rfl, by decide⟩, ?_⟩ | (apply Exists.intro; refine ⟨?_, ?_⟩; ((try simp only); (try simp only [Nat.zero_add]); (try simp only [Nat.mul_one]); (try simp only [Int.toNat_natCast]); exact at_g (by omega))) | (apply Exists.intro; refine ⟨?_, ?_⟩; ((try simp only); (try simp only [Nat.zero_add]); (try simp only [Nat.mul_one]); (try simp only [Int.toNat_natCast]); exact put_flat (by omega))) | refine ⟨_, cut_all (by omega), ?_⟩ | refine ⟨_, lay_all (by omega) (by omega), ?_⟩ | refine ⟨_, lay_all (by (try simp only); (try simp only [List.length_replicate]); (try simp only [List.length_cons]); (try simp only [List.length_nil]); omega) (by omega), ?_⟩ | refine ⟨by omega, ?_⟩ | refine ⟨len_flat (by omega), ?_⟩ | refine ⟨apart_uv _ _ _, ?_⟩ | refine ⟨_, resSlot_own rfl (by omega) (by first | exact .inl rfl | exact .inr ⟨rfl, rfl⟩), ?_⟩ | refine ⟨(by kernel_rfl : regB _ = true), ?_⟩ | refine ⟨⟨rfl, inI_of (by omega), by decide⟩, ?_⟩ | (apply Exists.intro; refine ⟨?_, ?_⟩; ((try simp only); (try simp only [Nat.zero_add]); (try simp only [Nat.mul_one]); (try simp only [Int.toNat_natCast]); exact at_drop_g (by omega))) | (apply Exists.intro; refine ⟨?_, ?_⟩; ((try simp only); (try simp only [Nat.zero_add]); (try simp only [Nat.mul_one]); (try simp only [Int.toNat_natCast]); exact cut_rest (by omega)))); conv => whnf))
  refine eql_go6 lc lc (leq_self _) ?_
  ((conv => whnf); repeat ((first | refine ⟨_, ck, ?_⟩ | refine ⟨_, cu, ?_⟩ | ((with_reducible refine isN_EG6 9 ?_); first | refine ⟨_, f0, ?_⟩) | ((with_reducible refine isN_EG6 10 ?_); first | refine ⟨_, f1, ?_⟩) | ((with_reducible refine isN_EG6 11 ?_); first | refine ⟨_, f2, ?_⟩) | ((with_reducible refine isN_EG6 12 ?_); first | refine ⟨_, f3, ?_⟩) | ((with_reducible refine isN_EG6 13 ?_); first | refine ⟨_, l9_awake, ?_⟩) | refine ⟨_, rfl, ?_⟩ | refine ⟨by decide, ?_⟩ | refine ⟨rfl, ?_⟩ | refine ⟨fun _ => ?_, fun h => absurd h (by decide)⟩ | refine ⟨fun h => absurd h (by decide), fun _ => ?_⟩ | refine ⟨inI_of (by omega), ?_⟩ | refine ⟨⟨rfl, inI_of (by omega)⟩, ?_⟩ | refine ⟨⟨rfl, by decide⟩, ?_⟩ | (apply Exists.intro; refine ⟨?_, ?_⟩; ((try simp only); (try simp only [Nat.zero_add]); (try simp only [Nat.mul_one]); (try simp only [Int.toNat_natCast]); exact at_g (by omega))) | (apply Exists.intro; refine ⟨?_, ?_⟩; ((try simp only); (try simp only [Nat.zero_add]); (try simp only [Nat.mul_one]); (try simp only [Int.toNat_natCast]); exact put_flat (by omega))) | refine ⟨_, cut_all (by omega), ?_⟩ | refine ⟨_, lay_all (by omega) (by omega), ?_⟩ | refine ⟨_, lay_all (by (try simp only); (try simp only [List.length_replicate]); (try simp only [List.length_cons]); (try simp only [List.length_nil]); omega) (by omega), ?_⟩ | refine ⟨by omega, ?_⟩ | refine ⟨len_flat (by omega), ?_⟩ | refine ⟨apart_uv _ _ _, ?_⟩ | refine ⟨_, resSlot_own rfl (by omega) (by first | exact .inl rfl | exact .inr ⟨rfl, rfl⟩), ?_⟩ | refine ⟨(by kernel_rfl : regB _ = true), ?_⟩ | refine ⟨⟨rfl, inI_of (by omega), by decide⟩, ?_⟩ | (apply Exists.intro; refine ⟨?_, ?_⟩; ((try simp only); (try simp only [Nat.zero_add]); (try simp only [Nat.mul_one]); (try simp only [Int.toNat_natCast]); exact at_drop_g (by omega))) | (apply Exists.intro; refine ⟨?_, ?_⟩; ((try simp only); (try simp only [Nat.zero_add]); (try simp only [Nat.mul_one]); (try simp only [Int.toNat_natCast]); exact cut_rest (by omega)))); conv => whnf))
  refine eql_go6 lr lr (leq_self _) ?_
  ((conv => whnf); repeat ((first | refine ⟨_, ck, ?_⟩ | refine ⟨_, cu, ?_⟩ | ((with_reducible refine isN_EG6 9 ?_); first | refine ⟨_, f0, ?_⟩) | ((with_reducible refine isN_EG6 10 ?_); first | refine ⟨_, f1, ?_⟩) | ((with_reducible refine isN_EG6 11 ?_); first | refine ⟨_, f2, ?_⟩) | ((with_reducible refine isN_EG6 12 ?_); first | refine ⟨_, f3, ?_⟩) | ((with_reducible refine isN_EG6 13 ?_); first | refine ⟨_, l9_awake, ?_⟩) | refine ⟨_, rfl, ?_⟩ | refine ⟨by decide, ?_⟩ | refine ⟨rfl, ?_⟩ | refine ⟨fun _ => ?_, fun h => absurd h (by decide)⟩ | refine ⟨fun h => absurd h (by decide), fun _ => ?_⟩ | refine ⟨inI_of (by omega), ?_⟩ | refine ⟨⟨rfl, inI_of (by omega)⟩, ?_⟩ | refine ⟨⟨rfl, by decide⟩, ?_⟩ | (apply Exists.intro; refine ⟨?_, ?_⟩; ((try simp only); (try simp only [Nat.zero_add]); (try simp only [Nat.mul_one]); (try simp only [Int.toNat_natCast]); exact at_g (by omega))) | (apply Exists.intro; refine ⟨?_, ?_⟩; ((try simp only); (try simp only [Nat.zero_add]); (try simp only [Nat.mul_one]); (try simp only [Int.toNat_natCast]); exact put_flat (by omega))) | refine ⟨_, cut_all (by omega), ?_⟩ | refine ⟨_, lay_all (by omega) (by omega), ?_⟩ | refine ⟨_, lay_all (by (try simp only); (try simp only [List.length_replicate]); (try simp only [List.length_cons]); (try simp only [List.length_nil]); omega) (by omega), ?_⟩ | refine ⟨by omega, ?_⟩ | refine ⟨len_flat (by omega), ?_⟩ | refine ⟨apart_uv _ _ _, ?_⟩ | refine ⟨_, resSlot_own rfl (by omega) (by first | exact .inl rfl | exact .inr ⟨rfl, rfl⟩), ?_⟩ | refine ⟨(by kernel_rfl : regB _ = true), ?_⟩ | refine ⟨⟨rfl, inI_of (by omega), by decide⟩, ?_⟩ | (apply Exists.intro; refine ⟨?_, ?_⟩; ((try simp only); (try simp only [Nat.zero_add]); (try simp only [Nat.mul_one]); (try simp only [Int.toNat_natCast]); exact at_drop_g (by omega))) | (apply Exists.intro; refine ⟨?_, ?_⟩; ((try simp only); (try simp only [Nat.zero_add]); (try simp only [Nat.mul_one]); (try simp only [Int.toNat_natCast]); exact cut_rest (by omega)))); conv => whnf))
  rfl
theorem mults_exec (k u : Nat) (hk : k < 2 ^ 256) (hu : u < 2 ^ 256) : execF EG6 Try.f3 [F k, F u] (ret1 (.v (.bool true))) :=
  mults_gen _ _ (by32 (clampN k)) (by32 (x25 k u)) (byk_len _ _) (byk_len _ _) (byk_len _ _) (byk_len _ _) (l9_pClamp hk) (l9_rClamp hk) (l9_pMult hk hu) (l9_rMult hk hu)
end Go.Proofs.Ytkennahakodfnaa
