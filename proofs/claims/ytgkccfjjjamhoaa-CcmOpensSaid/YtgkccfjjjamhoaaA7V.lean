/-
  Layer 7, the program: mark.
-/
import Derived.Test.YtgkccfjjjamhoaaA7U
namespace Go.Proofs.Ytgkccfjjjamhoaa
open Go.RowKit

theorem args3 {args : Array Value} (h : args.size = 3) : ∃ a b c, args = #[a, b, c] := by
  refine ⟨args[0], args[1], args[2], ?_⟩
  apply Array.ext
  · simp [h]
  · intro i h1 h2
    have : i = 0 ∨ i = 1 ∨ i = 2 := by simp at h2; omega
    rcases this with rfl | rfl | rfl <;> rfl
theorem cells1 {cs : Array Value} (h : cs.size = 1) : ∃ a, cs = #[a] := by
  refine ⟨cs[0], ?_⟩
  apply Array.ext
  · simp [h]
  · intro i h1 h2
    have : i = 0 := by simp at h2; omega
    subst this
    rfl
abbrev boxB (c : Option Nat) (l : List Int) : Blk := ⟨.gen [.im 1 16 c (.flat .u8 l)], 22, false⟩
theorem mark1_call (n : Nat) (c ck cx : Option Nat) (b key X : List Int) (hbn : b.length = n) (hn : n ≤ 1000000) (hbb : By b) (hk16 : key.length = 16) (hkb : By key) (hX16 : X.length = 16) (hXb : By X) :
    CallW Try.prog 42 [.im 1 n c (.flat .u8 b), .ptr 15 0, .ptr 23 0] [(15, boxB ck key), (23, boxB cx X)] (.many []) [(15, boxB ck key), (23, boxB none (chl key b X (List.range ((n + 15) / 16))))] := by
  subst hbn
  intro w A m args hsz hA hrep hlent hmn hmd
  obtain ⟨v0, v1, v2, rfl⟩ := args3 hsz
  have r0 : Rep A w m (.im 1 b.length c (.flat .u8 b)) v0 := hrep 0 _ rfl
  have r1 : Rep A w m (.ptr 15 0) v1 := hrep 1 _ rfl
  have r2 : Rep A w m (.ptr 23 0) v2 := hrep 2 _ rfl
  obtain ⟨_, _, gk, s1, cs1, m1, nA1, hp1, sz1, ln1, rk⟩ := hlent 15 _ rfl
  obtain ⟨_, _, gx, s2, cs2, m2, nA2, hp2, sz2, ln2, rx⟩ := hlent 23 _ rfl
  obtain ⟨vk, rfl⟩ := cells1 (cs := cs1) (by rw [sz1, ← ln1]; rfl)
  obtain ⟨vx, rfl⟩ := cells1 (cs := cs2) (by rw [sz2, ← ln2]; rfl)
  have rk : Rep A w noMap (.im 1 16 ck (.flat .u8 key)) vk := rk 0 _ rfl
  have rx : Rep A w noMap (.im 1 16 cx (.flat .u8 X)) vx := rx 0 _ rfl
  have hne : gk ≠ gx := hmd 15 23 _ _ (by decide) m1 m2
  obtain rfl : v1 = .pointer (some ⟨gk, 0, none⟩) := by
    cases r1 with
    | ptr _ _ _ g s h => rw [m1] at h; cases h; rfl
  obtain rfl : v2 = .pointer (some ⟨gx, 0, none⟩) := by
    cases r2 with
    | ptr _ _ _ g s h => rw [m2] at h; cases h; rfl
  have row : ∀ {v : Value} {c : Option Nat} {q : List Int}, q.length = 16 → Rep A w noMap (.im 1 16 c (.flat .u8 q)) v → RowIm w (fun g => A g ∧ g ≠ gx) v q := by
    intro v c q hq h
    obtain ⟨_, g, o, c', rfl, h2, h3, h4, h5⟩ := row_of_rep h (by omega) hA
    exact ⟨g, o, c', by rw [hq], by omega, ⟨h3, fun e => nA2 (e ▸ h3)⟩, h4, fun j hj => h5 j (by omega)⟩
  -- the argument
  obtain ⟨a, cap, b0, off, rfl, ha, hcap, hb0⟩ : ∃ a cap b0 off, v0 = .slice a b.length cap ∧ (0 < b.length → a = some ⟨b0, off, none⟩) ∧ b.length ≤ cap ∧ (0 < b.length → b0 < w.heap.size ∧ b0 ≠ gx ∧ ∀ j, j < b.length → w.cell? ⟨b0, off + j, none⟩ = some (.int .u8 (b.getD j 0))) := by
    by_cases h0 : 0 < b.length
    · have : Rep A w m (.im 1 b.length c (.flat .u8 b)) v0 := r0
      obtain ⟨_, g, o, c', rfl, h2, h3, h4, h5⟩ := row_of_rep this h0 hA
      exact ⟨_, c', g, o, rfl, fun _ => rfl, h2, fun _ => ⟨h4, fun e => nA2 (e ▸ h3), h5⟩⟩
    · cases r0 with
      | im _ _ _ _ _ a c' f hl hn' hk ha hm hr => exact ⟨a, c', 0, 0, rfl, fun h => absurd h h0, hn', fun h => absurd h h0⟩
  have lx := (Array.getElem?_eq_some_iff.1 hp2).1
  have lk := (Array.getElem?_eq_some_iff.1 hp1).1
  refine (mark1_pl w gk gx b0 off cap a A A vk vx key b X ha hcap hn hb0 hp1 hp2 hne (row hk16 rk) (row hX16 rx) hk16 hkb hX16 hXb hbb).mono ?_
  rintro e w' ⟨rfl, hk, vx', hx', hr'⟩
  have hAg : ∀ g, A g → w'.heap[g]? = w.heap[g]? := fun g hg => hk.block g (hA g hg) (fun e => nA2 (e ▸ hg))
  refine ⟨_, fun g => A g ∨ (w.heap.size ≤ g ∧ g < w'.heap.size), rfl, hk.mono fun g _ hg => ⟨23, s2, by rw [hg]; exact m2⟩, fun g hg => .inl hg, fun g hg => ?_, ⟨#[], fun _ => none, rfl, rfl, fun i r hi => by simp at hi, fun i j l l' _ h => by cases h⟩, ?_, ?_⟩
  · rcases hg with hg | hg
    · exact ⟨Nat.lt_of_lt_of_le (hA g hg) hk.size, .inl hg⟩
    · exact ⟨hg.2, .inr hg.1⟩
  · intro bb k hb
    simp only [findB] at hb
    split at hb
    · rename_i e
      subst e
      cases hb
      refine ⟨rfl, rfl, gk, s1, #[vk], m1, ?_, (hk.block gk lk hne).trans hp1, sz1, ln1, fun i u hu => ?_⟩
      · rintro (h | h)
        · exact nA1 h
        · omega
      · rcases i with _ | i
        · cases hu
          exact rk.mono (fun g hg => .inl hg) hAg _ (fun _ _ h => h)
        · cases hu
    · split at hb
      · rename_i e
        subst e
        cases hb
        refine ⟨rfl, rfl, gx, s2, #[vx'], m2, ?_, hx', sz2, ln2, fun i u hu => ?_⟩
        · rintro (h | h)
          · exact nA2 h
          · omega
        · rcases i with _ | i
          · cases hu
            obtain ⟨g, o, c', q1, q2, q3, q4, q5⟩ := hr'
            have hr2 : RowIm w' (fun g => A g ∨ (w.heap.size ≤ g ∧ g < w'.heap.size)) vx' (chl key b X (List.range ((b.length + 15) / 16))) := ⟨g, o, c', q1, q2, q3.1.imp id (fun h => ⟨h, q4⟩), q4, q5⟩
            exact hr2.rep 16 (chl_len _ _ _ hX16 _) _ (fun _ h => h)
          · cases hu
      · cases hb
  · intro bb k hb
    simp only [findB] at hb ⊢
    split at hb
    · rename_i e; rw [if_pos e]; exact ⟨_, rfl⟩
    · rename_i e
      rw [if_neg e]
      split at hb
      · rename_i e; rw [if_pos e]; exact ⟨_, rfl⟩
      · cases hb

def wkM7 (f : Nat) : Bool := Nat.beq f 42
def orwM7 (f : Nat) (ds : List LV) (ls : List (Nat × Blk)) : Option (LRes × List (Nat × Blk)) :=
  match ds with
  | [.im 1 n _ (.flat .u8 b), .ptr 15 0, .ptr 23 0] => match ls with
    | [(15, ⟨.gen [.im 1 16 ck (.flat .u8 key)], e1, false⟩), (23, ⟨.gen [.im 1 16 _ (.flat .u8 X)], e2, false⟩)] =>
      if (f = 42 ∧ e1 = 22 ∧ e2 = 22) ∧ (b.length = n ∧ n ≤ 1000000 ∧ byteOk b = true) ∧ (key.length = 16 ∧ byteOk key = true) ∧ (X.length = 16 ∧ byteOk X = true) then
        some (.many [], [(15, boxB ck key), (23, boxB none (chl key b X (List.range ((n + 15) / 16))))]) else none
    | _ => none
  | _ => none
theorem orwM7_ok (f : Nat) (ds : List LV) (ls : List (Nat × Blk)) (r : LRes) (ls' : List (Nat × Blk)) (h : orwM7 f ds ls = some (r, ls')) : (∃ fn, Try.prog.funcs[f]? = some fn ∧ fn.name ≠ "runtime.NumGoroutine" ∧ fn.body.isSome = true) ∧ CallW Try.prog f ds ls r ls' := by
  unfold orwM7 at h
  split at h
  · split at h
    · split at h
      · rename_i hc
        obtain ⟨⟨rfl, rfl, rfl⟩, ⟨h1, h2, h3⟩, ⟨h4, h5⟩, h6, h7⟩ := hc
        cases h
        exact ⟨⟨_, Try.func42, name_ne _ (by kernel_rfl), rfl⟩, mark1_call _ _ _ _ _ _ _ h1 h2 (byteAll h3) h4 (byteAll h5) h6 (byteAll h7)⟩
      · cases h
    · cases h
  · cases h
def EM7 : Env := ⟨tyL, orcC7, false, wkM7, orwM7⟩
theorem EM7_ok : EnvOk Try.prog EM7 := ⟨tyL_ok, orcC7_ok, orwM7_ok⟩
theorem mAdd (n : Nat) (c ck cx : Option Nat) (b key X : List Int) (h1 : b.length = n) (h2 : n ≤ 1000000) (h3 : By b) (h4 : key.length = 16) (h5 : By key) (h6 : X.length = 16) (h7 : By X) :
    EM7.orw 42 [.im 1 n c (.flat .u8 b), .ptr 15 0, .ptr 23 0] [(15, boxB ck key), (23, boxB cx X)] = some (.many [], [(15, boxB ck key), (23, boxB none (chl key b X (List.range ((n + 15) / 16))))]) := if_pos ⟨⟨rfl, rfl, rfl⟩, ⟨h1, h2, h3.ok⟩, ⟨h4, h5.ok⟩, h6, h7.ok⟩
theorem mBlock (f : Int) (N : Nat) (c : Option Nat) (v : List Int) (k : Int) (h1 : v.length = N) (h2 : 7 ≤ N ∧ N ≤ 13) (h3 : 0 ≤ f ∧ f < 256) : EM7.orc 45 [.v (.int .u8 f), .im 1 N c (.flat .u8 v), .v (.int .i64 k)] = some (LRes.one (.own 1 16 5 (.flat .u8 (ctr f v k)))) := if_pos ⟨h1, h2, h3⟩
theorem mFlags (n a : Nat) (c c2 : Option Nat) (x y : Cont) (t : Int) (h1 : 7 ≤ n ∧ n ≤ 13) (h2 : 4 ≤ t ∧ t ≤ 16) : EM7.orc 46 [.im 1 n c x, .im 1 a c2 y, .v (.int .i64 t)] = some (ret1 (iv .u8 (IntKind.u8.wrap (firP t n a)))) := if_pos ⟨h1, h2⟩
theorem mPlus (n m : Nat) (c c2 : Option Nat) (a b : List Int) (h1 : a.length = n) (h2 : b.length = m) (h3 : By a) (h4 : By b) (h5 : n ≤ 100000) (h6 : m ≤ 100000) : EM7.orc 40 [.im 1 n c (.flat .u8 a), .im 1 m c2 (.flat .u8 b)] = some (LRes.one (.own 1 n 5 (.flat .u8 (pluP a b)))) := if_pos ⟨h1, h2, h3.ok, h4.ok, h5, h6⟩
theorem mStr (n : Nat) (c c2 : Option Nat) (k v : List Int) (i : Int) (h1 : k.length = 16) (h2 : By k) (h3 : v.length = n) (h4 : 7 ≤ n ∧ n ≤ 13) (h5 : By v) : EM7.orc 41 [.im 1 16 c (.flat .u8 k), .im 1 n c2 (.flat .u8 v), .v (.int .i64 i)] = some (LRes.one (.own 1 16 54 (.flat .u8 (ksI k v i)))) := if_pos ⟨h1, h2.ok, h3, h4, h5.ok⟩
theorem mNum (n x : Int) (m : Nat) (hx : x = (m : Nat)) (hm : 0 < m ∧ m ≤ 8) : EM7.orc 47 [.v (.int .i64 n), .v (.int .i64 x)] = some (LRes.one (.own 1 m 5 (.flat .u8 (nbP n m)))) := by
  subst hx
  exact if_pos hm
theorem mCat2 (n1 n2 : Nat) (c c1 c2 : Option Nat) (l1 l2 : List Int) (h1 : l1.length = n1) (h2 : l2.length = n2) (m1 : n1 ≤ 100000) (m2 : n2 ≤ 100000) :
    EM7.orc 26 [.im 1 2 c (.gen [.im 1 n1 c1 (.flat .u8 l1), .im 1 n2 c2 (.flat .u8 l2)])] = some (LRes.one (.own 1 (n1 + n2) 5 (.flat .u8 (l1 ++ l2)))) := if_pos ⟨h1, h2, m1, m2⟩

/-- The authentication value, as the program chains it. -/
def prgX (key nonce aad plain : List Int) (tag : Int) : List Int :=
  chl key plain (if aad.length = 0 then encS key (pluP (List.replicate 16 0) (ctr (firP tag nonce.length aad.length) nonce plain.length)) 10
    else chl key (nbP aad.length 2 ++ aad) (encS key (pluP (List.replicate 16 0) (ctr (firP tag nonce.length aad.length) nonce plain.length)) 10) (List.range ((2 + aad.length + 15) / 16))) (List.range ((plain.length + 15) / 16))
theorem chl_one {key b X : List Int} (hb : b.length = 16) : chl key b X (List.range ((16 + 15) / 16)) = encS key (pluP X b) 10 := by
  have e : List.range ((16 + 15) / 16) = [0] := rfl
  rw [e, chl, List.foldl_cons, List.foldl_nil, ckL, Nat.mul_zero, List.drop_zero, List.take_of_length_le (by omega)]
theorem ctr_w8 (f : Int) (v : List Int) (k : Int) : ctr (IntKind.u8.wrap f) v k = ctr f v k := by rw [ctr, ctr, w8_id (w8_byte f)]
set_option maxRecDepth 100000 in
set_option maxHeartbeats 8000000 in
theorem pmark_exec (key nonce aad plain : List Int) (N A L T : Nat) (c c2 c3 c4 : Option Nat) (tag : Int) (hk : key.length = 16) (hkb : By key) (hN : nonce.length = N) (h7 : 7 ≤ N ∧ N ≤ 13) (hnb : By nonce) (hA : aad.length = A) (hA4 : A ≤ 4096) (hab : By aad)
    (hL : plain.length = L) (hL4 : L ≤ 5000) (hpb : By plain) (ht : 4 ≤ tag ∧ tag ≤ 16) (hT : tag = (T : Int)) :
    execF EM7 Try.f28 [.im 1 16 c (.flat .u8 key), .im 1 N c2 (.flat .u8 nonce), .im 1 A c3 (.flat .u8 aad), .im 1 L c4 (.flat .u8 plain), iv .i64 tag] (.one (.own 1 T 5 (.flat .u8 ((pluP (prgX key nonce aad plain tag) (ksI key nonce 0)).take T)))) := by
  have oF := fun c c2 x y => mFlags N A c c2 x y tag h7 ht
  have oB := fun c => mBlock (IntKind.u8.wrap (firP tag N A)) N c nonce (L : Int) hN h7 (w8_byte _)
  rw [ctr_w8] at oB
  have hCl : (ctr (firP tag N A) nonce (L : Int)).length = 16 := ctr_len (by omega)
  have hCb : By (ctr (firP tag N A) nonce (L : Int)) := ctr_by hnb
  have hX : prgX key nonce aad plain tag = chl key plain (if A = 0 then encS key (pluP (List.replicate 16 0) (ctr (firP tag N A) nonce L)) 10
    else chl key (nbP A 2 ++ aad) (encS key (pluP (List.replicate 16 0) (ctr (firP tag N A) nonce L)) 10) (List.range ((2 + A + 15) / 16))) (List.range ((L + 15) / 16)) := by rw [prgX, hN, hA, hL]
  obtain ⟨C, hC⟩ : ∃ C, C = ctr (firP tag N A) nonce (L : Int) := ⟨_, rfl⟩
  rw [← hC] at oB hCl hCb hX
  have hcC : (Cont.flat .u8 C).cut 0 (16 * 1) = some (.flat .u8 C) := cut_all hCl
  have hZb : By (List.replicate 16 0) := By.zeros _
  have o1 := fun c ck cx => mAdd 16 c ck cx C key (List.replicate 16 0) hCl (by omega) hCb hk hkb rfl hZb
  rw [chl_one hCl] at o1
  have hYl := encS_len key (pluP (List.replicate 16 0) C) 10
  have hYb := encS_by hkb (pluP_by hZb hCb) 10
  obtain ⟨Y, hY⟩ : ∃ Y, Y = encS key (pluP (List.replicate 16 0) C) 10 := ⟨_, rfl⟩
  rw [← hY] at o1 hYl hYb hX
  have hcZ : (Cont.flat .u8 (List.replicate 16 0)).cut 0 (16 * 1) = some (.flat .u8 (List.replicate 16 0)) := cut_all rfl
  clear hC hY
  have oS := fun c c2 => mStr N c c2 key nonce 0 hk hkb hN h7 hnb
  have hKl := ksI_len key nonce 0
  have hKb := ksI_by hkb hnb 0
  obtain ⟨K, hK⟩ : ∃ K, K = ksI key nonce 0 := ⟨_, rfl⟩
  rw [← hK] at oS hKl hKb ⊢
  have hcK : (Cont.flat .u8 K).cut 0 (16 * 1) = some (.flat .u8 K) := cut_all hKl
  clear hK
  by_cases h0 : A = 0
  · have q1 : decide ((A : Int) > 0) = false := by simp; omega
    rw [if_pos h0] at hX
    have o2 := fun c ck cx => mAdd L c ck cx plain key Y hL (by omega) hpb hk hkb hYl hYb
    have hXl := chl_len key plain Y hYl (List.range ((L + 15) / 16))
    have hXb := chl_by0 hkb hpb (List.range ((L + 15) / 16)) Y hYb
    rw [← hX] at o2 hXl hXb
    obtain ⟨X, hXe⟩ : ∃ X, X = prgX key nonce aad plain tag := ⟨_, rfl⟩
    rw [← hXe] at o2 hXl hXb ⊢
    clear hX hXe
    have oP := fun c c2 => mPlus 16 16 c c2 X K hXl hKl hXb hKb (by omega) (by omega)
    have hPl : (pluP X K).length = 16 := by rw [pluP_len, hXl]
    obtain ⟨R, hR⟩ : ∃ R, R = pluP X K := ⟨_, rfl⟩
    rw [← hR] at oP hPl ⊢
    clear hR
    ((conv => whnf); repeat ((first | refine ⟨fun _ => ?_, fun h => absurd ((q1).symm.trans h) (by decide)⟩ | refine ⟨fun h => absurd ((q1).symm.trans h) (by decide), fun _ => ?_⟩ | refine ⟨_, make_u8 (n := 16) (c := 16) rfl rfl rfl rfl (by omega) (by omega) (by omega), ?_⟩ | refine ⟨_, oF _ _ _ _, ?_⟩ | refine ⟨_, oB _, ?_⟩ | refine ⟨_, o1 _ _ _, ?_⟩ | refine ⟨_, o2 _ _ _, ?_⟩ | refine ⟨_, oS _ _, ?_⟩ | refine ⟨_, oP _ _, ?_⟩ | refine ⟨_, hcC, ?_⟩ | refine ⟨_, hcZ, ?_⟩ | refine ⟨_, expo_sl rfl hcK, ?_⟩ | refine ⟨_, slice_to rfl hT (by omega), ?_⟩ | refine ⟨_, rfl, ?_⟩ | refine ⟨by decide, ?_⟩ | refine ⟨rfl, ?_⟩ | refine ⟨fun _ => ?_, fun h => absurd h (by decide)⟩ | refine ⟨fun h => absurd h (by decide), fun _ => ?_⟩ | refine ⟨inI_of (by omega), ?_⟩ | refine ⟨⟨rfl, inI_of (by omega)⟩, ?_⟩ | refine ⟨⟨rfl, by decide⟩, ?_⟩ | (apply Exists.intro; refine ⟨?_, ?_⟩; ((try simp only); (try simp only [Nat.zero_add]); (try simp only [Nat.mul_one]); (try simp only [Int.toNat_natCast]); exact at_g (by omega))) | (apply Exists.intro; refine ⟨?_, ?_⟩; ((try simp only); (try simp only [Nat.zero_add]); (try simp only [Nat.mul_one]); (try simp only [Int.toNat_natCast]); exact put_flat (by omega))) | refine ⟨_, cut_all (by omega), ?_⟩ | refine ⟨_, lay_all (by omega) (by omega), ?_⟩ | refine ⟨_, lay_all (by (try simp only); (try simp only [List.length_replicate]); (try simp only [List.length_cons]); (try simp only [List.length_nil]); omega) (by omega), ?_⟩ | refine ⟨by omega, ?_⟩ | refine ⟨len_flat (by omega), ?_⟩ | refine ⟨apart_uv _ _ _, ?_⟩ | refine ⟨_, resSlot_own rfl (by omega) (by first | exact .inl rfl | exact .inr ⟨rfl, rfl⟩), ?_⟩ | refine ⟨(by kernel_rfl : regB _ = true), ?_⟩ | refine ⟨⟨rfl, inI_of (by omega), by decide⟩, ?_⟩ | (apply Exists.intro; refine ⟨?_, ?_⟩; ((try simp only); (try simp only [Nat.zero_add]); (try simp only [Nat.mul_one]); (try simp only [Int.toNat_natCast]); exact at_drop_g (by omega))) | (apply Exists.intro; refine ⟨?_, ?_⟩; ((try simp only); (try simp only [Nat.zero_add]); (try simp only [Nat.mul_one]); (try simp only [Int.toNat_natCast]); exact cut_rest (by omega)))); conv => whnf))
    rw [Nat.mul_one]
    rfl
  · have q1 : decide ((A : Int) > 0) = true := by simp; omega
    rw [if_neg h0] at hX
    have oN := mNum (A : Int) 2 2 rfl (by decide)
    have hNl := nbP_len (A : Int) 2
    have hNb := nbP_by (A : Int) 2
    have oC := fun c c1 c2 => mCat2 2 A c c1 c2 (nbP (A : Int) 2) aad hNl hA (by omega) (by omega)
    have hVl : (nbP (A : Int) 2 ++ aad).length = 2 + A := by simp [hNl, hA]
    have hVb : By (nbP (A : Int) 2 ++ aad) := hNb.append hab
    obtain ⟨V, hV⟩ : ∃ V, V = nbP (A : Int) 2 ++ aad := ⟨_, rfl⟩
    rw [← hV] at oC hVl hVb hX
    have o2 := fun c ck cx => mAdd (2 + A) c ck cx V key Y hVl (by omega) hVb hk hkb hYl hYb
    have hWl := chl_len key V Y hYl (List.range ((2 + A + 15) / 16))
    have hWb := chl_by0 hkb hVb (List.range ((2 + A + 15) / 16)) Y hYb
    obtain ⟨W, hW⟩ : ∃ W, W = chl key V Y (List.range ((2 + A + 15) / 16)) := ⟨_, rfl⟩
    rw [← hW] at o2 hWl hWb hX
    have o3 := fun c ck cx => mAdd L c ck cx plain key W hL (by omega) hpb hk hkb hWl hWb
    have hXl := chl_len key plain W hWl (List.range ((L + 15) / 16))
    have hXb := chl_by0 hkb hpb (List.range ((L + 15) / 16)) W hWb
    rw [← hX] at o3 hXl hXb
    obtain ⟨X, hXe⟩ : ∃ X, X = prgX key nonce aad plain tag := ⟨_, rfl⟩
    rw [← hXe] at o3 hXl hXb ⊢
    have hcN : (Cont.flat .u8 (nbP (A : Int) 2)).cut 0 (2 * 1) = some (.flat .u8 (nbP (A : Int) 2)) := cut_all hNl
    have hcV : (Cont.flat .u8 V).cut 0 ((2 + A) * 1) = some (.flat .u8 V) := cut_all (by omega)
    clear hX hXe hV hW
    have oP := fun c c2 => mPlus 16 16 c c2 X K hXl hKl hXb hKb (by omega) (by omega)
    have hPl : (pluP X K).length = 16 := by rw [pluP_len, hXl]
    obtain ⟨R, hR⟩ : ∃ R, R = pluP X K := ⟨_, rfl⟩
    rw [← hR] at oP hPl ⊢
    clear hR
    ((conv => whnf); repeat ((first | refine ⟨fun _ => ?_, fun h => absurd ((q1).symm.trans h) (by decide)⟩ | refine ⟨fun h => absurd ((q1).symm.trans h) (by decide), fun _ => ?_⟩ | refine ⟨_, make_u8 (n := 16) (c := 16) rfl rfl rfl rfl (by omega) (by omega) (by omega), ?_⟩ | refine ⟨_, oF _ _ _ _, ?_⟩ | refine ⟨_, oB _, ?_⟩ | refine ⟨_, oN, ?_⟩ | refine ⟨_, oC _ _ _, ?_⟩ | refine ⟨_, o1 _ _ _, ?_⟩ | refine ⟨_, o2 _ _ _, ?_⟩ | refine ⟨_, o3 _ _ _, ?_⟩ | refine ⟨_, oS _ _, ?_⟩ | refine ⟨_, oP _ _, ?_⟩ | refine ⟨_, hcC, ?_⟩ | refine ⟨_, hcZ, ?_⟩ | refine ⟨_, hcV, ?_⟩ | refine ⟨_, expo_sl rfl hcK, ?_⟩ | refine ⟨_, expo_l2 rfl rfl (expo_sl5 rfl hcN) (expo_im _ _ _ _ _ _), ?_⟩ | refine ⟨_, slice_to rfl hT (by omega), ?_⟩ | refine ⟨_, rfl, ?_⟩ | refine ⟨by decide, ?_⟩ | refine ⟨rfl, ?_⟩ | refine ⟨fun _ => ?_, fun h => absurd h (by decide)⟩ | refine ⟨fun h => absurd h (by decide), fun _ => ?_⟩ | refine ⟨inI_of (by omega), ?_⟩ | refine ⟨⟨rfl, inI_of (by omega)⟩, ?_⟩ | refine ⟨⟨rfl, by decide⟩, ?_⟩ | (apply Exists.intro; refine ⟨?_, ?_⟩; ((try simp only); (try simp only [Nat.zero_add]); (try simp only [Nat.mul_one]); (try simp only [Int.toNat_natCast]); exact at_g (by omega))) | (apply Exists.intro; refine ⟨?_, ?_⟩; ((try simp only); (try simp only [Nat.zero_add]); (try simp only [Nat.mul_one]); (try simp only [Int.toNat_natCast]); exact put_flat (by omega))) | refine ⟨_, cut_all (by omega), ?_⟩ | refine ⟨_, lay_all (by omega) (by omega), ?_⟩ | refine ⟨_, lay_all (by (try simp only); (try simp only [List.length_replicate]); (try simp only [List.length_cons]); (try simp only [List.length_nil]); omega) (by omega), ?_⟩ | refine ⟨by omega, ?_⟩ | refine ⟨len_flat (by omega), ?_⟩ | refine ⟨apart_uv _ _ _, ?_⟩ | refine ⟨_, resSlot_own rfl (by omega) (by first | exact .inl rfl | exact .inr ⟨rfl, rfl⟩), ?_⟩ | refine ⟨(by kernel_rfl : regB _ = true), ?_⟩ | refine ⟨⟨rfl, inI_of (by omega), by decide⟩, ?_⟩ | (apply Exists.intro; refine ⟨?_, ?_⟩; ((try simp only); (try simp only [Nat.zero_add]); (try simp only [Nat.mul_one]); (try simp only [Int.toNat_natCast]); exact at_drop_g (by omega))) | (apply Exists.intro; refine ⟨?_, ?_⟩; ((try simp only); (try simp only [Nat.zero_add]); (try simp only [Nat.mul_one]); (try simp only [Int.toNat_natCast]); exact cut_rest (by omega)))); conv => whnf))
    rw [Nat.mul_one]
    rfl
end Go.Proofs.Ytgkccfjjjamhoaa
