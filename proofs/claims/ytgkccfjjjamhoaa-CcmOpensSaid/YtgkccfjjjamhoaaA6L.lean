/-
  Layer 6: what the statements' functions call; the sanity check.
-/
import Derived.Test.YtgkccfjjjamhoaaA6J
import Derived.Test.YtgkccfjjjamhoaaMkP
namespace Go.Proofs.Ytgkccfjjjamhoaa
open Go.RowKit

def expR (k : List Int) : LRes := if k.length = 16 then ret2 (.own 1 176 5 (.flat .u8 (WW k SB))) 0 else no2 1
def encR (e : Nat) (k b : List Int) : LRes := if k.length = 16 ∧ b.length = 16 then ret2 (.own 1 16 e (.flat .u8 (encS k b 10))) 0 else no2 1
def decR (e : Nat) (k b : List Int) : LRes := if k.length = 16 ∧ b.length = 16 then ret2 (.own 1 16 e (.flat .u8 (decP k b))) 0 else no2 1
theorem encP_call (n n2 : Nat) (c c2 : Option Nat) (k b : List Int) (hn : k.length = n) (hn2 : b.length = n2) (hk : By k) (hb : By b) : CallOk Try.prog 24 [.im 1 n c (.flat .u8 k), .im 1 n2 c2 (.flat .u8 b)] (encR 54 k b) := by
  subst hn hn2
  unfold encR
  split
  · rename_i h
    rw [h.1, h.2]
    exact execF_ok follows_ok EC_ok Try.func24 (enc_ok k b c c2 h.1 hk h.2 hb)
  · rename_i h
    by_cases h1 : k.length = 16
    · rw [h1]
      exact execF_ok follows_ok EC_ok Try.func24 (enc_no2 _ c c2 _ _ fun h2 => h ⟨h1, h2⟩)
    · exact execF_ok follows_ok EC_ok Try.func24 (enc_no1 _ _ c c2 _ _ h1)
theorem encRf_call (n n2 : Nat) (c c2 : Option Nat) (k b : List Int) (hn : k.length = n) (hn2 : b.length = n2) (hk : By k) (hb : By b) : CallOk Try.prog 48 [.im 1 n c (.flat .u8 k), .im 1 n2 c2 (.flat .u8 b)] (encR 5 k b) := by
  subst hn hn2
  unfold encR
  split
  · rename_i h
    rw [h.1, h.2]
    exact execF_ok follows_ok ES_ok Try.func48 (renc_ok k b c c2 h.1 hk h.2 hb)
  · rename_i h
    by_cases h1 : k.length = 16
    · rw [h1]
      exact execF_ok follows_ok ES_ok Try.func48 (renc_no2 _ c c2 _ _ fun h2 => h ⟨h1, h2⟩)
    · exact execF_ok follows_ok ES_ok Try.func48 (renc_no1 _ _ c c2 _ _ h1)
def orcM (f : Nat) (ds : List LV) : Option LRes :=
  match f with
  | 14 => match ds with
    | [.v (.int .i64 k), .v (.int .i64 (.ofNat m))] => if m ≤ 100000 ∧ 0 < m then some (LRes.one (.own 1 m 5 (.flat .u8 (smP k m)))) else none
    | _ => none
  | 13 => match ds with
    | [.v (.int .i64 v), .v (.int .i64 n)] => if 0 < n ∧ n < 9223372036854775808 then some (ret1 (.v (.int .i64 (v % n)))) else none
    | _ => none
  | 18 => match ds with
    | [.im 1 n _ _] => some (ret1 (.v (.bool (decide ((n : Int) ≤ 600)))))
    | _ => none
  | _ => none
theorem orcM_ok : Known Try.prog orcM := by
  intro f ds r h
  unfold orcM at h
  split at h
  · split at h
    · split at h
      · rename_i hc
        cases h
        exact ⟨⟨_, Try.func14, name_ne _ (by kernel_rfl), rfl⟩, some_call _ _ hc.1 hc.2⟩
      · cases h
    · cases h
  · split at h
    · split at h
      · rename_i hc
        cases h
        exact ⟨⟨_, Try.func13, name_ne _ (by kernel_rfl), rfl⟩, mod_call _ _ hc.1 hc.2⟩
      · cases h
    · cases h
  · split at h
    · cases h
      exact ⟨⟨_, Try.func18, name_ne _ (by kernel_rfl), rfl⟩, execF_ok follows_ok EM_ok Try.func18 (short_exec _ _ _)⟩
    · cases h
  · cases h
def orcK (f : Nat) (ds : List LV) : Option LRes :=
  match f with
  | 24 => match ds with
    | [.im 1 n _ (.flat .u8 k), .im 1 n2 _ (.flat .u8 b)] => if k.length = n ∧ b.length = n2 ∧ byteOk k = true ∧ byteOk b = true then some (encR 54 k b) else none
    | _ => none
  | 48 => match ds with
    | [.im 1 n _ (.flat .u8 k), .im 1 n2 _ (.flat .u8 b)] => if k.length = n ∧ b.length = n2 ∧ byteOk k = true ∧ byteOk b = true then some (encR 5 k b) else none
    | _ => none
  | _ => orcM f ds
theorem orcK_ok : Known Try.prog orcK := by
  intro f ds r h
  unfold orcK at h
  split at h
  · split at h
    · split at h
      · rename_i hc
        cases h
        exact ⟨⟨_, Try.func24, name_ne _ (by kernel_rfl), rfl⟩, encP_call _ _ _ _ _ _ hc.1 hc.2.1 (byteAll hc.2.2.1) (byteAll hc.2.2.2)⟩
      · cases h
    · cases h
  · split at h
    · split at h
      · rename_i hc
        cases h
        exact ⟨⟨_, Try.func48, name_ne _ (by kernel_rfl), rfl⟩, encRf_call _ _ _ _ _ _ hc.1 hc.2.1 (byteAll hc.2.2.1) (byteAll hc.2.2.2)⟩
      · cases h
    · cases h
  · exact orcM_ok f ds r h
def EK : Env := ⟨tyL, orcK, false, noWk, noOrw⟩
theorem EK_ok : EnvOk Try.prog EK := ⟨tyL_ok, orcK_ok, noOrw_ok⟩
theorem kEnc (n n2 : Nat) (c c2 : Option Nat) (k b : List Int) (h1 : k.length = n) (h2 : b.length = n2) (h3 : By k) (h4 : By b) : EK.orc 24 [.im 1 n c (.flat .u8 k), .im 1 n2 c2 (.flat .u8 b)] = some (encR 54 k b) := if_pos ⟨h1, h2, h3.ok, h4.ok⟩
theorem krEnc (n n2 : Nat) (c c2 : Option Nat) (k b : List Int) (h1 : k.length = n) (h2 : b.length = n2) (h3 : By k) (h4 : By b) : EK.orc 48 [.im 1 n c (.flat .u8 k), .im 1 n2 c2 (.flat .u8 b)] = some (encR 5 k b) := if_pos ⟨h1, h2, h3.ok, h4.ok⟩
theorem exK0 : kkP [0, 1, 2, 3, 4, 5, 6, 7, 8, 9, 10, 11, 12, 13, 14, 15] SB 0 = [0, 1, 2, 3, 4, 5, 6, 7, 8, 9, 10, 11, 12, 13, 14, 15] := by rfl
theorem exK1 : kkP [0, 1, 2, 3, 4, 5, 6, 7, 8, 9, 10, 11, 12, 13, 14, 15] SB 1 = [214, 170, 116, 253, 210, 175, 114, 250, 218, 166, 120, 241, 214, 171, 118, 254] := by rw [kkP, exK0]; kernel_rfl
theorem exK2 : kkP [0, 1, 2, 3, 4, 5, 6, 7, 8, 9, 10, 11, 12, 13, 14, 15] SB 2 = [182, 146, 207, 11, 100, 61, 189, 241, 190, 155, 197, 0, 104, 48, 179, 254] := by rw [kkP, exK1]; kernel_rfl
theorem exK3 : kkP [0, 1, 2, 3, 4, 5, 6, 7, 8, 9, 10, 11, 12, 13, 14, 15] SB 3 = [182, 255, 116, 78, 210, 194, 201, 191, 108, 89, 12, 191, 4, 105, 191, 65] := by rw [kkP, exK2]; kernel_rfl
theorem exK4 : kkP [0, 1, 2, 3, 4, 5, 6, 7, 8, 9, 10, 11, 12, 13, 14, 15] SB 4 = [71, 247, 247, 188, 149, 53, 62, 3, 249, 108, 50, 188, 253, 5, 141, 253] := by rw [kkP, exK3]; kernel_rfl
theorem exK5 : kkP [0, 1, 2, 3, 4, 5, 6, 7, 8, 9, 10, 11, 12, 13, 14, 15] SB 5 = [60, 170, 163, 232, 169, 159, 157, 235, 80, 243, 175, 87, 173, 246, 34, 170] := by rw [kkP, exK4]; kernel_rfl
theorem exK6 : kkP [0, 1, 2, 3, 4, 5, 6, 7, 8, 9, 10, 11, 12, 13, 14, 15] SB 6 = [94, 57, 15, 125, 247, 166, 146, 150, 167, 85, 61, 193, 10, 163, 31, 107] := by rw [kkP, exK5]; kernel_rfl
theorem exK7 : kkP [0, 1, 2, 3, 4, 5, 6, 7, 8, 9, 10, 11, 12, 13, 14, 15] SB 7 = [20, 249, 112, 26, 227, 95, 226, 140, 68, 10, 223, 77, 78, 169, 192, 38] := by rw [kkP, exK6]; kernel_rfl
theorem exK8 : kkP [0, 1, 2, 3, 4, 5, 6, 7, 8, 9, 10, 11, 12, 13, 14, 15] SB 8 = [71, 67, 135, 53, 164, 28, 101, 185, 224, 22, 186, 244, 174, 191, 122, 210] := by rw [kkP, exK7]; kernel_rfl
theorem exK9 : kkP [0, 1, 2, 3, 4, 5, 6, 7, 8, 9, 10, 11, 12, 13, 14, 15] SB 9 = [84, 153, 50, 209, 240, 133, 87, 104, 16, 147, 237, 156, 190, 44, 151, 78] := by rw [kkP, exK8]; kernel_rfl
theorem exK10 : kkP [0, 1, 2, 3, 4, 5, 6, 7, 8, 9, 10, 11, 12, 13, 14, 15] SB 10 = [19, 17, 29, 127, 227, 148, 74, 23, 243, 7, 167, 139, 77, 43, 48, 197] := by rw [kkP, exK9]; kernel_rfl
theorem exS0 : encS [0, 1, 2, 3, 4, 5, 6, 7, 8, 9, 10, 11, 12, 13, 14, 15] [0, 17, 34, 51, 68, 85, 102, 119, 136, 153, 170, 187, 204, 221, 238, 255] 0 = [0, 16, 32, 48, 64, 80, 96, 112, 128, 144, 160, 176, 192, 208, 224, 240] := by rw [encS, exK0]; kernel_rfl
theorem exS1 : encS [0, 1, 2, 3, 4, 5, 6, 7, 8, 9, 10, 11, 12, 13, 14, 15] [0, 17, 34, 51, 68, 85, 102, 119, 136, 153, 170, 187, 204, 221, 238, 255] 1 = [137, 216, 16, 232, 133, 90, 206, 104, 45, 24, 67, 216, 203, 18, 143, 228] := by rw [encS, exS0, exK1]; kernel_rfl
theorem exS2 : encS [0, 1, 2, 3, 4, 5, 6, 7, 8, 9, 10, 11, 12, 13, 14, 15] [0, 17, 34, 51, 68, 85, 102, 119, 136, 153, 170, 187, 204, 221, 238, 255] 2 = [73, 21, 89, 143, 85, 229, 215, 160, 218, 202, 148, 250, 31, 10, 99, 247] := by rw [encS, exS1, exK2]; kernel_rfl
theorem exS3 : encS [0, 1, 2, 3, 4, 5, 6, 7, 8, 9, 10, 11, 12, 13, 14, 15] [0, 17, 34, 51, 68, 85, 102, 119, 136, 153, 170, 187, 204, 221, 238, 255] 3 = [250, 99, 106, 40, 37, 179, 57, 201, 64, 102, 138, 49, 87, 36, 77, 23] := by rw [encS, exS2, exK3]; kernel_rfl
theorem exS4 : encS [0, 1, 2, 3, 4, 5, 6, 7, 8, 9, 10, 11, 12, 13, 14, 15] [0, 17, 34, 51, 68, 85, 102, 119, 136, 153, 170, 187, 204, 221, 238, 255] 4 = [36, 114, 64, 35, 105, 102, 179, 250, 110, 210, 117, 50, 136, 66, 91, 108] := by rw [encS, exS3, exK4]; kernel_rfl
theorem exS5 : encS [0, 1, 2, 3, 4, 5, 6, 7, 8, 9, 10, 11, 12, 13, 14, 15] [0, 17, 34, 51, 68, 85, 102, 119, 136, 153, 170, 187, 204, 221, 238, 255] 5 = [200, 22, 119, 188, 155, 122, 201, 59, 37, 2, 121, 146, 176, 38, 25, 150] := by rw [encS, exS4, exK5]; kernel_rfl
theorem exS6 : encS [0, 1, 2, 3, 4, 5, 6, 7, 8, 9, 10, 11, 12, 13, 14, 15] [0, 17, 34, 51, 68, 85, 102, 119, 136, 153, 170, 187, 204, 221, 238, 255] 6 = [198, 47, 225, 9, 247, 94, 237, 195, 204, 121, 57, 93, 132, 249, 207, 93] := by rw [encS, exS5, exK6]; kernel_rfl
theorem exS7 : encS [0, 1, 2, 3, 4, 5, 6, 7, 8, 9, 10, 11, 12, 13, 14, 15] [0, 17, 34, 51, 68, 85, 102, 119, 136, 153, 170, 187, 204, 221, 238, 255] 7 = [209, 135, 108, 15, 121, 196, 48, 10, 180, 85, 148, 173, 214, 111, 244, 31] := by rw [encS, exS6, exK7]; kernel_rfl
theorem exS8 : encS [0, 1, 2, 3, 4, 5, 6, 7, 8, 9, 10, 11, 12, 13, 14, 15] [0, 17, 34, 51, 68, 85, 102, 119, 136, 153, 170, 187, 204, 221, 238, 255] 8 = [253, 227, 186, 210, 5, 229, 208, 215, 53, 71, 150, 78, 241, 254, 55, 241] := by rw [encS, exS7, exK8]; kernel_rfl
theorem exS9 : encS [0, 1, 2, 3, 4, 5, 6, 7, 8, 9, 10, 11, 12, 13, 14, 15] [0, 17, 34, 51, 68, 85, 102, 119, 136, 153, 170, 187, 204, 221, 238, 255] 9 = [189, 110, 124, 61, 242, 181, 119, 158, 11, 97, 33, 110, 139, 16, 182, 137] := by rw [encS, exS8, exK9]; kernel_rfl
theorem exS10 : encS [0, 1, 2, 3, 4, 5, 6, 7, 8, 9, 10, 11, 12, 13, 14, 15] [0, 17, 34, 51, 68, 85, 102, 119, 136, 153, 170, 187, 204, 221, 238, 255] 10 = [105, 196, 224, 216, 106, 123, 4, 48, 216, 205, 183, 128, 112, 180, 197, 90] := by rw [encS, exS9, exK10]; kernel_rfl
theorem exEnc (c c2 : Option Nat) : EK.orc 24 [.im 1 16 c (.flat .u8 [0, 1, 2, 3, 4, 5, 6, 7, 8, 9, 10, 11, 12, 13, 14, 15]), .im 1 16 c2 (.flat .u8 [0, 17, 34, 51, 68, 85, 102, 119, 136, 153, 170, 187, 204, 221, 238, 255])] = some (fatR [105, 196, 224, 216, 106, 123, 4, 48, 216, 205, 183, 128, 112, 180, 197, 90]) := by
  have h := kEnc 16 16 c c2 [0, 1, 2, 3, 4, 5, 6, 7, 8, 9, 10, 11, 12, 13, 14, 15] [0, 17, 34, 51, 68, 85, 102, 119, 136, 153, 170, 187, 204, 221, 238, 255] rfl rfl (byteAll (by kernel_rfl)) (byteAll (by kernel_rfl))
  rw [h, encR, if_pos ⟨rfl, rfl⟩, exS10]
def orcL (f : Nat) (ds : List LV) : Option LRes := orcK f ds
theorem orcL_ok : Known Try.prog orcL := by
  intro f ds r h
  exact orcK_ok f ds r h
def EL : Env := ⟨tyL, orcL, false, noWk, noOrw⟩
theorem EL_ok : EnvOk Try.prog EL := ⟨tyL_ok, orcL_ok, noOrw_ok⟩
theorem lEnc (n n2 : Nat) (c c2 : Option Nat) (k b : List Int) (h1 : k.length = n) (h2 : b.length = n2) (h3 : By k) (h4 : By b) : EL.orc 24 [.im 1 n c (.flat .u8 k), .im 1 n2 c2 (.flat .u8 b)] = some (encR 54 k b) := if_pos ⟨h1, h2, h3.ok, h4.ok⟩
theorem lrEnc (n n2 : Nat) (c c2 : Option Nat) (k b : List Int) (h1 : k.length = n) (h2 : b.length = n2) (h3 : By k) (h4 : By b) : EL.orc 48 [.im 1 n c (.flat .u8 k), .im 1 n2 c2 (.flat .u8 b)] = some (encR 5 k b) := if_pos ⟨h1, h2, h3.ok, h4.ok⟩
theorem lMod (v n r : Int) (hn : 0 < n ∧ n < 9223372036854775808) (hr : v % n = r) : EL.orc 13 [.v (.int .i64 v), .v (.int .i64 n)] = some (ret1 (.v (.int .i64 r))) := by
  subst hr
  exact if_pos hn
theorem lEncOk (c c2 : Option Nat) (k b : List Int) (h1 : k.length = 16) (h2 : b.length = 16) (h3 : By k) (h4 : By b) : EL.orc 24 [.im 1 16 c (.flat .u8 k), .im 1 16 c2 (.flat .u8 b)] = some (ret2 (.own 1 16 54 (.flat .u8 (encS k b 10))) 0) := by
  rw [lEnc _ _ _ _ _ _ h1 h2 h3 h4, encR, if_pos ⟨h1, h2⟩]
theorem lEncNo (n n2 : Nat) (c c2 : Option Nat) (k b : List Int) (h1 : k.length = n) (h2 : b.length = n2) (hn : ¬ (n = 16 ∧ n2 = 16)) (h3 : By k) (h4 : By b) : EL.orc 24 [.im 1 n c (.flat .u8 k), .im 1 n2 c2 (.flat .u8 b)] = some (no2 1) := by
  rw [lEnc _ _ _ _ _ _ h1 h2 h3 h4, encR, if_neg (by omega)]
theorem lrEncOk (c c2 : Option Nat) (k b : List Int) (h1 : k.length = 16) (h2 : b.length = 16) (h3 : By k) (h4 : By b) : EL.orc 48 [.im 1 16 c (.flat .u8 k), .im 1 16 c2 (.flat .u8 b)] = some (ret2 (.own 1 16 5 (.flat .u8 (encS k b 10))) 0) := by
  rw [lrEnc _ _ _ _ _ _ h1 h2 h3 h4, encR, if_pos ⟨h1, h2⟩]
theorem lrEncNo (n n2 : Nat) (c c2 : Option Nat) (k b : List Int) (h1 : k.length = n) (h2 : b.length = n2) (hn : ¬ (n = 16 ∧ n2 = 16)) (h3 : By k) (h4 : By b) : EL.orc 48 [.im 1 n c (.flat .u8 k), .im 1 n2 c2 (.flat .u8 b)] = some (no2 1) := by
  rw [lrEnc _ _ _ _ _ _ h1 h2 h3 h4, encR, if_neg (by omega)]
theorem str_neq_self {a : List Int} (h : By a) : binV .neq (.str a) (.str a) = some (.v (.bool false)) := by
  rw [str_neq h h]; simp
theorem str_eql_self {a : List Int} (h : By a) : binV .eql (.str a) (.str a) = some (.v (.bool true)) := by
  rw [str_eql h h]; simp
theorem By.take {l : List Int} (h : By l) (n : Nat) : By (l.take n) := fun x hx => h x (List.mem_of_mem_take hx)
theorem By.drop {l : List Int} (h : By l) (n : Nat) : By (l.drop n) := fun x hx => h x (List.mem_of_mem_drop hx)
theorem lSome (k : Int) (m : Nat) (h : m ≤ 100000 ∧ 0 < m) : EL.orc 14 [.v (.int .i64 k), .v (.int .i64 (m : Nat))] = some (.one (.own 1 m 5 (.flat .u8 (smP k m)))) := if_pos h
theorem lShort (n : Nat) (c : Option Nat) (x : Cont) (b : Bool) (h : decide ((n : Int) ≤ 600) = b) : EL.orc 18 [.im 1 n c x] = some (ret1 (.v (.bool b))) := by
  subst h; rfl
theorem decP_len (k b : List Int) : (decP k b).length = 16 := len_map
theorem decP_by {k b : List Int} (hk : By k) (hb : By b) : By (decP k b) := plusP_by (decS_by hb 10) (kk_by hk SB_by 0)
end Go.Proofs.Ytgkccfjjjamhoaa
