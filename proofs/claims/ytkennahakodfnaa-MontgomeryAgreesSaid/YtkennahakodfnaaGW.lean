/-
  Layer 9: MontgomeryAgrees.
-/
import Derived.Test.YtkennahakodfnaaGS
import Derived.Test.YtkennahakodfnaaGV
namespace Go.Proofs.Ytkennahakodfnaa
open Go.RowKit

set_option maxRecDepth 100000 in
set_option maxHeartbeats 8000000 in
theorem agrees_gen (n m : Int) (a b x y s : List Int) (la : a.length = 32) (lb : b.length = 32) (lx : x.length = 32) (ly : y.length = 32) (ls : s.length = 32) (bs : By s)
    (sa : EG6.orc 14 [iv .i64 n] = some (.one (.own 1 32 5 (.flat .u8 a)))) (sb : EG6.orc 14 [iv .i64 m] = some (.one (.own 1 32 5 (.flat .u8 b))))
    (pa : ∀ c, EG6.orc 22 [.im 1 32 c (.flat .u8 a)] = some (ret2 (.own 1 32 23 (.flat .u8 x)) 0))
    (pb : ∀ c, EG6.orc 22 [.im 1 32 c (.flat .u8 b)] = some (ret2 (.own 1 32 23 (.flat .u8 y)) 0))
    (ha : ∀ c d, EG6.orc 19 [.im 1 32 c (.flat .u8 a), .im 1 32 d (.flat .u8 y)] = some (ret2 (.own 1 32 23 (.flat .u8 s)) 0))
    (hb : ∀ c d, EG6.orc 19 [.im 1 32 c (.flat .u8 b), .im 1 32 d (.flat .u8 x)] = some (ret2 (.own 1 32 23 (.flat .u8 s)) 0))
    : execF EG6 Try.f6 [iv .i64 n, iv .i64 m] (ret1 (.v (.bool true))) := by
  have ca : (Cont.flat .u8 a).cut 0 (32 * 1) = some (.flat .u8 a) := cut_all la
  have cb : (Cont.flat .u8 b).cut 0 (32 * 1) = some (.flat .u8 b) := cut_all lb
  have cx : (Cont.flat .u8 x).cut 0 (32 * 1) = some (.flat .u8 x) := cut_all lx
  have cy : (Cont.flat .u8 y).cut 0 (32 * 1) = some (.flat .u8 y) := cut_all ly
  have cs : (Cont.flat .u8 s).cut 0 (32 * 1) = some (.flat .u8 s) := cut_all ls
  ((conv => whnf); repeat ((first | refine ⟨_, expo_sl rfl ca, ?_⟩ | refine ⟨_, expo_sl rfl cb, ?_⟩ | refine ⟨_, expo_sl rfl cx, ?_⟩ | refine ⟨_, expo_sl rfl cy, ?_⟩ | refine ⟨_, conv32 rfl ls bs, ?_⟩ | refine ⟨_, seql_self bs, ?_⟩ | ((with_reducible refine isN_EG6 14 ?_); first | refine ⟨_, sa, ?_⟩ | refine ⟨_, sb, ?_⟩) | ((with_reducible refine isN_EG6 22 ?_); first | refine ⟨_, pa _, ?_⟩ | refine ⟨_, pb _, ?_⟩) | ((with_reducible refine isN_EG6 19 ?_); first | refine ⟨_, ha _ _, ?_⟩ | refine ⟨_, hb _ _, ?_⟩) | ((with_reducible refine isN_EG6 13 ?_); first | refine ⟨_, l9_awake, ?_⟩) | refine ⟨_, rfl, ?_⟩ | refine ⟨by decide, ?_⟩ | refine ⟨rfl, ?_⟩ | refine ⟨fun _ => ?_, fun h => absurd h (by decide)⟩ | refine ⟨fun h => absurd h (by decide), fun _ => ?_⟩ | refine ⟨inI_of (by omega), ?_⟩ | refine ⟨⟨rfl, inI_of (by omega)⟩, ?_⟩ | refine ⟨⟨rfl, by decide⟩, ?_⟩ | (apply Exists.intro; refine ⟨?_, ?_⟩; ((try simp only); (try simp only [Nat.zero_add]); (try simp only [Nat.mul_one]); (try simp only [Int.toNat_natCast]); exact at_g (by omega))) | (apply Exists.intro; refine ⟨?_, ?_⟩; ((try simp only); (try simp only [Nat.zero_add]); (try simp only [Nat.mul_one]); (try simp only [Int.toNat_natCast]); exact put_flat (by omega))) | refine ⟨_, cut_all (by omega), ?_⟩ | refine ⟨_, lay_all (by omega) (by omega), ?_⟩ | refine ⟨_, lay_all (by (try simp only); (try simp only [List.length_replicate]); (try simp only [List.length_cons]); (try simp only [List.length_nil]); omega) (by omega), ?_⟩ | refine ⟨by omega, ?_⟩ | refine ⟨len_flat (by omega), ?_⟩ | refine ⟨apart_uv _ _ _, ?_⟩ | refine ⟨_, resSlot_own rfl (by omega) (by first | exact .inl rfl | exact .inr ⟨rfl, rfl⟩), ?_⟩ | refine ⟨(by kernel_rfl : regB _ = true), ?_⟩ | refine ⟨⟨rfl, inI_of (by omega), by decide⟩, ?_⟩ | (apply Exists.intro; refine ⟨?_, ?_⟩; ((try simp only); (try simp only [Nat.zero_add]); (try simp only [Nat.mul_one]); (try simp only [Int.toNat_natCast]); exact at_drop_g (by omega))) | (apply Exists.intro; refine ⟨?_, ?_⟩; ((try simp only); (try simp only [Nat.zero_add]); (try simp only [Nat.mul_one]); (try simp only [Int.toNat_natCast]); exact cut_rest (by omega)))); conv => whnf))
  rfl
theorem agrees_exec (n m : Int) : execF EG6 Try.f6 [iv .i64 n, iv .i64 m] (ret1 (.v (.bool true))) := by
  have la := sdP_len n
  have lb := sdP_len m
  have ba := sdP_by n
  have bb := sdP_by m
  have sa := l9_Seed n
  have sb := l9_Seed m
  generalize sdP n = a at *
  generalize sdP m = b at *
  obtain ⟨h1, h2⟩ := x25_agree (nb a) (nb b)
  have nx : nb (by32 (x25 (nb a) 9)) = x25 (nb a) 9 := nb_by32 (x25_lt _ _)
  have ny : nb (by32 (x25 (nb b) 9)) = x25 (nb b) 9 := nb_by32 (x25_lt _ _)
  refine agrees_gen n m a b (by32 (x25 (nb a) 9)) (by32 (x25 (nb b) 9)) (by32 (x25 (nb a) (x25 (nb b) 9))) la lb (byk_len _ _) (byk_len _ _) (byk_len _ _) (byk_by _ _) sa sb (fun c => ?_) (fun c => ?_) (fun c d => ?_) (fun c d => ?_)
  · rw [l9_pPublic la ba, pubR, if_pos rfl]
  · rw [l9_pPublic lb bb, pubR, if_pos rfl]
  · rw [l9_pShared la (byk_len _ _) ba (byk_by _ _), shaR, if_pos ⟨rfl, rfl⟩, ny, if_neg h2]
  · rw [l9_pShared lb (byk_len _ _) bb (byk_by _ _), shaR, if_pos ⟨rfl, rfl⟩, nx, ← h1, if_neg h2]
end Go.Proofs.Ytkennahakodfnaa
