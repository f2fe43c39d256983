/-
  The program's functions of layer 4 keep their promises.
-/
import Derived.Test.YtomeeeakaejokaaPrgSum
namespace Go.Proofs.Ytomeeeakaejokaa
open Go.RowKit

set_option maxHeartbeats 1000000 in
set_option maxRecDepth 100000 in
theorem prgSum256 : PSum256 := by
  intro a c b w hb hc hr
  obtain ⟨C, hC⟩ : ∃ C, C = kind32 := ⟨_, rfl⟩
  have HK := hid (fun W => kind256_any W)
  have HS := hid (fun (W : World) (h : RowAt (fun _ => True) .u8 W a b) => sum32_any a c b W hb hc h)
  rw [← hC] at HK HS
  clear hC
  go_enter Try.func23, Try.ntmps23
  go_wp2_with fail
  refine (HK.out w).mono ?_
  rintro e w1 ⟨rfl, hk1⟩
  go_wp2_with fail
  refine (HS.out w1 (hr.keeps hk1 (fun _ _ h => h))).mono ?_
  rintro e w2 ⟨v, rfl, hown, hk2⟩
  go_wp2_with fail
  go_ret
  exact ⟨v, rfl, hown.lower hk1.size, hk1.trans hk2⟩

end Go.Proofs.Ytomeeeakaejokaa
