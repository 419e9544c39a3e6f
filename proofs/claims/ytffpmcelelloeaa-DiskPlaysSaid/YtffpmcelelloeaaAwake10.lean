/-
  The laws' own first calls.
-/
import Derived.Test.YtffpmcelelloeaaPheld
namespace Go.Proofs.Ytffpmcelelloeaa
open Go.RowKit Gm

namespace Gm
theorem aw1 : appendD newD [97] [120, 121] = (⟨[⟨[97], [120, 121], 0⟩], 1, 0, false⟩, 0) := rfl
theorem aw2 : syncD ⟨[⟨[97], [120, 121], 0⟩], 1, 0, false⟩ [97] = (⟨[⟨[97], [120, 121], 2⟩], 2, 0, false⟩, 0) := rfl
theorem aw3 : appendD ⟨[⟨[97], [120, 121], 2⟩], 2, 0, false⟩ [97] [122, 119] = (⟨[⟨[97], [120, 121, 122, 119], 2⟩], 3, 0, false⟩, 0) := rfl
theorem aw4 : restartD ⟨[⟨[97], [120, 121, 122, 119], 2⟩], 3, 0, false⟩ [1] = ⟨[⟨[97], [120, 121, 122], 3⟩], 3, 0, false⟩ := rfl
theorem aw5 : readD ⟨[⟨[97], [120, 121, 122], 3⟩], 3, 0, false⟩ [97] = ([120, 121, 122], 0) := rfl
theorem aw6 : armD ⟨[⟨[97], [120, 121, 122], 3⟩], 3, 0, false⟩ 1 = (⟨[⟨[97], [120, 121, 122], 3⟩], 3, 4, false⟩, 0) := rfl
theorem aw7 : appendD ⟨[⟨[97], [120, 121, 122], 3⟩], 3, 4, false⟩ [97] [113] = (⟨[⟨[97], [120, 121, 122], 3⟩], 4, 4, true⟩, 100) := rfl
theorem aw8 : readD ⟨[⟨[97], [120, 121, 122], 3⟩], 4, 4, true⟩ [97] = ([], 100) := rfl
end Gm

set_option maxRecDepth 100000 in
set_option maxHeartbeats 2000000 in
theorem awake_any (w : World) : Calls Try.prog 9 #[] w fun e w' => e = .returned (.bool true) ∧ Below w.heap.size w w' := by
  have h0 := Held.start w
  have t1 := S_toList [120, 121, 122]
  go_enter Try.func9, Try.ntmps9
  go_wp2_with (first
    | (go_at_call 10; refine (h0.pNew nobody_law).mono ?_; rintro e w1 ⟨p, rfl, h1⟩))
  go_wp2_with (first
    | (go_at_call 14; refine (h1.pAppend nobody_law [97] [120, 121] (by decide) (by decide) (by decide)).mono ?_; rw [aw1]; rintro e w2 ⟨rfl, h2⟩))
  go_wp2_with (first
    | (go_at_call 16; refine (h2.pSync nobody_law [97] (by decide) (by decide)).mono ?_; rw [aw2]; rintro e w3 ⟨rfl, h3⟩))
  go_wp2_with (first
    | (go_at_call 14; refine (h3.pAppend nobody_law [97] [122, 119] (by decide) (by decide) (by decide)).mono ?_; rw [aw3]; rintro e w4 ⟨rfl, h4⟩))
  have h5 := h4.push pdisk_law nobody_law (.cells #[.int .i64 1] 3)
  go_wp2_with (first
    | (go_at_call 24; refine (h5.pRestart1 nobody_law (x := 1) (List.mem_cons_self ..) (by unfold I64; omega) _).mono ?_; rw [aw4]; rintro e w6 ⟨rfl, h6⟩))
  go_wp2_with (first
    | (go_at_call 26; refine (h6.pRead nobody_law [97] (by decide)).mono ?_; rw [aw5]; rintro e w7 ⟨rfl, _, h7⟩))
  go_wp2_with (first
    | (go_at_call 22; refine (h7.pArm nobody_law 1 (by decide) (by unfold I64; omega)).mono ?_; rw [aw6]; rintro e w8 ⟨rfl, h8⟩))
  go_wp2_with (first
    | (go_at_call 14; refine (h8.pAppend nobody_law [97] [113] (by decide) (by decide) (by decide)).mono ?_; rw [aw7]; rintro e w9 ⟨rfl, h9⟩))
  go_wp2_with (first
    | (go_at_call 26; refine (h9.pRead nobody_law [97] (by decide)).mono ?_; rw [aw8]; rintro e w10 ⟨rfl, _, h10⟩))
  go_wp2_with (first
    | (go_at_call 31; refine (h10.pOff nobody_law).mono ?_; rintro e w11 ⟨rfl, _, h11⟩)
    | (go_at_call 33; refine (h11.pActs nobody_law).mono ?_; rintro e w12 ⟨rfl, _, h12⟩))
  go_ret
  exact ⟨rfl, h12.to⟩
end Go.Proofs.Ytffpmcelelloeaa
