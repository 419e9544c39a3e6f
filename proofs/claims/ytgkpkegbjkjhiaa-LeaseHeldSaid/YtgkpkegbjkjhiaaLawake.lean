/-
  The laws' own first calls.
-/
import Derived.Test.YtgkpkegbjkjhiaaLheld
namespace Go.Proofs.Ytgkpkegbjkjhiaa
open Go.RowKit Gm

namespace Gm
theorem aw1 : newB 0 = ⟨true, 24, []⟩ := rfl
theorem aw2 : passB ⟨true, 24, []⟩ 27 = ⟨true, 24, []⟩ := rfl
theorem aw3 : passB ⟨true, 24, []⟩ 28 = ⟨false, 24, []⟩ := rfl
theorem aw4 : untilN 7 = 27 := rfl
theorem aw5 : holdsN 26 27 = true := rfl
theorem aw6 : holdsN 27 27 = false := rfl
theorem aw7 : overN 30 27 = false := rfl
theorem aw8 : overN 31 27 = true := rfl
theorem aw9 : heldB ⟨false, 24, []⟩ [97] = 0 := rfl
theorem awk : OkB ⟨true, 24, []⟩ := aw1 ▸ OkB.new 0
theorem awl : OkB ⟨false, 24, []⟩ := aw3 ▸ awk.pass 28
end Gm
theorem e97 : S [97] = { data := #[97] } := rfl

set_option maxRecDepth 100000 in
set_option maxHeartbeats 2000000 in
theorem awake_any (w : World) : Calls Try.prog 9 #[] w fun e w' => e = .returned (.bool true) ∧ Below w.heap.size w w' := by
  have h0 := Held.start w (default : Bk) (default : Bk)
  go_enter Try.func9, Try.ntmps9
  go_wp2_with (go_at_call 10; with_reducible refine (h0.pNew nobody_law 0 (by unfold I64; omega)).mono ?_; rw [aw1]; rintro e w1 ⟨p, rfl, h1⟩)
  go_wp2_with (go_at_call 28; with_reducible refine (h1.pKnown nobody_law).mono ?_; rintro e w2 ⟨rfl, _, h2⟩)
  go_wp2_with (go_at_call 26; with_reducible refine (h2.pPass nobody_law awk 27 (by unfold I64; omega)).mono ?_; rw [aw2]; rintro e w3 ⟨rfl, h3⟩)
  go_wp2_with (go_at_call 28; with_reducible refine (h3.pKnown nobody_law).mono ?_; rintro e w4 ⟨rfl, _, h4⟩)
  go_wp2_with (go_at_call 26; with_reducible refine (h4.pPass nobody_law awk 28 (by unfold I64; omega)).mono ?_; rw [aw3]; rintro e w5 ⟨rfl, h5⟩)
  go_wp2_with (first
    | (go_at_call 12; with_reducible refine (h5.pUntil pbook_law nobody_law 7 (by unfold I64; omega)).mono ?_; rw [aw4]; rintro e w6 ⟨rfl, _, h6⟩)
    | (go_at_call 14; with_reducible refine (h6.pHolds pbook_law nobody_law 26 27 (by unfold I64; omega) (by unfold I64; omega)).mono ?_; rw [aw5]; rintro e w7 ⟨rfl, _, h7⟩)
    | (go_at_call 14; with_reducible refine (h7.pHolds pbook_law nobody_law 27 27 (by unfold I64; omega) (by unfold I64; omega)).mono ?_; rw [aw6]; rintro e w8 ⟨rfl, _, h8⟩)
    | (go_at_call 16; with_reducible refine (h8.pOver pbook_law nobody_law 30 27 (by unfold I64; omega) (by unfold I64; omega)).mono ?_; rw [aw7]; rintro e w9 ⟨rfl, _, h9⟩)
    | (go_at_call 16; with_reducible refine (h9.pOver pbook_law nobody_law 31 27 (by unfold I64; omega) (by unfold I64; omega)).mono ?_; rw [aw8]; rintro e w10 ⟨rfl, _, h10⟩)
    | (go_at_call 28; with_reducible refine (h10.pKnown nobody_law).mono ?_; rintro e w11 ⟨rfl, _, h11⟩)
    | (go_at_call 30; refine (h11.pHeld nobody_law awl [97] (by decide)).mono ?_; rw [aw9]; rintro e w12 ⟨rfl, _, h12⟩))
  go_ret
  exact ⟨rfl, h12.to⟩
end Go.Proofs.Ytgkpkegbjkjhiaa
