/-
  The laws' own comparison of messages.
-/
import Derived.Test.YtbbogkmibiealaaCsame
namespace Go.Proofs.Ytbbogkmibiealaa
open Go.RowKit Gm

set_option maxRecDepth 100000 in
set_option maxHeartbeats 4000000 in
theorem same16_any (k c b e v u k' c' b' e' v' u' : Int) (a a' : Option Addr) (n cap n' cap' : Nat) (l l' : List Bd) (w : World) (hn : n ≤ 1048576) (ha : BindsAt w (· < w.heap.size) a n l) (ha' : BindsAt w (· < w.heap.size) a' n' l') :
    Calls Try.prog 14 #[msgV k c b e v u a n cap, msgV k' c' b' e' v' u' a' n' cap'] w fun x w' => x = .returned (.bool (decide ((⟨k, c, b, e, v, u, l⟩ : Ms) = ⟨k', c', b', e', v', u', l'⟩))) ∧ Below w.heap.size w w' := by
  have hb0 : Below w.heap.size w (w.alloc (msgO k c b e v u a n cap)) := (Below.refl _ w).alloc (Nat.le_refl _) _
  have hb1 := hb0.alloc hb0.size (msgO k' c' b' e' v' u' a' n' cap')
  have h0 := new_at w (msgO k c b e v u a n cap)
  have h1' := new_at (w.alloc (msgO k c b e v u a n cap)) (msgO k' c' b' e' v' u' a' n' cap')
  have h0' := (((Below.refl _ (w.alloc (msgO k c b e v u a n cap))).alloc (Nat.le_refl _) (msgO k' c' b' e' v' u' a' n' cap')).block w.heap.size (by simp)).trans h0
  rw [show (w.alloc (msgO k c b e v u a n cap)).heap.size = w.heap.size + 1 by simp] at h1'
  obtain ⟨c0, c1, c2, c3, c4, c5, c6, _, hg⟩ := msg_cells h0'
  obtain ⟨g0, g1, g2, g3, g4, g5, g6, _, hg'⟩ := msg_cells h1'
  have HB0 := Lib.hid hb1
  have HS8 : Hid (Calls Try.prog 13 #[.slice a n cap, .slice a' n' cap'] ((w.alloc (msgO k c b e v u a n cap)).alloc (msgO k' c' b' e' v' u' a' n' cap')) fun x w' => x = .returned (.bool (decide (l = l'))) ∧ Below ((w.alloc (msgO k c b e v u a n cap)).alloc (msgO k' c' b' e' v' u' a' n' cap')).heap.size ((w.alloc (msgO k c b e v u a n cap)).alloc (msgO k' c' b' e' v' u' a' n' cap')) w') := Lib.hid (same8_any a a' n cap n' cap' l l' _ hn ((ha.keep fun _ h => hb1.block _ h).imp fun _ h => Nat.lt_of_lt_of_le h hb1.size) ((ha'.keep fun _ h => hb1.block _ h).imp fun _ h => Nat.lt_of_lt_of_le h hb1.size))
  obtain ⟨y, hy⟩ : ∃ y, decide (l = l') = y := ⟨_, rfl⟩
  rw [hy] at HS8
  have HY := Lib.hid hy
  clear hb0 hb1 h0 h1' h0' ha ha' hy
  by_cases h1 : k = k'
  · have d1 : (k == k') = true := by simpa using h1
    have D1 : (k != k') = false := by simpa using h1
    by_cases h2 : c = c'
    · have d2 : (c == c') = true := by simpa using h2
      have D2 : (c != c') = false := by simpa using h2
      by_cases h3 : b = b'
      · have d3 : (b == b') = true := by simpa using h3
        have D3 : (b != b') = false := by simpa using h3
        by_cases h4 : e = e'
        · have d4 : (e == e') = true := by simpa using h4
          have D4 : (e != e') = false := by simpa using h4
          by_cases h5 : v = v'
          · have d5 : (v == v') = true := by simpa using h5
            have D5 : (v != v') = false := by simpa using h5
            by_cases h6 : u = u'
            · have d6 : (u == u') = true := by simpa using h6
              have D6 : (u != u') = false := by simpa using h6
              have HF : Hid (decide ((⟨k, c, b, e, v, u, l⟩ : Ms) = ⟨k', c', b', e', v', u', l'⟩) = decide (l = l')) := Lib.hid (decide_eq_decide.2 ⟨fun h => by injection h, fun h => by rw [h1, h2, h3, h4, h5, h6, h]⟩)
              clear h1 h2 h3 h4 h5 h6
              go_enter Try.func14, Try.ntmps14
              go_wp2_with (go_at_call 13; (with_reducible refine HS8.out.mono ?_); rintro e' w1 ⟨rfl, hb1⟩; have HB1 := Lib.hid hb1; clear hb1)
              go_ret
              exact ⟨ret_bool (HY.out.symm.trans HF.out.symm), bt HB0.out HB1.out⟩
            · have d6 : (u == u') = false := by simpa using h6
              have HF : Hid (decide ((⟨k, c, b, e, v, u, l⟩ : Ms) = ⟨k', c', b', e', v', u', l'⟩) = false) := Lib.hid (decide_eq_false fun h => h6 (by injection h))
              clear h1 h2 h3 h4 h5 h6
              go_enter Try.func14, Try.ntmps14
              go_wp2
              go_ret
              exact ⟨ret_bool HF.out.symm, HB0.out⟩
          · have d5 : (v == v') = false := by simpa using h5
            have HF : Hid (decide ((⟨k, c, b, e, v, u, l⟩ : Ms) = ⟨k', c', b', e', v', u', l'⟩) = false) := Lib.hid (decide_eq_false fun h => h5 (by injection h))
            clear h1 h2 h3 h4 h5
            go_enter Try.func14, Try.ntmps14
            go_wp2
            go_ret
            exact ⟨ret_bool HF.out.symm, HB0.out⟩
        · have d4 : (e == e') = false := by simpa using h4
          have HF : Hid (decide ((⟨k, c, b, e, v, u, l⟩ : Ms) = ⟨k', c', b', e', v', u', l'⟩) = false) := Lib.hid (decide_eq_false fun h => h4 (by injection h))
          clear h1 h2 h3 h4
          go_enter Try.func14, Try.ntmps14
          go_wp2
          go_ret
          exact ⟨ret_bool HF.out.symm, HB0.out⟩
      · have d3 : (b == b') = false := by simpa using h3
        have HF : Hid (decide ((⟨k, c, b, e, v, u, l⟩ : Ms) = ⟨k', c', b', e', v', u', l'⟩) = false) := Lib.hid (decide_eq_false fun h => h3 (by injection h))
        clear h1 h2 h3
        go_enter Try.func14, Try.ntmps14
        go_wp2
        go_ret
        exact ⟨ret_bool HF.out.symm, HB0.out⟩
    · have d2 : (c == c') = false := by simpa using h2
      have HF : Hid (decide ((⟨k, c, b, e, v, u, l⟩ : Ms) = ⟨k', c', b', e', v', u', l'⟩) = false) := Lib.hid (decide_eq_false fun h => h2 (by injection h))
      clear h1 h2
      go_enter Try.func14, Try.ntmps14
      go_wp2
      go_ret
      exact ⟨ret_bool HF.out.symm, HB0.out⟩
  · have d1 : (k == k') = false := by simpa using h1
    have HF : Hid (decide ((⟨k, c, b, e, v, u, l⟩ : Ms) = ⟨k', c', b', e', v', u', l'⟩) = false) := Lib.hid (decide_eq_false fun h => h1 (by injection h))
    clear h1
    go_enter Try.func14, Try.ntmps14
    go_wp2
    go_ret
    exact ⟨ret_bool HF.out.symm, HB0.out⟩
end Go.Proofs.Ytbbogkmibiealaa
