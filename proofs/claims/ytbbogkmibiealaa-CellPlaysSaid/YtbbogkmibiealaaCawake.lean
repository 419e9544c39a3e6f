/-
  The laws' first calls.
-/
import Derived.Deep.DeepCutAuto
import Derived.Test.YtbbogkmibiealaaCheld
import Derived.Test.YtbbogkmibiealaaCsame2
namespace Go.Proofs.Ytbbogkmibiealaa
open Go.RowKit Gm

namespace Gm
def aw1 : List Bd := [⟨[97], [110], 2⟩]
def aw2 : Ms := ⟨1, 1, 1, 2, 1, 20, aw1⟩
def aw3 : Ce := ⟨1, 1, 2, 1, 20, aw1⟩
def aw4 : Ms := ⟨1, 1, 0, 3, 0, 0, []⟩
def aw5 : Ce := ⟨1, 1, 3, 0, 20, aw1⟩
def aw6 : Ms := ⟨1, 1, 1, 2, 9, 20, aw1⟩
theorem awt1 : tookC (newC 1 1) aw2 = true := by decide
theorem awr1 : recvC (newC 1 1) aw2 = aw3 := by unfold recvC; rw [if_pos awt1]; rfl
theorem awt2 : tookC aw3 aw2 = false := by decide
theorem awr2 : recvC aw3 aw2 = aw3 := recv_same awt2
theorem awt3 : tookC aw3 aw4 = true := by decide
theorem awr3 : recvC aw3 aw4 = aw5 := by unfold recvC; rw [if_pos awt3]; rfl
theorem awt4 : tookC aw5 aw6 = false := by decide
theorem awr4 : recvC aw5 aw6 = aw5 := recv_same awt4
theorem awu1 : runC aw5 19 = aw1 := by decide
theorem awu2 : runC aw5 20 = [] := by decide
theorem aw_few : Few aw1 := by unfold Few aw1; simp
theorem aw_m2 : OkM aw2 := ⟨by unfold I64 aw2; simp, aw_few.ok⟩
theorem aw_m4 : OkM aw4 := ⟨by unfold I64 aw4; simp, Few.nil.ok⟩
theorem aw_m6 : OkM aw6 := ⟨by unfold I64 aw6; simp, aw_few.ok⟩
theorem aw_c1 : OkC (newC 1 1) := OkC.new 1 1 (by unfold I64; omega) (by unfold I64; omega)
theorem aw_c3 : OkC aw3 := ⟨by unfold I64 aw3; simp, aw_few⟩
theorem aw_c5 : OkC aw5 := ⟨by unfold I64 aw5; simp, aw_few⟩
end Gm
/-- The row of the example's bind. -/
abbrev awO : Obj := .cells #[.string { data := #[97] }, .string { data := #[110] }, .int .i64 2] 35 (0, 0)
theorem aw_row {bs : List (Nat × Obj)} {g : Nat} (h : (g, awO) ∈ bs) : RowK bs (.slice (some ⟨g, 0, none⟩) 1 1) aw1 := ⟨some ⟨g, 0, none⟩, 1, rfl, .inr ⟨g, _, h, rfl, rfl⟩⟩
theorem Held.recvAs {Y : Type} {B : Kind Y} {w0 w : World} {p q : Nat} {D : Ce} {E : Y} {bs : List (Nat × Obj)} (hB : Lawful B) (h : Held PCell B w0 w p D q E bs) (ok : OkC D) (m : Ms) (hm : OkM m) {a : Option Addr} {n cap : Nat} (hb : RowK bs (.slice a n cap) m.l) {b : Bool} {D' : Ce} (ht : tookC D m = b) (hr : recvC D m = D') :
    Calls Try.prog 11 #[.pointer (some ⟨p, 0, none⟩), msgV m.kind m.cell m.boot m.epoch m.ver m.unt a n cap] w fun x w' => x = .returned (.bool b) ∧ Held PCell B w0 w' p D' q E bs := by
  subst ht hr
  exact h.recv1 pIn hB ok m.kind m.cell m.boot m.epoch m.ver m.unt (l := m.l) hm fun R Q g => hb.at g
set_option maxRecDepth 100000 in
set_option maxHeartbeats 8000000 in
theorem awake_any (w : World) : Calls Try.prog 8 #[] w fun e w' => e = .returned (.bool true) ∧ Below w.heap.size w w' := by
  have i1 : I64 1 := by unfold I64; omega
  have H0 := Lib.hid (Held.start (X := Ce) (Y := Unit) w (newC 0 0) ())
  go_enter Try.func8, Try.ntmps8
  go_upto_region 4 with (go_at_call 9; refine (H0.out.pNew1 nobody_law 1 1 i1 i1).mono ?_; rintro e w1 ⟨p, rfl, h1⟩; have H1 := Lib.hid h1; clear h1)
  go_upto_region 6 with fail
  have h2 := H1.out.push pcell_law nobody_law awO
  have hs2 : (w1.alloc awO).heap.size = w1.heap.size + 1 := by simp
  have h3 := h2.push pcell_law nobody_law (msgO 1 1 1 2 1 20 (some ⟨w1.heap.size, 0, none⟩) 1 1)
  rw [hs2] at h3
  obtain ⟨W3, hW3⟩ : ∃ W, (w1.alloc awO).alloc (msgO 1 1 1 2 1 20 (some ⟨w1.heap.size, 0, none⟩) 1 1) = W := ⟨_, rfl⟩
  rw [hW3] at h3 ⊢
  obtain ⟨g0, hg0⟩ : ∃ g, w1.heap.size = g := ⟨_, rfl⟩
  rw [hg0] at h3 ⊢
  obtain ⟨g1, hg1⟩ : ∃ g, g0 + 1 = g := ⟨_, rfl⟩
  rw [hg1] at h3 ⊢
  have hne : g1 ≠ g0 := by omega
  obtain ⟨bs, hbs⟩ : ∃ bs, [(g1, msgO 1 1 1 2 1 20 (some ⟨g0, 0, none⟩) 1 1), (g0, awO)] = bs := ⟨_, rfl⟩
  have hm0 : (g0, awO) ∈ bs := by rw [← hbs]; simp
  have hm1 : (g1, msgO 1 1 1 2 1 20 (some ⟨g0, 0, none⟩) 1 1) ∈ bs := by rw [← hbs]; simp
  rw [hbs] at h3
  have H3 := Lib.hid h3
  have HM0 := Lib.hid hm0
  have HM1 := Lib.hid hm1
  have HNE := Lib.hid hne
  have hc3 := msg_cells (h3.own hm1)
  obtain ⟨c0, c1, c2, c3, c4, c5, c6, _, cl⟩ := hc3
  have C6 : Hid (Calls Try.prog 11 #[.pointer (some ⟨p, 0, none⟩), msgV 1 1 1 2 1 20 (some ⟨g0, 0, none⟩) 1 1] W3 fun x w' => x = .returned (.bool true) ∧ Held PCell (Nobody (X := Unit)) w w' p aw3 0 () bs) := Lib.hid (h3.recvAs nobody_law aw_c1 aw2 aw_m2 (aw_row hm0) awt1 awr1)
  clear h2 hs2 h3 hW3 hg0 hg1 hbs hm0 hm1 hne H1 H0 i1
  go_upto_region 7 with (go_at_call 11; (with_reducible refine C6.out.mono ?_); rintro x w4 ⟨rfl, h4⟩; have H4 := Lib.hid h4; clear h4)
  have C7 : Hid (Calls Try.prog 11 #[.pointer (some ⟨p, 0, none⟩), msgV 1 1 1 2 1 20 (some ⟨g0, 0, none⟩) 1 1] w4 fun x w' => x = .returned (.bool false) ∧ Held PCell (Nobody (X := Unit)) w w' p aw3 0 () bs) := Lib.hid (H4.out.recvAs nobody_law aw_c3 aw2 aw_m2 (aw_row HM0.out) awt2 awr2)
  obtain ⟨d0, d1, d2, d3, d4, d5, d6, _, dl⟩ := msg_cells (H4.out.own HM1.out)
  clear C6 c0 c1 c2 c3 c4 c5 c6 cl H3
  go_upto_region 8 with (go_at_call 11; (with_reducible refine C7.out.mono ?_); rintro x w5 ⟨rfl, h5⟩; have H5 := Lib.hid h5; clear h5)
  have C8 : Hid (Calls Try.prog 11 #[.pointer (some ⟨p, 0, none⟩), msgV 1 1 0 3 0 0 none 0 0] w5 fun x w' => x = .returned (.bool true) ∧ Held PCell (Nobody (X := Unit)) w w' p aw5 0 () bs) := Lib.hid (H5.out.recvAs nobody_law aw_c3 aw4 aw_m4 (RowK.nil bs) awt3 awr3)
  clear C7 d0 d1 d2 d3 d4 d5 d6 dl H4
  go_upto_region 9 with (go_at_call 11; (with_reducible refine C8.out.mono ?_); rintro x w6 ⟨rfl, h6⟩; have H6 := Lib.hid h6; clear h6)
  have C9 : Hid (Calls Try.prog 15 #[.pointer (some ⟨p, 0, none⟩)] w6 fun x w' => ∃ a cap cs, x = .returned (msgV 2 1 1 3 0 20 a 1 cap) ∧ Held PCell (Nobody (X := Unit)) w w' p aw5 0 () cs ∧ (∀ x ∈ bs, x ∈ cs) ∧ RowK cs (.slice a 1 cap) aw1) := Lib.hid ((H6.out.rep1 pIn nobody_law aw_c5).mono fun x w' ⟨a, cap, h1, h2, h3, _⟩ => by
    obtain ⟨cs, k1, k2, k3⟩ := H6.out.row pcell_law nobody_law h3 (l := aw1) h2
    exact ⟨a, cap, cs, h1, k1, k2, k3⟩)
  clear C8 H5
  go_upto_region 10 with (go_at_call 15; (with_reducible refine C9.out.mono ?_); rintro x w7 ⟨ra, rc, cs, rfl, h7, hs7, hr7⟩
                          have h8 := h7.push pcell_law nobody_law (msgO 2 1 1 3 0 20 ra 1 rc)
                          have H8 := Lib.hid h8
                          have HS7 := Lib.hid hs7
                          have HR7 := Lib.hid hr7
                          clear h7 hs7 hr7 h8)
  obtain ⟨w8, hw8⟩ : ∃ W, w7.alloc (msgO 2 1 1 3 0 20 ra 1 rc) = W := ⟨_, rfl⟩
  obtain ⟨g7, hg7⟩ : ∃ g, w7.heap.size = g := ⟨_, rfl⟩
  have h8 := H8.out
  have hm1 : (g1, msgO 1 1 1 2 1 20 (some ⟨g0, 0, none⟩) 1 1) ∈ (w7.heap.size, msgO 2 1 1 3 0 20 ra 1 rc) :: cs := List.mem_cons_of_mem _ (HS7.out _ HM1.out)
  have hnd := h8
  obtain ⟨_, _, hnd⟩ := hnd
  have hn7 : w7.heap.size ≠ g1 := (List.pairwise_cons.1 hnd.nd).1 _ (HS7.out _ HM1.out)
  obtain ⟨ds, h9, hm9, hs9⟩ := h8.setMem pcell_law nobody_law hm1 4 (.int .i64 9)
  have hm9' : (g1, msgO 1 1 1 2 9 20 (some ⟨g0, 0, none⟩) 1 1) ∈ ds := hm9
  have hm0 : (g0, awO) ∈ ds := hs9 _ (List.mem_cons_of_mem _ (HS7.out _ HM0.out)) HNE.out.symm
  have hm7 : (w7.heap.size, msgO 2 1 1 3 0 20 ra 1 rc) ∈ ds := hs9 _ (List.mem_cons_self ..) hn7
  have hr9 : RowK ds (.slice ra 1 rc) aw1 := by
    obtain ⟨a', c', e1, e2⟩ := HR7.out
    refine ⟨a', c', e1, e2.imp id fun ⟨g, cur, k1, k2⟩ => ⟨g, cur, hs9 _ (List.mem_cons_of_mem _ k1) fun e => ?_, k2⟩⟩
    dsimp only at e
    subst e
    have q1 := hnd.own _ (List.mem_cons_of_mem _ k1)
    have q2 := hnd.own _ hm1
    rw [q2.1] at q1
    have q3 := q1.1
    injection q3 with q3
    injection q3 with _ q4
    exact absurd q4 (by decide)
  obtain ⟨_, _, _, _, d4, _, _, df, dl⟩ := msg_cells (h8.own hm1)
  have df4 := df 4
  rw [hw8] at h9 d4 df4 dl ⊢
  rw [hg7] at hm7 ⊢
  obtain ⟨W9, hW9⟩ : ∃ W, w8.setCell ⟨g1, 4, none⟩ (.int .i64 9) = W := ⟨_, rfl⟩
  rw [hW9] at h9
  have HW9 := Lib.hid hW9
  have H9 := Lib.hid h9
  have HM9 := Lib.hid hm9'
  have HM0' := Lib.hid hm0
  have HM7 := Lib.hid hm7
  have HR9 := Lib.hid hr9
  clear C9 H8 HS7 HR7 hw8 hg7 h8 hm1 hnd hn7 hm9 hs9 hm9' hm0 hm7 hr9 df hW9 h9
  go_upto_region 11 with fail
  rw [HW9.out]
  obtain ⟨x0, x1, x2, x3, x4, x5, x6, _, xl⟩ := msg_cells (H9.out.own HM7.out)
  obtain ⟨y0, y1, y2, y3, y4, y5, y6, _, yl⟩ := msg_cells (H9.out.own HM9.out)
  have C11 : Hid (Calls Try.prog 14 #[msgV 2 1 1 3 0 20 ra 1 rc, msgV 2 1 1 3 0 20 (some ⟨g0, 0, none⟩) 1 1] W9 fun x w' => x = .returned (.bool true) ∧ Below W9.heap.size W9 w') := Lib.hid ((same16_any 2 1 1 3 0 20 2 1 1 3 0 20 ra (some ⟨g0, 0, none⟩) 1 rc 1 1 aw1 aw1 W9 (by omega) (HR9.out.now H9.out) ((aw_row HM0'.out).now H9.out)).mono fun x w' ⟨h1, h2⟩ => ⟨h1.trans (by simp), h2⟩)
  clear d4 df4 dl
  go_wp2_with (first
    | (go_at_call 14; (with_reducible refine C11.out.mono ?_); rintro x w10 ⟨rfl, hb10⟩
       have h10 := H9.out.below pcell_law nobody_law hb10
       have H10 := Lib.hid h10
       have C12 : Hid (Calls Try.prog 11 #[.pointer (some ⟨p, 0, none⟩), msgV 1 1 1 2 9 20 (some ⟨g0, 0, none⟩) 1 1] w10 fun x w' => x = .returned (.bool false) ∧ Held PCell (Nobody (X := Unit)) w w' p aw5 0 () ds) := Lib.hid (h10.recvAs nobody_law aw_c5 aw6 aw_m6 (aw_row HM0'.out) awt4 awr4)
       obtain ⟨z0, z1, z2, z3, z4, z5, z6, _, zl⟩ := msg_cells (h10.own HM9.out)
       clear hb10 h10)
    | (go_at_call 11; (with_reducible refine C12.out.mono ?_); rintro x w11 ⟨rfl, h11⟩
       have H11 := Lib.hid h11
       have C13 : Hid (Calls Try.prog 17 #[.pointer (some ⟨p, 0, none⟩), .int .i64 19] w11 fun x w' => ∃ a cap, x = .returned (.slice a 1 cap) ∧ w'.ownsRow w11.heap.size 35 3 (.slice a 1 cap) 1 (bdsV aw1) ∧ Below w11.heap.size w11 w' ∧ Held PCell (Nobody (X := Unit)) w w' p aw5 0 () ds) := Lib.hid (by
         have h := h11.run1 pIn nobody_law aw_c5 19 (by unfold I64; omega)
         simp only [id] at h
         rw [awu1] at h
         exact h)
       clear h11)
    | (go_at_call 17; (with_reducible refine C13.out.mono ?_); rintro x w12 ⟨va, vc, rfl, ho12, hb12, h12⟩
       have H12 := Lib.hid h12
       have C14 : Hid (Calls Try.prog 13 #[.slice va 1 vc, .slice (some ⟨g0, 0, none⟩) 1 1] w12 fun x w' => x = .returned (.bool true) ∧ Below w12.heap.size w12 w') := Lib.hid (same8_self va (some ⟨g0, 0, none⟩) 1 vc 1 1 aw1 w12 (by omega) (fresh_binds ho12) ((aw_row HM0'.out).now h12))
       clear ho12 hb12 h12)
    | (go_at_call 13; (with_reducible refine C14.out.mono ?_); rintro x w13 ⟨rfl, hb13⟩
       have h13 := H12.out.below pcell_law nobody_law hb13
       have C15 : Hid (Calls Try.prog 17 #[.pointer (some ⟨p, 0, none⟩), .int .i64 20] w13 fun x w' => ∃ a cap, x = .returned (.slice a 0 cap) ∧ Held PCell (Nobody (X := Unit)) w w' p aw5 0 () ds) := Lib.hid (by
         have h := h13.run1 pIn nobody_law aw_c5 20 (by unfold I64; omega)
         simp only [id] at h
         rw [awu2] at h
         exact h.mono fun x w' ⟨a, cap, k1, _, _, k4⟩ => ⟨a, cap, k1, k4⟩)
       clear hb13 h13)
    | (go_at_call 17; (with_reducible refine C15.out.mono ?_); rintro x w14 ⟨va', vc', rfl, h14⟩; have H14 := Lib.hid h14; clear h14))
  go_ret
  exact ⟨rfl, H14.out.to⟩
end Go.Proofs.Ytbbogkmibiealaa
