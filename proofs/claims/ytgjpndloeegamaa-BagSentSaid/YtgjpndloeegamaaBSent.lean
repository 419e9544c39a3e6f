/-
  The statement BagSent is proved for every script: whatever is taken was sent, and as often as a text was sent and doubled it is under way, less what was taken and dropped of it. No condition.
-/
import Derived.Deep.QuietTactic
import Derived.Deep.DeepCutAuto
import Derived.Deep.CutBlock
import Derived.Test.YtgjpndloeegamaaMix
import Derived.Test.YtgjpndloeegamaaCalm
import Derived.Test.YtgjpndloeegamaaBheld
import Derived.Test.YtgjpndloeegamaaBcnt
import Derived.Test.YtgjpndloeegamaaOpen17
import Derived.Test.YtgjpndloeegamaaRows
namespace Go.Proofs.Ytgjpndloeegamaa.lawBSent
open Go.ChangeShapes Go.WideShapes Go.ChangeAt Go.RowKit Gm

/-- The bag p has the texts D, and so many are counted. -/
abbrev M (gr gx ga : Nat) (w wr : World) (p q : Nat) (D : List Bs) (bs : List (Nat × Obj)) : Prop := Held PBag (CountK gr gx ga) w wr p D q D bs
theorem actc {W : World} {g : Nat} {v0 v1 v2 v3 : Value} (h : W.heap[g]? = some (.cells #[v0, v1, v2, v3] 29)) : (W.cell? ⟨g, 0, none⟩ = some v0 ∧ W.cell? ⟨g, 1, none⟩ = some v1 ∧ W.cell? ⟨g, 2, none⟩ = some v2 ∧ W.cell? ⟨g, 3, none⟩ = some v3) ∧ g < W.heap.size :=
  ⟨cells4 h, (Array.getElem?_eq_some_iff.1 h).1⟩
set_option maxRecDepth 100000 in
set_option maxHeartbeats 8000000 in
theorem walk (a : Option Addr) (len cap : Nat) (l : List ActE) (w : World) (h0 : ActsAt w.heap.size w a len l) :
    Calls Try.prog 4 #[.slice a len cap] w fun e w' => e = .returned (.bool true) ∧ Below w.heap.size w w' := by
  have HT := Lib.hid h0
  have hlen := h0.2.1
  have HL := Lib.hid h0.1
  have H0 := Lib.hid (Held.start (X := List Bs) (Y := List Bs) w [] [])
  clear h0
  go_enter Try.func4, Try.ntmps4
  go_upto_region 2 with (go_at_call 6; refine (awake_any _).mono ?_; rintro e w1 ⟨rfl, hb1⟩; have h1 := H0.out.below nobody_law nobody_law hb1)
  go_upto_region 5 with (go_at_call 7; refine (h1.pNew nobody_law).mono ?_; rintro e w2 ⟨p, rfl, h2⟩)
  have h3 := h2.counts pbag_law
  go_upto_region 9 with fail
  obtain ⟨gr, hgr⟩ : ∃ x, w2.heap.size = x := ⟨_, rfl⟩
  rw [hgr] at h3 ⊢
  obtain ⟨gx, hgx⟩ : ∃ x, gr + 1 = x := ⟨_, rfl⟩
  rw [hgx] at h3 ⊢
  obtain ⟨q, hq⟩ : ∃ x, gx + 1 = x := ⟨_, rfl⟩
  rw [hq] at h3 ⊢
  obtain ⟨ga, hga⟩ : ∃ x, q + 1 = x := ⟨_, rfl⟩
  rw [hga] at h3 ⊢
  generalize ((((w2.alloc names5).alloc (.cells #[.slice (some ⟨gr, 0, none⟩) 5 5] 37)).alloc (.cells #[.int .i64 0, .int .i64 0, .int .i64 0, .int .i64 0, .int .i64 0] 38)).alloc (.cells #[.int .i64 0] 3)) = w3 at h3 ⊢
  have H3 : Hid (M gr gx ga w w3 p q [] []) := Lib.hid h3
  clear h1 h2 h3 hb1 H0 hgr hgx hq hga
  go_wp2
  go_loopw [9] (fun iv wr => ∃ i, i ≤ len ∧ i ≤ 200 ∧ iv = .int .i64 ((i : Nat) : Int) ∧ ∃ D, OkB D ∧ In5 D ∧ M gr gx ga w wr p q D []) (fun iv _ => len - (intOf iv).toNat)
  case atStart => exact ⟨0, Nat.zero_le _, by omega, rfl, _, OkB.nil, fun x hx => by simp at hx, H3.out⟩
  case round =>
    obtain ⟨i, hi, hi3, rfl, D, hok, hin, hh⟩ := hrel
    clear H3
    have HOK := Lib.hid hok
    have HIN := Lib.hid hin
    by_cases hlt : i < len ∧ i < 200
    · obtain ⟨hl1, hl2⟩ := hlt
      obtain ⟨_, _, b, off, ha, hc⟩ := HT.out
      have hil : i < l.length := by rw [HL.out]; exact hl1
      obtain ⟨hb, hx⟩ := hc i hil
      obtain rfl : a = some ⟨b, off, none⟩ := by
        rcases ha with h | h
        · omega
        · exact h
      obtain ⟨x, hxe⟩ : ∃ x, l[i] = x := ⟨_, rfl⟩
      rw [hxe] at hx
      obtain ⟨xw, xa, nr, xt⟩ := x
      dsimp only at hx
      obtain ⟨⟨b0, b1, b2⟩, c0, c1, c2, c3⟩ := hx
      replace c0 := (hh.to.cell (p := ⟨b, off + i * 4, none⟩) hb).trans c0
      replace c1 := (hh.to.cell (p := ⟨b, off + i * 4 + 1, none⟩) hb).trans c1
      replace c2 := (hh.to.cell (p := ⟨b, off + i * 4 + 2, none⟩) hb).trans c2
      replace c3 := (hh.to.cell (p := ⟨b, off + i * 4 + 3, none⟩) hb).trans c3
      have HB0 := Lib.hid b0
      have HB1 := Lib.hid b1
      have HB2 := Lib.hid b2
      have hi0 : (0 : Int) ≤ (i : Int) := by omega
      have hi1 : (i : Int) < (len : Int) := by omega
      have hi2 : (i : Int) < 200 := by omega
      have hb' : b < wr.heap.size := Nat.lt_of_lt_of_le hb hh.size
      have h7 := hh.push pbag_law (count_law gr gx ga) (.cells #[.int .i64 xw, .int .i64 xa, .bool nr, .string (S xt)] 29)
      have H7 := Lib.hid h7
      have hblk := h7.own (List.mem_cons_self ..)
      clear ha hc hxe hil hh hok hin b0 b1 b2 h7
      obtain ⟨X, hX⟩ : ∃ X, wr.heap.size = X := ⟨_, rfl⟩
      obtain ⟨w4, hw4⟩ : ∃ W, wr.alloc (.cells #[.int .i64 xw, .int .i64 xa, .bool nr, .string (S xt)] 29) = W := ⟨_, rfl⟩
      rw [hX, hw4] at H7 hblk
      obtain ⟨⟨x0, x1, x2, x3⟩, hXl⟩ := actc hblk
      have HX := Lib.hid hX
      have HW4 := Lib.hid hw4
      clear hblk hX hw4
      go_upto_region 13 with fail
      rw [HX.out, HW4.out]
      clear c0 c1 c2 c3 hb'
      obtain ⟨dl, hdl⟩ : ∃ d, D.length = d := ⟨_, rfl⟩
      have HDL := Lib.hid hdl
      have hd64 : dl ≤ 64 := by rw [← hdl]; exact HOK.out.len
      obtain ⟨ca, hgl⟩ := H7.out.cAt.all
      rw [hdl] at ca
      obtain ⟨m, hm⟩ : ∃ m, 1 + (dl : Int) = m := ⟨_, rfl⟩
      have hwr : IntKind.i64.wrap (1 + (dl : Int)) = m := by rw [← hm]; exact IntWalk.i64_in _ ⟨by omega, by omega⟩
      have hm1 : 0 < m := by omega
      have hm2 : m ≤ 1048576 := by omega
      have hpb := pk_bd xa m hm1
      obtain ⟨av, hav⟩ : ∃ v : Nat, pk xa m = (v : Int) := ⟨(pk xa m).toNat, by omega⟩
      rw [hav] at hpb
      have HAV := Lib.hid hav
      have hav2 : av ≤ dl := by omega
      have HAI : Hid (I64 (av : Int)) := Lib.hid (by unfold I64; omega)
      have hp0 := pk_bd xw 6 (by omega)
      obtain ⟨k, hk⟩ : ∃ k, pk xw 6 = k := ⟨_, rfl⟩
      rw [hk] at hp0
      have HW := Lib.hid hk
      have hk6 : k = 0 ∨ k = 1 ∨ k = 2 ∨ k = 3 ∨ k = 4 ∨ k = 5 := by omega
      clear hdl hm hav hpb hk hp0
      go_upto_block 2 with (first
        | (go_at_call 9; (have hc := pick_any xa m w4 HB1.out hm1 hm2; rw [HAV.out] at hc; with_reducible refine hc.mono ?_); rintro e w5 ⟨rfl, rfl⟩)
        | (go_at_call 9; (have hc := pick_any xw 6 w4 HB0.out (by omega) (by omega); rw [HW.out] at hc; with_reducible refine hc.mono ?_); rintro e w5 ⟨rfl, rfl⟩))
      clear hwr hm1 hm2
      go_cut [12, 13, 14, 15, 16, 17, 18, 19, 74] from 54 to 160 (fun _ _ _ _ _ _ _ _ _ wx => ∃ D', OkB D' ∧ In5 D' ∧ M gr gx ga w wx p q D' [])
      case first =>
        rcases hk6 with rfl | rfl | rfl | rfl | rfl | rfl
        · obtain ⟨g0, hgx, hgr, g5⟩ := H7.out.cAt.five
          have hsb := pk_bd xa 5 (by omega)
          obtain ⟨s, hs⟩ : ∃ s : Nat, pk xa 5 = (s : Int) := ⟨(pk xa 5).toNat, by omega⟩
          rw [hs] at hsb
          have HS := Lib.hid hs
          have hs5 : s < 5 := by omega
          have hs0 : (0 : Int) ≤ (s : Int) := by omega
          have hs5' : (s : Int) < 5 := by omega
          have g6 := g5 s hs5
          have HYL : Hid ((nmT s).length ≤ 140737488351232) := Lib.hid (nmT_len hs5)
          have HYM : Hid (nmT s ∈ tx5) := Lib.hid (nmT_mem hs5)
          obtain ⟨y, hy⟩ : ∃ y, nmT s = y := ⟨_, rfl⟩
          have HY := Lib.hid hy
          rw [hy] at g6 HYL HYM
          have HG0 := Lib.hid g0
          have HG6 := Lib.hid g6
          have HX1 := Lib.hid x1
          clear g5 hs hsb hy
          go_wp2
          have hbd := (Below.refl w4.heap.size w4).drew
          (refine region_calm (fun W => Below w4.heap.size w4 W) (by kernel_rfl) (by kernel_rfl) (hbd) ?_
           repeat (
             refine wpQuiet_step (fun K hK => ?_)
             first
               | (refine calm_neg ?_ ?_
                  focus (go_simp; done)
                  go_simp
                  refine hK _ ?_
                  clear hK K)
               | (apply calm_pos
                  focus (go_simp; done)
                  focus (
                    intro W hW
                    (have d0 := (hW.cell (p := ⟨gx, 0, none⟩) hgx).trans HG0.out
                     have d1 := (hW.cell (p := ⟨X, 1, none⟩) hXl).trans HX1.out
                     have d2 := (hW.cell (p := ⟨gr, s, none⟩) hgr).trans HG6.out)
                    go_simp
                    first
                      | done
                      | exact rfl
                      | (go_at_call 9; (have hc := pick_any xa 5 W HB1.out (by omega) (by omega); rw [HS.out] at hc; with_reducible refine hc.mono ?_); rintro e w12 ⟨rfl, rfl⟩; exact ⟨rfl, hW⟩))
                  go_simp
                  refine hK _ ?_
                  clear hK K))
           refine wpQuiet_nil ?_)
          intro w5 hb5
          have H8 := Lib.hid (H7.out.below pbag_law (count_law gr gx ga) hb5)
          clear hb5 hbd g0 g6 x0 x1 x2 x3 hXl ca hgl hgx hgr H7 HG0 HG6 HX1
          obtain ⟨c5, hgl5⟩ := H8.out.cAt.all
          rw [HDL.out] at c5
          have q1 : w5.drew.cell? ⟨ga, 0, none⟩ = some (.int .i64 (dl : Int)) := c5
          by_cases hroom : dl < 64
          · have hlt64 : (dl : Int) < 64 := by omega
            have d1 : decide ((dl : Int) < 64) = true := decide_eq_true hlt64
            have HRB : Hid (roomB D = true) := Lib.hid (room_yes (by rw [HDL.out]; exact hroom))
            have HSB : Hid (sendB D y = D ++ [y]) := Lib.hid (send_yes (by rw [HDL.out]; exact hroom) y)
            have HOKN : Hid (OkB (D ++ [y])) := Lib.hid (by rw [← HSB.out]; exact HOK.out.send HYL.out)
            have HINN : Hid (In5 (D ++ [y])) := Lib.hid (HIN.out.send HYM.out)
            have HLN : Hid (D.length ≤ 64) := Lib.hid HOK.out.len
            have HS5 := Lib.hid hs5
            clear hroom
            go_wp2
            refine region_mix (fun W => W.cell? ⟨ga, 0, none⟩ = some (.int .i64 (dl : Int))) (12) (.reads [0, 1, 3, 4] (.only 2 (.reads [5, 6, 7, 8, 9, 10, 11] (.only 12 (.only 13 (.only 14 (.only 15 (.stop)))))))) (by kernel_rfl) (by kernel_rfl) (q1) ?_
            repeat (
              refine plan_read rfl (fun K hK => ?_)
              first
                | (refine plan_neg ?_ ?_
                   focus (go_simp; done)
                   go_simp
                   refine hK _ ?_
                   clear hK K)
                | (apply plan_pos
                   focus (go_simp; done)
                   focus (
                     intro W hW
                     (have q2 := hW)
                     go_simp
                     first
                       | done
                       | exact rfl)
                   go_simp
                   refine hK _ ?_
                   clear hK K))
            refine plan_only rfl (fun Q hQ => ?_)
            go_wp2_with (go_at_call 11; (have hc := (H8.out.drew pbag_law (count_law gr gx ga)).pSend (count_law gr gx ga) HOK.out y HYL.out; rw [HRB.out, HSB.out] at hc; with_reducible refine hc.mono ?_); rintro e w9 ⟨rfl, h9⟩; have H9 := Lib.hid h9; clear h9 hc)
            obtain ⟨c9, hgl9⟩ := H9.out.cAt.all
            rw [HDL.out] at c9
            refine hQ _ _ (fun _ => c9) ?_
            clear hQ Q
            repeat (
              refine plan_read rfl (fun K hK => ?_)
              first
                | (refine plan_neg ?_ ?_
                   focus (go_simp; done)
                   go_simp
                   refine hK _ ?_
                   clear hK K)
                | (apply plan_pos
                   focus (go_simp; done)
                   focus (
                     intro W hW
                     (have q2 := hW)
                     go_simp
                     first
                       | done
                       | exact rfl)
                   go_simp
                   refine hK _ ?_
                   clear hK K))
            refine plan_only rfl (fun Q hQ => ?_)
            go_wp2_with (go_at_call 22; (have hc := H9.out.cMore pbag_law HS5.out HLN.out; rw [HY.out] at hc; with_reducible refine hc.mono ?_); rintro e w10 ⟨rfl, h10⟩; have H10 := Lib.hid h10.pop; clear h10 hc)
            refine hQ _ _ (fun h => absurd h (by omega)) ?_
            clear hQ Q
            refine plan_only rfl (fun Q hQ => ?_)
            go_wp2
            refine hQ _ _ (fun h => absurd h (by omega)) ?_
            clear hQ Q
            refine plan_only rfl (fun Q hQ => ?_)
            go_wp2
            refine hQ _ _ (fun h => absurd h (by omega)) ?_
            clear hQ Q
            refine plan_only rfl (fun Q hQ => ?_)
            go_wp2
            refine hQ _ _ (fun h => absurd h (by omega)) ?_
            clear hQ Q
            unfold Plan.wp
            go_wp2
            go_meet
            exact ⟨_, HOKN.out, HINN.out, H10.out⟩
          · have hlt64 : ¬ (dl : Int) < 64 := by omega
            have d1 : decide ((dl : Int) < 64) = false := decide_eq_false hlt64
            have HRB : Hid (roomB D = false) := Lib.hid (room_no (by rw [HDL.out]; exact hroom))
            have HSB : Hid (sendB D y = D) := Lib.hid (send_no (by rw [HDL.out]; exact hroom) y)
            clear hroom
            go_wp2
            refine region_mix (fun W => W.cell? ⟨ga, 0, none⟩ = some (.int .i64 (dl : Int))) (12) (.reads [0, 1, 3, 4] (.only 2 (.reads [5, 6, 7, 8, 9, 10, 11] (.only 12 (.only 13 (.only 14 (.only 15 (.stop)))))))) (by kernel_rfl) (by kernel_rfl) (q1) ?_
            repeat (
              refine plan_read rfl (fun K hK => ?_)
              first
                | (refine plan_neg ?_ ?_
                   focus (go_simp; done)
                   go_simp
                   refine hK _ ?_
                   clear hK K)
                | (apply plan_pos
                   focus (go_simp; done)
                   focus (
                     intro W hW
                     (have q2 := hW)
                     go_simp
                     first
                       | done
                       | exact rfl)
                   go_simp
                   refine hK _ ?_
                   clear hK K))
            refine plan_only rfl (fun Q hQ => ?_)
            go_wp2_with (go_at_call 11; (have hc := (H8.out.drew pbag_law (count_law gr gx ga)).pSend (count_law gr gx ga) HOK.out y HYL.out; rw [HRB.out, HSB.out] at hc; with_reducible refine hc.mono ?_); rintro e w9 ⟨rfl, h9⟩; have H9 := Lib.hid h9; clear h9 hc)
            obtain ⟨c9, hgl9⟩ := H9.out.cAt.all
            rw [HDL.out] at c9
            refine hQ _ _ (fun _ => c9) ?_
            clear hQ Q
            repeat (
              refine plan_read rfl (fun K hK => ?_)
              first
                | (refine plan_neg ?_ ?_
                   focus (go_simp; done)
                   go_simp
                   refine hK _ ?_
                   clear hK K)
                | (apply plan_pos
                   focus (go_simp; done)
                   focus (
                     intro W hW
                     (have q2 := hW)
                     go_simp
                     first
                       | done
                       | exact rfl)
                   go_simp
                   refine hK _ ?_
                   clear hK K))
            refine plan_only rfl (fun Q hQ => ?_)
            go_wp2
            refine hQ _ _ (fun h => absurd h (by omega)) ?_
            clear hQ Q
            refine plan_only rfl (fun Q hQ => ?_)
            go_wp2
            refine hQ _ _ (fun h => absurd h (by omega)) ?_
            clear hQ Q
            refine plan_only rfl (fun Q hQ => ?_)
            go_wp2
            refine hQ _ _ (fun h => absurd h (by omega)) ?_
            clear hQ Q
            refine plan_only rfl (fun Q hQ => ?_)
            go_wp2
            refine hQ _ _ (fun h => absurd h (by omega)) ?_
            clear hQ Q
            unfold Plan.wp
            go_wp2
            go_meet
            exact ⟨_, HOK.out, HIN.out, H9.out.pop⟩
        · obtain ⟨g0, hgx, hgr, g5⟩ := H7.out.cAt.five
          have hsb := pk_bd xa 5 (by omega)
          obtain ⟨s, hs⟩ : ∃ s : Nat, pk xa 5 = (s : Int) := ⟨(pk xa 5).toNat, by omega⟩
          rw [hs] at hsb
          have HS := Lib.hid hs
          have hs5 : s < 5 := by omega
          have hs0 : (0 : Int) ≤ (s : Int) := by omega
          have hs5' : (s : Int) < 5 := by omega
          have g6 := g5 s hs5
          have HYL : Hid ((nmT s).length ≤ 140737488351232) := Lib.hid (nmT_len hs5)
          have HYM : Hid (nmT s ∈ tx5) := Lib.hid (nmT_mem hs5)
          obtain ⟨y, hy⟩ : ∃ y, nmT s = y := ⟨_, rfl⟩
          have HY := Lib.hid hy
          rw [hy] at g6 HYL HYM
          have HG0 := Lib.hid g0
          have HG6 := Lib.hid g6
          have HX1 := Lib.hid x1
          clear g5 hs hsb hy
          go_wp2
          have hbd := (Below.refl w4.heap.size w4).drew
          (refine region_calm (fun W => Below w4.heap.size w4 W) (by kernel_rfl) (by kernel_rfl) (hbd) ?_
           repeat (
             refine wpQuiet_step (fun K hK => ?_)
             first
               | (refine calm_neg ?_ ?_
                  focus (go_simp; done)
                  go_simp
                  refine hK _ ?_
                  clear hK K)
               | (apply calm_pos
                  focus (go_simp; done)
                  focus (
                    intro W hW
                    (have d0 := (hW.cell (p := ⟨gx, 0, none⟩) hgx).trans HG0.out
                     have d1 := (hW.cell (p := ⟨X, 1, none⟩) hXl).trans HX1.out
                     have d2 := (hW.cell (p := ⟨gr, s, none⟩) hgr).trans HG6.out)
                    go_simp
                    first
                      | done
                      | exact rfl
                      | (go_at_call 9; (have hc := pick_any xa 5 W HB1.out (by omega) (by omega); rw [HS.out] at hc; with_reducible refine hc.mono ?_); rintro e w12 ⟨rfl, rfl⟩; exact ⟨rfl, hW⟩))
                  go_simp
                  refine hK _ ?_
                  clear hK K))
           refine wpQuiet_nil ?_)
          intro w5 hb5
          have H8 := Lib.hid (H7.out.below pbag_law (count_law gr gx ga) hb5)
          clear hb5 hbd g0 g6 x0 x1 x2 x3 hXl ca hgl hgx hgr H7 HG0 HG6 HX1
          obtain ⟨c5, hgl5⟩ := H8.out.cAt.all
          rw [HDL.out] at c5
          have q1 : w5.drew.cell? ⟨ga, 0, none⟩ = some (.int .i64 (dl : Int)) := c5
          by_cases hroom : dl < 64
          · have hlt64 : (dl : Int) < 64 := by omega
            have d1 : decide ((dl : Int) < 64) = true := decide_eq_true hlt64
            have HRB : Hid (roomB D = true) := Lib.hid (room_yes (by rw [HDL.out]; exact hroom))
            have HSB : Hid (sendB D y = D ++ [y]) := Lib.hid (send_yes (by rw [HDL.out]; exact hroom) y)
            have HOKN : Hid (OkB (D ++ [y])) := Lib.hid (by rw [← HSB.out]; exact HOK.out.send HYL.out)
            have HINN : Hid (In5 (D ++ [y])) := Lib.hid (HIN.out.send HYM.out)
            have HLN : Hid (D.length ≤ 64) := Lib.hid HOK.out.len
            have HS5 := Lib.hid hs5
            clear hroom
            go_wp2
            refine region_mix (fun W => W.cell? ⟨ga, 0, none⟩ = some (.int .i64 (dl : Int))) (12) (.reads [0, 1, 3, 4] (.only 2 (.reads [5, 6, 7, 8, 9, 10, 11] (.only 12 (.only 13 (.only 14 (.only 15 (.stop)))))))) (by kernel_rfl) (by kernel_rfl) (q1) ?_
            repeat (
              refine plan_read rfl (fun K hK => ?_)
              first
                | (refine plan_neg ?_ ?_
                   focus (go_simp; done)
                   go_simp
                   refine hK _ ?_
                   clear hK K)
                | (apply plan_pos
                   focus (go_simp; done)
                   focus (
                     intro W hW
                     (have q2 := hW)
                     go_simp
                     first
                       | done
                       | exact rfl)
                   go_simp
                   refine hK _ ?_
                   clear hK K))
            refine plan_only rfl (fun Q hQ => ?_)
            go_wp2_with (go_at_call 11; (have hc := (H8.out.drew pbag_law (count_law gr gx ga)).pSend (count_law gr gx ga) HOK.out y HYL.out; rw [HRB.out, HSB.out] at hc; with_reducible refine hc.mono ?_); rintro e w9 ⟨rfl, h9⟩; have H9 := Lib.hid h9; clear h9 hc)
            obtain ⟨c9, hgl9⟩ := H9.out.cAt.all
            rw [HDL.out] at c9
            refine hQ _ _ (fun _ => c9) ?_
            clear hQ Q
            repeat (
              refine plan_read rfl (fun K hK => ?_)
              first
                | (refine plan_neg ?_ ?_
                   focus (go_simp; done)
                   go_simp
                   refine hK _ ?_
                   clear hK K)
                | (apply plan_pos
                   focus (go_simp; done)
                   focus (
                     intro W hW
                     (have q2 := hW)
                     go_simp
                     first
                       | done
                       | exact rfl)
                   go_simp
                   refine hK _ ?_
                   clear hK K))
            refine plan_only rfl (fun Q hQ => ?_)
            go_wp2_with (go_at_call 22; (have hc := H9.out.cMore pbag_law HS5.out HLN.out; rw [HY.out] at hc; with_reducible refine hc.mono ?_); rintro e w10 ⟨rfl, h10⟩; have H10 := Lib.hid h10.pop; clear h10 hc)
            refine hQ _ _ (fun h => absurd h (by omega)) ?_
            clear hQ Q
            refine plan_only rfl (fun Q hQ => ?_)
            go_wp2
            refine hQ _ _ (fun h => absurd h (by omega)) ?_
            clear hQ Q
            refine plan_only rfl (fun Q hQ => ?_)
            go_wp2
            refine hQ _ _ (fun h => absurd h (by omega)) ?_
            clear hQ Q
            refine plan_only rfl (fun Q hQ => ?_)
            go_wp2
            refine hQ _ _ (fun h => absurd h (by omega)) ?_
            clear hQ Q
            unfold Plan.wp
            go_wp2
            go_meet
            exact ⟨_, HOKN.out, HINN.out, H10.out⟩
          · have hlt64 : ¬ (dl : Int) < 64 := by omega
            have d1 : decide ((dl : Int) < 64) = false := decide_eq_false hlt64
            have HRB : Hid (roomB D = false) := Lib.hid (room_no (by rw [HDL.out]; exact hroom))
            have HSB : Hid (sendB D y = D) := Lib.hid (send_no (by rw [HDL.out]; exact hroom) y)
            clear hroom
            go_wp2
            refine region_mix (fun W => W.cell? ⟨ga, 0, none⟩ = some (.int .i64 (dl : Int))) (12) (.reads [0, 1, 3, 4] (.only 2 (.reads [5, 6, 7, 8, 9, 10, 11] (.only 12 (.only 13 (.only 14 (.only 15 (.stop)))))))) (by kernel_rfl) (by kernel_rfl) (q1) ?_
            repeat (
              refine plan_read rfl (fun K hK => ?_)
              first
                | (refine plan_neg ?_ ?_
                   focus (go_simp; done)
                   go_simp
                   refine hK _ ?_
                   clear hK K)
                | (apply plan_pos
                   focus (go_simp; done)
                   focus (
                     intro W hW
                     (have q2 := hW)
                     go_simp
                     first
                       | done
                       | exact rfl)
                   go_simp
                   refine hK _ ?_
                   clear hK K))
            refine plan_only rfl (fun Q hQ => ?_)
            go_wp2_with (go_at_call 11; (have hc := (H8.out.drew pbag_law (count_law gr gx ga)).pSend (count_law gr gx ga) HOK.out y HYL.out; rw [HRB.out, HSB.out] at hc; with_reducible refine hc.mono ?_); rintro e w9 ⟨rfl, h9⟩; have H9 := Lib.hid h9; clear h9 hc)
            obtain ⟨c9, hgl9⟩ := H9.out.cAt.all
            rw [HDL.out] at c9
            refine hQ _ _ (fun _ => c9) ?_
            clear hQ Q
            repeat (
              refine plan_read rfl (fun K hK => ?_)
              first
                | (refine plan_neg ?_ ?_
                   focus (go_simp; done)
                   go_simp
                   refine hK _ ?_
                   clear hK K)
                | (apply plan_pos
                   focus (go_simp; done)
                   focus (
                     intro W hW
                     (have q2 := hW)
                     go_simp
                     first
                       | done
                       | exact rfl)
                   go_simp
                   refine hK _ ?_
                   clear hK K))
            refine plan_only rfl (fun Q hQ => ?_)
            go_wp2
            refine hQ _ _ (fun h => absurd h (by omega)) ?_
            clear hQ Q
            refine plan_only rfl (fun Q hQ => ?_)
            go_wp2
            refine hQ _ _ (fun h => absurd h (by omega)) ?_
            clear hQ Q
            refine plan_only rfl (fun Q hQ => ?_)
            go_wp2
            refine hQ _ _ (fun h => absurd h (by omega)) ?_
            clear hQ Q
            refine plan_only rfl (fun Q hQ => ?_)
            go_wp2
            refine hQ _ _ (fun h => absurd h (by omega)) ?_
            clear hQ Q
            unfold Plan.wp
            go_wp2
            go_meet
            exact ⟨_, HOK.out, HIN.out, H9.out.pop⟩
        · obtain ⟨g0, hgx, hgr, g5⟩ := H7.out.cAt.five
          have hsb := pk_bd xa 5 (by omega)
          obtain ⟨s, hs⟩ : ∃ s : Nat, pk xa 5 = (s : Int) := ⟨(pk xa 5).toNat, by omega⟩
          rw [hs] at hsb
          have HS := Lib.hid hs
          have hs5 : s < 5 := by omega
          have hs0 : (0 : Int) ≤ (s : Int) := by omega
          have hs5' : (s : Int) < 5 := by omega
          have g6 := g5 s hs5
          have HYL : Hid ((nmT s).length ≤ 140737488351232) := Lib.hid (nmT_len hs5)
          have HYM : Hid (nmT s ∈ tx5) := Lib.hid (nmT_mem hs5)
          obtain ⟨y, hy⟩ : ∃ y, nmT s = y := ⟨_, rfl⟩
          have HY := Lib.hid hy
          rw [hy] at g6 HYL HYM
          have HG0 := Lib.hid g0
          have HG6 := Lib.hid g6
          have HX1 := Lib.hid x1
          clear g5 hs hsb hy
          go_wp2
          have hbd := (Below.refl w4.heap.size w4).drew
          (refine region_calm (fun W => Below w4.heap.size w4 W) (by kernel_rfl) (by kernel_rfl) (hbd) ?_
           repeat (
             refine wpQuiet_step (fun K hK => ?_)
             first
               | (refine calm_neg ?_ ?_
                  focus (go_simp; done)
                  go_simp
                  refine hK _ ?_
                  clear hK K)
               | (apply calm_pos
                  focus (go_simp; done)
                  focus (
                    intro W hW
                    (have d0 := (hW.cell (p := ⟨gx, 0, none⟩) hgx).trans HG0.out
                     have d1 := (hW.cell (p := ⟨X, 1, none⟩) hXl).trans HX1.out
                     have d2 := (hW.cell (p := ⟨gr, s, none⟩) hgr).trans HG6.out)
                    go_simp
                    first
                      | done
                      | exact rfl
                      | (go_at_call 9; (have hc := pick_any xa 5 W HB1.out (by omega) (by omega); rw [HS.out] at hc; with_reducible refine hc.mono ?_); rintro e w12 ⟨rfl, rfl⟩; exact ⟨rfl, hW⟩))
                  go_simp
                  refine hK _ ?_
                  clear hK K))
           refine wpQuiet_nil ?_)
          intro w5 hb5
          have H8 := Lib.hid (H7.out.below pbag_law (count_law gr gx ga) hb5)
          clear hb5 hbd g0 g6 x0 x1 x2 x3 hXl ca hgl hgx hgr H7 HG0 HG6 HX1
          obtain ⟨c5, hgl5⟩ := H8.out.cAt.all
          rw [HDL.out] at c5
          have q1 : w5.drew.cell? ⟨ga, 0, none⟩ = some (.int .i64 (dl : Int)) := c5
          by_cases hroom : dl < 64
          · have hlt64 : (dl : Int) < 64 := by omega
            have d1 : decide ((dl : Int) < 64) = true := decide_eq_true hlt64
            have HRB : Hid (roomB D = true) := Lib.hid (room_yes (by rw [HDL.out]; exact hroom))
            have HSB : Hid (sendB D y = D ++ [y]) := Lib.hid (send_yes (by rw [HDL.out]; exact hroom) y)
            have HOKN : Hid (OkB (D ++ [y])) := Lib.hid (by rw [← HSB.out]; exact HOK.out.send HYL.out)
            have HINN : Hid (In5 (D ++ [y])) := Lib.hid (HIN.out.send HYM.out)
            have HLN : Hid (D.length ≤ 64) := Lib.hid HOK.out.len
            have HS5 := Lib.hid hs5
            clear hroom
            go_wp2
            refine region_mix (fun W => W.cell? ⟨ga, 0, none⟩ = some (.int .i64 (dl : Int))) (12) (.reads [0, 1, 3, 4] (.only 2 (.reads [5, 6, 7, 8, 9, 10, 11] (.only 12 (.only 13 (.only 14 (.only 15 (.stop)))))))) (by kernel_rfl) (by kernel_rfl) (q1) ?_
            repeat (
              refine plan_read rfl (fun K hK => ?_)
              first
                | (refine plan_neg ?_ ?_
                   focus (go_simp; done)
                   go_simp
                   refine hK _ ?_
                   clear hK K)
                | (apply plan_pos
                   focus (go_simp; done)
                   focus (
                     intro W hW
                     (have q2 := hW)
                     go_simp
                     first
                       | done
                       | exact rfl)
                   go_simp
                   refine hK _ ?_
                   clear hK K))
            refine plan_only rfl (fun Q hQ => ?_)
            go_wp2_with (go_at_call 11; (have hc := (H8.out.drew pbag_law (count_law gr gx ga)).pSend (count_law gr gx ga) HOK.out y HYL.out; rw [HRB.out, HSB.out] at hc; with_reducible refine hc.mono ?_); rintro e w9 ⟨rfl, h9⟩; have H9 := Lib.hid h9; clear h9 hc)
            obtain ⟨c9, hgl9⟩ := H9.out.cAt.all
            rw [HDL.out] at c9
            refine hQ _ _ (fun _ => c9) ?_
            clear hQ Q
            repeat (
              refine plan_read rfl (fun K hK => ?_)
              first
                | (refine plan_neg ?_ ?_
                   focus (go_simp; done)
                   go_simp
                   refine hK _ ?_
                   clear hK K)
                | (apply plan_pos
                   focus (go_simp; done)
                   focus (
                     intro W hW
                     (have q2 := hW)
                     go_simp
                     first
                       | done
                       | exact rfl)
                   go_simp
                   refine hK _ ?_
                   clear hK K))
            refine plan_only rfl (fun Q hQ => ?_)
            go_wp2_with (go_at_call 22; (have hc := H9.out.cMore pbag_law HS5.out HLN.out; rw [HY.out] at hc; with_reducible refine hc.mono ?_); rintro e w10 ⟨rfl, h10⟩; have H10 := Lib.hid h10.pop; clear h10 hc)
            refine hQ _ _ (fun h => absurd h (by omega)) ?_
            clear hQ Q
            refine plan_only rfl (fun Q hQ => ?_)
            go_wp2
            refine hQ _ _ (fun h => absurd h (by omega)) ?_
            clear hQ Q
            refine plan_only rfl (fun Q hQ => ?_)
            go_wp2
            refine hQ _ _ (fun h => absurd h (by omega)) ?_
            clear hQ Q
            refine plan_only rfl (fun Q hQ => ?_)
            go_wp2
            refine hQ _ _ (fun h => absurd h (by omega)) ?_
            clear hQ Q
            unfold Plan.wp
            go_wp2
            go_meet
            exact ⟨_, HOKN.out, HINN.out, H10.out⟩
          · have hlt64 : ¬ (dl : Int) < 64 := by omega
            have d1 : decide ((dl : Int) < 64) = false := decide_eq_false hlt64
            have HRB : Hid (roomB D = false) := Lib.hid (room_no (by rw [HDL.out]; exact hroom))
            have HSB : Hid (sendB D y = D) := Lib.hid (send_no (by rw [HDL.out]; exact hroom) y)
            clear hroom
            go_wp2
            refine region_mix (fun W => W.cell? ⟨ga, 0, none⟩ = some (.int .i64 (dl : Int))) (12) (.reads [0, 1, 3, 4] (.only 2 (.reads [5, 6, 7, 8, 9, 10, 11] (.only 12 (.only 13 (.only 14 (.only 15 (.stop)))))))) (by kernel_rfl) (by kernel_rfl) (q1) ?_
            repeat (
              refine plan_read rfl (fun K hK => ?_)
              first
                | (refine plan_neg ?_ ?_
                   focus (go_simp; done)
                   go_simp
                   refine hK _ ?_
                   clear hK K)
                | (apply plan_pos
                   focus (go_simp; done)
                   focus (
                     intro W hW
                     (have q2 := hW)
                     go_simp
                     first
                       | done
                       | exact rfl)
                   go_simp
                   refine hK _ ?_
                   clear hK K))
            refine plan_only rfl (fun Q hQ => ?_)
            go_wp2_with (go_at_call 11; (have hc := (H8.out.drew pbag_law (count_law gr gx ga)).pSend (count_law gr gx ga) HOK.out y HYL.out; rw [HRB.out, HSB.out] at hc; with_reducible refine hc.mono ?_); rintro e w9 ⟨rfl, h9⟩; have H9 := Lib.hid h9; clear h9 hc)
            obtain ⟨c9, hgl9⟩ := H9.out.cAt.all
            rw [HDL.out] at c9
            refine hQ _ _ (fun _ => c9) ?_
            clear hQ Q
            repeat (
              refine plan_read rfl (fun K hK => ?_)
              first
                | (refine plan_neg ?_ ?_
                   focus (go_simp; done)
                   go_simp
                   refine hK _ ?_
                   clear hK K)
                | (apply plan_pos
                   focus (go_simp; done)
                   focus (
                     intro W hW
                     (have q2 := hW)
                     go_simp
                     first
                       | done
                       | exact rfl)
                   go_simp
                   refine hK _ ?_
                   clear hK K))
            refine plan_only rfl (fun Q hQ => ?_)
            go_wp2
            refine hQ _ _ (fun h => absurd h (by omega)) ?_
            clear hQ Q
            refine plan_only rfl (fun Q hQ => ?_)
            go_wp2
            refine hQ _ _ (fun h => absurd h (by omega)) ?_
            clear hQ Q
            refine plan_only rfl (fun Q hQ => ?_)
            go_wp2
            refine hQ _ _ (fun h => absurd h (by omega)) ?_
            clear hQ Q
            refine plan_only rfl (fun Q hQ => ?_)
            go_wp2
            refine hQ _ _ (fun h => absurd h (by omega)) ?_
            clear hQ Q
            unfold Plan.wp
            go_wp2
            go_meet
            exact ⟨_, HOK.out, HIN.out, H9.out.pop⟩
        · by_cases hal : av < dl
          · have havl : av < D.length := by rw [HDL.out]; exact hal
            obtain ⟨s, hs5, hse, hsn⟩ := tx5_at (HIN.out D[av] (List.getElem_mem havl))
            have hB1 : inB D (av : Int) = true := in_at D havl
            have hB2 : lookB D (av : Int) = nmT s := (look_at D havl).trans hse
            have HB1' := Lib.hid hB1
            have HB2' := Lib.hid hB2
            have HTK : Hid (takeB D (av : Int) = cutB D av) := Lib.hid (take_at D havl)
            have HOKC : Hid (OkB (cutB D av)) := Lib.hid (HTK.out ▸ HOK.out.take (av : Int))
            have HINC : Hid (In5 (cutB D av)) := Lib.hid (HTK.out ▸ HIN.out.take (av : Int))
            have HYL : Hid ((nmT s).length ≤ 140737488351232) := Lib.hid (nmT_len hs5)
            have HYM : Hid (nmT s ∈ tx5) := Lib.hid (nmT_mem hs5)
            have HLN : Hid (D.length ≤ 64) := Lib.hid HOK.out.len
            have HLS : Hid (∀ {X : Type} {A : Kind X} {w0 w : World} {p q : Nat} {E : X} {bs : List (Nat × Obj)}, Lawful A → Held A (CountK gr gx ga) w0 w p E q D bs → Calls Try.prog 22 #[.string (S (nmT s)), .int .i64 (-1), .pointer (some ⟨gx, 0, none⟩), .pointer (some ⟨q, 0, none⟩), .pointer (some ⟨ga, 0, none⟩)] w fun e w' => e = .returned (.bool true) ∧ Held A (CountK gr gx ga) w0 w' p E q (cutB D av) bs) := Lib.hid (fun hA h => h.cLess hA hs5 havl hse HLN.out)
            have HMR : Hid (∀ {X : Type} {A : Kind X} {w0 w : World} {p q : Nat} {E : X} {bs : List (Nat × Obj)}, Lawful A → Held A (CountK gr gx ga) w0 w p E q D bs → Calls Try.prog 22 #[.string (S (nmT s)), .int .i64 1, .pointer (some ⟨gx, 0, none⟩), .pointer (some ⟨q, 0, none⟩), .pointer (some ⟨ga, 0, none⟩)] w fun e w' => e = .returned (.bool true) ∧ Held A (CountK gr gx ga) w0 w' p E q (D ++ [nmT s]) bs) := Lib.hid (fun hA h => h.cMore hA hs5 HLN.out)
            have halI : (av : Int) < (dl : Int) := by omega
            have d1 : decide ((av : Int) < (dl : Int)) = true := decide_eq_true halI
            obtain ⟨y, hy⟩ : ∃ y, nmT s = y := ⟨_, rfl⟩
            rw [hy] at HB2' HYL HYM HLS HMR
            clear hsn hse hs5 hB1 hB2 hy hal havl
            go_wp2_with (first
              | (go_at_call 13; (have hc := H7.out.pTake (count_law gr gx ga) HOK.out (av : Int) HAI.out; rw [HB2'.out, HB1'.out, HTK.out] at hc; with_reducible refine hc.mono ?_); rintro e w9 ⟨rfl, h9⟩; have H9 := Lib.hid h9; obtain ⟨c9, hgl9⟩ := H9.out.cAt.all; rw [HDL.out] at c9; clear h9 hc)
              | (go_at_call 22; (have hc := HLS.out pbag_law H9.out; with_reducible refine hc.mono ?_); rintro e w10 ⟨rfl, h10⟩; have H10 := Lib.hid h10.pop; clear h10 hc))
            go_meet
            exact ⟨_, HOKC.out, HINC.out, H10.out⟩
          · have hB1 : inB D (av : Int) = false := in_out (by rw [HDL.out]; omega)
            have HB1' := Lib.hid hB1
            have HB2' : Hid (lookB D (av : Int) = []) := Lib.hid (look_no hB1)
            have HTK : Hid (takeB D (av : Int) = D) := Lib.hid (take_no hB1)
            have HCP : Hid (copyB D (av : Int) = D) := Lib.hid (by unfold copyB; rw [if_neg (by rw [hB1]; decide)])
            have halI : ¬ (av : Int) < (dl : Int) := by omega
            have d1 : decide ((av : Int) < (dl : Int)) = false := decide_eq_false halI
            clear hB1 hal
            go_wp2_with (go_at_call 13; (have hc := H7.out.pTake (count_law gr gx ga) HOK.out (av : Int) HAI.out; rw [HB2'.out, HB1'.out, HTK.out] at hc; with_reducible refine hc.mono ?_); rintro e w9 ⟨rfl, h9⟩; have H9 := Lib.hid h9; obtain ⟨c9, hgl9⟩ := H9.out.cAt.all; rw [HDL.out] at c9; clear h9 hc)
            go_meet
            exact ⟨_, HOK.out, HIN.out, H9.out.pop⟩
        · by_cases hal : av < dl
          · have havl : av < D.length := by rw [HDL.out]; exact hal
            obtain ⟨s, hs5, hse, hsn⟩ := tx5_at (HIN.out D[av] (List.getElem_mem havl))
            have hB1 : inB D (av : Int) = true := in_at D havl
            have hB2 : lookB D (av : Int) = nmT s := (look_at D havl).trans hse
            have HB1' := Lib.hid hB1
            have HB2' := Lib.hid hB2
            have HTK : Hid (takeB D (av : Int) = cutB D av) := Lib.hid (take_at D havl)
            have HOKC : Hid (OkB (cutB D av)) := Lib.hid (HTK.out ▸ HOK.out.take (av : Int))
            have HINC : Hid (In5 (cutB D av)) := Lib.hid (HTK.out ▸ HIN.out.take (av : Int))
            have HYL : Hid ((nmT s).length ≤ 140737488351232) := Lib.hid (nmT_len hs5)
            have HYM : Hid (nmT s ∈ tx5) := Lib.hid (nmT_mem hs5)
            have HLN : Hid (D.length ≤ 64) := Lib.hid HOK.out.len
            have HLS : Hid (∀ {X : Type} {A : Kind X} {w0 w : World} {p q : Nat} {E : X} {bs : List (Nat × Obj)}, Lawful A → Held A (CountK gr gx ga) w0 w p E q D bs → Calls Try.prog 22 #[.string (S (nmT s)), .int .i64 (-1), .pointer (some ⟨gx, 0, none⟩), .pointer (some ⟨q, 0, none⟩), .pointer (some ⟨ga, 0, none⟩)] w fun e w' => e = .returned (.bool true) ∧ Held A (CountK gr gx ga) w0 w' p E q (cutB D av) bs) := Lib.hid (fun hA h => h.cLess hA hs5 havl hse HLN.out)
            have HMR : Hid (∀ {X : Type} {A : Kind X} {w0 w : World} {p q : Nat} {E : X} {bs : List (Nat × Obj)}, Lawful A → Held A (CountK gr gx ga) w0 w p E q D bs → Calls Try.prog 22 #[.string (S (nmT s)), .int .i64 1, .pointer (some ⟨gx, 0, none⟩), .pointer (some ⟨q, 0, none⟩), .pointer (some ⟨ga, 0, none⟩)] w fun e w' => e = .returned (.bool true) ∧ Held A (CountK gr gx ga) w0 w' p E q (D ++ [nmT s]) bs) := Lib.hid (fun hA h => h.cMore hA hs5 HLN.out)
            have halI : (av : Int) < (dl : Int) := by omega
            have d1 : decide ((av : Int) < (dl : Int)) = true := decide_eq_true halI
            obtain ⟨y, hy⟩ : ∃ y, nmT s = y := ⟨_, rfl⟩
            rw [hy] at HB2' HYL HYM HLS HMR
            clear hsn hse hs5 hB1 hB2 hy hal havl
            by_cases hroom : dl < 64
            · have hge : ¬ (64 : Int) ≤ (dl : Int) := by omega
              have d2 : decide ((64 : Int) ≤ (dl : Int)) = false := decide_eq_false hge
              have HCB : Hid ((inB D (av : Int) && roomB D) = true) := Lib.hid (by rw [HB1'.out, room_yes (by rw [HDL.out]; exact hroom)]; rfl)
              have HCP : Hid (copyB D (av : Int) = D ++ [y]) := Lib.hid (by unfold copyB; rw [if_pos HB1'.out, HB2'.out, send_yes (by rw [HDL.out]; exact hroom)])
              have HOKN : Hid (OkB (D ++ [y])) := Lib.hid (by rw [← HCP.out]; exact HOK.out.copy _)
              have HINN : Hid (In5 (D ++ [y])) := Lib.hid (HIN.out.send HYM.out)
              clear hroom
              go_wp2_with (first
                | (go_at_call 19; (have hc := H7.out.pLook (count_law gr gx ga) HOK.out (av : Int) HAI.out; rw [HB2'.out, HB1'.out] at hc; with_reducible refine hc.mono ?_); rintro e w8 ⟨rfl, _, h8⟩; have H8 := Lib.hid h8; obtain ⟨c8, hgl8⟩ := H8.out.cAt.all; rw [HDL.out] at c8; clear h8 hc)
                | (go_at_call 15; (have hc := H8.out.pCopy (count_law gr gx ga) HOK.out (av : Int) HAI.out; rw [HCB.out, HCP.out] at hc; with_reducible refine hc.mono ?_); rintro e w9 ⟨rfl, h9⟩; have H9 := Lib.hid h9; clear h9 hc)
                | (go_at_call 22; (have hc := HMR.out pbag_law H9.out; with_reducible refine hc.mono ?_); rintro e w10 ⟨rfl, h10⟩; have H10 := Lib.hid h10.pop; clear h10 hc))
              go_meet
              exact ⟨_, HOKN.out, HINN.out, H10.out⟩
            · have hge : (64 : Int) ≤ (dl : Int) := by omega
              have d2 : decide ((64 : Int) ≤ (dl : Int)) = true := decide_eq_true hge
              have HCB : Hid ((inB D (av : Int) && roomB D) = false) := Lib.hid (by rw [room_no (by rw [HDL.out]; exact hroom), Bool.and_false])
              have HCP : Hid (copyB D (av : Int) = D) := Lib.hid (by unfold copyB; rw [if_pos HB1'.out, send_no (by rw [HDL.out]; exact hroom)])
              clear hroom
              go_wp2_with (first
                | (go_at_call 19; (have hc := H7.out.pLook (count_law gr gx ga) HOK.out (av : Int) HAI.out; rw [HB2'.out, HB1'.out] at hc; with_reducible refine hc.mono ?_); rintro e w8 ⟨rfl, _, h8⟩; have H8 := Lib.hid h8; obtain ⟨c8, hgl8⟩ := H8.out.cAt.all; rw [HDL.out] at c8; clear h8 hc)
                | (go_at_call 15; (have hc := H8.out.pCopy (count_law gr gx ga) HOK.out (av : Int) HAI.out; rw [HCB.out, HCP.out] at hc; with_reducible refine hc.mono ?_); rintro e w9 ⟨rfl, h9⟩; have H9 := Lib.hid h9; clear h9 hc))
              go_meet
              exact ⟨_, HOK.out, HIN.out, H9.out.pop⟩
          · have hB1 : inB D (av : Int) = false := in_out (by rw [HDL.out]; omega)
            have HB1' := Lib.hid hB1
            have HB2' : Hid (lookB D (av : Int) = []) := Lib.hid (look_no hB1)
            have HTK : Hid (takeB D (av : Int) = D) := Lib.hid (take_no hB1)
            have HCP : Hid (copyB D (av : Int) = D) := Lib.hid (by unfold copyB; rw [if_neg (by rw [hB1]; decide)])
            have halI : ¬ (av : Int) < (dl : Int) := by omega
            have d1 : decide ((av : Int) < (dl : Int)) = false := decide_eq_false halI
            clear hB1 hal
            have HCB : Hid ((inB D (av : Int) && roomB D) = false) := Lib.hid (by rw [HB1'.out]; rfl)
            obtain ⟨fb, hfb⟩ : ∃ f, decide ((64 : Int) ≤ (dl : Int)) = f := ⟨_, rfl⟩
            go_wp2_with (first
              | (go_at_call 19; (have hc := H7.out.pLook (count_law gr gx ga) HOK.out (av : Int) HAI.out; rw [HB2'.out, HB1'.out] at hc; with_reducible refine hc.mono ?_); rintro e w8 ⟨rfl, _, h8⟩; have H8 := Lib.hid h8; obtain ⟨c8, hgl8⟩ := H8.out.cAt.all; rw [HDL.out] at c8; clear h8 hc)
              | (go_at_call 15; (have hc := H8.out.pCopy (count_law gr gx ga) HOK.out (av : Int) HAI.out; rw [HCB.out, HCP.out] at hc; with_reducible refine hc.mono ?_); rintro e w9 ⟨rfl, h9⟩; have H9 := Lib.hid h9; clear h9 hc))
            go_meet
            exact ⟨_, HOK.out, HIN.out, H9.out.pop⟩
        · by_cases hal : av < dl
          · have havl : av < D.length := by rw [HDL.out]; exact hal
            obtain ⟨s, hs5, hse, hsn⟩ := tx5_at (HIN.out D[av] (List.getElem_mem havl))
            have hB1 : inB D (av : Int) = true := in_at D havl
            have hB2 : lookB D (av : Int) = nmT s := (look_at D havl).trans hse
            have HB1' := Lib.hid hB1
            have HB2' := Lib.hid hB2
            have HTK : Hid (takeB D (av : Int) = cutB D av) := Lib.hid (take_at D havl)
            have HOKC : Hid (OkB (cutB D av)) := Lib.hid (HTK.out ▸ HOK.out.take (av : Int))
            have HINC : Hid (In5 (cutB D av)) := Lib.hid (HTK.out ▸ HIN.out.take (av : Int))
            have HYL : Hid ((nmT s).length ≤ 140737488351232) := Lib.hid (nmT_len hs5)
            have HYM : Hid (nmT s ∈ tx5) := Lib.hid (nmT_mem hs5)
            have HLN : Hid (D.length ≤ 64) := Lib.hid HOK.out.len
            have HLS : Hid (∀ {X : Type} {A : Kind X} {w0 w : World} {p q : Nat} {E : X} {bs : List (Nat × Obj)}, Lawful A → Held A (CountK gr gx ga) w0 w p E q D bs → Calls Try.prog 22 #[.string (S (nmT s)), .int .i64 (-1), .pointer (some ⟨gx, 0, none⟩), .pointer (some ⟨q, 0, none⟩), .pointer (some ⟨ga, 0, none⟩)] w fun e w' => e = .returned (.bool true) ∧ Held A (CountK gr gx ga) w0 w' p E q (cutB D av) bs) := Lib.hid (fun hA h => h.cLess hA hs5 havl hse HLN.out)
            have HMR : Hid (∀ {X : Type} {A : Kind X} {w0 w : World} {p q : Nat} {E : X} {bs : List (Nat × Obj)}, Lawful A → Held A (CountK gr gx ga) w0 w p E q D bs → Calls Try.prog 22 #[.string (S (nmT s)), .int .i64 1, .pointer (some ⟨gx, 0, none⟩), .pointer (some ⟨q, 0, none⟩), .pointer (some ⟨ga, 0, none⟩)] w fun e w' => e = .returned (.bool true) ∧ Held A (CountK gr gx ga) w0 w' p E q (D ++ [nmT s]) bs) := Lib.hid (fun hA h => h.cMore hA hs5 HLN.out)
            have halI : (av : Int) < (dl : Int) := by omega
            have d1 : decide ((av : Int) < (dl : Int)) = true := decide_eq_true halI
            obtain ⟨y, hy⟩ : ∃ y, nmT s = y := ⟨_, rfl⟩
            rw [hy] at HB2' HYL HYM HLS HMR
            clear hsn hse hs5 hB1 hB2 hy hal havl
            go_wp2_with (first
              | (go_at_call 19; (have hc := H7.out.pLook (count_law gr gx ga) HOK.out (av : Int) HAI.out; rw [HB2'.out, HB1'.out] at hc; with_reducible refine hc.mono ?_); rintro e w8 ⟨rfl, _, h8⟩; have H8 := Lib.hid h8; obtain ⟨c8, hgl8⟩ := H8.out.cAt.all; rw [HDL.out] at c8; clear h8 hc)
              | (go_at_call 17; (have hc := H8.out.pDrop (count_law gr gx ga) HOK.out (av : Int) HAI.out; rw [HB1'.out, HTK.out] at hc; with_reducible refine hc.mono ?_); rintro e w9 ⟨rfl, h9⟩; have H9 := Lib.hid h9; clear h9 hc)
              | (go_at_call 22; (have hc := HLS.out pbag_law H9.out; with_reducible refine hc.mono ?_); rintro e w10 ⟨rfl, h10⟩; have H10 := Lib.hid h10.pop; clear h10 hc))
            go_meet
            exact ⟨_, HOKC.out, HINC.out, H10.out⟩
          · have hB1 : inB D (av : Int) = false := in_out (by rw [HDL.out]; omega)
            have HB1' := Lib.hid hB1
            have HB2' : Hid (lookB D (av : Int) = []) := Lib.hid (look_no hB1)
            have HTK : Hid (takeB D (av : Int) = D) := Lib.hid (take_no hB1)
            have HCP : Hid (copyB D (av : Int) = D) := Lib.hid (by unfold copyB; rw [if_neg (by rw [hB1]; decide)])
            have halI : ¬ (av : Int) < (dl : Int) := by omega
            have d1 : decide ((av : Int) < (dl : Int)) = false := decide_eq_false halI
            clear hB1 hal
            go_wp2_with (first
              | (go_at_call 19; (have hc := H7.out.pLook (count_law gr gx ga) HOK.out (av : Int) HAI.out; rw [HB2'.out, HB1'.out] at hc; with_reducible refine hc.mono ?_); rintro e w8 ⟨rfl, _, h8⟩; have H8 := Lib.hid h8; obtain ⟨c8, hgl8⟩ := H8.out.cAt.all; rw [HDL.out] at c8; clear h8 hc)
              | (go_at_call 17; (have hc := H8.out.pDrop (count_law gr gx ga) HOK.out (av : Int) HAI.out; rw [HB1'.out, HTK.out] at hc; with_reducible refine hc.mono ?_); rintro e w9 ⟨rfl, h9⟩; have H9 := Lib.hid h9; clear h9 hc))
            go_meet
            exact ⟨_, HOK.out, HIN.out, H9.out.pop⟩
      case rest =>
      obtain ⟨D', hok', hin', h9⟩ := hcut
      have HOK' := Lib.hid hok'
      have HIN' := Lib.hid hin'
      have H9 := Lib.hid h9
      clear x0 x1 x2 x3 hXl hok' hin' h9 H7 HOK HIN hk6 ca hgl HDL hd64 HAI hav2 HAV HW
      obtain ⟨dm, hdm⟩ : ∃ d, D'.length = d := ⟨_, rfl⟩
      obtain ⟨cb, hglb⟩ := H9.out.cAt.all
      rw [hdm] at cb
      have HCB := Lib.hid cb
      have HDM := Lib.hid hdm
      have e1 : ((dm : Int) != (dm : Int)) = false := by simp
      have e2 : ((dm : Int) == (dm : Int)) = true := by simp
      clear hdm cb
      go_wp2
      have hbd := (Below.refl wc.heap.size wc).drew
      (refine region_calm (fun W => Below wc.heap.size wc W) (by kernel_rfl) (by kernel_rfl) (hbd) ?_
       repeat (
         refine wpQuiet_step (fun K hK => ?_)
         first
           | (refine calm_neg ?_ ?_
              focus (go_simp; done)
              go_simp
              refine hK _ ?_
              clear hK K)
           | (apply calm_pos
              focus (go_simp; done)
              focus (
                intro W hW
                (have d0 := (hW.cell (p := ⟨ga, 0, none⟩) hglb).trans HCB.out)
                go_simp
                first
                  | done
                  | exact rfl
                  | (go_at_call 21; (have hc := (H9.out.below pbag_law (count_law gr gx ga) hW).pLen (count_law gr gx ga) HOK'.out; rw [HDM.out] at hc; with_reducible refine hc.mono ?_); rintro e w12 ⟨rfl, hb12, _⟩; exact ⟨rfl, hW.trans (hb12.mono hW.size)⟩))
              go_simp
              refine hK _ ?_
              clear hK K))
       refine wpQuiet_nil ?_)
      intro w13 hb13
      have H13 := Lib.hid (H9.out.below pbag_law (count_law gr gx ga) hb13)
      clear hb13 hbd
      go_wp2
      go_roundw
      case rel => exact ⟨i + 1, by omega, by omega, by go_num, D', HOK'.out, HIN'.out, H13.out⟩
      case measure => simp [intOf]; omega
    · have hcc : (¬ (i : Int) < (len : Int)) ∨ ((i : Int) < (len : Int) ∧ ¬ (i : Int) < 200) := by omega
      have HH := Lib.hid hh
      clear hlt hh hok hin
      rcases hcc with hcc | ⟨hc1, hcc⟩
      · go_wp2
        go_loopw [20] (fun _ wq => ∃ D, OkB D ∧ In5 D ∧ M gr gx ga w wq p q D []) (fun _ wq => allN ga wq)
        case atStart => exact ⟨D, HOK.out, HIN.out, HH.out⟩
        case round =>
          obtain ⟨E, hok, hin, hm⟩ := hrel
          have HM := Lib.hid hm
          have HOKE := Lib.hid hok
          have HINE := Lib.hid hin
          obtain ⟨ca, hgl⟩ := hm.cAt.all
          obtain ⟨dl, hdl⟩ : ∃ d, E.length = d := ⟨_, rfl⟩
          rw [hdl] at ca
          have HDL := Lib.hid hdl
          have HLN : Hid (E.length ≤ 64) := Lib.hid hok.len
          clear HH HOK HIN hm hok hin hdl
          by_cases hd : 0 < dl
          · have hdI : (0 : Int) < (dl : Int) := by omega
            have h0l : 0 < E.length := by rw [HDL.out]; exact hd
            obtain ⟨s, hs5, hse, hsn⟩ := tx5_at (HINE.out E[0] (List.getElem_mem h0l))
            have HB1' : Hid (inB E 0 = true) := Lib.hid (in_at E h0l)
            have HB2' : Hid (lookB E 0 = nmT s) := Lib.hid ((look_at E h0l).trans hse)
            have HTK : Hid (takeB E 0 = cutB E 0) := Lib.hid (take_at E h0l)
            have HOKC : Hid (OkB (cutB E 0)) := Lib.hid (HTK.out ▸ HOKE.out.take 0)
            have HINC : Hid (In5 (cutB E 0)) := Lib.hid (HTK.out ▸ HINE.out.take 0)
            have HCL : Hid ((cutB E 0).length + 1 = E.length) := Lib.hid (cut_len E h0l)
            have HLS : Hid (∀ {X : Type} {A : Kind X} {w0 w : World} {p q : Nat} {F : X} {bs : List (Nat × Obj)}, Lawful A → Held A (CountK gr gx ga) w0 w p F q E bs → Calls Try.prog 22 #[.string (S (nmT s)), .int .i64 (-1), .pointer (some ⟨gx, 0, none⟩), .pointer (some ⟨q, 0, none⟩), .pointer (some ⟨ga, 0, none⟩)] w fun e w' => e = .returned (.bool true) ∧ Held A (CountK gr gx ga) w0 w' p F q (cutB E 0) bs) := Lib.hid (fun hA h => h.cLess hA hs5 h0l hse HLN.out)
            have HI0 : Hid (I64 0) := Lib.hid (by unfold I64; omega)
            obtain ⟨y, hy⟩ : ∃ y, nmT s = y := ⟨_, rfl⟩
            rw [hy] at HB2' HLS
            clear hsn hse hs5 hy h0l hd
            go_wp2_with (first
              | (go_at_call 21; (have hc := HM.out.pLen (count_law gr gx ga) HOKE.out; rw [HDL.out] at hc; with_reducible refine hc.mono ?_); rintro e w8 ⟨rfl, _, h8⟩; have H8 := Lib.hid h8; clear h8 hc)
              | (go_at_call 13; (have hc := H8.out.pTake (count_law gr gx ga) HOKE.out 0 HI0.out; rw [HB2'.out, HB1'.out, HTK.out] at hc; with_reducible refine hc.mono ?_); rintro e w9 ⟨rfl, h9⟩; have H9 := Lib.hid h9; clear h9 hc)
              | (go_at_call 22; (have hc := HLS.out pbag_law H9.out; with_reducible refine hc.mono ?_); rintro e w10 ⟨rfl, h10⟩; have H10 := Lib.hid h10; clear h10 hc))
            go_roundw
            case rel => exact ⟨cutB E 0, HOKC.out, HINC.out, H10.out⟩
            case measure =>
              have h1 := HM.out.cAt.allN
              have h2 := H10.out.cAt.allN
              have h3 := HCL.out
              show allN ga _ < allN ga _
              rw [h1, h2]; omega
          · have hdI : ¬ (0 : Int) < (dl : Int) := by omega
            have hd0 : dl = 0 := by omega
            have e1 : ((dl : Int) == 0) = true := by rw [hd0]; rfl
            clear hd hd0
            go_wp2_with (go_at_call 21; (have hc := HM.out.pLen (count_law gr gx ga) HOKE.out; rw [HDL.out] at hc; with_reducible refine hc.mono ?_); rintro e w8 ⟨rfl, _, h8⟩; have H8 := Lib.hid h8; obtain ⟨c8, hgl8⟩ := H8.out.cAt.all; rw [HDL.out] at c8; clear h8 hc)
            go_ret
            exact ⟨rfl, H8.out.to⟩
      · go_wp2
        go_loopw [20] (fun _ wq => ∃ D, OkB D ∧ In5 D ∧ M gr gx ga w wq p q D []) (fun _ wq => allN ga wq)
        case atStart => exact ⟨D, HOK.out, HIN.out, HH.out⟩
        case round =>
          obtain ⟨E, hok, hin, hm⟩ := hrel
          have HM := Lib.hid hm
          have HOKE := Lib.hid hok
          have HINE := Lib.hid hin
          obtain ⟨ca, hgl⟩ := hm.cAt.all
          obtain ⟨dl, hdl⟩ : ∃ d, E.length = d := ⟨_, rfl⟩
          rw [hdl] at ca
          have HDL := Lib.hid hdl
          have HLN : Hid (E.length ≤ 64) := Lib.hid hok.len
          clear HH HOK HIN hm hok hin hdl
          by_cases hd : 0 < dl
          · have hdI : (0 : Int) < (dl : Int) := by omega
            have h0l : 0 < E.length := by rw [HDL.out]; exact hd
            obtain ⟨s, hs5, hse, hsn⟩ := tx5_at (HINE.out E[0] (List.getElem_mem h0l))
            have HB1' : Hid (inB E 0 = true) := Lib.hid (in_at E h0l)
            have HB2' : Hid (lookB E 0 = nmT s) := Lib.hid ((look_at E h0l).trans hse)
            have HTK : Hid (takeB E 0 = cutB E 0) := Lib.hid (take_at E h0l)
            have HOKC : Hid (OkB (cutB E 0)) := Lib.hid (HTK.out ▸ HOKE.out.take 0)
            have HINC : Hid (In5 (cutB E 0)) := Lib.hid (HTK.out ▸ HINE.out.take 0)
            have HCL : Hid ((cutB E 0).length + 1 = E.length) := Lib.hid (cut_len E h0l)
            have HLS : Hid (∀ {X : Type} {A : Kind X} {w0 w : World} {p q : Nat} {F : X} {bs : List (Nat × Obj)}, Lawful A → Held A (CountK gr gx ga) w0 w p F q E bs → Calls Try.prog 22 #[.string (S (nmT s)), .int .i64 (-1), .pointer (some ⟨gx, 0, none⟩), .pointer (some ⟨q, 0, none⟩), .pointer (some ⟨ga, 0, none⟩)] w fun e w' => e = .returned (.bool true) ∧ Held A (CountK gr gx ga) w0 w' p F q (cutB E 0) bs) := Lib.hid (fun hA h => h.cLess hA hs5 h0l hse HLN.out)
            have HI0 : Hid (I64 0) := Lib.hid (by unfold I64; omega)
            obtain ⟨y, hy⟩ : ∃ y, nmT s = y := ⟨_, rfl⟩
            rw [hy] at HB2' HLS
            clear hsn hse hs5 hy h0l hd
            go_wp2_with (first
              | (go_at_call 21; (have hc := HM.out.pLen (count_law gr gx ga) HOKE.out; rw [HDL.out] at hc; with_reducible refine hc.mono ?_); rintro e w8 ⟨rfl, _, h8⟩; have H8 := Lib.hid h8; clear h8 hc)
              | (go_at_call 13; (have hc := H8.out.pTake (count_law gr gx ga) HOKE.out 0 HI0.out; rw [HB2'.out, HB1'.out, HTK.out] at hc; with_reducible refine hc.mono ?_); rintro e w9 ⟨rfl, h9⟩; have H9 := Lib.hid h9; clear h9 hc)
              | (go_at_call 22; (have hc := HLS.out pbag_law H9.out; with_reducible refine hc.mono ?_); rintro e w10 ⟨rfl, h10⟩; have H10 := Lib.hid h10; clear h10 hc))
            go_roundw
            case rel => exact ⟨cutB E 0, HOKC.out, HINC.out, H10.out⟩
            case measure =>
              have h1 := HM.out.cAt.allN
              have h2 := H10.out.cAt.allN
              have h3 := HCL.out
              show allN ga _ < allN ga _
              rw [h1, h2]; omega
          · have hdI : ¬ (0 : Int) < (dl : Int) := by omega
            have hd0 : dl = 0 := by omega
            have e1 : ((dl : Int) == 0) = true := by rw [hd0]; rfl
            clear hd hd0
            go_wp2_with (go_at_call 21; (have hc := HM.out.pLen (count_law gr gx ga) HOKE.out; rw [HDL.out] at hc; with_reducible refine hc.mono ?_); rintro e w8 ⟨rfl, _, h8⟩; have H8 := Lib.hid h8; obtain ⟨c8, hgl8⟩ := H8.out.cAt.all; rw [HDL.out] at c8; clear h8 hc)
            go_ret
            exact ⟨rfl, H8.out.to⟩
theorem own : ownKnob Try.prog.godebug = none := by kernel_rfl
theorem laidOut : laidOutB Try.prog = true := by kernel_rfl

set_option maxRecDepth 100000 in
theorem lifted (os : Os) (started : os.Started) (H : Type) (enc : TypeId × Value → H) :
    ReturnsInHanded {} Try.checked os 4 .any (Rows.bagSentSpec.pre6 enc Try.prog Try.f4 Rows.bagSentRow.domain false) (Rows.bagSentSpec.post enc Try.prog Try.f4 false true false false) := by
  refine returnsInHanded_of_change_sized (C := Try.checked) own started (by kernel_rfl) Try.func4
    (ChangeSpec.witness6 (enc := enc) (C := Try.checked) false ⟨#[], #[.slice none 0 0], []⟩ 8 (by kernel_rfl) (by kernel_rfl) (by kernel_rfl) (by kernel_rfl)) ?_
  intro W base args ds gs before hval0 hW _ hsz0 _
  have hsz : (DataW.weightsEach Try.prog (Try.f4.params.toList ++ Rows.bagSentSpec.plain.varTypes Try.prog) (ds ++ gs)).all (· ≤ reachBytes) = true := hsz0
  have hval : ∀ (j : Nat) t v, Try.f4.params[j]? = some t → args[j]? = some v → Value.okWide Try.prog W .any base t v := hval0
  have hW' := hW
  obtain ⟨p, q, hA0, hV, rfl, hfz, hnd⟩ := hW
  have hA : DataW.TrodAll enc Try.prog W 0 (fun _ => true) true Try.f4.params.toList args.toList ds p := hA0
  rw [Try.params4] at hA hval hsz
  obtain ⟨v0, vs0, d0, ds0, p0, q0, hargs, rfl, rfl, h0, r0⟩ := trodAll_cons hA
  obtain ⟨rfl, rfl, rfl⟩ := trodAll_nil r0
  obtain rfl : args = #[v0] := by cases args; simp_all
  obtain ⟨rfl, rfl⟩ := trodVars_none hV
  have k0 := h0
  have lt0 : ∀ x ∈ p0, x.block < W.heap.size := by obtain ⟨m, hm⟩ := k0; exact DataW.trod_lt m _ _ _ hm
  obtain ⟨a0, len0, cap0, rfl⟩ := okWide_slice Try.underlying22 (hval 0 22 v0 rfl rfl)
  obtain ⟨z0, b0⟩ := acts_of k0 (weights_at hsz (j := 0) (t := 22) rfl rfl)
  clear hA0 hval0 hsz0 hsz
  refine (walk a0 len0 cap0 z0 W b0).mono fun e W' ⟨he, bel⟩ => ?_
  subst he
  exact ⟨_, rfl, _, _, _, [], _, [], hW', trodAll_mk1 (shut_bool Try.underlying4 _), (trodAll_cons_mk (Below.trod laidOut (by kernel_rfl) (of_decide_eq_true (by kernel_rfl)) k0 bel lt0) trodAll_mk0), rfl, bel.frame _, fun h => by cases h⟩

theorem over : Rows.bagSentRow.holds Try.pinned (OpenSpec.ofChange Rows.bagSentSpec) :=
  OpenClaim.holds_of_wide 4 Try.f4 rfl rfl rfl rfl rfl rfl rfl ⟨rfl, rfl, rfl, rfl, rfl⟩ rfl rfl rfl rfl rfl (by kernel_rfl) Try.func4 (by kernel_rfl)
    (of_decide_eq_true (by kernel_rfl)) (by unfold Func.isWrapper; first | (rw [if_pos (by decide +kernel)]; kernel_rfl) | (rw [if_neg (by decide +kernel)]; exact ⟨rfl, rfl⟩))
    (fun os started H enc _ => lifted os started H enc)

theorem proved : Rows.BagSentSaid := over
end Go.Proofs.Ytgjpndloeegamaa.lawBSent
