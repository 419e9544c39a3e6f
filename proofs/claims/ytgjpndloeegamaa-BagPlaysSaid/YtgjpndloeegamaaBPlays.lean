/-
  The statement BagPlays is proved for every script: a bag answers it as the document does. No condition.
-/
import Derived.Deep.QuietTactic
import Derived.Deep.DeepCutAuto
import Derived.Deep.CutBlock
import Derived.Test.YtgjpndloeegamaaMix
import Derived.Test.YtgjpndloeegamaaBheld
import Derived.Test.YtgjpndloeegamaaBq2
import Derived.Test.YtgjpndloeegamaaOpen17
import Derived.Test.YtgjpndloeegamaaRows
namespace Go.Proofs.Ytgjpndloeegamaa.lawBPlays
open Go.ChangeShapes Go.WideShapes Go.ChangeAt Go.RowKit Gm

abbrev M (w wr : World) (p q : Nat) (D : List Bs) (bs : List (Nat × Obj)) : Prop := Held PBag QBag w wr p D q D bs
theorem actc {W : World} {g : Nat} {v0 v1 v2 v3 : Value} (h : W.heap[g]? = some (.cells #[v0, v1, v2, v3] 29)) : (W.cell? ⟨g, 0, none⟩ = some v0 ∧ W.cell? ⟨g, 1, none⟩ = some v1 ∧ W.cell? ⟨g, 2, none⟩ = some v2 ∧ W.cell? ⟨g, 3, none⟩ = some v3) ∧ g < W.heap.size ∧ W.frozen? ⟨g, 1, none⟩ = false :=
  ⟨cells4 h, (Array.getElem?_eq_some_iff.1 h).1, by simp [World.frozen?, h]⟩
set_option maxRecDepth 100000 in
set_option maxHeartbeats 8000000 in
theorem walk (a : Option Addr) (len cap : Nat) (l : List ActE) (w : World) (h0 : ActsAt w.heap.size w a len l) :
    Calls Try.prog 3 #[.slice a len cap] w fun e w' => e = .returned (.bool true) ∧ Below w.heap.size w w' := by
  have HT := Lib.hid h0
  have hlen := h0.2.1
  have HL := Lib.hid h0.1
  have H0 := Lib.hid (Held.start (X := List Bs) (Y := List Bs) w [] [])
  clear h0
  go_enter Try.func3, Try.ntmps3
  go_upto_region 2 with (go_at_call 6; refine (awake_any _).mono ?_; rintro e w1 ⟨rfl, hb1⟩; have h1 := H0.out.below nobody_law nobody_law hb1)
  go_upto_region 3 with (go_at_call 7; refine (h1.pNew nobody_law).mono ?_; rintro e w2 ⟨p, rfl, h2⟩)
  go_wp2_with (go_at_call 8; refine (h2.qNew pbag_law).mono ?_; rintro e w3 ⟨q, rfl, h3⟩)
  have H3 : Hid (M w w3 p q [] []) := Lib.hid h3
  clear h1 h2 h3 hb1 H0
  go_loopw [6] (fun iv wr => ∃ i, i ≤ len ∧ i ≤ 300 ∧ iv = .int .i64 ((i : Nat) : Int) ∧ ∃ D, OkB D ∧ M w wr p q D []) (fun iv _ => len - (intOf iv).toNat)
  case atStart => exact ⟨0, Nat.zero_le _, by omega, rfl, _, OkB.nil, H3.out⟩
  case round =>
    obtain ⟨i, hi, hi3, rfl, D, hok, hh⟩ := hrel
    clear H3
    have HOK := Lib.hid hok
    by_cases hlt : i < len ∧ i < 300
    · obtain ⟨hl1, hl2⟩ := hlt
      obtain ⟨_, _, b, off, ha, hc⟩ := HT.out
      have hil : i < l.length := by rw [HL.out]; exact hl1
      obtain ⟨hb, hx⟩ := hc i hil
      obtain rfl : a = some ⟨b, off, none⟩ := by
        rcases ha with h | h
        · omega
        · exact h
      obtain ⟨x, hxe⟩ : ∃ x, l[i] = x := ⟨_, rfl⟩
      rw [hxe] at hx
      obtain ⟨xw, xa, nr, xt⟩ := x
      dsimp only at hx
      obtain ⟨⟨b0, b1, b2⟩, c0, c1, c2, c3⟩ := hx
      replace c0 := (hh.to.cell (p := ⟨b, off + i * 4, none⟩) hb).trans c0
      replace c1 := (hh.to.cell (p := ⟨b, off + i * 4 + 1, none⟩) hb).trans c1
      replace c2 := (hh.to.cell (p := ⟨b, off + i * 4 + 2, none⟩) hb).trans c2
      replace c3 := (hh.to.cell (p := ⟨b, off + i * 4 + 3, none⟩) hb).trans c3
      have HB0 := Lib.hid b0
      have HB1 := Lib.hid b1
      have HB2 := Lib.hid b2
      have hi0 : (0 : Int) ≤ (i : Int) := by omega
      have hi1 : (i : Int) < (len : Int) := by omega
      have hi2 : (i : Int) < 300 := by omega
      have hb' : b < wr.heap.size := Nat.lt_of_lt_of_le hb hh.size
      have h7 := hh.push pbag_law qbag_law (.cells #[.int .i64 xw, .int .i64 xa, .bool nr, .string (S xt)] 29)
      have H7 := Lib.hid h7
      have hblk := h7.own (List.mem_cons_self ..)
      clear ha hc hxe hil hh hok b0 b1 b2 h7
      obtain ⟨X, hX⟩ : ∃ X, wr.heap.size = X := ⟨_, rfl⟩
      obtain ⟨w4, hw4⟩ : ∃ W, wr.alloc (.cells #[.int .i64 xw, .int .i64 xa, .bool nr, .string (S xt)] 29) = W := ⟨_, rfl⟩
      rw [hX, hw4] at H7 hblk
      obtain ⟨⟨x0, x1, x2, x3⟩, hXl, hfz⟩ := actc hblk
      have HX := Lib.hid hX
      have HW4 := Lib.hid hw4
      clear hblk hX hw4
      go_upto_region 10 with fail
      rw [HX.out, HW4.out]
      clear c0 c1 c2 c3 hb'
      go_upto_if 46 with fail
      go_cut [46] from 47 to 53 (fun _ wx => ∃ at_, I64 at_ ∧ M w wx p q D [(X, (.cells #[.int .i64 xw, .int .i64 at_, .bool nr, .string (S xt)] 29))])
      case first =>
        rcases Bool.eq_false_or_eq_true nr with rfl | rfl
        · go_wp2
          have q1 : w4.drew.cell? ⟨X, 1, none⟩ = some (.int .i64 xa) := x1
          obtain ⟨dl, hdl⟩ : ∃ d, D.length = d := ⟨_, rfl⟩
          have HDL := Lib.hid hdl
          have hd64 : dl ≤ 64 := by rw [← hdl]; exact HOK.out.len
          obtain ⟨m, hm⟩ : ∃ m, 1 + (dl : Int) = m := ⟨_, rfl⟩
          have hwr : IntKind.i64.wrap (1 + (dl : Int)) = m := by rw [← hm]; exact IntWalk.i64_in _ ⟨by omega, by omega⟩
          have HM := Lib.hid hm
          have hm1 : 0 < m := by omega
          have hm2 : m ≤ 1048576 := by omega
          have hpb := pk_bd xa m hm1
          obtain ⟨av, hav⟩ : ∃ v, pk xa m = v := ⟨_, rfl⟩
          rw [hav] at hpb
          have HAV := Lib.hid hav
          have HAI : Hid (I64 av) := Lib.hid (by unfold I64; omega)
          clear hdl hm hav hpb
          refine region_mix (fun W => W.cell? ⟨X, 1, none⟩ = some (.int .i64 xa)) (5) (.reads [0, 1, 2] (.only 3 (.reads [4] (.only 5 (.only 6 (.only 7 (.stop))))))) (by kernel_rfl) (by kernel_rfl) (q1) ?_
          repeat (
            refine plan_read rfl (fun K hK => ?_)
            first
              | (refine plan_neg ?_ ?_
                 focus (go_simp; done)
                 go_simp
                 refine hK _ ?_
                 clear hK K)
              | (apply plan_pos
                 focus (go_simp; done)
                 focus (
                   intro W hW
                   (have x1 := hW)
                   go_simp
                   first
                     | done
                     | exact rfl)
                 go_simp
                 refine hK _ ?_
                 clear hK K))
          refine plan_only rfl (fun Q hQ => ?_)
          go_wp2_with (go_at_call 10; (have hc := (H7.out.drew pbag_law qbag_law).qLen pbag_law; rw [HDL.out] at hc; with_reducible refine hc.mono ?_); rintro e w9 ⟨rfl, _, h9⟩; have H9 := Lib.hid h9; clear h9 hc)
          obtain ⟨⟨z0, z1, z2, z3⟩, hZl, hZf⟩ := actc (H9.out.own (List.mem_cons_self ..))
          refine hQ _ _ (fun _ => z1) ?_
          clear hQ Q
          repeat (
            refine plan_read rfl (fun K hK => ?_)
            first
              | (refine plan_neg ?_ ?_
                 focus (go_simp; done)
                 go_simp
                 refine hK _ ?_
                 clear hK K)
              | (apply plan_pos
                 focus (go_simp; done)
                 focus (
                   intro W hW
                   (have hwr := hwr)
                   go_simp
                   first
                     | done
                     | exact rfl)
                 go_simp
                 refine hK _ ?_
                 clear hK K))
          refine plan_only rfl (fun Q hQ => ?_)
          go_wp2_with (go_at_call 9; (have hc := pick_any xa m w9 HB1.out hm1 hm2; rw [HAV.out] at hc; with_reducible refine hc.mono ?_); rintro e w10 ⟨rfl, rfl⟩)
          refine hQ _ _ (fun h => absurd h (by omega)) ?_
          clear hQ Q
          refine plan_only rfl (fun Q hQ => ?_)
          go_wp2
          refine hQ _ _ (fun h => absurd h (by omega)) ?_
          clear hQ Q
          refine plan_only rfl (fun Q hQ => ?_)
          go_wp2
          refine hQ _ _ (fun h => absurd h (by omega)) ?_
          clear hQ Q
          unfold Plan.wp
          go_wp2
          go_meet
          exact ⟨av, HAI.out, H9.out.set pbag_law qbag_law 1 _⟩
        · go_wp2
          go_meet
          exact ⟨xa, HB1.out, H7.out⟩
      case rest =>
      clear x0 x1 x2 x3 hXl hfz H7 HB1
      obtain ⟨at_, hat, h8⟩ := hcut
      have HAT := Lib.hid hat
      have H8 := Lib.hid h8
      obtain ⟨⟨x0, x1, x2, x3⟩, hXl, hfz⟩ := actc (h8.own (List.mem_cons_self ..))
      have hp0 := pk_bd xw 7 (by omega)
      obtain ⟨k, hk⟩ : ∃ k, pk xw 7 = k := ⟨_, rfl⟩
      rw [hk] at hp0
      have HW := Lib.hid hk
      have hk7 : k = 0 ∨ k = 1 ∨ k = 2 ∨ k = 3 ∨ k = 4 ∨ k = 5 ∨ k = 6 := by omega
      clear hat h8 hk hp0
      go_upto_block 2 with (go_at_call 9; (have hc := pick_any xw 7 wc HB0.out (by omega) (by omega); rw [HW.out] at hc; with_reducible refine hc.mono ?_); rintro e w6 ⟨rfl, rfl⟩)
      go_cut [8, 9, 10, 11, 12, 57] from 58 to 115 (fun is_ _ _ _ _ _ wx => is_ = .bool true ∧ ∃ D', OkB D' ∧ M w wx p q D' [(X, (.cells #[.int .i64 xw, .int .i64 at_, .bool nr, .string (S xt)] 29))])
      case first =>
        rcases hk7 with rfl | rfl | rfl | rfl | rfl | rfl | rfl
        · obtain ⟨rb, hrb⟩ : ∃ b, roomB D = b := ⟨_, rfl⟩
          have HRB := Lib.hid hrb
          have e1 : (rb == rb) = true := by simp
          clear hrb
          have q3 : wc.drew.cell? ⟨X, 3, none⟩ = some (.string (S xt)) := x3
          go_wp2
          refine region_mix (fun W => W.cell? ⟨X, 3, none⟩ = some (.string (S xt))) (7) (.reads [0, 1, 2, 4, 5, 6] (.only 3 (.only 7 (.only 8 (.only 9 (.stop)))))) (by kernel_rfl) (by kernel_rfl) (q3) ?_
          repeat (
            refine plan_read rfl (fun K hK => ?_)
            first
              | (refine plan_neg ?_ ?_
                 focus (go_simp; done)
                 go_simp
                 refine hK _ ?_
                 clear hK K)
              | (apply plan_pos
                 focus (go_simp; done)
                 focus (
                   intro W hW
                   (have x3 := hW)
                   go_simp
                   first
                     | done
                     | exact rfl)
                 go_simp
                 refine hK _ ?_
                 clear hK K))
          refine plan_only rfl (fun Q hQ => ?_)
          go_wp2_with (go_at_call 11; (have hc := (H8.out.drew pbag_law qbag_law).pSend qbag_law HOK.out xt HB2.out; rw [HRB.out] at hc; with_reducible refine hc.mono ?_); rintro e w9 ⟨rfl, h9⟩; have H9 := Lib.hid h9; clear h9 hc)
          obtain ⟨⟨z0, z1, z2, z3⟩, hZl, hZf⟩ := actc (H9.out.own (List.mem_cons_self ..))
          refine hQ _ _ (fun _ => z3) ?_
          clear hQ Q
          refine plan_only rfl (fun Q hQ => ?_)
          go_wp2_with (go_at_call 12; (have hc := H9.out.qSend pbag_law HOK.out xt; rw [HRB.out] at hc; with_reducible refine hc.mono ?_); rintro e w10 ⟨rfl, h10⟩; have H10 := Lib.hid h10; clear h10 hc)
          refine hQ _ _ (fun h => absurd h (by omega)) ?_
          clear hQ Q
          refine plan_only rfl (fun Q hQ => ?_)
          go_wp2
          refine hQ _ _ (fun h => absurd h (by omega)) ?_
          clear hQ Q
          refine plan_only rfl (fun Q hQ => ?_)
          go_wp2
          refine hQ _ _ (fun h => absurd h (by omega)) ?_
          clear hQ Q
          unfold Plan.wp
          go_wp2
          go_meet
          exact ⟨rfl, _, HOK.out.send HB2.out, H10.out⟩
        · obtain ⟨rb, hrb⟩ : ∃ b, roomB D = b := ⟨_, rfl⟩
          have HRB := Lib.hid hrb
          have e1 : (rb == rb) = true := by simp
          clear hrb
          have q3 : wc.drew.cell? ⟨X, 3, none⟩ = some (.string (S xt)) := x3
          go_wp2
          refine region_mix (fun W => W.cell? ⟨X, 3, none⟩ = some (.string (S xt))) (7) (.reads [0, 1, 2, 4, 5, 6] (.only 3 (.only 7 (.only 8 (.only 9 (.stop)))))) (by kernel_rfl) (by kernel_rfl) (q3) ?_
          repeat (
            refine plan_read rfl (fun K hK => ?_)
            first
              | (refine plan_neg ?_ ?_
                 focus (go_simp; done)
                 go_simp
                 refine hK _ ?_
                 clear hK K)
              | (apply plan_pos
                 focus (go_simp; done)
                 focus (
                   intro W hW
                   (have x3 := hW)
                   go_simp
                   first
                     | done
                     | exact rfl)
                 go_simp
                 refine hK _ ?_
                 clear hK K))
          refine plan_only rfl (fun Q hQ => ?_)
          go_wp2_with (go_at_call 11; (have hc := (H8.out.drew pbag_law qbag_law).pSend qbag_law HOK.out xt HB2.out; rw [HRB.out] at hc; with_reducible refine hc.mono ?_); rintro e w9 ⟨rfl, h9⟩; have H9 := Lib.hid h9; clear h9 hc)
          obtain ⟨⟨z0, z1, z2, z3⟩, hZl, hZf⟩ := actc (H9.out.own (List.mem_cons_self ..))
          refine hQ _ _ (fun _ => z3) ?_
          clear hQ Q
          refine plan_only rfl (fun Q hQ => ?_)
          go_wp2_with (go_at_call 12; (have hc := H9.out.qSend pbag_law HOK.out xt; rw [HRB.out] at hc; with_reducible refine hc.mono ?_); rintro e w10 ⟨rfl, h10⟩; have H10 := Lib.hid h10; clear h10 hc)
          refine hQ _ _ (fun h => absurd h (by omega)) ?_
          clear hQ Q
          refine plan_only rfl (fun Q hQ => ?_)
          go_wp2
          refine hQ _ _ (fun h => absurd h (by omega)) ?_
          clear hQ Q
          refine plan_only rfl (fun Q hQ => ?_)
          go_wp2
          refine hQ _ _ (fun h => absurd h (by omega)) ?_
          clear hQ Q
          unfold Plan.wp
          go_wp2
          go_meet
          exact ⟨rfl, _, HOK.out.send HB2.out, H10.out⟩
        · obtain ⟨rb, hrb⟩ : ∃ b, roomB D = b := ⟨_, rfl⟩
          have HRB := Lib.hid hrb
          have e1 : (rb == rb) = true := by simp
          clear hrb
          have q3 : wc.drew.cell? ⟨X, 3, none⟩ = some (.string (S xt)) := x3
          go_wp2
          refine region_mix (fun W => W.cell? ⟨X, 3, none⟩ = some (.string (S xt))) (7) (.reads [0, 1, 2, 4, 5, 6] (.only 3 (.only 7 (.only 8 (.only 9 (.stop)))))) (by kernel_rfl) (by kernel_rfl) (q3) ?_
          repeat (
            refine plan_read rfl (fun K hK => ?_)
            first
              | (refine plan_neg ?_ ?_
                 focus (go_simp; done)
                 go_simp
                 refine hK _ ?_
                 clear hK K)
              | (apply plan_pos
                 focus (go_simp; done)
                 focus (
                   intro W hW
                   (have x3 := hW)
                   go_simp
                   first
                     | done
                     | exact rfl)
                 go_simp
                 refine hK _ ?_
                 clear hK K))
          refine plan_only rfl (fun Q hQ => ?_)
          go_wp2_with (go_at_call 11; (have hc := (H8.out.drew pbag_law qbag_law).pSend qbag_law HOK.out xt HB2.out; rw [HRB.out] at hc; with_reducible refine hc.mono ?_); rintro e w9 ⟨rfl, h9⟩; have H9 := Lib.hid h9; clear h9 hc)
          obtain ⟨⟨z0, z1, z2, z3⟩, hZl, hZf⟩ := actc (H9.out.own (List.mem_cons_self ..))
          refine hQ _ _ (fun _ => z3) ?_
          clear hQ Q
          refine plan_only rfl (fun Q hQ => ?_)
          go_wp2_with (go_at_call 12; (have hc := H9.out.qSend pbag_law HOK.out xt; rw [HRB.out] at hc; with_reducible refine hc.mono ?_); rintro e w10 ⟨rfl, h10⟩; have H10 := Lib.hid h10; clear h10 hc)
          refine hQ _ _ (fun h => absurd h (by omega)) ?_
          clear hQ Q
          refine plan_only rfl (fun Q hQ => ?_)
          go_wp2
          refine hQ _ _ (fun h => absurd h (by omega)) ?_
          clear hQ Q
          refine plan_only rfl (fun Q hQ => ?_)
          go_wp2
          refine hQ _ _ (fun h => absurd h (by omega)) ?_
          clear hQ Q
          unfold Plan.wp
          go_wp2
          go_meet
          exact ⟨rfl, _, HOK.out.send HB2.out, H10.out⟩
        · obtain ⟨rb, hrb⟩ : ∃ b, inB D at_ = b := ⟨_, rfl⟩
          have HRB := Lib.hid hrb
          have e1 : (rb == rb) = true := by simp
          clear hrb
          obtain ⟨y, hy⟩ : ∃ y, lookB D at_ = y := ⟨_, rfl⟩
          have HY := Lib.hid hy
          clear hy
          go_wp2_with (first
            | (go_at_call 13; (have hc := H8.out.pTake qbag_law HOK.out at_ HAT.out; rw [HY.out, HRB.out] at hc; with_reducible refine hc.mono ?_); rintro e w9 ⟨rfl, h9⟩; have H9 := Lib.hid h9; obtain ⟨⟨z0, z1, z2, z3⟩, hZl, hZf⟩ := actc (H9.out.own (List.mem_cons_self ..)); clear h9 hc)
            | (go_at_call 14; (have hc := H9.out.qTake pbag_law HOK.out at_; rw [HY.out, HRB.out] at hc; with_reducible refine hc.mono ?_); rintro e w10 ⟨rfl, h10⟩; have H10 := Lib.hid h10; clear h10 hc))
          go_meet
          exact ⟨rfl, _, HOK.out.take at_, H10.out⟩
        · obtain ⟨rb, hrb⟩ : ∃ b, (inB D at_ && roomB D) = b := ⟨_, rfl⟩
          have HRB := Lib.hid hrb
          have e1 : (rb == rb) = true := by simp
          clear hrb
          have q3 : wc.drew.cell? ⟨X, 1, none⟩ = some (.int .i64 at_) := x1
          go_wp2
          refine region_mix (fun W => W.cell? ⟨X, 1, none⟩ = some (.int .i64 at_)) (7) (.reads [0, 1, 2, 4, 5, 6] (.only 3 (.only 7 (.only 8 (.only 9 (.stop)))))) (by kernel_rfl) (by kernel_rfl) (q3) ?_
          repeat (
            refine plan_read rfl (fun K hK => ?_)
            first
              | (refine plan_neg ?_ ?_
                 focus (go_simp; done)
                 go_simp
                 refine hK _ ?_
                 clear hK K)
              | (apply plan_pos
                 focus (go_simp; done)
                 focus (
                   intro W hW
                   (have x3 := hW)
                   go_simp
                   first
                     | done
                     | exact rfl)
                 go_simp
                 refine hK _ ?_
                 clear hK K))
          refine plan_only rfl (fun Q hQ => ?_)
          go_wp2_with (go_at_call 15; (have hc := (H8.out.drew pbag_law qbag_law).pCopy qbag_law HOK.out at_ HAT.out; rw [HRB.out] at hc; with_reducible refine hc.mono ?_); rintro e w9 ⟨rfl, h9⟩; have H9 := Lib.hid h9; clear h9 hc)
          obtain ⟨⟨z0, z1, z2, z3⟩, hZl, hZf⟩ := actc (H9.out.own (List.mem_cons_self ..))
          refine hQ _ _ (fun _ => z1) ?_
          clear hQ Q
          refine plan_only rfl (fun Q hQ => ?_)
          go_wp2_with (go_at_call 16; (have hc := H9.out.qCopy pbag_law HOK.out at_; rw [HRB.out] at hc; with_reducible refine hc.mono ?_); rintro e w10 ⟨rfl, h10⟩; have H10 := Lib.hid h10; clear h10 hc)
          refine hQ _ _ (fun h => absurd h (by omega)) ?_
          clear hQ Q
          refine plan_only rfl (fun Q hQ => ?_)
          go_wp2
          refine hQ _ _ (fun h => absurd h (by omega)) ?_
          clear hQ Q
          refine plan_only rfl (fun Q hQ => ?_)
          go_wp2
          refine hQ _ _ (fun h => absurd h (by omega)) ?_
          clear hQ Q
          unfold Plan.wp
          go_wp2
          go_meet
          exact ⟨rfl, _, HOK.out.copy at_, H10.out⟩
        · obtain ⟨rb, hrb⟩ : ∃ b, inB D at_ = b := ⟨_, rfl⟩
          have HRB := Lib.hid hrb
          have e1 : (rb == rb) = true := by simp
          clear hrb
          have q3 : wc.drew.cell? ⟨X, 1, none⟩ = some (.int .i64 at_) := x1
          go_wp2
          refine region_mix (fun W => W.cell? ⟨X, 1, none⟩ = some (.int .i64 at_)) (7) (.reads [0, 1, 2, 4, 5, 6] (.only 3 (.only 7 (.only 8 (.only 9 (.stop)))))) (by kernel_rfl) (by kernel_rfl) (q3) ?_
          repeat (
            refine plan_read rfl (fun K hK => ?_)
            first
              | (refine plan_neg ?_ ?_
                 focus (go_simp; done)
                 go_simp
                 refine hK _ ?_
                 clear hK K)
              | (apply plan_pos
                 focus (go_simp; done)
                 focus (
                   intro W hW
                   (have x3 := hW)
                   go_simp
                   first
                     | done
                     | exact rfl)
                 go_simp
                 refine hK _ ?_
                 clear hK K))
          refine plan_only rfl (fun Q hQ => ?_)
          go_wp2_with (go_at_call 17; (have hc := (H8.out.drew pbag_law qbag_law).pDrop qbag_law HOK.out at_ HAT.out; rw [HRB.out] at hc; with_reducible refine hc.mono ?_); rintro e w9 ⟨rfl, h9⟩; have H9 := Lib.hid h9; clear h9 hc)
          obtain ⟨⟨z0, z1, z2, z3⟩, hZl, hZf⟩ := actc (H9.out.own (List.mem_cons_self ..))
          refine hQ _ _ (fun _ => z1) ?_
          clear hQ Q
          refine plan_only rfl (fun Q hQ => ?_)
          go_wp2_with (go_at_call 18; (have hc := H9.out.qDrop pbag_law HOK.out at_; rw [HRB.out] at hc; with_reducible refine hc.mono ?_); rintro e w10 ⟨rfl, h10⟩; have H10 := Lib.hid h10; clear h10 hc)
          refine hQ _ _ (fun h => absurd h (by omega)) ?_
          clear hQ Q
          refine plan_only rfl (fun Q hQ => ?_)
          go_wp2
          refine hQ _ _ (fun h => absurd h (by omega)) ?_
          clear hQ Q
          refine plan_only rfl (fun Q hQ => ?_)
          go_wp2
          refine hQ _ _ (fun h => absurd h (by omega)) ?_
          clear hQ Q
          unfold Plan.wp
          go_wp2
          go_meet
          exact ⟨rfl, _, HOK.out.take at_, H10.out⟩
        · go_wp2
          go_meet
          exact ⟨rfl, D, HOK.out, H8.out⟩
      case rest =>
      obtain ⟨rfl, D', hok', h9⟩ := hcut
      have HOK' := Lib.hid hok'
      have H9 := Lib.hid h9
      obtain ⟨⟨y0, y1, y2, y3⟩, hXl', hfz'⟩ := actc (h9.own (List.mem_cons_self ..))
      clear x0 x1 x2 x3 hXl hfz hok' H8 HOK hk7
      obtain ⟨y, hy⟩ : ∃ y, lookB D' at_ = y := ⟨_, rfl⟩
      obtain ⟨rb, hrb⟩ : ∃ y, inB D' at_ = y := ⟨_, rfl⟩
      obtain ⟨dl, hdl⟩ : ∃ d, D'.length = d := ⟨_, rfl⟩
      have HY := Lib.hid hy
      have HRB := Lib.hid hrb
      have HDL := Lib.hid hdl
      have e1 : (rb == rb) = true := by simp
      have e2 : (rb != rb) = false := by simp
      clear hy hrb hdl h9
      go_wp2_with (first
        | (go_at_call 19; (have hc := H9.out.pLook qbag_law HOK'.out at_ HAT.out; rw [HY.out, HRB.out] at hc; with_reducible refine hc.mono ?_); rintro e w9 ⟨rfl, _, h10⟩; have H10 := Lib.hid h10; obtain ⟨⟨z0, z1, z2, z3⟩, hZl, hZf⟩ := actc (H10.out.own (List.mem_cons_self ..)); clear h10 hc)
        | (go_at_call 20; (have hc := H10.out.qLook pbag_law at_; rw [HY.out, HRB.out] at hc; with_reducible refine hc.mono ?_); rintro e w10 ⟨rfl, _, h11⟩; have H11 := Lib.hid h11; clear h11 hc)
        | (go_at_call 21; (have hc := H11.out.pLen qbag_law HOK'.out; rw [HDL.out] at hc; with_reducible refine hc.mono ?_); rintro e w11 ⟨rfl, _, h12⟩; have H12 := Lib.hid h12; clear h12 hc)
        | (go_at_call 10; (have hc := H12.out.qLen pbag_law; rw [HDL.out] at hc; with_reducible refine hc.mono ?_); rintro e w12 ⟨rfl, _, h13⟩; have H13 := Lib.hid h13.pop; clear h13 hc))
      go_roundw
      case rel => exact ⟨i + 1, by omega, by omega, by go_num, D', HOK'.out, H13.out⟩
      case measure => simp [intOf]; omega
    · have hcc : (¬ (i : Int) < (len : Int)) ∨ ((i : Int) < (len : Int) ∧ ¬ (i : Int) < 300) := by omega
      have HH := Lib.hid hh
      clear hlt hh hok
      rcases hcc with hcc | ⟨hc1, hcc⟩
      · obtain ⟨dl, hdl⟩ : ∃ d, D.length = d := ⟨_, rfl⟩
        have HDL := Lib.hid hdl
        have hd64 : dl ≤ 64 := by rw [← hdl]; exact HOK.out.len
        clear hdl
        go_wp2
        go_loopw [17] (fun jv wq => ∃ j : Nat, j ≤ dl ∧ jv = .int .i64 (j : Int) ∧ M w wq p q D []) (fun jv _ => dl - (intOf jv).toNat)
        case atStart => exact ⟨0, Nat.zero_le _, rfl, HH.out⟩
        case round =>
          obtain ⟨j, hj, rfl, hm⟩ := hrel
          have HM := Lib.hid hm
          have hj0 : (0 : Int) ≤ (j : Int) := by omega
          have HJ : Hid (I64 (j : Int)) := Lib.hid (by unfold I64; omega)
          clear HH hm
          by_cases hlt : j < dl
          · have hjd : (j : Int) < (dl : Int) := by omega
            obtain ⟨y, hy⟩ : ∃ y, lookB D (j : Int) = y := ⟨_, rfl⟩
            obtain ⟨rb, hrb⟩ : ∃ y, inB D (j : Int) = y := ⟨_, rfl⟩
            have HY := Lib.hid hy
            have HRB := Lib.hid hrb
            clear hy hrb
            go_wp2_with (first
              | (go_at_call 10; (have hc := HM.out.qLen pbag_law; rw [HDL.out] at hc; with_reducible refine hc.mono ?_); rintro e w9 ⟨rfl, _, h9⟩; have H9 := Lib.hid h9; clear h9 hc)
              | (go_at_call 19; (have hc := H9.out.pLook qbag_law HOK.out (j : Int) HJ.out; rw [HY.out, HRB.out] at hc; with_reducible refine hc.mono ?_); rintro e w10 ⟨rfl, _, h10⟩; have H10 := Lib.hid h10; clear h10 hc)
              | (go_at_call 20; (have hc := H10.out.qLook pbag_law (j : Int); rw [HY.out, HRB.out] at hc; with_reducible refine hc.mono ?_); rintro e w11 ⟨rfl, _, h11⟩; have H11 := Lib.hid h11; clear h11 hc))
            go_roundw
            case rel => exact ⟨j + 1, by omega, by go_num, H11.out⟩
            case measure => simp [intOf]; omega
          · have hjd : ¬ (j : Int) < (dl : Int) := by omega
            clear hlt
            go_wp2_with (go_at_call 10; (have hc := HM.out.qLen pbag_law; rw [HDL.out] at hc; with_reducible refine hc.mono ?_); rintro e w9 ⟨rfl, _, h9⟩; have H9 := Lib.hid h9; clear h9 hc)
            go_ret
            exact ⟨rfl, H9.out.to⟩
      · obtain ⟨dl, hdl⟩ : ∃ d, D.length = d := ⟨_, rfl⟩
        have HDL := Lib.hid hdl
        have hd64 : dl ≤ 64 := by rw [← hdl]; exact HOK.out.len
        clear hdl
        go_wp2
        go_loopw [17] (fun jv wq => ∃ j : Nat, j ≤ dl ∧ jv = .int .i64 (j : Int) ∧ M w wq p q D []) (fun jv _ => dl - (intOf jv).toNat)
        case atStart => exact ⟨0, Nat.zero_le _, rfl, HH.out⟩
        case round =>
          obtain ⟨j, hj, rfl, hm⟩ := hrel
          have HM := Lib.hid hm
          have hj0 : (0 : Int) ≤ (j : Int) := by omega
          have HJ : Hid (I64 (j : Int)) := Lib.hid (by unfold I64; omega)
          clear HH hm
          by_cases hlt : j < dl
          · have hjd : (j : Int) < (dl : Int) := by omega
            obtain ⟨y, hy⟩ : ∃ y, lookB D (j : Int) = y := ⟨_, rfl⟩
            obtain ⟨rb, hrb⟩ : ∃ y, inB D (j : Int) = y := ⟨_, rfl⟩
            have HY := Lib.hid hy
            have HRB := Lib.hid hrb
            clear hy hrb
            go_wp2_with (first
              | (go_at_call 10; (have hc := HM.out.qLen pbag_law; rw [HDL.out] at hc; with_reducible refine hc.mono ?_); rintro e w9 ⟨rfl, _, h9⟩; have H9 := Lib.hid h9; clear h9 hc)
              | (go_at_call 19; (have hc := H9.out.pLook qbag_law HOK.out (j : Int) HJ.out; rw [HY.out, HRB.out] at hc; with_reducible refine hc.mono ?_); rintro e w10 ⟨rfl, _, h10⟩; have H10 := Lib.hid h10; clear h10 hc)
              | (go_at_call 20; (have hc := H10.out.qLook pbag_law (j : Int); rw [HY.out, HRB.out] at hc; with_reducible refine hc.mono ?_); rintro e w11 ⟨rfl, _, h11⟩; have H11 := Lib.hid h11; clear h11 hc))
            go_roundw
            case rel => exact ⟨j + 1, by omega, by go_num, H11.out⟩
            case measure => simp [intOf]; omega
          · have hjd : ¬ (j : Int) < (dl : Int) := by omega
            clear hlt
            go_wp2_with (go_at_call 10; (have hc := HM.out.qLen pbag_law; rw [HDL.out] at hc; with_reducible refine hc.mono ?_); rintro e w9 ⟨rfl, _, h9⟩; have H9 := Lib.hid h9; clear h9 hc)
            go_ret
            exact ⟨rfl, H9.out.to⟩
theorem own : ownKnob Try.prog.godebug = none := by kernel_rfl
theorem laidOut : laidOutB Try.prog = true := by kernel_rfl

set_option maxRecDepth 100000 in
theorem lifted (os : Os) (started : os.Started) (H : Type) (enc : TypeId × Value → H) :
    ReturnsInHanded {} Try.checked os 3 .any (Rows.bagPlaysSpec.pre6 enc Try.prog Try.f3 Rows.bagPlaysRow.domain false) (Rows.bagPlaysSpec.post enc Try.prog Try.f3 false true false false) := by
  refine returnsInHanded_of_change_sized (C := Try.checked) own started (by kernel_rfl) Try.func3
    (ChangeSpec.witness6 (enc := enc) (C := Try.checked) false ⟨#[], #[.slice none 0 0], []⟩ 8 (by kernel_rfl) (by kernel_rfl) (by kernel_rfl) (by kernel_rfl)) ?_
  intro W base args ds gs before hval0 hW _ hsz0 _
  have hsz : (DataW.weightsEach Try.prog (Try.f3.params.toList ++ Rows.bagPlaysSpec.plain.varTypes Try.prog) (ds ++ gs)).all (· ≤ reachBytes) = true := hsz0
  have hval : ∀ (j : Nat) t v, Try.f3.params[j]? = some t → args[j]? = some v → Value.okWide Try.prog W .any base t v := hval0
  have hW' := hW
  obtain ⟨p, q, hA0, hV, rfl, hfz, hnd⟩ := hW
  have hA : DataW.TrodAll enc Try.prog W 0 (fun _ => true) true Try.f3.params.toList args.toList ds p := hA0
  rw [Try.params3] at hA hval hsz
  obtain ⟨v0, vs0, d0, ds0, p0, q0, hargs, rfl, rfl, h0, r0⟩ := trodAll_cons hA
  obtain ⟨rfl, rfl, rfl⟩ := trodAll_nil r0
  obtain rfl : args = #[v0] := by cases args; simp_all
  obtain ⟨rfl, rfl⟩ := trodVars_none hV
  have k0 := h0
  have lt0 : ∀ x ∈ p0, x.block < W.heap.size := by obtain ⟨m, hm⟩ := k0; exact DataW.trod_lt m _ _ _ hm
  obtain ⟨a0, len0, cap0, rfl⟩ := okWide_slice Try.underlying22 (hval 0 22 v0 rfl rfl)
  obtain ⟨z0, b0⟩ := acts_of k0 (weights_at hsz (j := 0) (t := 22) rfl rfl)
  clear hA0 hval0 hsz0 hsz
  refine (walk a0 len0 cap0 z0 W b0).mono fun e W' ⟨he, bel⟩ => ?_
  subst he
  exact ⟨_, rfl, _, _, _, [], _, [], hW', trodAll_mk1 (shut_bool Try.underlying4 _), (trodAll_cons_mk (Below.trod laidOut (by kernel_rfl) (of_decide_eq_true (by kernel_rfl)) k0 bel lt0) trodAll_mk0), rfl, bel.frame _, fun h => by cases h⟩

theorem over : Rows.bagPlaysRow.holds Try.pinned (OpenSpec.ofChange Rows.bagPlaysSpec) :=
  OpenClaim.holds_of_wide 3 Try.f3 rfl rfl rfl rfl rfl rfl rfl ⟨rfl, rfl, rfl, rfl, rfl⟩ rfl rfl rfl rfl rfl (by kernel_rfl) Try.func3 (by kernel_rfl)
    (of_decide_eq_true (by kernel_rfl)) (by unfold Func.isWrapper; first | (rw [if_pos (by decide +kernel)]; kernel_rfl) | (rw [if_neg (by decide +kernel)]; exact ⟨rfl, rfl⟩))
    (fun os started H enc _ => lifted os started H enc)

theorem proved : Rows.BagPlaysSaid := over
end Go.Proofs.Ytgjpndloeegamaa.lawBPlays
