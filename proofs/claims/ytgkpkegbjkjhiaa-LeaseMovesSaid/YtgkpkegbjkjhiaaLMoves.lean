/-
  The statement LeaseMoves is proved for every script: what is sent makes Held of no workload less, Acked and Pass make it of none more, and Learn makes it just what is learned. No condition.
-/
import Derived.Test.YtgkpkegbjkjhiaaLcalls
import Derived.Test.YtgkpkegbjkjhiaaLmovesn
import Derived.Test.YtgkpkegbjkjhiaaOpen14
import Derived.Test.YtgkpkegbjkjhiaaRows
namespace Go.Proofs.Ytgkpkegbjkjhiaa.lawLMoves
open Go.ChangeShapes Go.WideShapes Go.ChangeAt Go.RowKit Gm

abbrev names3 : Obj := .cells #[.string { data := #[119, 97] }, .string { data := #[119, 98] }, .string { data := #[119, 99] }] 9 (0, 0)
theorem names3_at {W : World} {g : Nat} (h : W.heap[g]? = some names3) {i : Nat} (hi : i < 3) : W.cell? ⟨g, i, none⟩ = some (.string (S (nm3 i))) := by
  rw [cell_of_row _ _ _ _ _ _ h]
  have : i = 0 ∨ i = 1 ∨ i = 2 := by omega
  rcases this with rfl | rfl | rfl <;> rfl
/-- Three numbers. -/
abbrev three (f : Nat → Int) : Obj := .cells #[.int .i64 (f 0), .int .i64 (f 1), .int .i64 (f 2)] 47 (0, 0)
theorem three_set (f g : Nat → Int) (j : Nat) (hj : j < 3) (h : ∀ t, t ≠ j → g t = f t) : Obj.cells (#[.int .i64 (f 0), .int .i64 (f 1), .int .i64 (f 2)].setIfInBounds j (.int .i64 (g j))) 47 (0, 0) = three g := by
  have : j = 0 ∨ j = 1 ∨ j = 2 := by omega
  rcases this with rfl | rfl | rfl
  · rw [three, h 1 (by omega), h 2 (by omega)]; rfl
  · rw [three, h 0 (by omega), h 2 (by omega)]; rfl
  · rw [three, h 0 (by omega), h 1 (by omega)]; rfl
theorem three_at {W : World} {g : Nat} {f : Nat → Int} (h : W.heap[g]? = some (three f)) {i : Nat} (hi : i < 3) : W.cell? ⟨g, i, none⟩ = some (.int .i64 (f i)) := by
  rw [cell_of_row _ _ _ _ _ _ h]
  have : i = 0 ∨ i = 1 ∨ i = 2 := by omega
  rcases this with rfl | rfl | rfl <;> rfl
abbrev M (w wr : World) (p : Nat) (D : Bk) (bs : List (Nat × Obj)) : Prop := Held PBook (Nobody (X := Bk)) w wr p D 0 default bs

set_option maxRecDepth 100000 in
set_option maxHeartbeats 8000000 in
theorem walk (a : Option Addr) (len cap : Nat) (l : List ActE) (w : World) (h0 : ActsAt w.heap.size w a len l) :
    Calls Try.prog 7 #[.slice a len cap] w fun e w' => e = .returned (.bool true) ∧ Below w.heap.size w w' := by
  have HT := Lib.hid h0
  have hlen := h0.2.1
  have HL := Lib.hid h0.1
  have H0 := Lib.hid (Held.start w (default : Bk) (default : Bk))
  clear h0
  go_enter Try.func7, Try.ntmps7
  go_wp2_with (go_at_call 9; refine (awake_any _).mono ?_; rintro e w1 ⟨rfl, hb1⟩; have h1 := H0.out.below nobody_law nobody_law hb1)
  go_wp2_with (go_at_call 10; refine (h1.pNew nobody_law 0 (by unfold I64; omega)).mono ?_; rintro e w2 ⟨p, rfl, h2⟩)
  go_wp2_with (go_at_call 20; refine (h2.pLearn nobody_law (OkB.new 0) 0 50 0 (by unfold I64; omega) (by unfold I64; omega) (fun _ _ _ => BindsAt.nil _ _ none) ⟨by simp, by simp⟩).mono ?_; rintro e w3 ⟨rfl, h3⟩)
  have h4 := h3.push pbook_law nobody_law names3
  obtain ⟨N, hN⟩ : ∃ N, w3.heap.size = N := ⟨_, rfl⟩
  obtain ⟨w4, hw4⟩ : ∃ W, w3.alloc names3 = W := ⟨_, rfl⟩
  rw [hN, hw4] at h4
  rw [hN, hw4]
  have HH : Hid (∃ D, MvSt D 0 ∧ M w w4 p D [(N, names3)]) := Lib.hid ⟨_, ⟨(OkB.new 0).learn (by unfold I64; omega) (by unfold I64; omega) ⟨by simp, by simp⟩, rfl, by simp [learnB]⟩, h4⟩
  clear h1 h2 h3 h4 hb1 hN hw4
  go_loopw [6] (fun iv wr => ∃ i, i ≤ len ∧ i ≤ 60 ∧ iv = .int .i64 (i : Int) ∧ ∃ D, MvSt D i ∧ M w wr p D [(N, names3)]) (fun iv _ => len - (intOf iv).toNat)
  case atStart => exact ⟨0, Nat.zero_le _, by omega, rfl, HH.out⟩
  case round =>
    obtain ⟨i, hi, hi60, rfl, hh⟩ := hrel
    clear HH
    by_cases hlt : i < len ∧ i < 60
    · obtain ⟨hl1, hl2⟩ := hlt
      obtain ⟨D, hst, hh⟩ := hh
      obtain ⟨_, _, b, off, ha, hc⟩ := HT.out
      have hil : i < l.length := by rw [HL.out]; exact hl1
      obtain ⟨hb, hx⟩ := hc i hil
      obtain rfl : a = some ⟨b, off, none⟩ := by
        rcases ha with h | h
        · omega
        · exact h
      obtain ⟨x, hxe⟩ : ∃ x, l[i] = x := ⟨_, rfl⟩
      rw [hxe] at hx
      obtain ⟨⟨b0, b1, b2⟩, c0, c1, c2, ka, kl, kc, c3, hk⟩ := hx
      replace c0 := (hh.to.cell (p := ⟨b, off + i * 4, none⟩) hb).trans c0
      replace c1 := (hh.to.cell (p := ⟨b, off + i * 4 + 1, none⟩) hb).trans c1
      replace c2 := (hh.to.cell (p := ⟨b, off + i * 4 + 2, none⟩) hb).trans c2
      replace c3 := (hh.to.cell (p := ⟨b, off + i * 4 + 3, none⟩) hb).trans c3
      have HB0 := Lib.hid b0
      have HB1 := Lib.hid b1
      have HB2 := Lib.hid b2
      have HKB := Lib.hid hk
      have hi0 : (0 : Int) ≤ (i : Int) := by omega
      have hi1 : (i : Int) < (len : Int) := by omega
      have hi2 : (i : Int) < 60 := by omega
      have hb' : b < wr.heap.size := Nat.lt_of_lt_of_le hb hh.size
      have h7 := hh.push pbook_law nobody_law (.cells #[.int .i64 x.what, .int .i64 x.ver, .int .i64 x.at_, .slice ka kl kc] 33)
      have H7 := Lib.hid h7
      have hblk := h7.own (List.mem_cons_self ..)
      have HST := Lib.hid hst
      clear ha hc hxe hil hh hst b0 b1 b2 hk h7
      obtain ⟨bl, hbl⟩ : ∃ y, bindsN x.l = y := ⟨_, rfl⟩
      have HBL := Lib.hid hbl
      have HSM := Lib.hid (bindsN_small x.l)
      rw [hbl] at HSM
      clear hbl
      go_wp2_with (go_at_call 18; (have hc := binds_g w.heap.size ka kl kc x.l _ (HKB.out.below H7.out.to) H7.out.size; rw [HBL.out] at hc; with_reducible refine hc.mono ?_); rintro e w5 ⟨lv, g, o, rfl, hrow, hg, ho, hb5⟩
                   obtain ⟨la, lc, rfl, hba⟩ := hrow.at ho
                   have h8 := H7.out.adopt pbook_law nobody_law hb5 hg ho
                   have H8 := Lib.hid h8
                   have HROW := Lib.hid hrow
                   clear h8 hba hc hrow hg ho hb5)
      have h9 := H8.out.push pbook_law nobody_law (three fun _ => 0)
      have h10 := h9.push pbook_law nobody_law (three fun _ => 0)
      have es : (w5.alloc (three fun _ => 0)).heap.size = w5.heap.size + 1 := by simp
      rw [es] at h10
      obtain ⟨A, hA⟩ : ∃ A, w5.heap.size = A := ⟨_, rfl⟩
      rw [hA] at h10 ⊢
      obtain ⟨O, hO⟩ : ∃ O, A + 1 = O := ⟨_, rfl⟩
      rw [hO] at h10 ⊢
      obtain ⟨w6, hw6⟩ : ∃ W, (w5.alloc (three fun _ => 0)).alloc (three fun _ => 0) = W := ⟨_, rfl⟩
      rw [hw6] at h10 ⊢
      obtain ⟨X, hX⟩ : ∃ X, wr.heap.size = X := ⟨_, rfl⟩
      rw [hX] at h10 hb' hblk ⊢
      have HO : Hid (M w w6 p D [(O, three (accO bl 0 0)), (A, three (accA D 0)), (g, o), (X, .cells #[.int .i64 x.what, .int .i64 x.ver, .int .i64 x.at_, .slice ka kl kc] 33), (N, names3)]) := Lib.hid (by
        have e1 : three (accO bl 0 0) = three (fun _ => 0) := rfl
        rw [e1]; exact h10)
      clear h9 h10 es hA hO hw6 H7 H8 c0 c1 c2 c3 hblk hb' hX
      go_loopw [11] (fun jv wj => ∃ j : Nat, j ≤ 3 ∧ jv = .int .i64 (j : Int) ∧ M w wj p D [(O, three (accO bl j 0)), (A, three (accA D j)), (g, o), (X, .cells #[.int .i64 x.what, .int .i64 x.ver, .int .i64 x.at_, .slice ka kl kc] 33), (N, names3)]) (fun jv _ => 3 - (intOf jv).toNat)
      case atStart => exact ⟨0, by omega, rfl, HO.out⟩
      case round =>
        obtain ⟨j, hj, rfl, hm⟩ := hrel
        clear HO
        by_cases hj3 : j < 3
        · have hnm := names3_at (hm.own (g := N) (o := names3) (by simp)) hj3
          have hNl := (Array.getElem?_eq_some_iff.1 (hm.own (g := N) (o := names3) (by simp))).1
          have HM := Lib.hid hm
          have hj0 : (0 : Int) ≤ (j : Int) := by omega
          have hj1 : (j : Int) < 3 := by omega
          clear hm
          obtain ⟨kj, hkj⟩ : ∃ k, nm3 j = k := ⟨_, rfl⟩
          have hkl : kj.length ≤ 1048576 := by have := nm3_len j; rw [hkj] at this; omega
          rw [hkj] at hnm
          have HKJ := Lib.hid hkj
          clear hkj
          go_wp2_with (go_at_call 30; (with_reducible refine (HM.out.pHeld nobody_law HST.out.ok kj hkl).mono ?_); rintro e w7 ⟨rfl, hb7, h11⟩
                       have hA7 := h11.own (List.mem_cons_of_mem _ (List.mem_cons_self ..))
                       have hAl := (Array.getElem?_eq_some_iff.1 hA7).1
                       have hAc := three_at hA7 hj3
                       have hAf : w7.frozen? ⟨A, j, none⟩ = false := by simp [World.frozen?, hA7]
                       have H11 := Lib.hid h11
                       clear h11 hA7)
          have h12 : M w (w7.setCell ⟨A, j, none⟩ (.int .i64 (heldB D kj))) p D [(O, three (accO bl j 0)), (A, three (accA D (j + 1))), (g, o), (X, .cells #[.int .i64 x.what, .int .i64 x.ver, .int .i64 x.at_, .slice ka kl kc] 33), (N, names3)] := by
            have e1 := three_set (accA D j) (accA D (j + 1)) j hj3 (accA_step D j)
            rw [accA_at, HKJ.out] at e1
            have h := Held.setIn (pre := [_]) pbook_law nobody_law H11.out j (.int .i64 (heldB D kj))
            rw [e1] at h
            exact h
          obtain ⟨w8, hw8⟩ : ∃ W, w7.setCell ⟨A, j, none⟩ (.int .i64 (heldB D kj)) = W := ⟨_, rfl⟩
          rw [hw8] at h12 ⊢
          have HK0 := Lib.hid h12
          clear h12 hw8 H11 hb7 hAl hAc hAf HM hnm hNl
          go_loopw [12] (fun kv wk => ∃ k : Nat, k ≤ bl.length ∧ kv = .int .i64 (k : Int) ∧ M w wk p D [(O, three (accO bl j k)), (A, three (accA D (j + 1))), (g, o), (X, .cells #[.int .i64 x.what, .int .i64 x.ver, .int .i64 x.at_, .slice ka kl kc] 33), (N, names3)]) (fun kv _ => bl.length - (intOf kv).toNat)
          case atStart => exact ⟨0, Nat.zero_le _, rfl, HK0.out⟩
          case round =>
            obtain ⟨k, hk, rfl, hm⟩ := hrel
            clear HK0
            have HM := Lib.hid hm
            have hbl20 := HSM.out.1
            by_cases hkb : k < bl.length
            · have hnm := names3_at (hm.own (g := N) (o := names3) (by simp)) hj3
              have hNl := (Array.getElem?_eq_some_iff.1 (hm.own (g := N) (o := names3) (by simp))).1
              rw [HKJ.out] at hnm
              have hgo := hm.own (List.mem_cons_of_mem _ (List.mem_cons_of_mem _ (List.mem_cons_self ..)))
              have hgl := (Array.getElem?_eq_some_iff.1 hgo).1
              obtain ⟨la', lc', hve, hbl0, gb, goff, hga, hgc⟩ := HROW.out.at hgo
              injection hve with hv1 hv2 hv3
              subst hv1 hv3
              obtain ⟨hga1, rfl⟩ : la = some ⟨gb, goff, none⟩ ∧ gb = g := by
                rcases hga with h | h
                · omega
                · exact h
              subst hga1
              obtain ⟨y, hy⟩ : ∃ y, bl[k] = y := ⟨_, rfl⟩
              obtain ⟨d0, _, d2⟩ := hgc k hkb
              rw [hy] at d0 d2
              have hOo := hm.own (List.mem_cons_self ..)
              have hOl := (Array.getElem?_eq_some_iff.1 hOo).1
              have hOc := three_at hOo hj3
              rw [accO_at, HKJ.out] at hOc
              have hOf : wr.frozen? ⟨O, j, none⟩ = false := by simp [World.frozen?, hOo]
              have hstep := own_step HSM.out kj hkb
              rw [hy] at hstep
              have hycnt := HSM.out.2 y (hy ▸ List.getElem_mem hkb)
              have hobd := own_bd HSM.out kj k
              have hk0 : (0 : Int) ≤ (k : Int) := by omega
              have hk1 : (k : Int) < (bl.length : Int) := by omega
              clear hm hgo hbl0 hga hgc hy hOo
              by_cases hw : y.work = kj
              · have e1 : ((S y.work).toList == (S kj).toList) = true := by rw [S_beq]; simpa using hw
                rw [if_pos hw] at hstep
                have HSTEP := Lib.hid hstep
                clear hw hstep
                go_wp2
                go_quiet (fail)
                go_wp2
                obtain ⟨c, hc⟩ : ∃ c, ownN bl kj k = c := ⟨_, rfl⟩
                rw [hc] at hOc hobd HSTEP
                have m1 : (wr.drewN nq).drew.cell? ⟨O, j, none⟩ = some (.int .i64 c) := hOc
                have m2 : (wr.drewN nq).drew.cell? ⟨gb, goff + k * 3 + 2, none⟩ = some (.int .i64 y.cnt) := d2
                clear hc
                refine region_mix (fun W => W.cell? ⟨O, j, none⟩ = some (.int .i64 c) ∧ W.cell? ⟨gb, goff + k * 3 + 2, none⟩ = some (.int .i64 y.cnt)) (10) (.reads [0, 1, 2, 3, 4, 5, 6, 7, 8, 9] (.only 10 (.only 11 (.stop)))) (by kernel_rfl) (by kernel_rfl) (⟨m1, m2⟩) ?_
                clear m1 m2
                repeat (
                  refine plan_read rfl (fun K hK => ?_)
                  first
                    | (refine plan_neg ?_ ?_
                       focus (go_simp; done)
                       go_simp
                       refine hK _ ?_
                       clear hK K)
                    | (apply plan_pos
                       focus (go_simp; done)
                       focus (
                         intro W hW
                         (obtain ⟨m1, m2⟩ := hW)
                         go_simp
                         first
                           | done
                           | exact rfl)
                       go_simp
                       refine hK _ ?_
                       clear hK K))
                refine plan_only rfl (fun Q hQ => ?_)
                go_wp2
                refine hQ _ _ (fun h => absurd h (by omega)) ?_
                clear hQ Q
                refine plan_only rfl (fun Q hQ => ?_)
                go_wp2
                refine hQ _ _ (fun h => absurd h (by omega)) ?_
                clear hQ Q
                unfold Plan.wp
                go_wp2
                have h13 : M w ((wr.drewN (nq + 1)).setCell ⟨O, j, none⟩ (.int .i64 (c + y.cnt))) p D [(O, three (accO bl j (k + 1))), (A, three (accA D (j + 1))), (gb, o), (X, .cells #[.int .i64 x.what, .int .i64 x.ver, .int .i64 x.at_, .slice ka kl kc] 33), (N, names3)] := by
                  have e1 := three_set (accO bl j k) (accO bl j (k + 1)) j hj3 (accO_step bl j k (k + 1))
                  rw [accO_at, HKJ.out, HSTEP.out] at e1
                  have h := Held.set pbook_law nobody_law (Held.dn pbook_law nobody_law HM.out (nq + 1)) j (.int .i64 (c + y.cnt))
                  rw [e1] at h
                  exact h
                have HK1 := Lib.hid h13
                clear h13
                go_roundw
                case rel => exact ⟨k + 1, by omega, by go_num, HK1.out⟩
                case measure => simp [intOf]; omega
              · have e1 : ((S y.work).toList == (S kj).toList) = false := by rw [S_beq]; simpa using hw
                rw [if_neg hw, Int.add_zero] at hstep
                have HK1 : Hid (∀ n, M w (wr.drewN n) p D [(O, three (accO bl j (k + 1))), (A, three (accA D (j + 1))), (gb, o), (X, .cells #[.int .i64 x.what, .int .i64 x.ver, .int .i64 x.at_, .slice ka kl kc] 33), (N, names3)]) := Lib.hid (fun n => by
                  have e2 : three (accO bl j (k + 1)) = three (accO bl j k) := by
                    have : accO bl j (k + 1) = accO bl j k := by
                      funext t
                      by_cases e : t = j
                      · subst e; rw [accO_at, accO_at, HKJ.out, hstep]
                      · exact accO_step bl j k (k + 1) t e
                    rw [this]
                  rw [e2]
                  exact Held.dn pbook_law nobody_law HM.out n)
                clear hw hstep
                go_wp2
                go_quiet (fail)
                go_wp2
                go_roundw
                case rel => exact ⟨k + 1, by omega, by go_num, HK1.out _⟩
                case measure => simp [intOf]; omega
            · obtain rfl : k = bl.length := by omega
              clear hm hkb
              have HK1 : Hid (M w wr p D [(O, three (accO bl (j + 1) 0)), (A, three (accA D (j + 1))), (g, o), (X, .cells #[.int .i64 x.what, .int .i64 x.ver, .int .i64 x.at_, .slice ka kl kc] 33), (N, names3)]) := Lib.hid (by
                rw [accO_next]; exact HM.out)
              clear HM
              go_wp2
              go_roundw
              case rel => exact ⟨j + 1, by omega, by go_num, HK1.out⟩
              case measure => simp [intOf]; omega
        · obtain rfl : j = 3 := by omega
          have HM := Lib.hid hm
          have hXo := hm.own (g := X) (o := .cells #[.int .i64 x.what, .int .i64 x.ver, .int .i64 x.at_, .slice ka kl kc] 33) (by simp)
          have hXl := (Array.getElem?_eq_some_iff.1 hXo).1
          have hX0 : wr.cell? ⟨X, 0, none⟩ = some (.int .i64 x.what) := by rw [cell_of_row _ _ _ _ _ _ hXo]; rfl
          have hX1 : wr.cell? ⟨X, 1, none⟩ = some (.int .i64 x.ver) := by rw [cell_of_row _ _ _ _ _ _ hXo]; rfl
          have hX2 : wr.cell? ⟨X, 2, none⟩ = some (.int .i64 x.at_) := by rw [cell_of_row _ _ _ _ _ _ hXo]; rfl
          clear hm hj3 hXo
          have hp0 := pk_bd x.what 5 (by omega)
          have hq0 : pk x.what 5 = 0 ∨ pk x.what 5 = 1 ∨ pk x.what 5 = 2 ∨ pk x.what 5 = 3 ∨ pk x.what 5 = 4 := by omega
          rcases hq0 with hpk | hpk | hpk | hpk | hpk
          all_goals clear hp0
          · have HPK : Hid (pk x.what 5 = 0) := Lib.hid hpk
            clear hpk
            go_wp2_with (first
              | (go_at_call 19; (have hc := pick_any x.what 5 wr HB0.out (by omega) (by omega); rw [HPK.out] at hc; with_reducible refine hc.mono ?_); rintro e w9 ⟨rfl, rfl⟩)
              | (go_at_call 22; (with_reducible refine (HM.out.pSent nobody_law HST.out.ok (by have := HST.out.len; omega) x.ver x.at_ lc HB1.out HB2.out (fun R Q f => by
                       obtain ⟨f1, f2, _, _⟩ := f.own _ (List.mem_cons_of_mem _ (List.mem_cons_of_mem _ (List.mem_cons_self ..)))
                       obtain ⟨la', lc', hve, hb'⟩ := HROW.out.at f1
                       injection hve with hv1 hv2 hv3
                       subst hv1
                       exact hb'.imp fun b hb => by subst hb; exact ⟨(Array.getElem?_eq_some_iff.1 f1).1, f2⟩) HSM.out.ok).mono ?_); rintro e w10 ⟨rfl, h20⟩
                 have HN := Lib.hid (⟨_, HST.out.sent hl2 HB1.out HB2.out HSM.out.ok, h20, fun k => held_sent HST.out.known x.ver x.at_ bl k⟩ : ∃ D', MvSt D' (i + 1) ∧ M w w10 p D' [(O, three (accO bl 3 0)), (A, three (accA D 3)), (g, o), (X, .cells #[.int .i64 x.what, .int .i64 x.ver, .int .i64 x.at_, .slice ka kl kc] 33), (N, names3)] ∧ ∀ k, heldB D' k = max (heldB D k) (sumC bl k))
                 clear h20))
            obtain ⟨E, hse, hme, hee⟩ := HN.out
            have HSE := Lib.hid hse
            have HEE := Lib.hid hee
            have HME := Lib.hid hme
            clear HN hse hme hee HM hX0 hX1 hX2
            go_loopw [14] (fun jv wj => ∃ j : Nat, j ≤ 3 ∧ jv = .int .i64 (j : Int) ∧ M w wj p E [(O, three (accO bl 3 0)), (A, three (accA D 3)), (g, o), (X, .cells #[.int .i64 x.what, .int .i64 x.ver, .int .i64 x.at_, .slice ka kl kc] 33), (N, names3)]) (fun jv _ => 3 - (intOf jv).toNat)
            case atStart => exact ⟨0, by omega, rfl, HME.out⟩
            case round =>
              obtain ⟨j, hj, rfl, hm⟩ := hrel
              clear HME
              by_cases hj3 : j < 3
              · have hnm := names3_at (hm.own (g := N) (o := names3) (by simp)) hj3
                have hNl := (Array.getElem?_eq_some_iff.1 (hm.own (g := N) (o := names3) (by simp))).1
                have HM := Lib.hid hm
                have hj0 : (0 : Int) ≤ (j : Int) := by omega
                have hj1 : (j : Int) < 3 := by omega
                clear hm
                obtain ⟨kj, hkj⟩ : ∃ k, nm3 j = k := ⟨_, rfl⟩
                have hkl : kj.length ≤ 1048576 := by have := nm3_len j; rw [hkj] at this; omega
                rw [hkj] at hnm
                have hee := HEE.out kj
                obtain ⟨na, hna⟩ : ∃ v, heldB E kj = v := ⟨_, rfl⟩
                obtain ⟨wa, hwa⟩ : ∃ v, heldB D kj = v := ⟨_, rfl⟩
                obtain ⟨oa, hoa⟩ : ∃ v, sumC bl kj = v := ⟨_, rfl⟩
                have ewa : accA D 3 j = wa := by unfold accA; rw [if_pos hj3, hkj, hwa]
                have eoa : accO bl 3 0 j = oa := by unfold accO; rw [if_pos hj3, hkj, hoa]
                have HNA := Lib.hid hna
                have bna := held_bd HSE.out.ok kj
                have bwa := held_bd HST.out.ok kj
                have boa := own_bd HSM.out kj bl.length
                rw [own_all, hoa] at boa
                rw [hna] at bna
                rw [hwa] at bwa
                rw [hna, hwa, hoa] at hee
                have hmx := max2 wa oa
                rw [← hee] at hmx
                clear hee
                clear hna hwa hoa hkj
                go_wp2_with (go_at_call 30; (have hc := HM.out.pHeld nobody_law HSE.out.ok kj hkl; rw [HNA.out] at hc; with_reducible refine hc.mono ?_); rintro e w11 ⟨rfl, hb11, h21⟩
                             have hAo := h21.own (List.mem_cons_of_mem _ (List.mem_cons_self ..))
                             have hAl := (Array.getElem?_eq_some_iff.1 hAo).1
                             have hAc := three_at hAo hj3
                             have hOo := h21.own (List.mem_cons_self ..)
                             have hOl := (Array.getElem?_eq_some_iff.1 hOo).1
                             have hOc := three_at hOo hj3
                             rw [ewa] at hAc
                             rw [eoa] at hOc
                             have H21 := Lib.hid h21
                             clear h21 hAo hOo hb11)
                go_quiet (fail)
                go_wp2
                go_roundw
                case rel => exact ⟨j + 1, by omega, by go_num, Held.dn pbook_law nobody_law H21.out _⟩
                case measure => simp [intOf]; omega
              · obtain rfl : j = 3 := by omega
                have HF := Lib.hid (hm.less (cs := [(N, names3)]) (by simp))
                clear hm hj3
                go_wp2
                go_roundw
                case rel => exact ⟨i + 1, by omega, by omega, by go_num, E, HSE.out, HF.out⟩
                case measure => simp [intOf]; omega
          · have HPK : Hid (pk x.what 5 = 1) := Lib.hid hpk
            clear hpk
            go_wp2_with (first
              | (go_at_call 19; (have hc := pick_any x.what 5 wr HB0.out (by omega) (by omega); rw [HPK.out] at hc; with_reducible refine hc.mono ?_); rintro e w9 ⟨rfl, rfl⟩)
              | (go_at_call 22; (with_reducible refine (HM.out.pSent nobody_law HST.out.ok (by have := HST.out.len; omega) x.ver x.at_ lc HB1.out HB2.out (fun R Q f => by
                       obtain ⟨f1, f2, _, _⟩ := f.own _ (List.mem_cons_of_mem _ (List.mem_cons_of_mem _ (List.mem_cons_self ..)))
                       obtain ⟨la', lc', hve, hb'⟩ := HROW.out.at f1
                       injection hve with hv1 hv2 hv3
                       subst hv1
                       exact hb'.imp fun b hb => by subst hb; exact ⟨(Array.getElem?_eq_some_iff.1 f1).1, f2⟩) HSM.out.ok).mono ?_); rintro e w10 ⟨rfl, h20⟩
                 have HN := Lib.hid (⟨_, HST.out.sent hl2 HB1.out HB2.out HSM.out.ok, h20, fun k => held_sent HST.out.known x.ver x.at_ bl k⟩ : ∃ D', MvSt D' (i + 1) ∧ M w w10 p D' [(O, three (accO bl 3 0)), (A, three (accA D 3)), (g, o), (X, .cells #[.int .i64 x.what, .int .i64 x.ver, .int .i64 x.at_, .slice ka kl kc] 33), (N, names3)] ∧ ∀ k, heldB D' k = max (heldB D k) (sumC bl k))
                 clear h20))
            obtain ⟨E, hse, hme, hee⟩ := HN.out
            have HSE := Lib.hid hse
            have HEE := Lib.hid hee
            have HME := Lib.hid hme
            clear HN hse hme hee HM hX0 hX1 hX2
            go_loopw [14] (fun jv wj => ∃ j : Nat, j ≤ 3 ∧ jv = .int .i64 (j : Int) ∧ M w wj p E [(O, three (accO bl 3 0)), (A, three (accA D 3)), (g, o), (X, .cells #[.int .i64 x.what, .int .i64 x.ver, .int .i64 x.at_, .slice ka kl kc] 33), (N, names3)]) (fun jv _ => 3 - (intOf jv).toNat)
            case atStart => exact ⟨0, by omega, rfl, HME.out⟩
            case round =>
              obtain ⟨j, hj, rfl, hm⟩ := hrel
              clear HME
              by_cases hj3 : j < 3
              · have hnm := names3_at (hm.own (g := N) (o := names3) (by simp)) hj3
                have hNl := (Array.getElem?_eq_some_iff.1 (hm.own (g := N) (o := names3) (by simp))).1
                have HM := Lib.hid hm
                have hj0 : (0 : Int) ≤ (j : Int) := by omega
                have hj1 : (j : Int) < 3 := by omega
                clear hm
                obtain ⟨kj, hkj⟩ : ∃ k, nm3 j = k := ⟨_, rfl⟩
                have hkl : kj.length ≤ 1048576 := by have := nm3_len j; rw [hkj] at this; omega
                rw [hkj] at hnm
                have hee := HEE.out kj
                obtain ⟨na, hna⟩ : ∃ v, heldB E kj = v := ⟨_, rfl⟩
                obtain ⟨wa, hwa⟩ : ∃ v, heldB D kj = v := ⟨_, rfl⟩
                obtain ⟨oa, hoa⟩ : ∃ v, sumC bl kj = v := ⟨_, rfl⟩
                have ewa : accA D 3 j = wa := by unfold accA; rw [if_pos hj3, hkj, hwa]
                have eoa : accO bl 3 0 j = oa := by unfold accO; rw [if_pos hj3, hkj, hoa]
                have HNA := Lib.hid hna
                have bna := held_bd HSE.out.ok kj
                have bwa := held_bd HST.out.ok kj
                have boa := own_bd HSM.out kj bl.length
                rw [own_all, hoa] at boa
                rw [hna] at bna
                rw [hwa] at bwa
                rw [hna, hwa, hoa] at hee
                have hmx := max2 wa oa
                rw [← hee] at hmx
                clear hee
                clear hna hwa hoa hkj
                go_wp2_with (go_at_call 30; (have hc := HM.out.pHeld nobody_law HSE.out.ok kj hkl; rw [HNA.out] at hc; with_reducible refine hc.mono ?_); rintro e w11 ⟨rfl, hb11, h21⟩
                             have hAo := h21.own (List.mem_cons_of_mem _ (List.mem_cons_self ..))
                             have hAl := (Array.getElem?_eq_some_iff.1 hAo).1
                             have hAc := three_at hAo hj3
                             have hOo := h21.own (List.mem_cons_self ..)
                             have hOl := (Array.getElem?_eq_some_iff.1 hOo).1
                             have hOc := three_at hOo hj3
                             rw [ewa] at hAc
                             rw [eoa] at hOc
                             have H21 := Lib.hid h21
                             clear h21 hAo hOo hb11)
                go_quiet (fail)
                go_wp2
                go_roundw
                case rel => exact ⟨j + 1, by omega, by go_num, Held.dn pbook_law nobody_law H21.out _⟩
                case measure => simp [intOf]; omega
              · obtain rfl : j = 3 := by omega
                have HF := Lib.hid (hm.less (cs := [(N, names3)]) (by simp))
                clear hm hj3
                go_wp2
                go_roundw
                case rel => exact ⟨i + 1, by omega, by omega, by go_num, E, HSE.out, HF.out⟩
                case measure => simp [intOf]; omega
          · have HPK : Hid (pk x.what 5 = 2) := Lib.hid hpk
            clear hpk
            go_wp2_with (first
              | (go_at_call 19; (have hc := pick_any x.what 5 wr HB0.out (by omega) (by omega); rw [HPK.out] at hc; with_reducible refine hc.mono ?_); rintro e w9 ⟨rfl, rfl⟩)
              | (go_at_call 24; (with_reducible refine (HM.out.pAcked nobody_law HST.out.ok x.ver HB1.out).mono ?_); rintro e w10 ⟨rfl, h20⟩
                 have HN := Lib.hid (⟨_, HST.out.acked x.ver, h20, fun k => held_acked HST.out.known x.ver k⟩ : ∃ D', MvSt D' (i + 1) ∧ M w w10 p D' [(O, three (accO bl 3 0)), (A, three (accA D 3)), (g, o), (X, .cells #[.int .i64 x.what, .int .i64 x.ver, .int .i64 x.at_, .slice ka kl kc] 33), (N, names3)] ∧ ∀ k, heldB D' k ≤ heldB D k)
                 clear h20))
            obtain ⟨E, hse, hme, hee⟩ := HN.out
            have HSE := Lib.hid hse
            have HEE := Lib.hid hee
            have HME := Lib.hid hme
            clear HN hse hme hee HM hX0 hX1 hX2
            go_loopw [14] (fun jv wj => ∃ j : Nat, j ≤ 3 ∧ jv = .int .i64 (j : Int) ∧ M w wj p E [(O, three (accO bl 3 0)), (A, three (accA D 3)), (g, o), (X, .cells #[.int .i64 x.what, .int .i64 x.ver, .int .i64 x.at_, .slice ka kl kc] 33), (N, names3)]) (fun jv _ => 3 - (intOf jv).toNat)
            case atStart => exact ⟨0, by omega, rfl, HME.out⟩
            case round =>
              obtain ⟨j, hj, rfl, hm⟩ := hrel
              clear HME
              by_cases hj3 : j < 3
              · have hnm := names3_at (hm.own (g := N) (o := names3) (by simp)) hj3
                have hNl := (Array.getElem?_eq_some_iff.1 (hm.own (g := N) (o := names3) (by simp))).1
                have HM := Lib.hid hm
                have hj0 : (0 : Int) ≤ (j : Int) := by omega
                have hj1 : (j : Int) < 3 := by omega
                clear hm
                obtain ⟨kj, hkj⟩ : ∃ k, nm3 j = k := ⟨_, rfl⟩
                have hkl : kj.length ≤ 1048576 := by have := nm3_len j; rw [hkj] at this; omega
                rw [hkj] at hnm
                have hee := HEE.out kj
                obtain ⟨na, hna⟩ : ∃ v, heldB E kj = v := ⟨_, rfl⟩
                obtain ⟨wa, hwa⟩ : ∃ v, heldB D kj = v := ⟨_, rfl⟩
                obtain ⟨oa, hoa⟩ : ∃ v, sumC bl kj = v := ⟨_, rfl⟩
                have ewa : accA D 3 j = wa := by unfold accA; rw [if_pos hj3, hkj, hwa]
                have eoa : accO bl 3 0 j = oa := by unfold accO; rw [if_pos hj3, hkj, hoa]
                have HNA := Lib.hid hna
                have bna := held_bd HSE.out.ok kj
                have bwa := held_bd HST.out.ok kj
                have boa := own_bd HSM.out kj bl.length
                rw [own_all, hoa] at boa
                rw [hna] at bna
                rw [hwa] at bwa
                rw [hna, hwa] at hee
                have hgt : decide (wa < na) = false := decide_eq_false (by omega)
                clear hee
                clear hna hwa hoa hkj
                go_wp2_with (go_at_call 30; (have hc := HM.out.pHeld nobody_law HSE.out.ok kj hkl; rw [HNA.out] at hc; with_reducible refine hc.mono ?_); rintro e w11 ⟨rfl, hb11, h21⟩
                             have hAo := h21.own (List.mem_cons_of_mem _ (List.mem_cons_self ..))
                             have hAl := (Array.getElem?_eq_some_iff.1 hAo).1
                             have hAc := three_at hAo hj3
                             have hOo := h21.own (List.mem_cons_self ..)
                             have hOl := (Array.getElem?_eq_some_iff.1 hOo).1
                             have hOc := three_at hOo hj3
                             rw [ewa] at hAc
                             rw [eoa] at hOc
                             have H21 := Lib.hid h21
                             clear h21 hAo hOo hb11)
                go_quiet (fail)
                go_wp2
                go_roundw
                case rel => exact ⟨j + 1, by omega, by go_num, Held.dn pbook_law nobody_law H21.out _⟩
                case measure => simp [intOf]; omega
              · obtain rfl : j = 3 := by omega
                have HF := Lib.hid (hm.less (cs := [(N, names3)]) (by simp))
                clear hm hj3
                go_wp2
                go_roundw
                case rel => exact ⟨i + 1, by omega, by omega, by go_num, E, HSE.out, HF.out⟩
                case measure => simp [intOf]; omega
          · have HPK : Hid (pk x.what 5 = 3) := Lib.hid hpk
            clear hpk
            go_wp2_with (first
              | (go_at_call 19; (have hc := pick_any x.what 5 wr HB0.out (by omega) (by omega); rw [HPK.out] at hc; with_reducible refine hc.mono ?_); rintro e w9 ⟨rfl, rfl⟩)
              | (go_at_call 26; (with_reducible refine (HM.out.pPass nobody_law HST.out.ok x.at_ HB2.out).mono ?_); rintro e w10 ⟨rfl, h20⟩
                 have HN := Lib.hid (⟨_, HST.out.pass x.at_, h20, fun k => held_pass HST.out.known x.at_ k⟩ : ∃ D', MvSt D' (i + 1) ∧ M w w10 p D' [(O, three (accO bl 3 0)), (A, three (accA D 3)), (g, o), (X, .cells #[.int .i64 x.what, .int .i64 x.ver, .int .i64 x.at_, .slice ka kl kc] 33), (N, names3)] ∧ ∀ k, heldB D' k ≤ heldB D k)
                 clear h20))
            obtain ⟨E, hse, hme, hee⟩ := HN.out
            have HSE := Lib.hid hse
            have HEE := Lib.hid hee
            have HME := Lib.hid hme
            clear HN hse hme hee HM hX0 hX1 hX2
            go_loopw [14] (fun jv wj => ∃ j : Nat, j ≤ 3 ∧ jv = .int .i64 (j : Int) ∧ M w wj p E [(O, three (accO bl 3 0)), (A, three (accA D 3)), (g, o), (X, .cells #[.int .i64 x.what, .int .i64 x.ver, .int .i64 x.at_, .slice ka kl kc] 33), (N, names3)]) (fun jv _ => 3 - (intOf jv).toNat)
            case atStart => exact ⟨0, by omega, rfl, HME.out⟩
            case round =>
              obtain ⟨j, hj, rfl, hm⟩ := hrel
              clear HME
              by_cases hj3 : j < 3
              · have hnm := names3_at (hm.own (g := N) (o := names3) (by simp)) hj3
                have hNl := (Array.getElem?_eq_some_iff.1 (hm.own (g := N) (o := names3) (by simp))).1
                have HM := Lib.hid hm
                have hj0 : (0 : Int) ≤ (j : Int) := by omega
                have hj1 : (j : Int) < 3 := by omega
                clear hm
                obtain ⟨kj, hkj⟩ : ∃ k, nm3 j = k := ⟨_, rfl⟩
                have hkl : kj.length ≤ 1048576 := by have := nm3_len j; rw [hkj] at this; omega
                rw [hkj] at hnm
                have hee := HEE.out kj
                obtain ⟨na, hna⟩ : ∃ v, heldB E kj = v := ⟨_, rfl⟩
                obtain ⟨wa, hwa⟩ : ∃ v, heldB D kj = v := ⟨_, rfl⟩
                obtain ⟨oa, hoa⟩ : ∃ v, sumC bl kj = v := ⟨_, rfl⟩
                have ewa : accA D 3 j = wa := by unfold accA; rw [if_pos hj3, hkj, hwa]
                have eoa : accO bl 3 0 j = oa := by unfold accO; rw [if_pos hj3, hkj, hoa]
                have HNA := Lib.hid hna
                have bna := held_bd HSE.out.ok kj
                have bwa := held_bd HST.out.ok kj
                have boa := own_bd HSM.out kj bl.length
                rw [own_all, hoa] at boa
                rw [hna] at bna
                rw [hwa] at bwa
                rw [hna, hwa] at hee
                have hgt : decide (wa < na) = false := decide_eq_false (by omega)
                clear hee
                clear hna hwa hoa hkj
                go_wp2_with (go_at_call 30; (have hc := HM.out.pHeld nobody_law HSE.out.ok kj hkl; rw [HNA.out] at hc; with_reducible refine hc.mono ?_); rintro e w11 ⟨rfl, hb11, h21⟩
                             have hAo := h21.own (List.mem_cons_of_mem _ (List.mem_cons_self ..))
                             have hAl := (Array.getElem?_eq_some_iff.1 hAo).1
                             have hAc := three_at hAo hj3
                             have hOo := h21.own (List.mem_cons_self ..)
                             have hOl := (Array.getElem?_eq_some_iff.1 hOo).1
                             have hOc := three_at hOo hj3
                             rw [ewa] at hAc
                             rw [eoa] at hOc
                             have H21 := Lib.hid h21
                             clear h21 hAo hOo hb11)
                go_quiet (fail)
                go_wp2
                go_roundw
                case rel => exact ⟨j + 1, by omega, by go_num, Held.dn pbook_law nobody_law H21.out _⟩
                case measure => simp [intOf]; omega
              · obtain rfl : j = 3 := by omega
                have HF := Lib.hid (hm.less (cs := [(N, names3)]) (by simp))
                clear hm hj3
                go_wp2
                go_roundw
                case rel => exact ⟨i + 1, by omega, by omega, by go_num, E, HSE.out, HF.out⟩
                case measure => simp [intOf]; omega
          · have HPK : Hid (pk x.what 5 = 4) := Lib.hid hpk
            clear hpk
            go_wp2_with (first
              | (go_at_call 19; (have hc := pick_any x.what 5 wr HB0.out (by omega) (by omega); rw [HPK.out] at hc; with_reducible refine hc.mono ?_); rintro e w9 ⟨rfl, rfl⟩)
              | (go_at_call 20; (with_reducible refine (HM.out.pLearn nobody_law HST.out.ok x.ver x.at_ lc HB1.out HB2.out (fun R Q f => by
                       obtain ⟨f1, f2, _, _⟩ := f.own _ (List.mem_cons_of_mem _ (List.mem_cons_of_mem _ (List.mem_cons_self ..)))
                       obtain ⟨la', lc', hve, hb'⟩ := HROW.out.at f1
                       injection hve with hv1 hv2 hv3
                       subst hv1
                       exact hb'.imp fun b hb => by subst hb; exact ⟨(Array.getElem?_eq_some_iff.1 f1).1, f2⟩) HSM.out.ok).mono ?_); rintro e w10 ⟨rfl, h20⟩
                 have HN := Lib.hid (⟨_, HST.out.learn HB1.out HB2.out HSM.out.ok, h20, fun k => held_learn D x.ver x.at_ bl k⟩ : ∃ D', MvSt D' (i + 1) ∧ M w w10 p D' [(O, three (accO bl 3 0)), (A, three (accA D 3)), (g, o), (X, .cells #[.int .i64 x.what, .int .i64 x.ver, .int .i64 x.at_, .slice ka kl kc] 33), (N, names3)] ∧ ∀ k, heldB D' k = sumC bl k)
                 clear h20))
            obtain ⟨E, hse, hme, hee⟩ := HN.out
            have HSE := Lib.hid hse
            have HEE := Lib.hid hee
            have HME := Lib.hid hme
            clear HN hse hme hee HM hX0 hX1 hX2
            go_loopw [14] (fun jv wj => ∃ j : Nat, j ≤ 3 ∧ jv = .int .i64 (j : Int) ∧ M w wj p E [(O, three (accO bl 3 0)), (A, three (accA D 3)), (g, o), (X, .cells #[.int .i64 x.what, .int .i64 x.ver, .int .i64 x.at_, .slice ka kl kc] 33), (N, names3)]) (fun jv _ => 3 - (intOf jv).toNat)
            case atStart => exact ⟨0, by omega, rfl, HME.out⟩
            case round =>
              obtain ⟨j, hj, rfl, hm⟩ := hrel
              clear HME
              by_cases hj3 : j < 3
              · have hnm := names3_at (hm.own (g := N) (o := names3) (by simp)) hj3
                have hNl := (Array.getElem?_eq_some_iff.1 (hm.own (g := N) (o := names3) (by simp))).1
                have HM := Lib.hid hm
                have hj0 : (0 : Int) ≤ (j : Int) := by omega
                have hj1 : (j : Int) < 3 := by omega
                clear hm
                obtain ⟨kj, hkj⟩ : ∃ k, nm3 j = k := ⟨_, rfl⟩
                have hkl : kj.length ≤ 1048576 := by have := nm3_len j; rw [hkj] at this; omega
                rw [hkj] at hnm
                have hee := HEE.out kj
                obtain ⟨na, hna⟩ : ∃ v, heldB E kj = v := ⟨_, rfl⟩
                obtain ⟨wa, hwa⟩ : ∃ v, heldB D kj = v := ⟨_, rfl⟩
                obtain ⟨oa, hoa⟩ : ∃ v, sumC bl kj = v := ⟨_, rfl⟩
                have ewa : accA D 3 j = wa := by unfold accA; rw [if_pos hj3, hkj, hwa]
                have eoa : accO bl 3 0 j = oa := by unfold accO; rw [if_pos hj3, hkj, hoa]
                have HNA := Lib.hid hna
                have bna := held_bd HSE.out.ok kj
                have bwa := held_bd HST.out.ok kj
                have boa := own_bd HSM.out kj bl.length
                rw [own_all, hoa] at boa
                rw [hna] at bna
                rw [hwa] at bwa
                rw [hna, hoa] at hee
                subst hee
                clear hna hwa hoa hkj
                go_wp2_with (go_at_call 30; (have hc := HM.out.pHeld nobody_law HSE.out.ok kj hkl; rw [HNA.out] at hc; with_reducible refine hc.mono ?_); rintro e w11 ⟨rfl, hb11, h21⟩
                             have hAo := h21.own (List.mem_cons_of_mem _ (List.mem_cons_self ..))
                             have hAl := (Array.getElem?_eq_some_iff.1 hAo).1
                             have hAc := three_at hAo hj3
                             have hOo := h21.own (List.mem_cons_self ..)
                             have hOl := (Array.getElem?_eq_some_iff.1 hOo).1
                             have hOc := three_at hOo hj3
                             rw [ewa] at hAc
                             rw [eoa] at hOc
                             have H21 := Lib.hid h21
                             clear h21 hAo hOo hb11)
                go_quiet (fail)
                go_wp2
                go_roundw
                case rel => exact ⟨j + 1, by omega, by go_num, Held.dn pbook_law nobody_law H21.out _⟩
                case measure => simp [intOf]; omega
              · obtain rfl : j = 3 := by omega
                have HF := Lib.hid (hm.less (cs := [(N, names3)]) (by simp))
                clear hm hj3
                go_wp2
                go_roundw
                case rel => exact ⟨i + 1, by omega, by omega, by go_num, E, HSE.out, HF.out⟩
                case measure => simp [intOf]; omega
    · obtain ⟨D, hst, hh⟩ := hh
      have HKN := Lib.hid hst.known
      by_cases hl1 : i < len
      · obtain rfl : i = 60 := by omega
        have h1 : ((60 : Nat) : Int) < (len : Int) := by omega
        clear hlt hst
        go_wp2_with (go_at_call 28; (have hc := hh.pKnown nobody_law; rw [HKN.out] at hc; with_reducible refine hc.mono ?_); rintro e w12 ⟨rfl, _, h22⟩)
        go_ret
        exact ⟨rfl, h22.to⟩
      · obtain rfl : i = len := by omega
        clear hlt hst
        go_wp2_with (go_at_call 28; (have hc := hh.pKnown nobody_law; rw [HKN.out] at hc; with_reducible refine hc.mono ?_); rintro e w12 ⟨rfl, _, h22⟩)
        go_ret
        exact ⟨rfl, h22.to⟩
theorem own : ownKnob Try.prog.godebug = none := by kernel_rfl
theorem laidOut : laidOutB Try.prog = true := by kernel_rfl

set_option maxRecDepth 100000 in
theorem lifted (os : Os) (started : os.Started) (H : Type) (enc : TypeId × Value → H) :
    ReturnsInHanded {} Try.checked os 7 .any (Rows.leaseMovesSpec.pre6 enc Try.prog Try.f7 Rows.leaseMovesRow.domain false) (Rows.leaseMovesSpec.post enc Try.prog Try.f7 false true false false) := by
  refine returnsInHanded_of_change_sized (C := Try.checked) own started (by kernel_rfl) Try.func7
    (ChangeSpec.witness6 (enc := enc) (C := Try.checked) false ⟨#[], #[.slice none 0 0], []⟩ 8 (by kernel_rfl) (by kernel_rfl) (by kernel_rfl) (by kernel_rfl)) ?_
  intro W base args ds gs before hval0 hW _ hsz0 _
  have hsz : (DataW.weightsEach Try.prog (Try.f7.params.toList ++ Rows.leaseMovesSpec.plain.varTypes Try.prog) (ds ++ gs)).all (· ≤ reachBytes) = true := hsz0
  have hval : ∀ (j : Nat) t v, Try.f7.params[j]? = some t → args[j]? = some v → Value.okWide Try.prog W .any base t v := hval0
  have hW' := hW
  obtain ⟨p, q, hA0, hV, rfl, hfz, hnd⟩ := hW
  have hA : DataW.TrodAll enc Try.prog W 0 (fun _ => true) true Try.f7.params.toList args.toList ds p := hA0
  rw [Try.params7] at hA hval hsz
  obtain ⟨v0, vs0, d0, ds0, p0, q0, hargs, rfl, rfl, h0, r0⟩ := trodAll_cons hA
  obtain ⟨rfl, rfl, rfl⟩ := trodAll_nil r0
  obtain rfl : args = #[v0] := by cases args; simp_all
  obtain ⟨rfl, rfl⟩ := trodVars_none hV
  have k0 := h0
  have lt0 : ∀ x ∈ p0, x.block < W.heap.size := by obtain ⟨m, hm⟩ := k0; exact DataW.trod_lt m _ _ _ hm
  obtain ⟨a0, len0, cap0, rfl⟩ := okWide_slice Try.underlying22 (hval 0 22 v0 rfl rfl)
  obtain ⟨z0, b0⟩ := acts_of k0 (weights_at hsz (j := 0) (t := 22) rfl rfl)
  clear hA0 hval0 hsz0 hsz
  refine (walk a0 len0 cap0 z0 W b0).mono fun e W' ⟨he, bel⟩ => ?_
  subst he
  exact ⟨_, rfl, _, _, _, [], _, [], hW', trodAll_mk1 (shut_bool Try.underlying4 _), (trodAll_cons_mk (Below.trod laidOut (by kernel_rfl) (of_decide_eq_true (by kernel_rfl)) k0 bel lt0) trodAll_mk0), rfl, bel.frame _, fun h => by cases h⟩

theorem over : Rows.leaseMovesRow.holds Try.pinned (OpenSpec.ofChange Rows.leaseMovesSpec) :=
  OpenClaim.holds_of_wide 7 Try.f7 rfl rfl rfl rfl rfl rfl rfl ⟨rfl, rfl, rfl, rfl, rfl⟩ rfl rfl rfl rfl rfl (by kernel_rfl) Try.func7 (by kernel_rfl)
    (of_decide_eq_true (by kernel_rfl)) (by unfold Func.isWrapper; first | (rw [if_pos (by decide +kernel)]; kernel_rfl) | (rw [if_neg (by decide +kernel)]; exact ⟨rfl, rfl⟩))
    (fun os started H enc _ => lifted os started H enc)

theorem proved : Rows.LeaseMovesSaid := over
end Go.Proofs.Ytgkpkegbjkjhiaa.lawLMoves
