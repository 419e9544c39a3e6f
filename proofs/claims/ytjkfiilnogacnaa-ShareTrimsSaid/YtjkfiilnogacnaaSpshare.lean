/-
  The program's Share.
-/
import Derived.Test.YtjkfiilnogacnaaCalm
import Derived.Test.YtjkfiilnogacnaaSpsmall
namespace Go.Proofs.Ytjkfiilnogacnaa
open Go.RowKit Gm

theorem zero_row (w : World) (n : Nat) (hn : n ≤ 1048576) : (w.alloc (.cells (Array.replicate n (.int .i64 0)) 3)).ownsRow w.heap.size 3 1 (.slice (some ⟨w.heap.size, 0, none⟩) n n) n (numV (List.replicate n 0)) := by
  refine ⟨by simp [numV], .inr ⟨w.heap.size, n, _, rfl, Nat.le_refl _, new_at w _, Nat.le_refl _, by unfold maxLen; omega, by simp, ?_⟩⟩
  rw [Array.toList_replicate, List.take_of_length_le (by simp)]
  simp [numV]
set_option maxRecDepth 100000 in
set_option maxHeartbeats 4000000 in
theorem share_any (want : Int) (ha : Option Addr) (hl hc : Nat) (held : List Int) (ta : Option Addr) (tl tc : Nat) (target : List Int) (w : World) (_hw : I64 want) (h : KeepB w.heap.size w ha hl held) (t : KeepB w.heap.size w ta tl target) :
    Calls Try.prog 10 #[.int .i64 want, .slice ha hl hc, .slice ta tl tc] w fun e w' => ∃ v, e = .returned v ∧ w'.ownsRow w.heap.size 3 1 v (shareN want held target).length (numV (shareN want held target)) ∧ Below w.heap.size w w' := by
  have HH := Lib.hid h
  have HT := Lib.hid t
  have HHl : Hid (held.length = hl) := Lib.hid h.1
  have HTl : Hid (target.length = tl) := Lib.hid t.1
  clear h t
  by_cases hgood : hl = tl ∧ hl ≤ 16
  · obtain ⟨rfl, h16⟩ := hgood
    have HS : Hid (shareN want held target = shareG (roomN want held) (held.zip target)) := Lib.hid (by
      unfold shareN
      rw [if_pos ⟨HHl.out.trans HTl.out.symm, by rw [HHl.out]; exact h16⟩])
    have hne : ((hl : Int) != (hl : Int)) = false := by simp
    have hgt : decide ((16 : Int) < (hl : Int)) = false := decide_eq_false (by omega)
    have h16' : ¬ (16 : Int) < (hl : Int) := by omega
    have bR := room_bd want held
    have bR2 := room_le want held
    have HRH := Lib.hid (fun i (h : i < held.length) hx r hr => room_held want (i := i) h hx (r := r) hr)
    obtain ⟨R, hR⟩ : ∃ x, roomN want held = x := ⟨_, rfl⟩
    rw [hR] at HS bR bR2 HRH
    have HR := Lib.hid hR
    have hmk := make_ints hl (by omega)
    have HZ := Lib.hid (zero_row w hl (by omega))
    have HBZ : Hid (Below w.heap.size w (w.alloc (.cells (Array.replicate hl (.int .i64 0)) 3))) := Lib.hid ((Below.refl _ w).alloc (Nat.le_refl _) _)
    obtain ⟨g1, hg1⟩ : ∃ g, w.heap.size = g := ⟨_, rfl⟩
    have HG1 := Lib.hid hg1
    clear hg1 hR
    go_enter Try.func10, Try.ntmps10
    go_upto_region 5 with (go_at_call 21; (have hc' := roomOf_any want ha hl hc held w HH.out h16; rw [HR.out] at hc'; with_reducible refine hc'.mono ?_); rintro e w1 ⟨rfl, rfl⟩)
    rw [HG1.out]
    rw [HG1.out] at HZ
    clear hmk hne hgt h16'
    generalize w.alloc (.cells (Array.replicate hl (.int .i64 0)) 3) = w1 at *
    go_wp2
    go_loopw [7, 31] (fun rv iv wr => ∃ i : Nat, i ≤ hl ∧ iv = .int .i64 (i : Int) ∧ rv = .int .i64 (leftS R ((held.zip target).take i)) ∧ wr.ownsRow g1 3 1 (.slice (some ⟨g1, 0, none⟩) hl hl) hl (numV (addL (List.replicate hl 0) (shareG R ((held.zip target).take i)))) ∧ Below w.heap.size w wr) (fun _ iv _ => hl - (intOf iv).toNat)
    case atStart => exact ⟨0, Nat.zero_le _, rfl, by simp [leftS], by rw [List.take_zero]; simp only [shareG, addL_nil]; exact HZ.out, HBZ.out⟩
    case round =>
      obtain ⟨i, hi, rfl, rfl, hrow, hb⟩ := hrel
      clear HZ HBZ
      have HB := Lib.hid hb
      have HROW := Lib.hid hrow
      clear hrow
      by_cases hlt : i < hl
      · have hil : i < held.length := by rw [HHl.out]; exact hlt
        have htl : i < target.length := by rw [HTl.out]; exact hlt
        obtain ⟨b, off, hha, hbl, hcell⟩ := keep_cell HH.out (by omega)
        obtain ⟨b', off', hta, hbl', hcell'⟩ := keep_cell HT.out (by omega)
        subst hha hta
        have c1 := (hb.cell (p := ⟨b, off + i, none⟩) hbl).trans (hcell i hil)
        have c2 := (hb.cell (p := ⟨b', off' + i, none⟩) hbl').trans (hcell' i htl)
        have y1 := Nat.lt_of_lt_of_le hbl hb.size
        have y2 := Nat.lt_of_lt_of_le hbl' hb.size
        have HZ := zip_snoc hil htl
        have hg1 := shareG_snoc (held[i], target[i]) ((held.zip target).take i) R
        have hr1 := leftS_snoc (held[i], target[i]) ((held.zip target).take i) R
        rw [← HZ] at hg1 hr1
        dsimp only at hg1 hr1
        have bl := leftS_bd ((held.zip target).take i) R bR
        have hrh := HRH.out i hil
        have hsl : (shareG R ((held.zip target).take i)).length = i := by rw [shareG_len, List.length_take, List.length_zip]; omega
        obtain ⟨x, hx⟩ : ∃ x, held[i] = x := ⟨_, rfl⟩
        obtain ⟨y, hy⟩ : ∃ x, target[i] = x := ⟨_, rfl⟩
        obtain ⟨r, hr⟩ : ∃ x, leftS R ((held.zip target).take i) = x := ⟨_, rfl⟩
        obtain ⟨ol, hol⟩ : ∃ x, shareG R ((held.zip target).take i) = x := ⟨_, rfl⟩
        rw [hx] at c1 hg1 hr1 hrh
        rw [hy] at c2 hg1 hr1
        rw [hr] at hg1 hr1 bl ⊢
        rw [hol] at hg1 HROW hsl
        obtain ⟨q1, q2⟩ := grant_min (r := r) (h := x) (t := y) bl.1 (fun h => hrh h r bl)
        rw [q1] at hg1
        rw [q2] at hr1
        have bnx := numC_bd x
        have bny := numC_bd y
        obtain ⟨nx, hnx⟩ : ∃ m, numC x = m := ⟨_, rfl⟩
        obtain ⟨ny, hny⟩ : ∃ m, numC y = m := ⟨_, rfl⟩
        have HNX := Lib.hid hnx
        have HNY := Lib.hid hny
        rw [hnx] at bnx hg1 hr1
        rw [hny] at bny hg1 hr1
        have m1 := max2 (ny - nx) 0
        obtain ⟨mx, hmx⟩ : ∃ m, max (ny - nx) 0 = m := ⟨_, rfl⟩
        have m2 := min2 mx r
        obtain ⟨m, hm⟩ : ∃ m, min mx r = m := ⟨_, rfl⟩
        have m3 := min2 ny nx
        obtain ⟨mn, hmn⟩ : ∃ m, min ny nx = m := ⟨_, rfl⟩
        have k1 : 0 ≤ mn ∧ mn ≤ 1000 := by omega
        have k2 : 0 ≤ m ∧ m ≤ r := by omega
        rw [hmx] at m1 hg1 hr1
        rw [hm] at m2 hg1 hr1
        rw [hmn] at m3 hg1
        obtain ⟨gr, hgr⟩ : ∃ g, mn + m = g := ⟨_, rfl⟩
        rw [hgr] at hg1
        have w1 : IntKind.i64.wrap (ny - nx) = ny - nx := IntWalk.i64_in _ ⟨by omega, by omega⟩
        have w2 : IntKind.i64.wrap (r - m) = r - m := IntWalk.i64_in _ ⟨by omega, by omega⟩
        have w3 : IntKind.i64.wrap (mn + m) = gr := by rw [IntWalk.i64_in _ ⟨by omega, by omega⟩]; exact hgr
        have w4 : mn + m = gr := hgr
        have w5 : wrap64 gr = gr := IntWalk.wrap64_in _ ⟨by omega, by omega⟩
        have hadd := addL_snoc gr ol (List.replicate hl 0) (by rw [hsl, List.length_replicate]; exact hlt)
        rw [hsl, at_rep, Int.zero_add] at hadd
        have hal : (addL (List.replicate hl 0) ol).length = hl := by rw [addL_len _ _ (by rw [hsl, List.length_replicate]; omega), List.length_replicate]
        have HRC := Lib.hid (RowC.of_row HROW.out)
        have x2 := HRC.out.cell (i := i) (by rw [hal]; exact hlt)
        have fz := HRC.out.frozen i
        have hgl := HRC.out.lt
        have HST := fun (W : World) (hW : W.ownsRow g1 3 1 (.slice (some ⟨g1, 0, none⟩) hl hl) hl (numV (addL (List.replicate hl 0) ol))) => (hW.stored i (.int .i64 gr)).1
        have HADD : Hid (numV (addL (List.replicate hl 0) (shareG R ((held.zip target).take (i + 1)))) = (numV (addL (List.replicate hl 0) ol)).set i (.int .i64 gr)) := Lib.hid (by rw [hg1, hadd]; simp [numV, List.map_set])
        have HR1 := Lib.hid hr1
        have HST := Lib.hid HST
        have hbd : Below wr.heap.size wr wr.drew := (Below.refl _ wr).drew
        have hi0 : (0 : Int) ≤ (i : Int) := by omega
        have hi1 : (i : Int) < (hl : Int) := by omega
        have HBW := HB.out.size
        clear hx hy hr hol hb hcell hcell' HZ hg1 hr1 hnx hny hmx hm hmn hgr hadd hal hrh q1 q2
        have C1 := Lib.hid c1
        have C2 := Lib.hid c2
        have X2 := Lib.hid x2
        have FZ := Lib.hid fz
        clear c1 c2 x2 fz
        go_wp2
        (refine region_calm (fun W => Below wr.heap.size wr W) (by kernel_rfl) (by kernel_rfl) (hbd) ?_
         repeat (
           refine wpQuiet_step (fun K hK => ?_)
           first
             | (refine calm_neg ?_ ?_
                focus (go_simp; done)
                go_simp
                refine hK _ ?_
                clear hK K)
             | (apply calm_pos
                focus (go_simp; done)
                focus (
                  intro W hW
                  (have e1 := (hW.cell (p := ⟨b, off + i, none⟩) y1).trans C1.out
                   have e2 := (hW.cell (p := ⟨b', off' + i, none⟩) y2).trans C2.out)
                  go_simp
                  first
                    | done
                    | exact rfl
                    | (first
                        | (go_at_call 22; (have hc := limit_any x W; rw [HNX.out] at hc; with_reducible refine hc.mono ?_); rintro e w12 ⟨rfl, rfl⟩; exact ⟨rfl, hW⟩)
                        | (go_at_call 22; (have hc := limit_any y W; rw [HNY.out] at hc; with_reducible refine hc.mono ?_); rintro e w12 ⟨rfl, rfl⟩; exact ⟨rfl, hW⟩)))
                go_simp
                refine hK _ ?_
                clear hK K))
         refine wpQuiet_nil ?_)
        intro w10 hb10
        have HB10 := Lib.hid hb10
        have x2 := (hb10.cell (p := ⟨g1, i, none⟩) hgl).trans X2.out
        have fz := (hb10.frozen (p := ⟨g1, i, none⟩) hgl).trans FZ.out
        have hgl' := Nat.lt_of_lt_of_le hgl hb10.size
        clear hb10 hbd
        go_wp2
        go_roundw
        case rel =>
          refine ⟨i + 1, by omega, by go_num, by rw [HR1.out], ?_, ?_⟩
          · rw [HADD.out]
            exact HST.out _ (row_moved HROW.out (fun q hq => by injection hq with hq; subst hq; exact HB10.out.block _ hgl))
          · exact (HB.out.trans (HB10.out.mono HB.out.size)).setCell (p := ⟨g1, i, none⟩) (by rw [HG1.out]; exact Nat.le_refl _) _
        case measure => simp [intOf]; omega
      · have hie : i = hl := by omega
        have hin : ¬ (i : Int) < (hl : Int) := by omega
        have hzl : (held.zip target).length ≤ i := by rw [List.length_zip, HHl.out, HTl.out]; omega
        rw [List.take_of_length_le hzl] at HROW
        have HE : Hid ((shareN want held target).length = hl) := Lib.hid (by rw [HS.out, shareG_len, List.length_zip, HHl.out, HTl.out]; omega)
        have HF : Hid (wr.ownsRow w.heap.size 3 1 (.slice (some ⟨g1, 0, none⟩) hl hl) (shareN want held target).length (numV (shareN want held target))) := Lib.hid (by
          rw [HE.out, HS.out, HG1.out]
          have := HROW.out
          rwa [addL_zero _ _ (by rw [shareG_len, List.length_zip, HHl.out, HTl.out]; omega)] at this)
        clear hie hlt hb hzl
        go_wp2
        go_ret
        exact ⟨_, rfl, HF.out, HB.out⟩
  · have HS : Hid (shareN want held target = []) := Lib.hid (by
      unfold shareN
      rw [if_neg (by rw [HHl.out, HTl.out]; exact hgood)])
    rw [HS.out]
    by_cases hne : hl = tl
    · have h16 : (16 : Int) < (hl : Int) := by omega
      have e1 : ((hl : Int) != (tl : Int)) = false := by simp [hne]
      subst hne
      have e2 : ((hl : Int) != (hl : Int)) = false := by simp
      have e3 : decide ((16 : Int) < (hl : Int)) = true := decide_eq_true h16
      clear hgood
      go_enter Try.func10, Try.ntmps10
      go_wp2
      go_ret
      exact ⟨_, rfl, World.ownsRow_nil _ _ _ _, Below.refl _ _⟩
    · have e1 : ((hl : Int) != (tl : Int)) = true := by rw [bne_iff_ne]; omega
      have e2 : ((hl : Int) == (tl : Int)) = false := by rw [beq_eq_false_iff_ne]; omega
      have e3 : ¬ (hl : Int) = (tl : Int) := by omega
      clear hgood hne
      go_enter Try.func10, Try.ntmps10
      go_wp2
      go_ret
      exact ⟨_, rfl, World.ownsRow_nil _ _ _ _, Below.refl _ _⟩
end Go.Proofs.Ytjkfiilnogacnaa
