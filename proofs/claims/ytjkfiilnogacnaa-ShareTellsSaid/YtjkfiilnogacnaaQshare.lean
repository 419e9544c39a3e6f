/-
  The document's own Share.
-/
import Derived.Deep.QuietTactic
import Derived.Deep.AppendLies
import Derived.Deep.DeepCutAuto
import Derived.Laws.OwnMore
import Derived.OwnWalk
import Derived.Test.YtjkfiilnogacnaaQsn
namespace Go.Proofs.Ytjkfiilnogacnaa
open Go.RowKit Gm

theorem qnum_any (n : Int) (w : World) : Calls Try.prog 23 #[.int .i64 n] w fun e w' => e = .returned (.int .i64 (numC n)) ∧ w = w' := by
  have m1 := max2 n 0
  obtain ⟨m, hm⟩ : ∃ m, max n 0 = m := ⟨_, rfl⟩
  have m2 := min2 m 1000
  obtain ⟨k, hk⟩ : ∃ k, min m 1000 = k := ⟨_, rfl⟩
  have HE : Hid (numC n = k) := Lib.hid (by unfold numC; rw [hm, hk])
  rw [hm] at m1
  rw [hk] at m2
  clear hm hk
  rw [HE.out]
  go_enter Try.func23, Try.ntmps23
  go_wp2
  go_ret
  exact ⟨rfl, rfl⟩
set_option maxRecDepth 100000 in
set_option maxHeartbeats 4000000 in
theorem qshare_any (want : Int) (ha : Option Addr) (hl hc : Nat) (held : List Int) (ta : Option Addr) (tl tc : Nat) (target : List Int) (w : World) (h : KeepB w.heap.size w ha hl held) (t : KeepB w.heap.size w ta tl target) :
    Calls Try.prog 11 #[.int .i64 want, .slice ha hl hc, .slice ta tl tc] w fun e w' => ∃ v, e = .returned v ∧ w'.ownsRow w.heap.size 3 1 v (shareN want held target).length (numV (shareN want held target)) ∧ Below w.heap.size w w' := by
  have HH := Lib.hid h
  have HT := Lib.hid t
  have HHl : Hid (held.length = hl) := Lib.hid h.1
  have HTl : Hid (target.length = tl) := Lib.hid t.1
  obtain ⟨j0, hj0, hq0, hq1, hq2⟩ := info_parts infoInt
  clear h t
  by_cases hgood : hl = tl ∧ hl ≤ 16
  · obtain ⟨rfl, h16⟩ := hgood
    have HS : Hid (shareN want held target = shareG (roomN want held) (held.zip target)) := Lib.hid (by
      unfold shareN
      rw [if_pos ⟨HHl.out.trans HTl.out.symm, by rw [HHl.out]; exact h16⟩])
    have nb := numC_bd want
    obtain ⟨nw, hnw⟩ : ∃ x, numC want = x := ⟨_, rfl⟩
    rw [hnw] at nb
    have HNW := Lib.hid hnw
    have hne : ((hl : Int) != (hl : Int)) = false := by simp
    have hgt : decide ((16 : Int) < (hl : Int)) = false := decide_eq_false (by omega)
    have h16' : ¬ (16 : Int) < (hl : Int) := by omega
    clear hnw
    go_enter Try.func11, Try.ntmps11
    go_upto_region 4 with (go_at_call 23; (have hc' := qnum_any want w; rw [HNW.out] at hc'; with_reducible refine hc'.mono ?_); rintro e w1 ⟨rfl, rfl⟩)
    go_wp2
    go_loopw [7, 8, 9] (fun rv kv iv wr => ∃ i : Nat, i ≤ hl ∧ iv = .int .i64 (i : Int) ∧ rv = .int .i64 (nw - sumK (held.take i)) ∧ kv = .bool (knownB (held.take i)) ∧ Below w.heap.size w wr) (fun _ _ iv _ => hl - (intOf iv).toNat)
    case atStart => exact ⟨0, Nat.zero_le _, rfl, by simp [sumK], rfl, Below.refl _ _⟩
    case round =>
      obtain ⟨i, hi, rfl, rfl, rfl, hb⟩ := hrel
      have HB := Lib.hid hb
      have bs := sumK_bd (held.take i)
      rw [List.length_take] at bs
      by_cases hlt : i < hl
      · have hil : i < held.length := by rw [HHl.out]; exact hlt
        obtain ⟨b, off, hha, hbl, hcell⟩ := keep_cell HH.out (by omega)
        subst hha
        have c1 := (hb.cell (p := ⟨b, off + i, none⟩) hbl).trans (hcell i hil)
        have y1 := Nat.lt_of_lt_of_le hbl hb.size
        have HS1 := Lib.hid (sumK_snoc hil)
        have HS2 := Lib.hid (known_snoc hil)
        obtain ⟨x, hx⟩ : ∃ x, held[i] = x := ⟨_, rfl⟩
        obtain ⟨s, hs⟩ : ∃ x, sumK (held.take i) = x := ⟨_, rfl⟩
        obtain ⟨kb, hk⟩ : ∃ x, knownB (held.take i) = x := ⟨_, rfl⟩
        rw [hx] at c1 HS1 HS2
        rw [hs] at bs HS1 ⊢
        rw [hk] at HS2 ⊢
        have nx := numC_bd x
        obtain ⟨nx', hnx⟩ : ∃ m, numC x = m := ⟨_, rfl⟩
        rw [hnx] at nx HS1
        have HNX := Lib.hid hnx
        obtain ⟨rm, hrm⟩ : ∃ m, nw - s = m := ⟨_, rfl⟩
        have w1 : IntKind.i64.wrap (rm - nx') = rm - nx' := IntWalk.i64_in _ ⟨by omega, by omega⟩
        have HS3 : Hid (rm - nx' = nw - sumK (held.take (i + 1))) := Lib.hid (by rw [HS1.out]; omega)
        rw [hrm]
        have hi0 : (0 : Int) ≤ (i : Int) := by omega
        have hi1 : (i : Int) < (hl : Int) := by omega
        clear hx hs hk hnx hrm hb bs nx hcell
        rcases Bool.eq_false_or_eq_true kb with rfl | rfl
        · by_cases h0 : 0 ≤ x
          · have d1 : decide (0 ≤ x) = true := decide_eq_true h0
            have HS4 : Hid (knownB (held.take (i + 1)) = true) := Lib.hid (by rw [HS2.out, d1]; rfl)
            clear h0
            go_wp2_with (go_at_call 23; (have hc' := qnum_any x wr; rw [HNX.out] at hc'; with_reducible refine hc'.mono ?_); rintro e w1 ⟨rfl, rfl⟩)
            go_roundw
            case rel => exact ⟨i + 1, by omega, by go_num, by rw [HS3.out], by rw [HS4.out], HB.out⟩
            case measure => simp [intOf]; omega
          · have d1 : decide (0 ≤ x) = false := decide_eq_false h0
            have HS4 : Hid (knownB (held.take (i + 1)) = false) := Lib.hid (by rw [HS2.out, d1]; rfl)
            clear h0
            go_wp2_with (go_at_call 23; (have hc' := qnum_any x wr; rw [HNX.out] at hc'; with_reducible refine hc'.mono ?_); rintro e w1 ⟨rfl, rfl⟩)
            go_roundw
            case rel => exact ⟨i + 1, by omega, by go_num, by rw [HS3.out], by rw [HS4.out], HB.out⟩
            case measure => simp [intOf]; omega
        · have HS4 : Hid (knownB (held.take (i + 1)) = false) := Lib.hid (by rw [HS2.out, Bool.false_and])
          go_wp2_with (go_at_call 23; (have hc' := qnum_any x wr; rw [HNX.out] at hc'; with_reducible refine hc'.mono ?_); rintro e w1 ⟨rfl, rfl⟩)
          go_roundw
          case rel => exact ⟨i + 1, by omega, by go_num, by rw [HS3.out], by rw [HS4.out], HB.out⟩
          case measure => simp [intOf]; omega
      · have hie : i = hl := by omega
        have hin : ¬ (i : Int) < (hl : Int) := by omega
        have HE1 : Hid (nw - sumK (held.take i) = leftN want held) := Lib.hid (by rw [hie, List.take_of_length_le (by rw [HHl.out]; omega), ← HNW.out]; rfl)
        have HE2 : Hid (knownB (held.take i) = knownB held) := Lib.hid (by rw [hie, List.take_of_length_le (by rw [HHl.out]; omega)])
        have HR : Hid (roomN want held = if knownB held = true then max (leftN want held) 0 else 0) := Lib.hid rfl
        rw [HE1.out] at *
        rw [HE2.out] at *
        have bR := room_bd want held
        have bR2 := room_le want held
        obtain ⟨lf, hlf⟩ : ∃ x, leftN want held = x := ⟨_, rfl⟩
        obtain ⟨kb, hkb⟩ : ∃ x, knownB held = x := ⟨_, rfl⟩
        obtain ⟨R, hR⟩ : ∃ x, roomN want held = x := ⟨_, rfl⟩
        rw [hlf, hkb, hR] at HR
        rw [hR] at HS bR bR2
        rw [hlf, hkb]
        clear hlf hkb hR hb hie hlt bs HE1 HE2
        -- REST
        have d0 : ¬ (R < 0) := by omega
        rcases Bool.eq_false_or_eq_true kb with rfl | rfl
        · by_cases hneg : lf < 0
          · obtain rfl : R = 0 := by have := HR.out; simp only [if_true] at this; omega
            have dn : decide (lf < 0) = true := decide_eq_true hneg
            clear HR hneg
            go_wp2
            go_loopw [7, 10, 11] (fun rv ov iv wr => ∃ i : Nat, i ≤ hl ∧ iv = .int .i64 (i : Int) ∧ rv = .int .i64 (leftS 0 ((held.zip target).take i)) ∧ wr.ownsRow w.heap.size 3 1 ov i (numV (shareG 0 ((held.zip target).take i))) ∧ Below w.heap.size w wr) (fun _ _ iv _ => hl - (intOf iv).toNat)
            case atStart => exact ⟨0, Nat.zero_le _, rfl, by simp [leftS], World.ownsRow_nil _ _ _ _, HB.out⟩
            case round =>
              obtain ⟨i, hi, rfl, rfl, hrow, hb⟩ := hrel
              clear HB
              have HB := Lib.hid hb
              have HROW := Lib.hid hrow
              obtain ⟨oa, oc, hov⟩ := row_form hrow
              subst hov
              clear hrow
              by_cases hlt : i < hl
              · have hil : i < held.length := by rw [HHl.out]; exact hlt
                have htl : i < target.length := by rw [HTl.out]; exact hlt
                obtain ⟨b, off, hha, hbl, hcell⟩ := keep_cell HH.out (by omega)
                obtain ⟨b', off', hta, hbl', hcell'⟩ := keep_cell HT.out (by omega)
                subst hha hta
                have c1 := (hb.cell (p := ⟨b, off + i, none⟩) hbl).trans (hcell i hil)
                have c2 := (hb.cell (p := ⟨b', off' + i, none⟩) hbl').trans (hcell' i htl)
                have y1 := Nat.lt_of_lt_of_le hbl hb.size
                have y2 := Nat.lt_of_lt_of_le hbl' hb.size
                have HZ := zip_snoc hil htl
                have hg1 := shareG_snoc (held[i], target[i]) ((held.zip target).take i) 0
                have hr1 := leftS_snoc (held[i], target[i]) ((held.zip target).take i) 0
                rw [← HZ] at hg1 hr1
                dsimp only at hg1 hr1
                have bl := leftS_bd ((held.zip target).take i) 0 bR
                obtain ⟨x, hx⟩ : ∃ x, held[i] = x := ⟨_, rfl⟩
                obtain ⟨y, hy⟩ : ∃ x, target[i] = x := ⟨_, rfl⟩
                obtain ⟨r, hr⟩ : ∃ x, leftS 0 ((held.zip target).take i) = x := ⟨_, rfl⟩
                obtain ⟨ol, hol⟩ : ∃ x, shareG 0 ((held.zip target).take i) = x := ⟨_, rfl⟩
                rw [hx] at c1 hg1 hr1
                rw [hy] at c2 hg1 hr1
                rw [hr] at hg1 hr1 bl ⊢
                rw [hol] at hg1 HROW
                have bnx := numC_bd x
                have bny := numC_bd y
                obtain ⟨nx, hnx⟩ : ∃ m, numC x = m := ⟨_, rfl⟩
                obtain ⟨ny, hny⟩ : ∃ m, numC y = m := ⟨_, rfl⟩
                have HNX := Lib.hid hnx
                have HNY := Lib.hid hny
                rw [hnx] at bnx
                rw [hny] at bny
                have hi0 : (0 : Int) ≤ (i : Int) := by omega
                have hi1 : (i : Int) < (hl : Int) := by omega
                clear hx hy hr hol hb hcell hcell' HZ
                by_cases h0 : x < 0
                · have HR1 : Hid (leftS 0 ((held.zip target).take (i + 1)) = r) := Lib.hid (by rw [hr1]; unfold usedN; rw [if_pos h0, Int.sub_zero])
                  have HG1 : Hid (shareG 0 ((held.zip target).take (i + 1)) = ol ++ [0]) := Lib.hid (by rw [hg1]; unfold grantN; rw [if_pos h0])
                  have d1 : decide (x < 0) = true := decide_eq_true h0
                  clear hr1 hg1 hnx hny h0
                  have HA0 : Hid ((wr.alloc (.cells #[.int .i64 0] 3)).ownsRow w.heap.size 3 1 (.slice oa i oc) i (numV ol)) := Lib.hid (HROW.out.alloc _)
                  have HN0 : Hid ((wr.alloc (.cells #[.int .i64 0] 3)).heap[wr.heap.size]? = some (.cells #[.int .i64 0] 3)) := Lib.hid (new_at wr _)
                  have HBA : Hid (Below w.heap.size w (wr.alloc (.cells #[.int .i64 0] 3))) := Lib.hid (HB.out.alloc HB.out.size _)
                  go_wp2_with (first
                    | (go_at_call 23; (have hc' := qnum_any x wr; rw [HNX.out] at hc'; with_reducible refine hc'.mono ?_); rintro e w1 ⟨rfl, rfl⟩)
                    | (go_at_call 23; (have hc' := qnum_any y wr; rw [HNY.out] at hc'; with_reducible refine hc'.mono ?_); rintro e w1 ⟨rfl, rfl⟩)
                    | (at_builtin; refine wpList_append_lies _ (by rfl) (.tmp 75) (.tmp 76) 22 (by rfl) w.heap.size 3 j0 _ 1 8 Try.underlying22 hj0 hq0 hq1 hq2 rfl (by decide) (.slice oa i oc) i (numV ol) (by rfl) HA0.out ⟨wr.heap.size, 0, none⟩ 1 1 [.int .i64 0] (by rfl) (by rfl) (news_one HN0.out) (by simp [Value.oneCell']) (by omega) (by unfold maxLen; omega) (by omega) HBA.out.size _ rfl ?_; intro g5 c5 w5 ho5 hg5 hat5 hl5; have HO5 := Lib.hid ho5; have HB5 := Lib.hid (HBA.out.grown hg5 HBA.out.size (fun j e => (HA0.out.lt j e).1)); clear ho5 hg5 hat5 hl5))
                  go_roundw
                  case rel => exact ⟨i + 1, by omega, by go_num, by rw [HR1.out], by rw [HG1.out]; simpa [numV] using HO5.out, HB5.out⟩
                  case measure => simp [intOf]; omega
                · have d1 : decide (x < 0) = false := decide_eq_false h0
                  by_cases hle : ny ≤ nx
                  · have HR1 : Hid (leftS 0 ((held.zip target).take (i + 1)) = r) := Lib.hid (by rw [hr1]; unfold usedN; rw [if_neg h0, hnx, hny, if_pos hle, Int.sub_zero])
                    have HG1 : Hid (shareG 0 ((held.zip target).take (i + 1)) = ol ++ [ny]) := Lib.hid (by rw [hg1]; unfold grantN; rw [if_neg h0, hnx, hny, if_pos hle])
                    have d2 : decide (ny ≤ nx) = true := decide_eq_true hle
                    clear hr1 hg1 hnx hny h0 hle
                    have HA0 : Hid ((wr.alloc (.cells #[.int .i64 ny] 3)).ownsRow w.heap.size 3 1 (.slice oa i oc) i (numV ol)) := Lib.hid (HROW.out.alloc _)
                    have HN0 : Hid ((wr.alloc (.cells #[.int .i64 ny] 3)).heap[wr.heap.size]? = some (.cells #[.int .i64 ny] 3)) := Lib.hid (new_at wr _)
                    have HBA : Hid (Below w.heap.size w (wr.alloc (.cells #[.int .i64 ny] 3))) := Lib.hid (HB.out.alloc HB.out.size _)
                    go_wp2_with (first
                      | (go_at_call 23; (have hc' := qnum_any x wr; rw [HNX.out] at hc'; with_reducible refine hc'.mono ?_); rintro e w1 ⟨rfl, rfl⟩)
                      | (go_at_call 23; (have hc' := qnum_any y wr; rw [HNY.out] at hc'; with_reducible refine hc'.mono ?_); rintro e w1 ⟨rfl, rfl⟩)
                      | (at_builtin; refine wpList_append_lies _ (by rfl) (.tmp 81) (.tmp 83) 22 (by rfl) w.heap.size 3 j0 _ 1 8 Try.underlying22 hj0 hq0 hq1 hq2 rfl (by decide) (.slice oa i oc) i (numV ol) (by rfl) HA0.out ⟨wr.heap.size, 0, none⟩ 1 1 [.int .i64 ny] (by rfl) (by rfl) (news_one HN0.out) (by simp [Value.oneCell']) (by omega) (by unfold maxLen; omega) (by omega) HBA.out.size _ rfl ?_; intro g5 c5 w5 ho5 hg5 hat5 hl5; have HO5 := Lib.hid ho5; have HB5 := Lib.hid (HBA.out.grown hg5 HBA.out.size (fun j e => (HA0.out.lt j e).1)); clear ho5 hg5 hat5 hl5))
                    go_roundw
                    case rel => exact ⟨i + 1, by omega, by go_num, by rw [HR1.out], by rw [HG1.out]; simpa [numV] using HO5.out, HB5.out⟩
                    case measure => simp [intOf]; omega
                  · have d2 : decide (ny ≤ nx) = false := decide_eq_false hle
                    have m1 := min2 (ny - nx) r
                    obtain ⟨m, hm⟩ : ∃ m, min (ny - nx) r = m := ⟨_, rfl⟩
                    have HR1 : Hid (leftS 0 ((held.zip target).take (i + 1)) = r - m) := Lib.hid (by rw [hr1]; unfold usedN; rw [if_neg h0, hnx, hny, if_neg hle, hm])
                    have hgn : grantN r x y = nx + m := by unfold grantN; rw [if_neg h0, hnx, hny, if_neg hle, hm]
                    obtain ⟨g, hg⟩ : ∃ g, nx + m = g := ⟨_, rfl⟩
                    have HG1 : Hid (shareG 0 ((held.zip target).take (i + 1)) = ol ++ [g]) := Lib.hid (by rw [hg1, hgn, hg])
                    rw [hm] at m1
                    have w1 : IntKind.i64.wrap (ny - nx) = ny - nx := IntWalk.i64_in _ ⟨by omega, by omega⟩
                    have w2 : IntKind.i64.wrap (r - m) = r - m := IntWalk.i64_in _ ⟨by omega, by omega⟩
                    have w3 : IntKind.i64.wrap (nx + m) = g := by rw [IntWalk.i64_in _ ⟨by omega, by omega⟩]; exact hg
                    have w4 : nx + m = g := hg
                    have w5 : wrap64 g = g := IntWalk.wrap64_in _ ⟨by omega, by omega⟩
                    have g0 : 0 ≤ g := by omega
                    have g1 : g ≤ 3000 := by omega
                    clear hr1 hg1 hnx hny h0 hle hm hgn hg
                    have HA0 : Hid ((wr.alloc (.cells #[.int .i64 g] 3)).ownsRow w.heap.size 3 1 (.slice oa i oc) i (numV ol)) := Lib.hid (HROW.out.alloc _)
                    have HN0 : Hid ((wr.alloc (.cells #[.int .i64 g] 3)).heap[wr.heap.size]? = some (.cells #[.int .i64 g] 3)) := Lib.hid (new_at wr _)
                    have HBA : Hid (Below w.heap.size w (wr.alloc (.cells #[.int .i64 g] 3))) := Lib.hid (HB.out.alloc HB.out.size _)
                    go_wp2_with (first
                      | (go_at_call 23; (have hc' := qnum_any x wr; rw [HNX.out] at hc'; with_reducible refine hc'.mono ?_); rintro e w1 ⟨rfl, rfl⟩)
                      | (go_at_call 23; (have hc' := qnum_any y wr; rw [HNY.out] at hc'; with_reducible refine hc'.mono ?_); rintro e w1 ⟨rfl, rfl⟩)
                      | (at_builtin; refine wpList_append_lies _ (by rfl) (.tmp 93) (.tmp 97) 22 (by rfl) w.heap.size 3 j0 _ 1 8 Try.underlying22 hj0 hq0 hq1 hq2 rfl (by decide) (.slice oa i oc) i (numV ol) (by rfl) HA0.out ⟨wr.heap.size, 0, none⟩ 1 1 [.int .i64 g] (by rfl) (by rfl) (news_one HN0.out) (by simp [Value.oneCell']) (by omega) (by unfold maxLen; omega) (by omega) HBA.out.size _ rfl ?_; intro g5 c5 w5 ho5 hg5 hat5 hl5; have HO5 := Lib.hid ho5; have HB5 := Lib.hid (HBA.out.grown hg5 HBA.out.size (fun j e => (HA0.out.lt j e).1)); clear ho5 hg5 hat5 hl5))
                    go_roundw
                    case rel => exact ⟨i + 1, by omega, by go_num, by rw [HR1.out], by rw [HG1.out]; simpa [numV] using HO5.out, HB5.out⟩
                    case measure => simp [intOf]; omega
              · have hie : i = hl := by omega
                have hin : ¬ (i : Int) < (hl : Int) := by omega
                have hzl : (held.zip target).length ≤ i := by rw [List.length_zip, HHl.out, HTl.out]; omega
                rw [List.take_of_length_le hzl] at HROW
                have HE : Hid ((shareN want held target).length = i) := Lib.hid (by rw [HS.out, shareG_len, List.length_zip, HHl.out, HTl.out]; omega)
                have HF : Hid (wr.ownsRow w.heap.size 3 1 (.slice oa i oc) (shareN want held target).length (numV (shareN want held target))) := Lib.hid (by rw [HE.out, HS.out]; exact HROW.out)
                clear hie hlt hb hzl
                go_wp2
                go_ret
                exact ⟨_, rfl, HF.out, HB.out⟩
          · obtain rfl : R = lf := by have := HR.out; simp only [if_true] at this; omega
            have dn : decide (R < 0) = false := decide_eq_false hneg
            clear HR hneg
            go_wp2
            go_loopw [7, 10, 11] (fun rv ov iv wr => ∃ i : Nat, i ≤ hl ∧ iv = .int .i64 (i : Int) ∧ rv = .int .i64 (leftS R ((held.zip target).take i)) ∧ wr.ownsRow w.heap.size 3 1 ov i (numV (shareG R ((held.zip target).take i))) ∧ Below w.heap.size w wr) (fun _ _ iv _ => hl - (intOf iv).toNat)
            case atStart => exact ⟨0, Nat.zero_le _, rfl, by simp [leftS], World.ownsRow_nil _ _ _ _, HB.out⟩
            case round =>
              obtain ⟨i, hi, rfl, rfl, hrow, hb⟩ := hrel
              clear HB
              have HB := Lib.hid hb
              have HROW := Lib.hid hrow
              obtain ⟨oa, oc, hov⟩ := row_form hrow
              subst hov
              clear hrow
              by_cases hlt : i < hl
              · have hil : i < held.length := by rw [HHl.out]; exact hlt
                have htl : i < target.length := by rw [HTl.out]; exact hlt
                obtain ⟨b, off, hha, hbl, hcell⟩ := keep_cell HH.out (by omega)
                obtain ⟨b', off', hta, hbl', hcell'⟩ := keep_cell HT.out (by omega)
                subst hha hta
                have c1 := (hb.cell (p := ⟨b, off + i, none⟩) hbl).trans (hcell i hil)
                have c2 := (hb.cell (p := ⟨b', off' + i, none⟩) hbl').trans (hcell' i htl)
                have y1 := Nat.lt_of_lt_of_le hbl hb.size
                have y2 := Nat.lt_of_lt_of_le hbl' hb.size
                have HZ := zip_snoc hil htl
                have hg1 := shareG_snoc (held[i], target[i]) ((held.zip target).take i) R
                have hr1 := leftS_snoc (held[i], target[i]) ((held.zip target).take i) R
                rw [← HZ] at hg1 hr1
                dsimp only at hg1 hr1
                have bl := leftS_bd ((held.zip target).take i) R bR
                obtain ⟨x, hx⟩ : ∃ x, held[i] = x := ⟨_, rfl⟩
                obtain ⟨y, hy⟩ : ∃ x, target[i] = x := ⟨_, rfl⟩
                obtain ⟨r, hr⟩ : ∃ x, leftS R ((held.zip target).take i) = x := ⟨_, rfl⟩
                obtain ⟨ol, hol⟩ : ∃ x, shareG R ((held.zip target).take i) = x := ⟨_, rfl⟩
                rw [hx] at c1 hg1 hr1
                rw [hy] at c2 hg1 hr1
                rw [hr] at hg1 hr1 bl ⊢
                rw [hol] at hg1 HROW
                have bnx := numC_bd x
                have bny := numC_bd y
                obtain ⟨nx, hnx⟩ : ∃ m, numC x = m := ⟨_, rfl⟩
                obtain ⟨ny, hny⟩ : ∃ m, numC y = m := ⟨_, rfl⟩
                have HNX := Lib.hid hnx
                have HNY := Lib.hid hny
                rw [hnx] at bnx
                rw [hny] at bny
                have hi0 : (0 : Int) ≤ (i : Int) := by omega
                have hi1 : (i : Int) < (hl : Int) := by omega
                clear hx hy hr hol hb hcell hcell' HZ
                by_cases h0 : x < 0
                · have HR1 : Hid (leftS R ((held.zip target).take (i + 1)) = r) := Lib.hid (by rw [hr1]; unfold usedN; rw [if_pos h0, Int.sub_zero])
                  have HG1 : Hid (shareG R ((held.zip target).take (i + 1)) = ol ++ [0]) := Lib.hid (by rw [hg1]; unfold grantN; rw [if_pos h0])
                  have d1 : decide (x < 0) = true := decide_eq_true h0
                  clear hr1 hg1 hnx hny h0
                  have HA0 : Hid ((wr.alloc (.cells #[.int .i64 0] 3)).ownsRow w.heap.size 3 1 (.slice oa i oc) i (numV ol)) := Lib.hid (HROW.out.alloc _)
                  have HN0 : Hid ((wr.alloc (.cells #[.int .i64 0] 3)).heap[wr.heap.size]? = some (.cells #[.int .i64 0] 3)) := Lib.hid (new_at wr _)
                  have HBA : Hid (Below w.heap.size w (wr.alloc (.cells #[.int .i64 0] 3))) := Lib.hid (HB.out.alloc HB.out.size _)
                  go_wp2_with (first
                    | (go_at_call 23; (have hc' := qnum_any x wr; rw [HNX.out] at hc'; with_reducible refine hc'.mono ?_); rintro e w1 ⟨rfl, rfl⟩)
                    | (go_at_call 23; (have hc' := qnum_any y wr; rw [HNY.out] at hc'; with_reducible refine hc'.mono ?_); rintro e w1 ⟨rfl, rfl⟩)
                    | (at_builtin; refine wpList_append_lies _ (by rfl) (.tmp 75) (.tmp 76) 22 (by rfl) w.heap.size 3 j0 _ 1 8 Try.underlying22 hj0 hq0 hq1 hq2 rfl (by decide) (.slice oa i oc) i (numV ol) (by rfl) HA0.out ⟨wr.heap.size, 0, none⟩ 1 1 [.int .i64 0] (by rfl) (by rfl) (news_one HN0.out) (by simp [Value.oneCell']) (by omega) (by unfold maxLen; omega) (by omega) HBA.out.size _ rfl ?_; intro g5 c5 w5 ho5 hg5 hat5 hl5; have HO5 := Lib.hid ho5; have HB5 := Lib.hid (HBA.out.grown hg5 HBA.out.size (fun j e => (HA0.out.lt j e).1)); clear ho5 hg5 hat5 hl5))
                  go_roundw
                  case rel => exact ⟨i + 1, by omega, by go_num, by rw [HR1.out], by rw [HG1.out]; simpa [numV] using HO5.out, HB5.out⟩
                  case measure => simp [intOf]; omega
                · have d1 : decide (x < 0) = false := decide_eq_false h0
                  by_cases hle : ny ≤ nx
                  · have HR1 : Hid (leftS R ((held.zip target).take (i + 1)) = r) := Lib.hid (by rw [hr1]; unfold usedN; rw [if_neg h0, hnx, hny, if_pos hle, Int.sub_zero])
                    have HG1 : Hid (shareG R ((held.zip target).take (i + 1)) = ol ++ [ny]) := Lib.hid (by rw [hg1]; unfold grantN; rw [if_neg h0, hnx, hny, if_pos hle])
                    have d2 : decide (ny ≤ nx) = true := decide_eq_true hle
                    clear hr1 hg1 hnx hny h0 hle
                    have HA0 : Hid ((wr.alloc (.cells #[.int .i64 ny] 3)).ownsRow w.heap.size 3 1 (.slice oa i oc) i (numV ol)) := Lib.hid (HROW.out.alloc _)
                    have HN0 : Hid ((wr.alloc (.cells #[.int .i64 ny] 3)).heap[wr.heap.size]? = some (.cells #[.int .i64 ny] 3)) := Lib.hid (new_at wr _)
                    have HBA : Hid (Below w.heap.size w (wr.alloc (.cells #[.int .i64 ny] 3))) := Lib.hid (HB.out.alloc HB.out.size _)
                    go_wp2_with (first
                      | (go_at_call 23; (have hc' := qnum_any x wr; rw [HNX.out] at hc'; with_reducible refine hc'.mono ?_); rintro e w1 ⟨rfl, rfl⟩)
                      | (go_at_call 23; (have hc' := qnum_any y wr; rw [HNY.out] at hc'; with_reducible refine hc'.mono ?_); rintro e w1 ⟨rfl, rfl⟩)
                      | (at_builtin; refine wpList_append_lies _ (by rfl) (.tmp 81) (.tmp 83) 22 (by rfl) w.heap.size 3 j0 _ 1 8 Try.underlying22 hj0 hq0 hq1 hq2 rfl (by decide) (.slice oa i oc) i (numV ol) (by rfl) HA0.out ⟨wr.heap.size, 0, none⟩ 1 1 [.int .i64 ny] (by rfl) (by rfl) (news_one HN0.out) (by simp [Value.oneCell']) (by omega) (by unfold maxLen; omega) (by omega) HBA.out.size _ rfl ?_; intro g5 c5 w5 ho5 hg5 hat5 hl5; have HO5 := Lib.hid ho5; have HB5 := Lib.hid (HBA.out.grown hg5 HBA.out.size (fun j e => (HA0.out.lt j e).1)); clear ho5 hg5 hat5 hl5))
                    go_roundw
                    case rel => exact ⟨i + 1, by omega, by go_num, by rw [HR1.out], by rw [HG1.out]; simpa [numV] using HO5.out, HB5.out⟩
                    case measure => simp [intOf]; omega
                  · have d2 : decide (ny ≤ nx) = false := decide_eq_false hle
                    have m1 := min2 (ny - nx) r
                    obtain ⟨m, hm⟩ : ∃ m, min (ny - nx) r = m := ⟨_, rfl⟩
                    have HR1 : Hid (leftS R ((held.zip target).take (i + 1)) = r - m) := Lib.hid (by rw [hr1]; unfold usedN; rw [if_neg h0, hnx, hny, if_neg hle, hm])
                    have hgn : grantN r x y = nx + m := by unfold grantN; rw [if_neg h0, hnx, hny, if_neg hle, hm]
                    obtain ⟨g, hg⟩ : ∃ g, nx + m = g := ⟨_, rfl⟩
                    have HG1 : Hid (shareG R ((held.zip target).take (i + 1)) = ol ++ [g]) := Lib.hid (by rw [hg1, hgn, hg])
                    rw [hm] at m1
                    have w1 : IntKind.i64.wrap (ny - nx) = ny - nx := IntWalk.i64_in _ ⟨by omega, by omega⟩
                    have w2 : IntKind.i64.wrap (r - m) = r - m := IntWalk.i64_in _ ⟨by omega, by omega⟩
                    have w3 : IntKind.i64.wrap (nx + m) = g := by rw [IntWalk.i64_in _ ⟨by omega, by omega⟩]; exact hg
                    have w4 : nx + m = g := hg
                    have w5 : wrap64 g = g := IntWalk.wrap64_in _ ⟨by omega, by omega⟩
                    have g0 : 0 ≤ g := by omega
                    have g1 : g ≤ 3000 := by omega
                    clear hr1 hg1 hnx hny h0 hle hm hgn hg
                    have HA0 : Hid ((wr.alloc (.cells #[.int .i64 g] 3)).ownsRow w.heap.size 3 1 (.slice oa i oc) i (numV ol)) := Lib.hid (HROW.out.alloc _)
                    have HN0 : Hid ((wr.alloc (.cells #[.int .i64 g] 3)).heap[wr.heap.size]? = some (.cells #[.int .i64 g] 3)) := Lib.hid (new_at wr _)
                    have HBA : Hid (Below w.heap.size w (wr.alloc (.cells #[.int .i64 g] 3))) := Lib.hid (HB.out.alloc HB.out.size _)
                    go_wp2_with (first
                      | (go_at_call 23; (have hc' := qnum_any x wr; rw [HNX.out] at hc'; with_reducible refine hc'.mono ?_); rintro e w1 ⟨rfl, rfl⟩)
                      | (go_at_call 23; (have hc' := qnum_any y wr; rw [HNY.out] at hc'; with_reducible refine hc'.mono ?_); rintro e w1 ⟨rfl, rfl⟩)
                      | (at_builtin; refine wpList_append_lies _ (by rfl) (.tmp 93) (.tmp 97) 22 (by rfl) w.heap.size 3 j0 _ 1 8 Try.underlying22 hj0 hq0 hq1 hq2 rfl (by decide) (.slice oa i oc) i (numV ol) (by rfl) HA0.out ⟨wr.heap.size, 0, none⟩ 1 1 [.int .i64 g] (by rfl) (by rfl) (news_one HN0.out) (by simp [Value.oneCell']) (by omega) (by unfold maxLen; omega) (by omega) HBA.out.size _ rfl ?_; intro g5 c5 w5 ho5 hg5 hat5 hl5; have HO5 := Lib.hid ho5; have HB5 := Lib.hid (HBA.out.grown hg5 HBA.out.size (fun j e => (HA0.out.lt j e).1)); clear ho5 hg5 hat5 hl5))
                    go_roundw
                    case rel => exact ⟨i + 1, by omega, by go_num, by rw [HR1.out], by rw [HG1.out]; simpa [numV] using HO5.out, HB5.out⟩
                    case measure => simp [intOf]; omega
              · have hie : i = hl := by omega
                have hin : ¬ (i : Int) < (hl : Int) := by omega
                have hzl : (held.zip target).length ≤ i := by rw [List.length_zip, HHl.out, HTl.out]; omega
                rw [List.take_of_length_le hzl] at HROW
                have HE : Hid ((shareN want held target).length = i) := Lib.hid (by rw [HS.out, shareG_len, List.length_zip, HHl.out, HTl.out]; omega)
                have HF : Hid (wr.ownsRow w.heap.size 3 1 (.slice oa i oc) (shareN want held target).length (numV (shareN want held target))) := Lib.hid (by rw [HE.out, HS.out]; exact HROW.out)
                clear hie hlt hb hzl
                go_wp2
                go_ret
                exact ⟨_, rfl, HF.out, HB.out⟩
        · obtain rfl : R = 0 := by have := HR.out; simpa using this
          clear HR
          go_wp2
          go_loopw [7, 10, 11] (fun rv ov iv wr => ∃ i : Nat, i ≤ hl ∧ iv = .int .i64 (i : Int) ∧ rv = .int .i64 (leftS 0 ((held.zip target).take i)) ∧ wr.ownsRow w.heap.size 3 1 ov i (numV (shareG 0 ((held.zip target).take i))) ∧ Below w.heap.size w wr) (fun _ _ iv _ => hl - (intOf iv).toNat)
          case atStart => exact ⟨0, Nat.zero_le _, rfl, by simp [leftS], World.ownsRow_nil _ _ _ _, HB.out⟩
          case round =>
            obtain ⟨i, hi, rfl, rfl, hrow, hb⟩ := hrel
            clear HB
            have HB := Lib.hid hb
            have HROW := Lib.hid hrow
            obtain ⟨oa, oc, hov⟩ := row_form hrow
            subst hov
            clear hrow
            by_cases hlt : i < hl
            · have hil : i < held.length := by rw [HHl.out]; exact hlt
              have htl : i < target.length := by rw [HTl.out]; exact hlt
              obtain ⟨b, off, hha, hbl, hcell⟩ := keep_cell HH.out (by omega)
              obtain ⟨b', off', hta, hbl', hcell'⟩ := keep_cell HT.out (by omega)
              subst hha hta
              have c1 := (hb.cell (p := ⟨b, off + i, none⟩) hbl).trans (hcell i hil)
              have c2 := (hb.cell (p := ⟨b', off' + i, none⟩) hbl').trans (hcell' i htl)
              have y1 := Nat.lt_of_lt_of_le hbl hb.size
              have y2 := Nat.lt_of_lt_of_le hbl' hb.size
              have HZ := zip_snoc hil htl
              have hg1 := shareG_snoc (held[i], target[i]) ((held.zip target).take i) 0
              have hr1 := leftS_snoc (held[i], target[i]) ((held.zip target).take i) 0
              rw [← HZ] at hg1 hr1
              dsimp only at hg1 hr1
              have bl := leftS_bd ((held.zip target).take i) 0 bR
              obtain ⟨x, hx⟩ : ∃ x, held[i] = x := ⟨_, rfl⟩
              obtain ⟨y, hy⟩ : ∃ x, target[i] = x := ⟨_, rfl⟩
              obtain ⟨r, hr⟩ : ∃ x, leftS 0 ((held.zip target).take i) = x := ⟨_, rfl⟩
              obtain ⟨ol, hol⟩ : ∃ x, shareG 0 ((held.zip target).take i) = x := ⟨_, rfl⟩
              rw [hx] at c1 hg1 hr1
              rw [hy] at c2 hg1 hr1
              rw [hr] at hg1 hr1 bl ⊢
              rw [hol] at hg1 HROW
              have bnx := numC_bd x
              have bny := numC_bd y
              obtain ⟨nx, hnx⟩ : ∃ m, numC x = m := ⟨_, rfl⟩
              obtain ⟨ny, hny⟩ : ∃ m, numC y = m := ⟨_, rfl⟩
              have HNX := Lib.hid hnx
              have HNY := Lib.hid hny
              rw [hnx] at bnx
              rw [hny] at bny
              have hi0 : (0 : Int) ≤ (i : Int) := by omega
              have hi1 : (i : Int) < (hl : Int) := by omega
              clear hx hy hr hol hb hcell hcell' HZ
              by_cases h0 : x < 0
              · have HR1 : Hid (leftS 0 ((held.zip target).take (i + 1)) = r) := Lib.hid (by rw [hr1]; unfold usedN; rw [if_pos h0, Int.sub_zero])
                have HG1 : Hid (shareG 0 ((held.zip target).take (i + 1)) = ol ++ [0]) := Lib.hid (by rw [hg1]; unfold grantN; rw [if_pos h0])
                have d1 : decide (x < 0) = true := decide_eq_true h0
                clear hr1 hg1 hnx hny h0
                have HA0 : Hid ((wr.alloc (.cells #[.int .i64 0] 3)).ownsRow w.heap.size 3 1 (.slice oa i oc) i (numV ol)) := Lib.hid (HROW.out.alloc _)
                have HN0 : Hid ((wr.alloc (.cells #[.int .i64 0] 3)).heap[wr.heap.size]? = some (.cells #[.int .i64 0] 3)) := Lib.hid (new_at wr _)
                have HBA : Hid (Below w.heap.size w (wr.alloc (.cells #[.int .i64 0] 3))) := Lib.hid (HB.out.alloc HB.out.size _)
                go_wp2_with (first
                  | (go_at_call 23; (have hc' := qnum_any x wr; rw [HNX.out] at hc'; with_reducible refine hc'.mono ?_); rintro e w1 ⟨rfl, rfl⟩)
                  | (go_at_call 23; (have hc' := qnum_any y wr; rw [HNY.out] at hc'; with_reducible refine hc'.mono ?_); rintro e w1 ⟨rfl, rfl⟩)
                  | (at_builtin; refine wpList_append_lies _ (by rfl) (.tmp 75) (.tmp 76) 22 (by rfl) w.heap.size 3 j0 _ 1 8 Try.underlying22 hj0 hq0 hq1 hq2 rfl (by decide) (.slice oa i oc) i (numV ol) (by rfl) HA0.out ⟨wr.heap.size, 0, none⟩ 1 1 [.int .i64 0] (by rfl) (by rfl) (news_one HN0.out) (by simp [Value.oneCell']) (by omega) (by unfold maxLen; omega) (by omega) HBA.out.size _ rfl ?_; intro g5 c5 w5 ho5 hg5 hat5 hl5; have HO5 := Lib.hid ho5; have HB5 := Lib.hid (HBA.out.grown hg5 HBA.out.size (fun j e => (HA0.out.lt j e).1)); clear ho5 hg5 hat5 hl5))
                go_roundw
                case rel => exact ⟨i + 1, by omega, by go_num, by rw [HR1.out], by rw [HG1.out]; simpa [numV] using HO5.out, HB5.out⟩
                case measure => simp [intOf]; omega
              · have d1 : decide (x < 0) = false := decide_eq_false h0
                by_cases hle : ny ≤ nx
                · have HR1 : Hid (leftS 0 ((held.zip target).take (i + 1)) = r) := Lib.hid (by rw [hr1]; unfold usedN; rw [if_neg h0, hnx, hny, if_pos hle, Int.sub_zero])
                  have HG1 : Hid (shareG 0 ((held.zip target).take (i + 1)) = ol ++ [ny]) := Lib.hid (by rw [hg1]; unfold grantN; rw [if_neg h0, hnx, hny, if_pos hle])
                  have d2 : decide (ny ≤ nx) = true := decide_eq_true hle
                  clear hr1 hg1 hnx hny h0 hle
                  have HA0 : Hid ((wr.alloc (.cells #[.int .i64 ny] 3)).ownsRow w.heap.size 3 1 (.slice oa i oc) i (numV ol)) := Lib.hid (HROW.out.alloc _)
                  have HN0 : Hid ((wr.alloc (.cells #[.int .i64 ny] 3)).heap[wr.heap.size]? = some (.cells #[.int .i64 ny] 3)) := Lib.hid (new_at wr _)
                  have HBA : Hid (Below w.heap.size w (wr.alloc (.cells #[.int .i64 ny] 3))) := Lib.hid (HB.out.alloc HB.out.size _)
                  go_wp2_with (first
                    | (go_at_call 23; (have hc' := qnum_any x wr; rw [HNX.out] at hc'; with_reducible refine hc'.mono ?_); rintro e w1 ⟨rfl, rfl⟩)
                    | (go_at_call 23; (have hc' := qnum_any y wr; rw [HNY.out] at hc'; with_reducible refine hc'.mono ?_); rintro e w1 ⟨rfl, rfl⟩)
                    | (at_builtin; refine wpList_append_lies _ (by rfl) (.tmp 81) (.tmp 83) 22 (by rfl) w.heap.size 3 j0 _ 1 8 Try.underlying22 hj0 hq0 hq1 hq2 rfl (by decide) (.slice oa i oc) i (numV ol) (by rfl) HA0.out ⟨wr.heap.size, 0, none⟩ 1 1 [.int .i64 ny] (by rfl) (by rfl) (news_one HN0.out) (by simp [Value.oneCell']) (by omega) (by unfold maxLen; omega) (by omega) HBA.out.size _ rfl ?_; intro g5 c5 w5 ho5 hg5 hat5 hl5; have HO5 := Lib.hid ho5; have HB5 := Lib.hid (HBA.out.grown hg5 HBA.out.size (fun j e => (HA0.out.lt j e).1)); clear ho5 hg5 hat5 hl5))
                  go_roundw
                  case rel => exact ⟨i + 1, by omega, by go_num, by rw [HR1.out], by rw [HG1.out]; simpa [numV] using HO5.out, HB5.out⟩
                  case measure => simp [intOf]; omega
                · have d2 : decide (ny ≤ nx) = false := decide_eq_false hle
                  have m1 := min2 (ny - nx) r
                  obtain ⟨m, hm⟩ : ∃ m, min (ny - nx) r = m := ⟨_, rfl⟩
                  have HR1 : Hid (leftS 0 ((held.zip target).take (i + 1)) = r - m) := Lib.hid (by rw [hr1]; unfold usedN; rw [if_neg h0, hnx, hny, if_neg hle, hm])
                  have hgn : grantN r x y = nx + m := by unfold grantN; rw [if_neg h0, hnx, hny, if_neg hle, hm]
                  obtain ⟨g, hg⟩ : ∃ g, nx + m = g := ⟨_, rfl⟩
                  have HG1 : Hid (shareG 0 ((held.zip target).take (i + 1)) = ol ++ [g]) := Lib.hid (by rw [hg1, hgn, hg])
                  rw [hm] at m1
                  have w1 : IntKind.i64.wrap (ny - nx) = ny - nx := IntWalk.i64_in _ ⟨by omega, by omega⟩
                  have w2 : IntKind.i64.wrap (r - m) = r - m := IntWalk.i64_in _ ⟨by omega, by omega⟩
                  have w3 : IntKind.i64.wrap (nx + m) = g := by rw [IntWalk.i64_in _ ⟨by omega, by omega⟩]; exact hg
                  have w4 : nx + m = g := hg
                  have w5 : wrap64 g = g := IntWalk.wrap64_in _ ⟨by omega, by omega⟩
                  have g0 : 0 ≤ g := by omega
                  have g1 : g ≤ 3000 := by omega
                  clear hr1 hg1 hnx hny h0 hle hm hgn hg
                  have HA0 : Hid ((wr.alloc (.cells #[.int .i64 g] 3)).ownsRow w.heap.size 3 1 (.slice oa i oc) i (numV ol)) := Lib.hid (HROW.out.alloc _)
                  have HN0 : Hid ((wr.alloc (.cells #[.int .i64 g] 3)).heap[wr.heap.size]? = some (.cells #[.int .i64 g] 3)) := Lib.hid (new_at wr _)
                  have HBA : Hid (Below w.heap.size w (wr.alloc (.cells #[.int .i64 g] 3))) := Lib.hid (HB.out.alloc HB.out.size _)
                  go_wp2_with (first
                    | (go_at_call 23; (have hc' := qnum_any x wr; rw [HNX.out] at hc'; with_reducible refine hc'.mono ?_); rintro e w1 ⟨rfl, rfl⟩)
                    | (go_at_call 23; (have hc' := qnum_any y wr; rw [HNY.out] at hc'; with_reducible refine hc'.mono ?_); rintro e w1 ⟨rfl, rfl⟩)
                    | (at_builtin; refine wpList_append_lies _ (by rfl) (.tmp 93) (.tmp 97) 22 (by rfl) w.heap.size 3 j0 _ 1 8 Try.underlying22 hj0 hq0 hq1 hq2 rfl (by decide) (.slice oa i oc) i (numV ol) (by rfl) HA0.out ⟨wr.heap.size, 0, none⟩ 1 1 [.int .i64 g] (by rfl) (by rfl) (news_one HN0.out) (by simp [Value.oneCell']) (by omega) (by unfold maxLen; omega) (by omega) HBA.out.size _ rfl ?_; intro g5 c5 w5 ho5 hg5 hat5 hl5; have HO5 := Lib.hid ho5; have HB5 := Lib.hid (HBA.out.grown hg5 HBA.out.size (fun j e => (HA0.out.lt j e).1)); clear ho5 hg5 hat5 hl5))
                  go_roundw
                  case rel => exact ⟨i + 1, by omega, by go_num, by rw [HR1.out], by rw [HG1.out]; simpa [numV] using HO5.out, HB5.out⟩
                  case measure => simp [intOf]; omega
            · have hie : i = hl := by omega
              have hin : ¬ (i : Int) < (hl : Int) := by omega
              have hzl : (held.zip target).length ≤ i := by rw [List.length_zip, HHl.out, HTl.out]; omega
              rw [List.take_of_length_le hzl] at HROW
              have HE : Hid ((shareN want held target).length = i) := Lib.hid (by rw [HS.out, shareG_len, List.length_zip, HHl.out, HTl.out]; omega)
              have HF : Hid (wr.ownsRow w.heap.size 3 1 (.slice oa i oc) (shareN want held target).length (numV (shareN want held target))) := Lib.hid (by rw [HE.out, HS.out]; exact HROW.out)
              clear hie hlt hb hzl
              go_wp2
              go_ret
              exact ⟨_, rfl, HF.out, HB.out⟩
  · have HS : Hid (shareN want held target = []) := Lib.hid (by
      unfold shareN
      rw [if_neg (by rw [HHl.out, HTl.out]; exact hgood)])
    rw [HS.out]
    by_cases hne : hl = tl
    · have h16 : (16 : Int) < (hl : Int) := by omega
      have e1 : ((hl : Int) != (tl : Int)) = false := by simp [hne]
      subst hne
      have e2 : ((hl : Int) != (hl : Int)) = false := by simp
      have e3 : decide ((16 : Int) < (hl : Int)) = true := decide_eq_true h16
      clear hgood
      go_enter Try.func11, Try.ntmps11
      go_wp2
      go_ret
      exact ⟨_, rfl, World.ownsRow_nil _ _ _ _, Below.refl _ _⟩
    · have e1 : ((hl : Int) != (tl : Int)) = true := by rw [bne_iff_ne]; omega
      have e2 : ((hl : Int) == (tl : Int)) = false := by rw [beq_eq_false_iff_ne]; omega
      have e3 : ¬ (hl : Int) = (tl : Int) := by omega
      clear hgood hne
      go_enter Try.func11, Try.ntmps11
      go_wp2
      go_ret
      exact ⟨_, rfl, World.ownsRow_nil _ _ _ _, Below.refl _ _⟩
end Go.Proofs.Ytjkfiilnogacnaa
