/-
  slices.DeleteFunc over grants.
-/
import Derived.Deep.CutBlock
import Derived.Test.YtgkpkegbjkjhiaaLpdel
namespace Go.Proofs.Ytgkpkegbjkjhiaa
open Go.RowKit Gm

theorem row_set3 {w : World} {g n cap : Nat} {cur : PX} (h : w.ownsRow 0 58 3 (.slice (some ⟨g, 0, none⟩) n cap) n (pxV cur)) {i : Nat} (hi : i < cur.length) (y : Gr × Nat) :
    (((w.setCell ⟨g, i * 3, none⟩ (.int .i64 y.1.ver)).setCell ⟨g, i * 3 + 1, none⟩ (.int .i64 y.1.unt)).setCell ⟨g, i * 3 + 2, none⟩ (.map (some y.2))).ownsRow 0 58 3 (.slice (some ⟨g, 0, none⟩) n cap) n (pxV (cur.set i y)) := by
  have h1 := ((((h.stored (i * 3) (.int .i64 y.1.ver)).1).stored (i * 3 + 1) (.int .i64 y.1.unt)).1.stored (i * 3 + 2) (.map (some y.2))).1
  rw [pxV_set cur i y hi] at h1
  exact h1
/-- The first m of a row. -/
theorem row_cut {w : World} {g n cap m : Nat} {cur : PX} (h : w.ownsRow 0 58 3 (.slice (some ⟨g, 0, none⟩) n cap) n (pxV cur)) (hm : m ≤ n) : w.ownsRow 0 58 3 (.slice (some ⟨g, 0, none⟩) m cap) m (pxV (cur.take m)) := by
  have hl : (pxV cur).length = n * 3 := h.1
  rw [pxV_len] at hl
  refine ⟨by rw [pxV_len, List.length_take]; omega, .inr ?_⟩
  rcases h.2 with ⟨h', _⟩ | ⟨g', cap', cs, h', hb, hg, hnc, hcm, hcs, htake⟩
  · simp at h'
  · simp only [Value.slice.injEq, Option.some.injEq, Addr.mk.injEq, and_true, true_and] at h'
    obtain ⟨rfl, rfl⟩ := h'
    refine ⟨g, cap, cs, rfl, hb, hg, by omega, hcm, hcs, ?_⟩
    rw [← pxV_take, ← htake, List.take_take, Nat.min_eq_left (by omega)]
/-- What lies behind its first m is anything. -/
theorem row_tail {g cap m : Nat} {xs : List Value} : ∀ (L : List Value) (o : Nat) (w : World), m * 3 ≤ o → w.ownsRow 0 58 3 (.slice (some ⟨g, 0, none⟩) m cap) m xs → (w.setCells g o L).ownsRow 0 58 3 (.slice (some ⟨g, 0, none⟩) m cap) m xs ∧ w.grownBy (w.setCells g o L) (some g)
  | [], o, w, _, h => ⟨h, World.grownBy.refl w _⟩
  | x :: L, o, w, ho, h => by
    obtain ⟨h1, h2⟩ := h.stored o x
    have hl : xs.length = m * 3 := h.1
    rw [List.set_eq_of_length_le (by omega)] at h1
    obtain ⟨h3, h4⟩ := row_tail L (o + 1) _ (by omega) h1
    exact ⟨h3, gbt' h2 h4⟩
/-- 'clear(s[i:])' -/
theorem run_clear3 {w : World} {g n cap : Nat} {cur : PX} (h : w.ownsRow 0 58 3 (.slice (some ⟨g, 0, none⟩) n cap) n (pxV cur)) {i : Nat} (hi : i < n) (c : Nat) :
    ∃ w', (∀ ty, (Builtin.clear_ #[50] ty #[.slice (some ⟨g, i * 3, none⟩) (n - i) c]).run Try.prog w = .ok (.tuple #[]) w') ∧ w'.ownsRow 0 58 3 (.slice (some ⟨g, 0, none⟩) i cap) i (pxV (cur.take i)) ∧ w.grownBy w' (some g) := by
  obtain ⟨L, hL⟩ : ∃ L, (Builtin.zeroCells (Value.cells (.agg #[.int .i64 0, .int .i64 0, .map none])) (n - i)).toList = L := ⟨_, rfl⟩
  have hlen : L.length = (n - i) * 3 := by rw [← hL]; simp [Builtin.zeroCells, Value.cells]
  have hone : ∀ v ∈ L, v.oneCell' = true := by
    intro v hv
    rw [← hL] at hv
    obtain ⟨j, hj, rfl⟩ := List.getElem_of_mem hv
    have hj3 : j % 3 < 3 := Nat.mod_lt _ (by omega)
    simp [Builtin.zeroCells, Value.cells]
    rcases (show j % 3 = 0 ∨ j % 3 = 1 ∨ j % 3 = 2 by omega) with e | e | e <;> simp [e, Value.oneCell']
  have hlx : (pxV cur).length = n * 3 := h.1
  have hst := run_storeCells_cells (P := Try.prog) g (i * 3) L 0 w (fun j hj => by
      rw [h.cellAt _ (by omega), List.getElem?_eq_getElem (by rw [hlx]; omega)]; rfl) (fun j _ => h.frozenAt _) hone
  simp only [Nat.add_zero] at hst
  obtain ⟨h1, h2⟩ := row_tail (cap := cap) (xs := pxV (cur.take i)) L (i * 3) w (Nat.le_refl _) (row_cut h (Nat.le_of_lt hi))
  refine ⟨_, fun ty => ?_, h1, h2⟩
  obtain ⟨k, hk⟩ : ∃ k, n - i = k + 1 := ⟨n - i - 1, by omega⟩
  have hz : ∀ w, (zeroValue 58).run Try.prog w = .ok (.agg #[.int .i64 0, .int .i64 0, .map none]) w := fun w => by kernel_rfl
  rw [hk] at hL ⊢
  simp [Builtin.clear_, run_underlying Try.underlying50, hz, hL, hst]

theorem gb_any {A B : World} {row : Option Nat} (h : Below A.heap.size A B) : A.grownBy B row := ⟨h.os, h.tape, h.output, h.size, fun j hj _ => h.block j hj⟩
/-- On the way through the row: i are kept of the first j; what is behind them is as it was. -/
structure DelAt (w wr : World) (g n cap : Nat) (gx : PX) (c : Gr → Bool) (i j : Nat) (cur : PX) : Prop where
  len : cur.length = n
  lt : i < j ∧ j ≤ n
  kept : cur.take i = (gx.take j).filter fun y => !c y.1
  rest : ∀ k (h : k < cur.length) (h' : k < gx.length), j ≤ k → cur[k] = gx[k]
  row : wr.ownsRow 0 58 3 (.slice (some ⟨g, 0, none⟩) n cap) n (pxV cur)
  gr : w.grownBy wr (some g)
theorem filt_p {gx : PX} (c : Gr → Bool) {i : Nat} (hi : i < gx.length) : ((gx.take (i + 1)).filter fun y => !c y.1) = ((gx.take i).filter fun y => !c y.1) ++ (if c gx[i].1 then [] else [gx[i]]) := by
  rw [List.take_succ_eq_append_getElem hi, List.filter_append]
  congr 1
  by_cases e : c gx[i].1
  · rw [if_pos e]; simp [e]
  · rw [if_neg e]; simp [e]
theorem DelAt.start {w wr : World} {g n cap : Nat} {gx : PX} {c : Gr → Bool} {k : Nat} (hn : gx.length = n) (hk : k < n) (hall : ∀ y ∈ gx.take k, c y.1 = false) (hit : ∀ h : k < gx.length, c gx[k].1 = true) (hr : wr.ownsRow 0 58 3 (.slice (some ⟨g, 0, none⟩) n cap) n (pxV gx)) (hg : w.grownBy wr (some g)) :
    DelAt w wr g n cap gx c k (k + 1) gx := by
  have hk' : k < gx.length := by omega
  refine ⟨hn, ⟨by omega, by omega⟩, ?_, fun _ _ _ _ => rfl, hr, hg⟩
  rw [filt_p c hk', if_pos (hit hk'), List.append_nil]
  exact (List.filter_eq_self.2 fun y hy => by rw [hall y hy]; rfl).symm
theorem DelAt.skip {w wr wx : World} {g n cap : Nat} {gx : PX} {c : Gr → Bool} {i j : Nat} {cur : PX} (h : DelAt w wr g n cap gx c i j cur) (hj : j < n) (hjg : j < gx.length) (hc : c gx[j].1 = true) (hb : Below wr.heap.size wr wx) : DelAt w wx g n cap gx c i (j + 1) cur :=
  ⟨h.len, ⟨by have := h.lt; omega, hj⟩, by rw [filt_p c hjg, if_pos hc, List.append_nil]; exact h.kept, fun k h1 h2 h3 => h.rest k h1 h2 (by omega), row_moved h.row fun b e => hb.block b (h.row.lt b e).2, gbt' h.gr (gb_any hb)⟩
theorem DelAt.keep {w wr wx : World} {g n cap : Nat} {gx : PX} {c : Gr → Bool} {i j : Nat} {cur : PX} (h : DelAt w wr g n cap gx c i j cur) (hj : j < n) (hjg : j < gx.length) (hc : c gx[j].1 = false) (hb : Below wr.heap.size wr wx) :
    DelAt w (((wx.setCell ⟨g, i * 3, none⟩ (.int .i64 gx[j].1.ver)).setCell ⟨g, i * 3 + 1, none⟩ (.int .i64 gx[j].1.unt)).setCell ⟨g, i * 3 + 2, none⟩ (.map (some gx[j].2))) g n cap gx c (i + 1) (j + 1) (cur.set i gx[j]) := by
  have hil : i < cur.length := by have := h.lt; have := h.len; omega
  refine ⟨by rw [List.length_set]; exact h.len, ⟨by have := h.lt; omega, hj⟩, ?_, fun k h1 h2 h3 => ?_, row_set3 (row_moved h.row fun b e => hb.block b (h.row.lt b e).2) hil gx[j], gbt' (gbt' h.gr (gb_any hb)) (set3_grown _ _ _ _ _)⟩
  · rw [filt_p c hjg, if_neg (by rw [hc]; exact Bool.false_ne_true), ← h.kept, List.take_set, List.take_succ_eq_append_getElem hil, List.set_append_right _ _ (by rw [List.length_take]; omega), List.length_take, Nat.min_eq_left (Nat.le_of_lt hil), Nat.sub_self]
    rfl
  · have hk := h.lt
    rw [List.getElem_set_ne (by omega)]
    exact h.rest k (by rw [List.length_set] at h1; exact h1) h2 (by omega)

set_option maxRecDepth 100000 in
set_option maxHeartbeats 4000000 in
theorem delete_any (g B : Nat) (t : Int) (c : Gr → Bool) (eg : ∀ args w, (callFunc g args).run Try.prog w = .ok (.enter g args) w) (hs : Says g B t c) (a : Option Addr) (n cap : Nat) (gx : PX) (w : World) (hn : gx.length = n) (hn2 : n ≤ 1000)
    (hr : w.ownsRow 0 58 3 (.slice a n cap) n (pxV gx)) (hf : ∀ y ∈ gx, I64 y.1.unt) (hB : w.cell? ⟨B, 0, none⟩ = some (.int .i64 t)) (hBa : (Value.slice a n cap).ownBlock ≠ some B) :
    Calls Try.prog 43 #[.slice a n cap, .func (.func g) #[] #[.pointer (some ⟨B, 0, none⟩)]] w fun e w' => e = .returned (.slice a (gx.filter fun y => !c y.1).length cap) ∧
      w'.ownsRow 0 58 3 (.slice a (gx.filter fun y => !c y.1).length cap) (gx.filter fun y => !c y.1).length (pxV (gx.filter fun y => !c y.1)) ∧ w.grownBy w' (Value.slice a n cap).ownBlock := by
  have hBl : B < w.heap.size := World.block_lt_of_cell? w _ hB
  have HR := Lib.hid hr
  have HF := Lib.hid hf
  have HS := Lib.hid hs
  have HB := Lib.hid hB
  have HN := Lib.hid hn
  have HBA := Lib.hid hBa
  clear hr hf hs hB hn hBa
  go_enter Try.func43, Try.ntmps43
  go_upto_region 2 with (go_at_call 45; (with_reducible refine (index_any g B t c eg HS.out a n cap gx w HN.out hn2 HR.out HF.out HB.out).mono ?_); rintro e w1 ⟨k, hk, hall, hit, rfl, hb1⟩)
  have HALL := Lib.hid hall
  have HIT := Lib.hid hit
  have hrow1 := row_moved (w' := w1) HR.out fun b e => hb1.block b (HR.out.lt b e).2
  have HB1 := Lib.hid hb1
  have HROW := Lib.hid hrow1
  clear hall hit hrow1 hb1
  by_cases hkn : k < n
  · have ek : (if k < n then (k : Int) else -1) = (k : Int) := if_pos hkn
    have hk1 : ((k : Int) == -1) = false := by rw [beq_eq_false_iff_ne]; omega
    obtain ⟨gr, rfl, hgl⟩ : ∃ gr, a = some ⟨gr, 0, none⟩ ∧ n ≤ cap := by
      have h := HR.out
      rw [← HN.out] at h
      obtain ⟨gr, h1, _, h2, _⟩ := row_at3 h (i := k) (by rw [HN.out]; exact hkn)
      exact ⟨gr, h1, by rw [← HN.out]; exact h2⟩
    have HBG : Hid (gr ≠ B) := Lib.hid fun e => HBA.out (by rw [e]; rfl)
    have HD0 : Hid (DelAt w w1 gr n cap gx c k (k + 1) gx) := Lib.hid (DelAt.start HN.out hkn HALL.out HIT.out HROW.out (gb_any HB1.out))
    rw [ek]
    clear ek HALL HIT HROW
    go_wp2
    go_loopw [5, 6] (fun iv jv wr => ∃ (i j : Nat) (cur : PX), iv = .int .i64 (i : Int) ∧ jv = .int .i64 (j : Int) ∧ DelAt w wr gr n cap gx c i j cur) (fun _ jv _ => n - (intOf jv).toNat)
    case atStart => exact ⟨k, k + 1, gx, rfl, by go_num, HD0.out⟩
    case round =>
      obtain ⟨i, j, cur, rfl, rfl, hd⟩ := hrel
      clear HD0
      have hlt2 := hd.lt
      have HD := Lib.hid hd
      clear hd
      by_cases hlt : j < n
      · have hjg : j < gx.length := by rw [HN.out]; exact hlt
        have hjc : j < cur.length := by rw [HD.out.len]; exact hlt
        have hrow := HD.out.row
        have hrow' := hrow
        rw [← HD.out.len] at hrow'
        obtain ⟨gr', hge, hgrl, _, d0, d1, d2⟩ := row_at3 hrow' hjc
        obtain rfl : gr = gr' := by injection hge with hge; injection hge
        rw [HD.out.rest j hjc hjg (Nat.le_refl _)] at d0 d1 d2
        obtain ⟨y, hy⟩ : ∃ y, gx[j] = y := ⟨_, rfl⟩
        have hyf := HF.out gx[j] (List.getElem_mem hjg)
        rw [hy] at d0 d1 d2 hyf
        have hBr := HD.out.gr.cell HB.out (a := ⟨B, 0, none⟩) (fun e => HBG.out (by injection e with e; exact e.symm))
        have hBw : B < wr.heap.size := World.block_lt_of_cell? wr _ hBr
        have hj0 : (0 : Int) ≤ (j : Int) := by omega
        have hj1 : (j : Int) < (n : Int) := by omega
        have hi1 : (i : Int) < (n : Int) := by omega
        have HY := Lib.hid hy
        have HYF := Lib.hid hyf
        obtain ⟨m, hm⟩ : ∃ m, y.2 = m := ⟨_, rfl⟩
        have HM := Lib.hid hm
        rw [hm] at d2
        have hb0 : Below wr.heap.size wr (wr.alloc (.cells #[.int .i64 y.1.ver, .int .i64 y.1.unt, .map (some m)] 58)) := (Below.refl _ wr).alloc (Nat.le_refl _) _
        have HBR : Hid ((wr.alloc (.cells #[.int .i64 y.1.ver, .int .i64 y.1.unt, .map (some m)] 58)).cell? ⟨B, 0, none⟩ = some (.int .i64 t)) := Lib.hid ((hb0.cell (p := ⟨B, 0, none⟩) hBw).trans hBr)
        have hn2' := new_at wr (.cells #[.int .i64 y.1.ver, .int .i64 y.1.unt, .map (some m)] 58)
        have HN2 := Lib.hid hn2'
        have HB0 := Lib.hid hb0
        have hgs : wr.heap.size < (wr.alloc (.cells #[.int .i64 y.1.ver, .int .i64 y.1.unt, .map (some m)] 58)).heap.size := by simp
        clear hrow hrow' hy hyf hBr hge hm hn2' hb0
        rcases hx : c y.1 with _ | _
        · have HX := Lib.hid hx
          clear hx
          have hic : i < cur.length := by rw [HD.out.len]; omega
          have hrow := HD.out.row
          have hrow' := hrow
          rw [← HD.out.len] at hrow'
          obtain ⟨gr', hge, _, _, p0, p1, p2⟩ := row_at3 hrow' hic
          obtain rfl : gr = gr' := by injection hge with hge; injection hge
          have P0 := Lib.hid p0
          have P1 := Lib.hid p1
          have P2 := Lib.hid p2
          have PF : Hid (∀ o, wr.frozen? ⟨gr, o, none⟩ = false) := Lib.hid fun o => hrow.frozenAt o
          clear hrow hrow' hge p0 p1 p2
          go_wp2_with (go_at_fn g; (with_reducible refine (HS.out.is _ y.1 m HBR.out HYF.out HX.out).mono ?_); rintro e w2 ⟨rfl, hb2⟩
                       have e0 := (hb2.cell (p := ⟨wr.heap.size, 0, none⟩) hgs).trans (by rw [cell_of_row _ _ _ _ _ _ HN2.out]; rfl : _ = some (.int .i64 y.1.ver))
                       have e1 := (hb2.cell (p := ⟨wr.heap.size, 1, none⟩) hgs).trans (by rw [cell_of_row _ _ _ _ _ _ HN2.out]; rfl : _ = some (.int .i64 y.1.unt))
                       have e2 := (hb2.cell (p := ⟨wr.heap.size, 2, none⟩) hgs).trans (by rw [cell_of_row _ _ _ _ _ _ HN2.out]; rfl : _ = some (.map (some m)))
                       have HB2 := Lib.hid (bt HB0.out hb2)
                       have p0 := (HB2.out.cell (p := ⟨gr, i * 3, none⟩) hgrl).trans P0.out
                       have p1 := (HB2.out.cell (p := ⟨gr, i * 3 + 1, none⟩) hgrl).trans P1.out
                       have p2 := (HB2.out.cell (p := ⟨gr, i * 3 + 2, none⟩) hgrl).trans P2.out
                       have z0 := (HB2.out.frozen (p := ⟨gr, i * 3, none⟩) hgrl).trans (PF.out _)
                       have z1 := (HB2.out.frozen (p := ⟨gr, i * 3 + 1, none⟩) hgrl).trans (PF.out _)
                       have z2 := (HB2.out.frozen (p := ⟨gr, i * 3 + 2, none⟩) hgrl).trans (PF.out _)
                       clear hb2)
          have HK := Lib.hid (HD.out.keep hlt hjg (by rw [HY.out]; exact HX.out) HB2.out)
          rw [HY.out, HM.out] at HK
          go_roundw
          case rel => exact ⟨i + 1, j + 1, cur.set i y, by go_num, by go_num, HK.out⟩
          case measure => simp [intOf]; omega
        · have HX := Lib.hid hx
          clear hx
          go_wp2_with (go_at_fn g; (with_reducible refine (HS.out.is _ y.1 m HBR.out HYF.out HX.out).mono ?_); rintro e w2 ⟨rfl, hb2⟩)
          go_roundw
          case rel => exact ⟨i, j + 1, cur, rfl, by go_num, HD.out.skip hlt hjg (by rw [HY.out]; exact HX.out) (bt HB0.out hb2)⟩
          case measure => simp [intOf]; omega
      · obtain rfl : j = n := by omega
        obtain ⟨wz, hcl, hrz, hgz⟩ := run_clear3 HD.out.row hlt2.1 (cap - i)
        have hkp := HD.out.kept
        have hlk : (cur.take i).length = i := by rw [List.length_take, HD.out.len]; omega
        rw [← HN.out, List.take_length] at hkp
        rw [hkp] at hrz hlk
        have HRZ := Lib.hid hrz
        have HGZ := Lib.hid hgz
        have HLK := Lib.hid hlk
        have hi0 : (0 : Int) ≤ (i : Int) := by omega
        have hi1 : (i : Int) ≤ (j : Int) := by omega
        have hi2 : (i : Int) ≤ (cap : Int) := by omega
        have hi3 : i ≤ j := by omega
        have hi4 : i ≤ cap := by omega
        clear hkp hrz hgz hlk hlt
        go_wp2
        go_ret
        rw [HLK.out]
        exact ⟨rfl, HRZ.out, gbt' HD.out.gr HGZ.out⟩
  · obtain rfl : k = n := by omega
    have ek : (if k < k then (k : Int) else -1) = -1 := if_neg (by omega)
    have HE : Hid ((gx.filter fun y => !c y.1) = gx) := Lib.hid (List.filter_eq_self.2 fun y hy => by
      have := HALL.out y (by rw [← HN.out, List.take_length]; exact hy)
      rw [this]; rfl)
    rw [ek]
    clear ek hkn
    go_wp2
    go_ret
    rw [HE.out, HN.out]
    exact ⟨rfl, HROW.out, gb_any HB1.out⟩
end Go.Proofs.Ytgkpkegbjkjhiaa
