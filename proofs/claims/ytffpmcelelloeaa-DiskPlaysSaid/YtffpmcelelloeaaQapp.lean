/-
  The document's own disk: Append.
-/
import Derived.Test.YtffpmcelelloeaaQren
namespace Go.Proofs.Ytffpmcelelloeaa
open Go.RowKit Gm

theorem FBox.whole {w : World} {g : Nat} {f : Fl} (h : FBox w g f) (x : Fl) : FBox (((w.setCell ⟨g, 0, none⟩ (.string (S x.nm))).setCell ⟨g, 1, none⟩ (.string (S x.tx))).setCell ⟨g, 2, none⟩ (.int .i64 (x.sy : Int))) g x := by
  unfold FBox at h ⊢
  simp [World.setCell, Array.getElem?_modify, h]

set_option maxRecDepth 100000 in
set_option maxHeartbeats 4000000 in
theorem qappend_any (p : Nat) (D : Dk) (R : Nat → Prop) (k s : Bs) (w : World) (h : QDisk w p D R) (ha : D.acts ≤ 1099511627776) (hk : k.length ≤ 1048576) (hs : s.length ≤ 1048576) :
    Calls Try.prog 15 #[.pointer (some ⟨p, 0, none⟩), .string (S k), .string (S s)] w fun e w' => e = .returned (.int .i64 (appendD D k s).2) ∧ Turn QDisk w w' p (appendD D k s).1 R := by
  obtain ⟨ok, v, hR, hq⟩ := h
  have HR := Lib.hid hR
  have HQ := Lib.hid hq
  have hok' := ok.append k s
  have hl4 := ok.fs.len
  have HOK := Lib.hid ok
  have sk := S_size k
  have ss := S_size s
  obtain ⟨a, cap, hv⟩ := hq.form
  subst hv
  unfold appendD at hok' ⊢
  rcases hg : goesD D with _ | _
  · rw [done_no hg] at hok' ⊢
    have HG := Lib.hid hg
    have HO := Lib.hid hok'
    clear hg hok' hR hq ok
    go_enter Try.func15, Try.ntmps15
    go_wp2_with (go_at_call 38; (have hc := qact_any p _ D w HQ.out ha; rw [errD_no HG.out] at hc; with_reducible refine hc.mono ?_); rintro e w1 ⟨rfl, q1, g1⟩; have Q1 := Lib.hid q1; clear q1)
    go_ret
    exact ⟨rfl, q_grown HR.out HO.out Q1.out g1 (fun b e => .inl e)⟩
  · rw [done_ok hg] at hok' ⊢
    have HG := Lib.hid hg
    have HO := Lib.hid hok'
    rcases hn : okName k with _ | _
    · have hr : appendF D.fs k s = (D.fs, 1) := by unfold appendF; rw [hn]; rfl
      rw [hr] at HO ⊢
      have hbad : (k.length : Int) < 1 ∨ (¬ (k.length : Int) < 1 ∧ 12 < (k.length : Int)) := by
        unfold okName at hn; simp at hn; omega
      clear hg hok' hR hq ok hr hn
      rcases hbad with hb | ⟨hb, hb2⟩
      all_goals
        go_enter Try.func15, Try.ntmps15
        go_wp2_with (go_at_call 38; (have hc := qact_any p _ D w HQ.out ha; rw [errD_ok HG.out, goes_act HG.out] at hc; with_reducible refine hc.mono ?_); rintro e w1 ⟨rfl, q1, g1⟩; have Q1 := Lib.hid q1; clear q1)
        go_ret
        exact ⟨rfl, q_grown HR.out HO.out Q1.out g1 (fun b e => .inl e)⟩
    · have hgood : ¬ (k.length : Int) < 1 ∧ ¬ 12 < (k.length : Int) := by
        unfold okName at hn; simp at hn; omega
      obtain ⟨hb, hb2⟩ := hgood
      have e0 : S [] = { data := #[] } := rfl
      have e00 := S_size []
      rcases hf : findF D.fs k with _ | f
      · have HF := Lib.hid hf
        rcases Nat.lt_or_ge D.fs.length 4 with h4 | h4
        · rcases Nat.lt_or_ge 65536 s.length with hsl | hsl
          · have hr : appendF D.fs k s = (D.fs, 102) := by unfold appendF; rw [hn, if_pos rfl, hf]; dsimp only; rw [if_pos (.inr hsl)]
            rw [hr] at HO ⊢
            have t4 : ¬ (D.fs.length : Int) ≥ 4 := by omega
            have ts : (s.length : Int) > 65536 := by omega
            clear hg hok' hR hq ok hr hf hn
            go_enter Try.func15, Try.ntmps15
            go_wp2_with (go_at_call 38; (have hc := qact_any p _ D w HQ.out ha; rw [errD_ok HG.out, goes_act HG.out] at hc; with_reducible refine hc.mono ?_); rintro e w1 ⟨rfl, q1, g1⟩; have Q1 := Lib.hid q1; clear q1)
            obtain ⟨wa, hwa⟩ : ∃ W, w1.alloc (.cells #[.string (S k), .string { data := #[] }, .int .i64 0] 67) = W := ⟨_, rfl⟩
            have hBa : Below w1.heap.size w1 wa := by rw [← hwa]; exact (Below.refl _ w1).alloc (Nat.le_refl _) _
            have Qa := Lib.hid (Q1.out.below hBa)
            have hBx : FBox wa w1.heap.size ⟨k, [], 0⟩ := by rw [← hwa]; exact FBox.new w1 ⟨k, [], 0⟩
            rw [hwa]
            have HBa := Lib.hid hBx
            have ga := gb_new g1 hBa
            have hwz : w1.heap.size < wa.heap.size := hBx.cells.2.2.2.2
            have hzw := g1.size
            have hpl : p < w1.heap.size := Q1.out.lt.1
            have hvl : ∀ b, (Value.slice a D.fs.length cap).ownBlock = some b → b < w1.heap.size := Q1.out.lt.2
            obtain ⟨g0, hg0⟩ : ∃ x, w1.heap.size = x := ⟨_, rfl⟩
            rw [hg0] at HBa hwz hzw hpl hvl ⊢
            have HVL := Lib.hid hvl
            have hgne : g0 ≠ p := by omega
            clear hBx hwa hBa Q1 hg0 hvl
            obtain ⟨c0, _, _, _, _, hpa⟩ := Qa.out.cells
            obtain ⟨d0, d1, d2, d3, d4⟩ := HBa.out.cells
            have df0 := d3 0
            have df1 := d3 1
            have df2 := d3 2
            clear d3
            go_wp2_with (go_at_call 39; (with_reducible refine (qat_no Qa.out hl4 HF.out).mono ?_); rintro e w2 ⟨rfl, rfl⟩)
            go_ret
            exact ⟨rfl, q_grown HR.out HO.out Qa.out ga (fun b e => .inl e)⟩
          · have hr : appendF D.fs k s = (putF D.fs ⟨k, s, 0⟩, 0) := by unfold appendF; rw [hn, if_pos rfl, hf]; dsimp only; rw [if_neg (by omega)]
            rw [hr] at HO ⊢
            have t4 : ¬ (D.fs.length : Int) ≥ 4 := by omega
            have ts : ¬ (s.length : Int) > 65536 := by omega
            have qs : ({ data := #[] } : ByteArray) ++ S s = S s := S_app [] s
            have nb : ¬ 9223372036854775807 < s.length := by omega
            clear hg hok' hR hq ok hr hf hn
            go_enter Try.func15, Try.ntmps15
            go_wp2_with (go_at_call 38; (have hc := qact_any p _ D w HQ.out ha; rw [errD_ok HG.out, goes_act HG.out] at hc; with_reducible refine hc.mono ?_); rintro e w1 ⟨rfl, q1, g1⟩; have Q1 := Lib.hid q1; clear q1)
            obtain ⟨wa, hwa⟩ : ∃ W, w1.alloc (.cells #[.string (S k), .string { data := #[] }, .int .i64 0] 67) = W := ⟨_, rfl⟩
            have hBa : Below w1.heap.size w1 wa := by rw [← hwa]; exact (Below.refl _ w1).alloc (Nat.le_refl _) _
            have Qa := Lib.hid (Q1.out.below hBa)
            have hBx : FBox wa w1.heap.size ⟨k, [], 0⟩ := by rw [← hwa]; exact FBox.new w1 ⟨k, [], 0⟩
            rw [hwa]
            have HBa := Lib.hid hBx
            have ga := gb_new g1 hBa
            have hwz : w1.heap.size < wa.heap.size := hBx.cells.2.2.2.2
            have hzw := g1.size
            have hpl : p < w1.heap.size := Q1.out.lt.1
            have hvl : ∀ b, (Value.slice a D.fs.length cap).ownBlock = some b → b < w1.heap.size := Q1.out.lt.2
            obtain ⟨g0, hg0⟩ : ∃ x, w1.heap.size = x := ⟨_, rfl⟩
            rw [hg0] at HBa hwz hzw hpl hvl ⊢
            have HVL := Lib.hid hvl
            have hgne : g0 ≠ p := by omega
            clear hBx hwa hBa Q1 hg0 hvl
            obtain ⟨c0, _, _, _, _, hpa⟩ := Qa.out.cells
            obtain ⟨d0, d1, d2, d3, d4⟩ := HBa.out.cells
            have df0 := d3 0
            have df1 := d3 1
            have df2 := d3 2
            clear d3
            have Q5 := Lib.hid (Qa.out.far (a := ⟨g0, 1, none⟩) (.string (S s)) hgne (fun b e => by have := HVL.out b e; dsimp only; omega))
            obtain ⟨x0, x1, x2, _, x4⟩ := (HBa.out.text s).cells
            dsimp only at x0 x1 x2
            go_wp2_with (first
              | (go_at_call 39; (with_reducible refine (qat_no Qa.out hl4 HF.out).mono ?_); rintro e w2 ⟨rfl, rfl⟩)
              | (go_at_call 40; (have hc := qput_any p _ _ ⟨k, s, 0⟩ _ Q5.out HOK.out.fs.rise hl4; rw [show fileV ⟨k, s, 0⟩ = .agg #[.string (S k), .string (S s), .int .i64 0] from rfl] at hc; with_reducible refine hc.mono ?_); rintro e w6 ⟨rfl, v6, q6, g6, n6⟩; have Q6 := Lib.hid q6; clear q6))
            go_ret
            have g5 := gb_far w wa ga (a := ⟨g0, 1, none⟩) (.string (S s)) hzw
            exact ⟨rfl, q_grown HR.out HO.out Q6.out (gbt g5 g6) (fun b e => .inr (Nat.le_trans g5.size (n6 b e)))⟩
        · have hr : appendF D.fs k s = (D.fs, 102) := by unfold appendF; rw [hn, if_pos rfl, hf]; dsimp only; rw [if_pos (.inl h4)]
          rw [hr] at HO ⊢
          have t4 : (D.fs.length : Int) ≥ 4 := by omega
          clear hg hok' hR hq ok hr hf hn
          go_enter Try.func15, Try.ntmps15
          go_wp2_with (go_at_call 38; (have hc := qact_any p _ D w HQ.out ha; rw [errD_ok HG.out, goes_act HG.out] at hc; with_reducible refine hc.mono ?_); rintro e w1 ⟨rfl, q1, g1⟩; have Q1 := Lib.hid q1; clear q1)
          obtain ⟨wa, hwa⟩ : ∃ W, w1.alloc (.cells #[.string (S k), .string { data := #[] }, .int .i64 0] 67) = W := ⟨_, rfl⟩
          have hBa : Below w1.heap.size w1 wa := by rw [← hwa]; exact (Below.refl _ w1).alloc (Nat.le_refl _) _
          have Qa := Lib.hid (Q1.out.below hBa)
          have hBx : FBox wa w1.heap.size ⟨k, [], 0⟩ := by rw [← hwa]; exact FBox.new w1 ⟨k, [], 0⟩
          rw [hwa]
          have HBa := Lib.hid hBx
          have ga := gb_new g1 hBa
          have hwz : w1.heap.size < wa.heap.size := hBx.cells.2.2.2.2
          have hzw := g1.size
          have hpl : p < w1.heap.size := Q1.out.lt.1
          have hvl : ∀ b, (Value.slice a D.fs.length cap).ownBlock = some b → b < w1.heap.size := Q1.out.lt.2
          obtain ⟨g0, hg0⟩ : ∃ x, w1.heap.size = x := ⟨_, rfl⟩
          rw [hg0] at HBa hwz hzw hpl hvl ⊢
          have HVL := Lib.hid hvl
          have hgne : g0 ≠ p := by omega
          clear hBx hwa hBa Q1 hg0 hvl
          obtain ⟨c0, _, _, _, _, hpa⟩ := Qa.out.cells
          obtain ⟨d0, d1, d2, d3, d4⟩ := HBa.out.cells
          have df0 := d3 0
          have df1 := d3 1
          have df2 := d3 2
          clear d3
          go_wp2_with (go_at_call 39; (with_reducible refine (qat_no Qa.out hl4 HF.out).mono ?_); rintro e w2 ⟨rfl, rfl⟩)
          go_ret
          exact ⟨rfl, q_grown HR.out HO.out Qa.out ga (fun b e => .inl e)⟩
      · have HF := Lib.hid hf
        rcases Nat.lt_or_ge 65536 (f.tx.length + s.length) with hsl | hsl
        · have hof := (ok.fs.of_find hf).1
          have HNM := Lib.hid (ok.fs.of_find hf).2
          have hft := hof.tx
          clear hof
          have sft := S_size f.tx
          have hr : appendF D.fs k s = (D.fs, 102) := by unfold appendF; rw [hn, if_pos rfl, hf]; dsimp only; rw [if_pos hsl]
          rw [hr] at HO ⊢
          have ts : (s.length : Int) > 65536 - (f.tx.length : Int) := by omega
          clear hg hok' hR hq ok hr hf hn
          go_enter Try.func15, Try.ntmps15
          go_wp2_with (go_at_call 38; (have hc := qact_any p _ D w HQ.out ha; rw [errD_ok HG.out, goes_act HG.out] at hc; with_reducible refine hc.mono ?_); rintro e w1 ⟨rfl, q1, g1⟩; have Q1 := Lib.hid q1; clear q1)
          obtain ⟨wa, hwa⟩ : ∃ W, w1.alloc (.cells #[.string (S k), .string { data := #[] }, .int .i64 0] 67) = W := ⟨_, rfl⟩
          have hBa : Below w1.heap.size w1 wa := by rw [← hwa]; exact (Below.refl _ w1).alloc (Nat.le_refl _) _
          have Qa := Lib.hid (Q1.out.below hBa)
          have hBx : FBox wa w1.heap.size ⟨k, [], 0⟩ := by rw [← hwa]; exact FBox.new w1 ⟨k, [], 0⟩
          rw [hwa]
          have HBa := Lib.hid hBx
          have ga := gb_new g1 hBa
          have hwz : w1.heap.size < wa.heap.size := hBx.cells.2.2.2.2
          have hzw := g1.size
          have hpl : p < w1.heap.size := Q1.out.lt.1
          have hvl : ∀ b, (Value.slice a D.fs.length cap).ownBlock = some b → b < w1.heap.size := Q1.out.lt.2
          obtain ⟨g0, hg0⟩ : ∃ x, w1.heap.size = x := ⟨_, rfl⟩
          rw [hg0] at HBa hwz hzw hpl hvl ⊢
          have HVL := Lib.hid hvl
          have hgne : g0 ≠ p := by omega
          clear hBx hwa hBa Q1 hg0 hvl
          obtain ⟨c0, _, _, _, _, hpa⟩ := Qa.out.cells
          obtain ⟨d0, d1, d2, d3, d4⟩ := HBa.out.cells
          have df0 := d3 0
          have df1 := d3 1
          have df2 := d3 2
          clear d3
          go_wp2_with (first
            | (go_at_call 39; (with_reducible refine (qat_yes Qa.out hl4 HF.out).mono ?_); rintro e w2 ⟨⟨i, hi, rfl, hfi⟩, rfl⟩
               have hi1 : (0 : Int) ≤ (i : Int) := by omega
               have hi' : i < D.fs.length := hi
               have hi2 : (i : Int) < (D.fs.length : Int) := by omega
               have hi3 : ¬ (i : Int) < 0 := by omega
               obtain ⟨g, cap', hv, hrest⟩ := Qa.out.file hi
               clear hrest
               have hva : a = some ⟨g, 0, none⟩ := by injection hv
               subst hva
               obtain ⟨hgl, hgp, f0, f1, f2⟩ := Qa.out.fileg hi hfi
               have HB3 := Lib.hid (HBa.out.whole f)
               obtain ⟨y0, y1, y2, y3, y4⟩ := HB3.out.cells
               have yf1 := y3 1
               have Q3 := Lib.hid (((Qa.out.far (a := ⟨g0, 0, none⟩) (.string (S f.nm)) hgne (fun b e => by have := HVL.out b e; dsimp only; omega)).far (a := ⟨g0, 1, none⟩) (.string (S f.tx)) hgne (fun b e => by have := HVL.out b e; dsimp only; omega)).far (a := ⟨g0, 2, none⟩) (.int .i64 (f.sy : Int)) hgne (fun b e => by have := HVL.out b e; dsimp only; omega))
               have G3 := Lib.hid (gb_far w _ (gb_far w _ (gb_far w wa ga (a := ⟨g0, 0, none⟩) (.string (S f.nm)) hzw) (a := ⟨g0, 1, none⟩) (.string (S f.tx)) hzw) (a := ⟨g0, 2, none⟩) (.int .i64 (f.sy : Int)) hzw)
               obtain ⟨z0, _, _, _, _, _⟩ := Q3.out.cells
               clear hv hfi y3))
          go_ret
          exact ⟨rfl, q_grown HR.out HO.out Q3.out G3.out (fun b e => .inl e)⟩
        · have hof := (ok.fs.of_find hf).1
          have HNM := Lib.hid (ok.fs.of_find hf).2
          have hft := hof.tx
          clear hof
          have sft := S_size f.tx
          have hr : appendF D.fs k s = (putF D.fs ⟨k, f.tx ++ s, f.sy⟩, 0) := by unfold appendF; rw [hn, if_pos rfl, hf]; dsimp only; rw [if_neg (by omega)]
          rw [hr] at HO ⊢
          have ts : ¬ (s.length : Int) > 65536 - (f.tx.length : Int) := by omega
          have qs := S_app f.tx s
          have nb : ¬ 9223372036854775807 < f.tx.length + s.length := by omega
          clear hg hok' hR hq ok hr hf hn
          go_enter Try.func15, Try.ntmps15
          go_wp2_with (go_at_call 38; (have hc := qact_any p _ D w HQ.out ha; rw [errD_ok HG.out, goes_act HG.out] at hc; with_reducible refine hc.mono ?_); rintro e w1 ⟨rfl, q1, g1⟩; have Q1 := Lib.hid q1; clear q1)
          obtain ⟨wa, hwa⟩ : ∃ W, w1.alloc (.cells #[.string (S k), .string { data := #[] }, .int .i64 0] 67) = W := ⟨_, rfl⟩
          have hBa : Below w1.heap.size w1 wa := by rw [← hwa]; exact (Below.refl _ w1).alloc (Nat.le_refl _) _
          have Qa := Lib.hid (Q1.out.below hBa)
          have hBx : FBox wa w1.heap.size ⟨k, [], 0⟩ := by rw [← hwa]; exact FBox.new w1 ⟨k, [], 0⟩
          rw [hwa]
          have HBa := Lib.hid hBx
          have ga := gb_new g1 hBa
          have hwz : w1.heap.size < wa.heap.size := hBx.cells.2.2.2.2
          have hzw := g1.size
          have hpl : p < w1.heap.size := Q1.out.lt.1
          have hvl : ∀ b, (Value.slice a D.fs.length cap).ownBlock = some b → b < w1.heap.size := Q1.out.lt.2
          obtain ⟨g0, hg0⟩ : ∃ x, w1.heap.size = x := ⟨_, rfl⟩
          rw [hg0] at HBa hwz hzw hpl hvl ⊢
          have HVL := Lib.hid hvl
          have hgne : g0 ≠ p := by omega
          clear hBx hwa hBa Q1 hg0 hvl
          obtain ⟨c0, _, _, _, _, hpa⟩ := Qa.out.cells
          obtain ⟨d0, d1, d2, d3, d4⟩ := HBa.out.cells
          have df0 := d3 0
          have df1 := d3 1
          have df2 := d3 2
          clear d3
          go_wp2_with (first
            | (go_at_call 39; (with_reducible refine (qat_yes Qa.out hl4 HF.out).mono ?_); rintro e w2 ⟨⟨i, hi, rfl, hfi⟩, rfl⟩
               have hi1 : (0 : Int) ≤ (i : Int) := by omega
               have hi' : i < D.fs.length := hi
               have hi2 : (i : Int) < (D.fs.length : Int) := by omega
               have hi3 : ¬ (i : Int) < 0 := by omega
               obtain ⟨g, cap', hv, hrest⟩ := Qa.out.file hi
               clear hrest
               have hva : a = some ⟨g, 0, none⟩ := by injection hv
               subst hva
               obtain ⟨hgl, hgp, f0, f1, f2⟩ := Qa.out.fileg hi hfi
               have HB3 := Lib.hid (HBa.out.whole f)
               obtain ⟨y0, y1, y2, y3, y4⟩ := HB3.out.cells
               have yf1 := y3 1
               have Q3 := Lib.hid (((Qa.out.far (a := ⟨g0, 0, none⟩) (.string (S f.nm)) hgne (fun b e => by have := HVL.out b e; dsimp only; omega)).far (a := ⟨g0, 1, none⟩) (.string (S f.tx)) hgne (fun b e => by have := HVL.out b e; dsimp only; omega)).far (a := ⟨g0, 2, none⟩) (.int .i64 (f.sy : Int)) hgne (fun b e => by have := HVL.out b e; dsimp only; omega))
               have G3 := Lib.hid (gb_far w _ (gb_far w _ (gb_far w wa ga (a := ⟨g0, 0, none⟩) (.string (S f.nm)) hzw) (a := ⟨g0, 1, none⟩) (.string (S f.tx)) hzw) (a := ⟨g0, 2, none⟩) (.int .i64 (f.sy : Int)) hzw)
               obtain ⟨z0, _, _, _, _, _⟩ := Q3.out.cells
               have Q5 := Lib.hid (Q3.out.far (a := ⟨g0, 1, none⟩) (.string (S (f.tx ++ s))) hgne (fun b e => by have := HVL.out b e; dsimp only; omega))
               have G5 := Lib.hid (gb_far w _ G3.out (a := ⟨g0, 1, none⟩) (.string (S (f.tx ++ s))) hzw)
               obtain ⟨x0, x1, x2, _, x4⟩ := (HB3.out.text (f.tx ++ s)).cells
               dsimp only at x0 x1 x2
               clear hv hfi y3)
            | (go_at_call 40; (have hc := qput_any p _ _ ⟨f.nm, f.tx ++ s, f.sy⟩ _ Q5.out HOK.out.fs.rise hl4; with_reducible refine hc.mono ?_); rintro e w6 ⟨rfl, v6, q6, g6, n6⟩; have Q6 := Lib.hid q6; clear q6))
          go_ret
          rw [← HNM.out]
          exact ⟨rfl, q_grown HR.out (by have h := HO.out; rw [← HNM.out] at h; exact h) Q6.out (gbt G5.out g6) (fun b e => .inr (Nat.le_trans G5.out.size (n6 b e)))⟩
end Go.Proofs.Ytffpmcelelloeaa
