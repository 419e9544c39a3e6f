/-
  The document's own disk: Rename, Append.
-/
import Derived.Test.YtffpmcelelloeaaQmeth
namespace Go.Proofs.Ytffpmcelelloeaa
open Go.RowKit Gm

/-- A block of the call's own that holds a file. -/
def FBox (w : World) (g : Nat) (f : Fl) : Prop := w.heap[g]? = some (.cells #[.string (S f.nm), .string (S f.tx), .int .i64 (f.sy : Int)] 67 (0, 0))
theorem FBox.cells {w : World} {g : Nat} {f : Fl} (h : FBox w g f) : w.cell? ⟨g, 0, none⟩ = some (.string (S f.nm)) ∧ w.cell? ⟨g, 1, none⟩ = some (.string (S f.tx)) ∧ w.cell? ⟨g, 2, none⟩ = some (.int .i64 (f.sy : Int)) ∧ (∀ i, w.frozen? ⟨g, i, none⟩ = false) ∧ g < w.heap.size := by
  obtain ⟨b0, b1, b2, b3⟩ := box_at h
  exact ⟨b0, b1, b2, fun i => by simp [World.frozen?, show w.heap[g]? = _ from h], b3⟩
theorem FBox.new (w : World) (f : Fl) : FBox (w.alloc (.cells #[.string (S f.nm), .string (S f.tx), .int .i64 (f.sy : Int)] 67)) w.heap.size f := new_at w _
theorem FBox.grown {w w' : World} {g p : Nat} {f : Fl} (h : FBox w g f) (hg : w.grownBy w' (some p)) (hne : g ≠ p) : FBox w' g f :=
  (hg.block g (Array.getElem?_eq_some_iff.1 h).1 (fun e => hne (by injection e))).trans h
theorem FBox.name {w : World} {g : Nat} {f : Fl} (h : FBox w g f) (k : Bs) : FBox (w.setCell ⟨g, 0, none⟩ (.string (S k))) g ⟨k, f.tx, f.sy⟩ := by
  unfold FBox at h ⊢
  simp [World.setCell, Array.getElem?_modify, h]
theorem FBox.text {w : World} {g : Nat} {f : Fl} (h : FBox w g f) (k : Bs) : FBox (w.setCell ⟨g, 1, none⟩ (.string (S k))) g ⟨f.nm, k, f.sy⟩ := by
  unfold FBox at h ⊢
  simp [World.setCell, Array.getElem?_modify, h]
/-- The disk abides a write beside it. -/
theorem QAt.far {w : World} {p : Nat} {v : Value} {D : Dk} (h : QAt w p v D) {a : Addr} (u : Value) (h1 : a.block ≠ p) (h2 : ∀ b, v.ownBlock = some b → b ≠ a.block) : QAt (w.setCell a u) p v D :=
  h.keep fun b e => Below.heap_setCell _ _ _ b (by
    rcases e with rfl | e
    · exact fun e => h1 e.symm
    · exact h2 b e)
theorem gb_far (w w1 : World) {row : Option Nat} (h : w.grownBy w1 row) {a : Addr} (u : Value) (hl : w.heap.size ≤ a.block) : w.grownBy (w1.setCell a u) row :=
  ⟨h.os, h.tape, h.output, by have := h.size; simp [World.setCell]; exact this, fun k hk hn => (Below.heap_setCell _ _ _ k (by omega)).trans (h.block k hk hn)⟩

set_option maxRecDepth 100000 in
set_option maxHeartbeats 4000000 in
theorem qrename_any (p : Nat) (D : Dk) (R : Nat → Prop) (k j : Bs) (w : World) (h : QDisk w p D R) (ha : D.acts ≤ 1099511627776) (hj : j.length ≤ 1048576) :
    Calls Try.prog 19 #[.pointer (some ⟨p, 0, none⟩), .string (S k), .string (S j)] w fun e w' => e = .returned (.int .i64 (renameD D k j).2) ∧ Turn QDisk w w' p (renameD D k j).1 R := by
  obtain ⟨ok, v, hR, hq⟩ := h
  have HR := Lib.hid hR
  have HQ := Lib.hid hq
  have hok' := ok.rename k j
  have hl4 := ok.fs.len
  have HOK := Lib.hid ok
  have sj := S_size j
  obtain ⟨a, cap, hv⟩ := hq.form
  subst hv
  unfold renameD at hok' ⊢
  rcases hg : goesD D with _ | _
  · rw [done_no hg] at hok' ⊢
    have HG := Lib.hid hg
    have HO := Lib.hid hok'
    clear hg hok' hR hq ok
    go_enter Try.func19, Try.ntmps19
    go_wp2_with (go_at_call 38; (have hc := qact_any p _ D w HQ.out ha; rw [errD_no HG.out] at hc; with_reducible refine hc.mono ?_); rintro e w1 ⟨rfl, q1, g1⟩; have Q1 := Lib.hid q1; clear q1)
    go_ret
    exact ⟨rfl, q_grown HR.out HO.out Q1.out g1 (fun b e => .inl e)⟩
  · rw [done_ok hg] at hok' ⊢
    have HG := Lib.hid hg
    have HO := Lib.hid hok'
    rcases hf : findF D.fs k with _ | f
    · have hr : renameF D.fs k j = (D.fs, 101) := by unfold renameF; rw [hf]
      rw [hr] at HO ⊢
      have HF := Lib.hid hf
      clear hg hok' hR hq ok hr hf
      go_enter Try.func19, Try.ntmps19
      go_wp2_with (first
        | (go_at_call 38; (have hc := qact_any p _ D w HQ.out ha; rw [errD_ok HG.out, goes_act HG.out] at hc; with_reducible refine hc.mono ?_); rintro e w1 ⟨rfl, q1, g1⟩; have Q1 := Lib.hid q1; clear q1)
        | (go_at_call 39; (with_reducible refine (qat_no Q1.out hl4 HF.out).mono ?_); rintro e w2 ⟨rfl, rfl⟩))
      go_ret
      exact ⟨rfl, q_grown HR.out HO.out Q1.out g1 (fun b e => .inl e)⟩
    · have HF := Lib.hid hf
      rcases hn : okName j with _ | _
      · have hr : renameF D.fs k j = (D.fs, 1) := by unfold renameF; rw [hf, hn]; rfl
        rw [hr] at HO ⊢
        have hbad : (j.length : Int) < 1 ∨ (¬ (j.length : Int) < 1 ∧ 12 < (j.length : Int)) := by
          unfold okName at hn; simp at hn; omega
        clear hg hok' hR hq ok hr hf hn
        rcases hbad with hb | ⟨hb, hb2⟩
        all_goals
          go_enter Try.func19, Try.ntmps19
          go_wp2_with (first
            | (go_at_call 38; (have hc := qact_any p _ D w HQ.out ha; rw [errD_ok HG.out, goes_act HG.out] at hc; with_reducible refine hc.mono ?_); rintro e w1 ⟨rfl, q1, g1⟩; have Q1 := Lib.hid q1; clear q1)
            | (go_at_call 39; (with_reducible refine (qat_yes Q1.out hl4 HF.out).mono ?_); rintro e w2 ⟨⟨i, hi, rfl, _⟩, rfl⟩; have hi0 : ¬ (i : Int) < 0 := by omega))
          go_ret
          exact ⟨rfl, q_grown HR.out HO.out Q1.out g1 (fun b e => .inl e)⟩
      · have hr : renameF D.fs k j = (putF (dropF D.fs k) ⟨j, f.tx, f.sy⟩, 0) := by unfold renameF; rw [hf, hn]; rfl
        rw [hr] at HO ⊢
        have hgood : ¬ (j.length : Int) < 1 ∧ ¬ 12 < (j.length : Int) := by
          unfold okName at hn; simp at hn; omega
        obtain ⟨hb, hb2⟩ := hgood
        have hd4 := Nat.le_trans (drop_len D.fs k) hl4
        clear hg hok' hR hq ok hr hf hn
        go_enter Try.func19, Try.ntmps19
        go_wp2_with (first
          | (go_at_call 38; (have hc := qact_any p _ D w HQ.out ha; rw [errD_ok HG.out, goes_act HG.out] at hc; with_reducible refine hc.mono ?_); rintro e w1 ⟨rfl, q1, g1⟩; have Q1 := Lib.hid q1; clear q1)
          | (go_at_call 39; (with_reducible refine (qat_yes Q1.out hl4 HF.out).mono ?_); rintro e w2 ⟨⟨i, hi, rfl, hfi⟩, rfl⟩
             have hi0 : ¬ (i : Int) < 0 := by omega
             have hi1 : (0 : Int) ≤ (i : Int) := by omega
             have hi' : i < D.fs.length := hi
             have hi2 : (i : Int) < (D.fs.length : Int) := by omega
             obtain ⟨c0, _, _, _, _, hpl⟩ := Q1.out.cells
             obtain ⟨g, cap', hv, hrest⟩ := Q1.out.file hi
             clear hrest
             have hva : a = some ⟨g, 0, none⟩ := by injection hv
             subst hva
             obtain ⟨hgl, hgp, f0, f1, f2⟩ := Q1.out.fileg hi hfi
             have HB := Lib.hid (FBox.new w1 f)
             clear hv hfi))
        obtain ⟨wa, hwa⟩ : ∃ W, w1.alloc (.cells #[.string (S f.nm), .string (S f.tx), .int .i64 (f.sy : Int)] 67) = W := ⟨_, rfl⟩
        have hBa : Below w1.heap.size w1 wa := by rw [← hwa]; exact (Below.refl _ w1).alloc (Nat.le_refl _) _
        have Qa := Lib.hid (Q1.out.below hBa)
        have hBx := HB.out
        rw [hwa] at hBx ⊢
        have HBa := Lib.hid hBx
        have ga := gb_new g1 hBa
        have hwz : w1.heap.size < wa.heap.size := hBx.cells.2.2.2.2
        have hzw := g1.size
        have HRS := Lib.hid (drop_rise HOK.out.fs.rise k)
        obtain ⟨g0, hg0⟩ : ∃ x, w1.heap.size = x := ⟨_, rfl⟩
        rw [hg0] at HBa hwz hzw hpl ⊢
        have hgne : g0 ≠ p := by omega
        clear HB hBx hwa hBa c0 f0 f1 f2 Q1 hg0
        go_wp2_with (first
          | (go_at_call 41; (with_reducible refine (qdrop_any _ _ _ k _ Qa.out hl4).mono ?_); rintro e w4 ⟨rfl, v', q4, g4, n4⟩
             have HB4 := Lib.hid (HBa.out.grown g4 hgne)
             obtain ⟨d0, d1, d2, d3, d4⟩ := HB4.out.cells
             have df0 := d3 0
             have Q5 := Lib.hid (q4.far (a := ⟨g0, 0, none⟩) (.string (S j)) hgne (fun b e => by have := n4 b e; dsimp only; omega))
             obtain ⟨x0, x1, x2, _, x4⟩ := (HB4.out.name j).cells
             dsimp only at x0 x1 x2
             clear d3 q4)
          | (go_at_call 40; (have hc := qput_any p _ _ ⟨j, f.tx, f.sy⟩ _ Q5.out HRS.out hd4; with_reducible refine hc.mono ?_); rintro e w6 ⟨rfl, v6, q6, g6, n6⟩; have Q6 := Lib.hid q6; clear q6))
        go_ret
        have g5 := gb_far w w4 (gbt ga g4) (a := ⟨g0, 0, none⟩) (.string (S j)) hzw
        exact ⟨rfl, q_grown HR.out HO.out Q6.out (gbt g5 g6) (fun b e => .inr (Nat.le_trans g5.size (n6 b e)))⟩
end Go.Proofs.Ytffpmcelelloeaa
