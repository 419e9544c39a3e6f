/-
  The document's own disk: Sync.
-/
import Derived.Test.YtffpmcelelloeaaMix
import Derived.Test.YtffpmcelelloeaaQmeth
namespace Go.Proofs.Ytffpmcelelloeaa
open Go.RowKit Gm

theorem filesV_set : ∀ (l : List Fl) (i : Nat) (h : i < l.length) (x : Bs) (n : Nat), x = l[i].tx → (filesV l).set (i * 3 + 2) (.int .i64 (n : Int)) = filesV (l.set i ⟨l[i].nm, x, n⟩)
  | [], i, h, _, _, _ => by simp at h
  | f :: l, 0, _, x, n, e => by
    have e' : x = f.tx := e
    subst e'
    simp [filesV_cons, cellsV]
  | f :: l, i + 1, h, x, n, e => by
    have ih := filesV_set l i (by simpa using h) x n e
    rw [filesV_cons, List.set_append_right _ _ (by simp [cellsV]; omega)]
    have e1 : (i + 1) * 3 + 2 - (cellsV f).length = i * 3 + 2 := by simp [cellsV]; omega
    rw [e1, ih]; rfl
theorem put_set : ∀ {l : List Fl} (_ : Rise l) {i : Nat} (h : i < l.length) (f : Fl), f.nm = l[i].nm → putF l f = l.set i f
  | [], _, i, h, _, _ => by simp at h
  | g :: l, hr, 0, _, f, e => by
    have e' : f.nm = g.nm := e
    show (if g.nm < f.nm then g :: putF l f else if g.nm = f.nm then f :: l else f :: g :: l) = _
    rw [e', if_neg (bs_irr _), if_pos rfl]; rfl
  | g :: l, hr, i + 1, h, f, e => by
    obtain ⟨h1, h2⟩ := rise_cons.1 hr
    have hi : i < l.length := by simpa using h
    have e' : f.nm = l[i].nm := e
    have hlt : g.nm < f.nm := by rw [e']; exact h1 _ (List.getElem_mem hi)
    show (if g.nm < f.nm then g :: putF l f else _) = _
    rw [if_pos hlt, put_set h2 hi f e']; rfl
/-- A file's count of synced bytes is written. -/
theorem QAt.sync {w : World} {p g cap : Nat} {D : Dk} (h : QAt w p (.slice (some ⟨g, 0, none⟩) D.fs.length cap) D) (hr : Rise D.fs) {i : Nat} (hi : i < D.fs.length) {f : Fl} (hf : D.fs[i] = f) (m : Nat) : QAt (w.setCell ⟨g, i * 3 + 2, none⟩ (.int .i64 (m : Int))) p (.slice (some ⟨g, 0, none⟩) D.fs.length cap) { D with fs := putF D.fs ⟨f.nm, f.tx, m⟩ } := by
  have hne : p ≠ g := fun e => h.ne (by rw [e]; rfl)
  have hrow := (h.row.stored (i * 3 + 2) (.int .i64 (m : Int))).1
  have hs := filesV_set D.fs i hi f.tx m (by rw [hf])
  rw [hs] at hrow
  have hp : putF D.fs ⟨f.nm, f.tx, m⟩ = D.fs.set i ⟨D.fs[i].nm, f.tx, m⟩ := by
    rw [put_set hr hi ⟨f.nm, f.tx, m⟩ (by show f.nm = D.fs[i].nm; rw [hf]), hf]
  refine ⟨(Below.heap_setCell _ _ _ p hne).trans h.blk, ?_⟩
  dsimp only
  rw [hp, List.length_set]
  exact hrow

set_option maxRecDepth 100000 in
set_option maxHeartbeats 4000000 in
theorem qsync_any (p : Nat) (D : Dk) (R : Nat → Prop) (k : Bs) (w : World) (h : QDisk w p D R) (ha : D.acts ≤ 1099511627776) :
    Calls Try.prog 17 #[.pointer (some ⟨p, 0, none⟩), .string (S k)] w fun e w' => e = .returned (.int .i64 (syncD D k).2) ∧ Turn QDisk w w' p (syncD D k).1 R := by
  obtain ⟨ok, v, hR, hq⟩ := h
  have HR := Lib.hid hR
  have HQ := Lib.hid hq
  have hok' := ok.sync k
  have hl4 := ok.fs.len
  have HOK := Lib.hid ok
  obtain ⟨a, cap, hv⟩ := hq.form
  subst hv
  unfold syncD at hok' ⊢
  rcases hg : goesD D with _ | _
  · rw [done_no hg] at hok' ⊢
    have HG := Lib.hid hg
    have HO := Lib.hid hok'
    clear hg hok' hR hq ok
    go_enter Try.func17, Try.ntmps17
    go_wp2_with (go_at_call 38; (have hc := qact_any p _ D w HQ.out ha; rw [errD_no HG.out] at hc; with_reducible refine hc.mono ?_); rintro e w1 ⟨rfl, q1, g1⟩; have Q1 := Lib.hid q1; clear q1)
    go_ret
    exact ⟨rfl, q_grown HR.out HO.out Q1.out g1 (fun b e => .inl e)⟩
  · rw [done_ok hg] at hok' ⊢
    have HG := Lib.hid hg
    have HO := Lib.hid hok'
    rcases hf : findF D.fs k with _ | f
    · have hr : syncF D.fs k = (D.fs, 101) := by unfold syncF; rw [hf]
      rw [hr] at HO ⊢
      have HF := Lib.hid hf
      clear hg hok' hR hq ok hr hf
      go_enter Try.func17, Try.ntmps17
      go_wp2_with (first
        | (go_at_call 38; (have hc := qact_any p _ D w HQ.out ha; rw [errD_ok HG.out, goes_act HG.out] at hc; with_reducible refine hc.mono ?_); rintro e w1 ⟨rfl, q1, g1⟩; have Q1 := Lib.hid q1; clear q1)
        | (go_at_call 39; (with_reducible refine (qat_no Q1.out hl4 HF.out).mono ?_); rintro e w2 ⟨rfl, rfl⟩))
      go_ret
      exact ⟨rfl, q_grown HR.out HO.out Q1.out g1 (fun b e => .inl e)⟩
    · have hnm := (ok.fs.of_find hf).2
      have hr : syncF D.fs k = (putF D.fs ⟨f.nm, f.tx, f.tx.length⟩, 0) := by unfold syncF; rw [hf, hnm]
      rw [hr] at HO ⊢
      have HF := Lib.hid hf
      have sft := S_size f.tx
      clear hg hok' hR hq ok hr hf hnm
      go_enter Try.func17, Try.ntmps17
      go_upto_region 7 with (first
        | (go_at_call 38; (have hc := qact_any p _ D w HQ.out ha; rw [errD_ok HG.out, goes_act HG.out] at hc; with_reducible refine hc.mono ?_); rintro e w1 ⟨rfl, q1, g1⟩; have Q1 := Lib.hid q1; clear q1)
        | (go_at_call 39; (with_reducible refine (qat_yes Q1.out hl4 HF.out).mono ?_); rintro e w2 ⟨⟨i, hi, rfl, hfi⟩, rfl⟩
           have hi3 : ¬ (i : Int) < 0 := by omega))
      have hi1 : (0 : Int) ≤ (i : Int) := by omega
      have hi' : i < D.fs.length := hi
      have hi2 : (i : Int) < (D.fs.length : Int) := by omega
      obtain ⟨g, cap', hv, hrest⟩ := Q1.out.file hi
      clear hrest
      have hva : a = some ⟨g, 0, none⟩ := by injection hv
      subst hva
      have hpl := Q1.out.lt.1
      obtain ⟨hgl, hgp, _⟩ := Q1.out.fileg hi hfi
      have HCE : Hid (∀ W, Below w1.heap.size w1 W → W.cell? ⟨p, 0, none⟩ = some (.slice (some ⟨g, 0, none⟩) D.fs.length cap) ∧ W.cell? ⟨g, i * 3 + 1, none⟩ = some (.string (S f.tx)) ∧ W.cell? ⟨g, i * 3 + 2, none⟩ = some (.int .i64 (f.sy : Int)) ∧ g < W.heap.size) := Lib.hid (fun W hW => by
        have hq := Q1.out.below hW
        obtain ⟨x1, _, _, x2, x3⟩ := hq.fileg hi hfi
        exact ⟨hq.cells.1, x2, x3, x1⟩)
      have HFI := Lib.hid hfi
      have HI := Lib.hid hi
      clear hv hfi
      have hB : Below w1.heap.size w1 w1.drew := (Below.refl w1.heap.size w1).drew
      refine region_mix (fun W => Below w1.heap.size w1 W) (14) (.reads [0, 1, 2, 3, 4, 5, 6, 7, 8, 9, 10, 11, 12, 13] (.only 14 (.only 15 (.only 16 (.stop))))) (by kernel_rfl) (by kernel_rfl) (hB) ?_
      obtain ⟨wq, hwq⟩ : ∃ W, w1.drew = W := ⟨_, rfl⟩
      rw [hwq] at hB ⊢
      clear hwq
      repeat (
        refine plan_read rfl (fun K hK => ?_)
        first
          | (refine plan_neg ?_ ?_
             focus (go_simp; done)
             go_simp
             refine hK _ ?_
             clear hK K)
          | (apply plan_pos
             focus (go_simp; done)
             focus (
               intro W hW
               (obtain ⟨d0, d1, d2, d3⟩ := HCE.out W hW)
               go_simp
               first
                 | done
                 | exact rfl)
             go_simp
             refine hK _ ?_
             clear hK K))
      obtain ⟨d0, d1, d2, d3⟩ := HCE.out wq hB
      have hq2 := Q1.out.below hB
      have hfz : wq.frozen? ⟨g, i * 3 + 2, none⟩ = false := by
        obtain ⟨g', cap'', hv, _, _, _, _, _, hf⟩ := hq2.file HI.out
        injection hv with e1 e2 e3
        injection e1 with e1
        injection e1 with e1
        subst e1
        exact hf _
      have Q2 := Lib.hid hq2
      clear hq2
      refine plan_only rfl (fun Q hQ => ?_)
      go_wp2
      refine hQ _ _ (fun h => absurd h (by omega)) ?_
      clear hQ Q
      refine plan_only rfl (fun Q hQ => ?_)
      go_wp2
      refine hQ _ _ (fun h => absurd h (by omega)) ?_
      clear hQ Q
      refine plan_only rfl (fun Q hQ => ?_)
      go_wp2
      refine hQ _ _ (fun h => absurd h (by omega)) ?_
      clear hQ Q
      unfold Plan.wp
      go_wp2
      go_ret
      have q3 := QAt.sync (D := ⟨D.fs, D.acts + 1, D.arm, false⟩) Q2.out HOK.out.fs.rise HI.out HFI.out f.tx.length
      refine ⟨rfl, q_turn HR.out HO.out q3 ?_ (fun b e => .inl e)⟩
      have b1 : Beside R w w1 := Beside.grown g1 fun b e _ => (HR.out b).2 (.inl (by injection e with e; exact e.symm))
      have b2 : Beside R w1 wq := Beside.of_below hB
      exact (b1.trans b2 (fun b hb _ => hb)).trans (Beside.set wq _ ((HR.out g).2 (.inr rfl))) (fun b hb _ => hb)
end Go.Proofs.Ytffpmcelelloeaa
