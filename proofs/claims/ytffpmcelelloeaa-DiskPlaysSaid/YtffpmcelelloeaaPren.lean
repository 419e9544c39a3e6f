/-
  The program's disk: Rename.
-/
import Derived.Test.YtffpmcelelloeaaMix
import Derived.Test.YtffpmcelelloeaaPsync
namespace Go.Proofs.Ytffpmcelelloeaa
open Go.RowKit Gm

/-- A file by another name. -/
theorem PAt.renamed {w w' : World} {p m : Nat} {loc : Loc} {D : Dk} (h : PAt w p m loc D) (hr : Rise D.fs) {k j : Bs} {f : Fl} (hf : findF D.fs k = some f) (hm : MapAt w' m (updL loc j (loc k)) (putF (dropF D.fs k) ⟨j, f.tx, f.sy⟩)) (hg : w.grownBy w' (some m)) :
    PAt w' p m (updL loc j (loc k)) { D with fs := putF (dropF D.fs k) ⟨j, f.tx, f.sy⟩ } := by
  obtain ⟨h1, h2⟩ := find_mem hf
  subst h2
  have mem : ∀ g ∈ putF (dropF D.fs f.nm) ⟨j, f.tx, f.sy⟩, g = ⟨j, f.tx, f.sy⟩ ∨ (g ∈ D.fs ∧ g.nm ≠ f.nm ∧ g.nm ≠ j) := fun g hg => by
    rcases put_mem' (drop_rise hr f.nm) hg with e | ⟨e1, e2⟩
    · exact .inl e
    · exact .inr ⟨(drop_mem.1 e1).1, (drop_mem.1 e1).2, e2⟩
  refine h.mapped hm hg (fun g hg => ?_) fun g hg i hi hn => ?_
  · rcases mem g hg with rfl | ⟨g1, g2, g3⟩
    · rw [updL_same]; exact (h.file f h1).name j
    · rw [updL_other _ _ g3]; exact h.file g g1
  · rcases mem g hg with rfl | ⟨g1, g2, g3⟩
    · rcases mem i hi with rfl | ⟨i1, i2, i3⟩
      · exact absurd rfl hn
      · rw [updL_same, updL_other _ _ i3]; exact h.ne f h1 i i1 (Ne.symm i2)
    · rcases mem i hi with rfl | ⟨i1, i2, i3⟩
      · rw [updL_same, updL_other _ _ g3]; exact h.ne g g1 f h1 g2
      · rw [updL_other _ _ g3, updL_other _ _ i3]; exact h.ne g g1 i i1 hn
theorem blk_ren {p m : Nat} {loc : Loc} {D : Dk} (hr : Rise D.fs) {k j : Bs} {f : Fl} (hf : findF D.fs k = some f) {b : Nat} (hb : PBlk p m (updL loc j (loc k)) (putF (dropF D.fs k) ⟨j, f.tx, f.sy⟩) b) : PBlk p m loc D.fs b := by
  obtain ⟨h1, h2⟩ := find_mem hf
  rcases hb with rfl | rfl | ⟨g, hg, e⟩
  · exact .inl rfl
  · exact .inr (.inl rfl)
  · rcases put_mem' (drop_rise hr k) hg with rfl | ⟨g1, g2⟩
    · dsimp only at e
      rw [updL_same] at e
      exact .inr (.inr ⟨f, h1, by rw [h2]; exact e⟩)
    · rw [updL_other _ _ g2] at e
      exact .inr (.inr ⟨g, (drop_mem.1 g1).1, e⟩)

set_option maxRecDepth 100000 in
set_option maxHeartbeats 4000000 in
theorem rename_any (p : Nat) (D : Dk) (R : Nat → Prop) (k j : Bs) (w : World) (h : PDisk w p D R) (ha : D.acts ≤ 1099511627776) (hk : k.length ≤ 1048576) (hj : j.length ≤ 1048576) :
    Calls Try.prog 18 #[.pointer (some ⟨p, 0, none⟩), .string (S k), .string (S j)] w fun e w' => e = .returned (.int .i64 (renameD D k j).2) ∧ Turn PDisk w w' p (renameD D k j).1 R := by
  obtain ⟨ok, m, loc, hR, hp⟩ := h
  have HR := Lib.hid hR
  have HP := Lib.hid hp
  have HK := Lib.hid ok
  have hok' := ok.rename k j
  unfold renameD at hok' ⊢
  rcases hg : goesD D with _ | _
  · rw [done_no hg] at hok' ⊢
    have HG := Lib.hid hg
    have HO := Lib.hid hok'
    clear hg hok' hR hp ok
    go_enter Try.func18, Try.ntmps18
    go_wp2_with (go_at_call 35; (have hc := pact_any p m loc D w HP.out HK.out ha; rw [HG.out] at hc; with_reducible refine hc.mono ?_); rintro e w1 ⟨rfl, q1, g1⟩; have Q1 := Lib.hid q1; clear q1)
    go_ret
    exact ⟨rfl, p_same HR.out HO.out Q1.out (by rw [act_fs]) g1⟩
  · rw [done_ok hg] at hok' ⊢
    have HG := Lib.hid hg
    have HO := Lib.hid hok'
    rcases hf : findF D.fs k with _ | f
    · have hr : renameF D.fs k j = (D.fs, 101) := by unfold renameF; rw [hf]
      rw [hr] at HO ⊢
      have HF := Lib.hid hf
      clear hg hok' hR hp ok hr hf
      go_enter Try.func18, Try.ntmps18
      go_wp2_with (go_at_call 35; (have hc := pact_any p m loc D w HP.out HK.out ha; rw [HG.out, goes_act HG.out] at hc; with_reducible refine hc.mono ?_); rintro e w1 ⟨rfl, q1, g1⟩; have Q1 := Lib.hid q1
                   obtain ⟨c0, _, _, _, _, hl⟩ := q1.cells
                   have hlk := q1.map.look_no k hk HF.out
                   clear q1)
      go_ret
      exact ⟨rfl, p_same HR.out HO.out Q1.out rfl g1⟩
    · have HF := Lib.hid hf
      rcases hn : okName j with _ | _
      · have hr : renameF D.fs k j = (D.fs, 1) := by unfold renameF; rw [hf, hn]; rfl
        rw [hr] at HO ⊢
        have HN := Lib.hid hn
        clear hg hok' hR hp ok hr hf hn
        go_enter Try.func18, Try.ntmps18
        go_wp2_with (first
          | (go_at_call 35; (have hc := pact_any p m loc D w HP.out HK.out ha; rw [HG.out, goes_act HG.out] at hc; with_reducible refine hc.mono ?_); rintro e w1 ⟨rfl, q1, g1⟩; have Q1 := Lib.hid q1
             obtain ⟨c0, _, _, _, _, hl⟩ := q1.cells
             have hlk := q1.map.look k hk HF.out
             clear q1)
          | (go_at_call 36; (have hc := pname_any j w1 hj; rw [HN.out] at hc; with_reducible refine hc.mono ?_); rintro e w2 ⟨rfl, rfl⟩))
        go_ret
        exact ⟨rfl, p_same HR.out HO.out Q1.out rfl g1⟩
      · have hr : renameF D.fs k j = (putF (dropF D.fs k) ⟨j, f.tx, f.sy⟩, 0) := by unfold renameF; rw [hf, hn]; rfl
        rw [hr] at HO ⊢
        have HN := Lib.hid hn
        clear hg hok' hR hp ok hr hf hn
        go_enter Try.func18, Try.ntmps18
        go_wp2_with (first
          | (go_at_call 35; (have hc := pact_any p m loc D w HP.out HK.out ha; rw [HG.out, goes_act HG.out] at hc; with_reducible refine hc.mono ?_); rintro e w1 ⟨rfl, q1, g1⟩; have Q1 := Lib.hid q1
             obtain ⟨c0, _, _, _, _, hl⟩ := q1.cells
             have hlk := q1.map.look k hk HF.out
             obtain ⟨w2, hdr, hm2, hg2⟩ := q1.map.drop (gs := dropF D.fs k) k hk (fun j => drop_some k j) (drop_len_eq HK.out.fs.rise k) 0
             have M2 := Lib.hid hm2
             have G2 := Lib.hid hg2
             have HCE : Hid (∀ W, Below w2.heap.size w2 W → W.cell? ⟨p, 0, none⟩ = some (.map (some m))) := Lib.hid (fun W hW => by
               have hl2 : p < w2.heap.size := Nat.lt_of_lt_of_le hl hg2.size
               rw [hW.cell (p := ⟨p, 0, none⟩) hl2]
               exact hg2.cell c0 (fun e => Q1.out.far.1 (by injection e with e; exact e.symm)))
             have hl2 : p < w2.heap.size := Nat.lt_of_lt_of_le hl hg2.size
             clear q1 hm2 hg2)
          | (go_at_call 36; (have hc := pname_any j w1 hj; rw [HN.out] at hc; with_reducible refine hc.mono ?_); rintro e w2 ⟨rfl, rfl⟩))
        clear c0 hlk hdr
        have hB : Below w2.heap.size w2 w2.drew := (Below.refl _ _).drew
        refine region_mix (fun W => Below w2.heap.size w2 W) (7) (.reads [0, 1, 2, 3, 4, 6] (.only 5 (.only 7 (.stop)))) (by kernel_rfl) (by kernel_rfl) (hB) ?_
        obtain ⟨wc, hwc⟩ : ∃ W, w2.drew = W := ⟨_, rfl⟩
        rw [hwc] at hB ⊢
        clear hwc
        repeat (
          refine plan_read rfl (fun K hK => ?_)
          first
            | (refine plan_neg ?_ ?_
               focus (go_simp; done)
               go_simp
               refine hK _ ?_
               clear hK K)
            | (apply plan_pos
               focus (go_simp; done)
               focus (
                 intro W hW
                 (have d0 := HCE.out W hW)
                 go_simp
                 first
                   | done
                   | exact rfl)
               go_simp
               refine hK _ ?_
               clear hK K))
        refine plan_only rfl (fun Q hQ => ?_)
        go_wp2_with (go_at_call 37; (with_reducible refine (sclone_any j hj _).mono ?_); rintro e0 wd ⟨rfl, hb⟩)
        replace hB := hB.trans (hb.mono hB.size)
        refine hQ _ _ (fun _ => hB) ?_
        clear hQ Q hb
        refine plan_only rfl (fun Q hQ => ?_)
        obtain ⟨w3, hst, hm3, hg3⟩ := (M2.out.moved (hB.block m M2.out.lt)).store (gs := putF (dropF D.fs k) ⟨j, f.tx, f.sy⟩) (Nat.le_trans (drop_len D.fs k) HK.out.fs.len) j hj (loc k).1 (updL loc j (loc k)) (by rw [updL_same]) (fun i hi => updL_other _ _ hi) (fun i => put_some (drop_rise HK.out.fs.rise k) _ i) (put_len_eq (drop_rise HK.out.fs.rise k) _)
        have M3 := Lib.hid hm3
        have G3 : Hid (w1.grownBy w3 (some m)) := Lib.hid (gbt (gbt G2.out (gbb _ hB)) hg3)
        clear hm3 hg3
        go_wp2
        refine hQ _ _ (fun h => absurd h (by omega)) ?_
        clear hQ Q
        unfold Plan.wp
        go_wp2
        go_ret
        exact ⟨rfl, p_turn HR.out HO.out (Q1.out.renamed HK.out.fs.rise HF.out M3.out G3.out) ((beside_p HR.out (.inl rfl) g1).trans (beside_p (R := R) HR.out (.inr (.inl rfl)) G3.out) fun b hb _ => hb) fun b e => .inl (blk_ren HK.out.fs.rise HF.out e)⟩
end Go.Proofs.Ytffpmcelelloeaa
