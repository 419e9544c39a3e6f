/-
  The document's own disk: Restart.
-/
import Derived.Test.YtffpmcelelloeaaQsync
import Derived.Test.YtffpmcelelloeaaQren
namespace Go.Proofs.Ytffpmcelelloeaa
open Go.RowKit Gm

namespace Gm
/-- The first i files are cut. -/
def cutsTo (l : List Fl) (keep : List Int) (i : Nat) : List Fl := l.mapIdx (fun j f => if j < i then cutF f (keep[j]?.getD 0) else f)
theorem cutsTo_len (l : List Fl) (keep : List Int) (i : Nat) : (cutsTo l keep i).length = l.length := by unfold cutsTo; simp
theorem cutsTo_zero (l : List Fl) (keep : List Int) : cutsTo l keep 0 = l := by
  apply List.ext_getElem (cutsTo_len _ _ _)
  intro i h1 h2
  simp [cutsTo]
theorem cutsTo_all (l : List Fl) (keep : List Int) : cutsTo l keep l.length = cutsF l keep := by
  apply List.ext_getElem (by rw [cutsTo_len, cuts_len])
  intro i h1 h2
  have h3 : i < l.length := by rw [cuts_len] at h2; exact h2
  simp [cutsTo, cutsF, h3]
theorem cutsTo_at {l : List Fl} {keep : List Int} {i : Nat} (h : i < l.length) : (cutsTo l keep i)[i]'(by rw [cutsTo_len]; exact h) = l[i] := by simp [cutsTo]
theorem cutsTo_succ {l : List Fl} {keep : List Int} {i : Nat} (h : i < l.length) : cutsTo l keep (i + 1) = (cutsTo l keep i).set i (cutF l[i] (keep[i]?.getD 0)) := by
  apply List.ext_getElem (by rw [cutsTo_len, List.length_set, cutsTo_len])
  intro j h1 h2
  rw [cutsTo_len] at h1
  rw [List.getElem_set]
  by_cases e : i = j
  · subst e; simp [cutsTo]
  · rw [if_neg e]
    simp only [cutsTo, List.getElem_mapIdx]
    by_cases h3 : j < i
    · rw [if_pos (by omega), if_pos h3]
    · rw [if_neg (by omega), if_neg h3]
end Gm
theorem filesV_set3 : ∀ (l : List Fl) (i : Nat) (_ : i < l.length) (x : Fl), (((filesV l).set (i * 3) (.string (S x.nm))).set (i * 3 + 1) (.string (S x.tx))).set (i * 3 + 2) (.int .i64 (x.sy : Int)) = filesV (l.set i x)
  | [], i, h, _ => by simp at h
  | f :: l, 0, _, x => by simp [filesV_cons, cellsV]
  | f :: l, i + 1, h, x => by
    have ih := filesV_set3 l i (by simpa using h) x
    rw [filesV_cons, List.set_append_right _ _ (by simp [cellsV]; omega), List.set_append_right _ _ (by simp [cellsV]; omega), List.set_append_right _ _ (by simp [cellsV]; omega)]
    have e0 : (i + 1) * 3 - (cellsV f).length = i * 3 := by simp [cellsV]; omega
    have e1 : (i + 1) * 3 + 1 - (cellsV f).length = i * 3 + 1 := by simp [cellsV]; omega
    have e2 : (i + 1) * 3 + 2 - (cellsV f).length = i * 3 + 2 := by simp [cellsV]; omega
    rw [e0, e1, e2, ih]; rfl
/-- A file is written whole. -/
theorem QAt.whole {w : World} {p g cap : Nat} {D : Dk} (h : QAt w p (.slice (some ⟨g, 0, none⟩) D.fs.length cap) D) {i : Nat} (hi : i < D.fs.length) (x : Fl) : QAt (((w.setCell ⟨g, i * 3, none⟩ (.string (S x.nm))).setCell ⟨g, i * 3 + 1, none⟩ (.string (S x.tx))).setCell ⟨g, i * 3 + 2, none⟩ (.int .i64 (x.sy : Int))) p (.slice (some ⟨g, 0, none⟩) D.fs.length cap) { D with fs := D.fs.set i x } := by
  have hne : p ≠ g := fun e => h.ne (by rw [e]; rfl)
  have hrow := (((h.row.stored (i * 3) (.string (S x.nm))).1.stored (i * 3 + 1) (.string (S x.tx))).1.stored (i * 3 + 2) (.int .i64 (x.sy : Int))).1
  rw [filesV_set3 D.fs i hi x] at hrow
  refine ⟨(Below.heap_setCell _ _ _ p hne).trans ((Below.heap_setCell _ _ _ p hne).trans ((Below.heap_setCell _ _ _ p hne).trans h.blk)), ?_⟩
  dsimp only
  rw [List.length_set]
  exact hrow
theorem FBox.sync {w : World} {g : Nat} {f : Fl} (h : FBox w g f) (m : Nat) : FBox (w.setCell ⟨g, 2, none⟩ (.int .i64 (m : Int))) g ⟨f.nm, f.tx, m⟩ := by
  unfold FBox at h ⊢
  simp [World.setCell, Array.getElem?_modify, h]
theorem FBox.below {w w' : World} {g : Nat} {f : Fl} (h : FBox w g f) (hb : Below w.heap.size w w') : FBox w' g f := (hb.block g (Array.getElem?_eq_some_iff.1 h).1).trans h

theorem Beside.fresh {R : Nat → Prop} {w W : World} (h : Beside R w W) {a : Addr} (u : Value) (ha : w.heap.size ≤ a.block) : Beside R w (W.setCell a u) :=
  ⟨h.os, h.tape, h.output, by have := h.size; simp [World.setCell]; exact this, fun b hb hn => (Below.heap_setCell _ _ _ b (by omega)).trans (h.block b hb hn)⟩

/-- Behind i files. -/
structure RsAt (w wr : World) (p : Nat) (v : Value) (R : Nat → Prop) (D : Dk) (keep : List Int) (i : Nat) : Prop where
  q : QAt wr p v ⟨cutsTo D.fs keep i, D.acts, D.arm, D.off⟩
  far : Beside R w wr
theorem KeepAt.far {w wr : World} {R : Nat → Prop} {a : Option Addr} {len : Nat} {l : List Int} (h : KeepAt w R a len l) (hb : Beside R w wr) : KeepAt wr R a len l := by
  obtain ⟨h0, b, off, h1, h2⟩ := h
  refine ⟨h0, b, off, h1, fun i hi => ?_⟩
  obtain ⟨k1, k2, k3, k4⟩ := h2 i hi
  exact ⟨Nat.lt_of_lt_of_le k1 hb.size, k2, (World.cell?_of_block (a := ⟨b, off + i, none⟩) (hb.block b k1 k2)).trans k3, k4⟩

set_option maxRecDepth 100000 in
set_option maxHeartbeats 4000000 in
theorem qrestart_any (p : Nat) (D : Dk) (R : Nat → Prop) (ka : Option Addr) (klen kcap : Nat) (keep : List Int) (w : World) (h : QDisk w p D R) (hk : KeepAt w R ka klen keep) :
    Calls Try.prog 25 #[.pointer (some ⟨p, 0, none⟩), .slice ka klen kcap] w fun e w' => e = .returned (.tuple #[]) ∧ Turn QDisk w w' p (restartD D keep) R := by
  obtain ⟨ok, v, hR, hq⟩ := h
  have HR := Lib.hid hR
  have HQ := Lib.hid hq
  have HOK := Lib.hid ok
  have hl4 := ok.fs.len
  have HK := Lib.hid hk
  have HKL := Lib.hid hk.1
  obtain ⟨a, cap, hv⟩ := hq.form
  subst hv
  obtain ⟨n, hn⟩ : ∃ n, D.fs.length = n := ⟨_, rfl⟩
  rw [hn] at hl4
  have hvn : (Value.slice a D.fs.length cap) = .slice a n cap := by rw [hn]
  rw [hvn] at HQ HR
  have HN := Lib.hid hn
  have HP0 : Hid (RsAt w w p (.slice a n cap) R D keep 0) := Lib.hid ⟨by rw [cutsTo_zero]; exact HQ.out, Beside.of_below (Below.refl _ _)⟩
  clear ok hR hq hn hvn hk
  go_enter Try.func25, Try.ntmps25
  go_wp2
  go_loopw [4] (fun iv wr => ∃ i : Nat, i ≤ n ∧ iv = .int .i64 (i : Int) ∧ RsAt w wr p (.slice a n cap) R D keep i) (fun iv _ => n - (intOf iv).toNat)
  case atStart => exact ⟨0, Nat.zero_le _, rfl, HP0.out⟩
  case round =>
    obtain ⟨i, hi, rfl, hp⟩ := hrel
    clear HP0
    have HP := Lib.hid hp
    obtain ⟨c0, _, c2, c3, hfz, hpl⟩ := hp.q.cells
    by_cases hlt : i < n
    · have hil : i < D.fs.length := by rw [HN.out]; exact hlt
      have hilc : i < (cutsTo D.fs keep i).length := by rw [cutsTo_len]; exact hil
      obtain ⟨g, cap', hv, hrest⟩ := hp.q.file hilc
      clear hrest
      have hva : a = some ⟨g, 0, none⟩ := by injection hv
      subst hva
      obtain ⟨x, hx⟩ : ∃ x, D.fs[i] = x := ⟨_, rfl⟩
      have hxc : (cutsTo D.fs keep i)[i] = x := (cutsTo_at hil).trans hx
      obtain ⟨hg, hgp, f0, f1, f2⟩ := hp.q.fileg hilc hxc
      have hox := HOK.out.fs.fit x (by rw [← hx]; exact List.getElem_mem hil)
      have hsy := hox.sy
      have htx := hox.tx
      have hi0 : (0 : Int) ≤ (i : Int) := by omega
      have hi1 : (i : Int) < (n : Int) := by omega
      obtain ⟨C, hC⟩ : ∃ C, keep[i]?.getD 0 = C := ⟨_, rfl⟩
      have hK := keep_le C (x.tx.length - x.sy)
      obtain ⟨T, hTn⟩ : ∃ T, x.tx.length - x.sy = T := ⟨_, rfl⟩
      rw [hTn] at hK
      obtain ⟨K, hKe⟩ : ∃ K, keepN C T = K := ⟨_, rfl⟩
      rw [hKe] at hK
      have hT : (x.tx.length : Int) - (x.sy : Int) = (T : Int) := by omega
      have hM : (x.sy : Int) + (K : Int) = ((x.sy + K : Nat) : Int) := by omega
      obtain ⟨M, hMe⟩ : ∃ M, x.sy + K = M := ⟨_, rfl⟩
      rw [hMe] at hM
      have hMl : M ≤ x.tx.length := by omega
      have hcut : cutF x C = ⟨x.nm, x.tx.take M, M⟩ := by unfold cutF; rw [hTn, hKe, hMe]
      have hsl := fun W => slice_to x.tx M hMl W
      have hext := ext_to x.tx M
      have hmod : ((if C < 0 then -(C + 1) else C) % ((T : Int) + 1)) = (K : Int) := by
        rw [← hKe]; unfold keepN
        have : 0 ≤ (if C < 0 then -(C + 1) else C) := by split <;> omega
        rw [Int.natCast_emod, Int.toNat_of_nonneg this]; rfl
      obtain ⟨N1, hN1⟩ : ∃ N1 : Nat, (T : Int) + 1 = (N1 : Int) := ⟨T + 1, by omega⟩
      rw [hN1] at hmod
      have hz : ¬ N1 = 0 := by omega
      have hzi : ¬ (N1 : Int) = 0 := by omega
      have hN1b : N1 ≤ 65537 := by omega
      have hwN : IntKind.i64.wrap (N1 : Int) = (N1 : Int) := IntWalk.i64_in _ (by omega)
      have s1 := S_size x.tx
      have s2 : (S (x.tx.take M)).size = M := by rw [S_size, List.length_take]; omega
      have hstep := cutsTo_succ (keep := keep) hil
      rw [hx, hC, hcut] at hstep
      have HST := Lib.hid hstep
      have HHILC := Lib.hid hilc
      have HHX := Lib.hid hxc
      have hcs : (∃ b off, ka = some ⟨b, off, none⟩ ∧ (i : Int) < (klen : Int) ∧ b < wr.heap.size ∧ wr.cell? ⟨b, off + i, none⟩ = some (.int .i64 C) ∧ I64 C) ∨ (¬ (i : Int) < (klen : Int) ∧ C = 0) := by
        by_cases h : i < klen
        · left
          obtain ⟨_, b, off, h1, h2⟩ := HK.out.far hp.far
          have hi' : i < keep.length := by rw [HKL.out]; exact h
          obtain ⟨k1, _, k3, k4⟩ := h2 i hi'
          have e : keep[i] = C := by rw [← hC, List.getElem?_eq_getElem hi']; rfl
          rw [e] at k3 k4
          rcases h1 with h1 | h1
          · omega
          · exact ⟨b, off, h1, by omega, k1, k3, k4⟩
        · right
          refine ⟨by omega, ?_⟩
          rw [← hC, List.getElem?_eq_none (by rw [HKL.out]; omega)]; rfl
      have hwz := hp.far.size
      have HB0 := Lib.hid (FBox.new wr x)
      have HQ0 := Lib.hid (hp.q.below ((Below.refl wr.heap.size wr).alloc (Nat.le_refl _) (.cells #[.string (S x.nm), .string (S x.tx), .int .i64 (x.sy : Int)] 67)))
      have HF0 := Lib.hid (hp.far.trans (Beside.of_below (R := R) ((Below.refl wr.heap.size wr).alloc (Nat.le_refl _) (.cells #[.string (S x.nm), .string (S x.tx), .int .i64 (x.sy : Int)] 67))) (fun b hb _ => hb))
      obtain ⟨y0, y1, y2, _, _⟩ := HB0.out.cells
      clear hv hx hxc hox hC hTn hKe hMe hcut hstep hp hfz hil hlt
      have hcases : (∃ b off, ka = some ⟨b, off, none⟩ ∧ (i : Int) < (klen : Int) ∧ b < wr.heap.size ∧ wr.cell? ⟨b, off + i, none⟩ = some (.int .i64 C) ∧ I64 C ∧ C < 0 ∧ (-(C + 1)) % (N1 : Int) = (K : Int) ∧ 0 ≤ -(C + 1)) ∨ (∃ b off, ka = some ⟨b, off, none⟩ ∧ (i : Int) < (klen : Int) ∧ b < wr.heap.size ∧ wr.cell? ⟨b, off + i, none⟩ = some (.int .i64 C) ∧ I64 C ∧ ¬ C < 0 ∧ C % (N1 : Int) = (K : Int)) ∨ (¬ (i : Int) < (klen : Int) ∧ (K : Int) = 0) := by
        rcases hcs with ⟨b, off, h1, h2, h3, h4, h5⟩ | ⟨h1, h2⟩
        · by_cases h : C < 0
          · rw [if_pos h] at hmod
            exact .inl ⟨b, off, h1, h2, h3, h4, h5, h, hmod, by omega⟩
          · rw [if_neg h] at hmod
            exact .inr (.inl ⟨b, off, h1, h2, h3, h4, h5, h, hmod⟩)
        · rw [h2] at hmod
          simp at hmod
          exact .inr (.inr ⟨h1, by omega⟩)
      clear hmod hcs
      rcases hcases with ⟨b, off, rfl, hkl, hbl, hkc, ⟨hc1, hc2⟩, hcn, hmod, hcp⟩ | ⟨b, off, rfl, hkl, hbl, hkc, ⟨hc1, hc2⟩, hcn, hmod⟩ | ⟨hkl, hK0⟩
      · go_upto_region 10 with fail
        obtain ⟨c', hc'⟩ : ∃ c', -(C + 1) = c' := ⟨_, rfl⟩
        rw [hc'] at hmod hcp ⊢
        have hmt : c'.tmod (N1 : Int) = (K : Int) := by rw [Int.tmod_eq_emod_of_nonneg hcp]; exact hmod
        have hrem : ∀ W, (Op.intDiv .rem .i64 c' (N1 : Int)).run Try.prog W = .ok (.int .i64 (K : Int)) W := fun W => by
          unfold Op.intDiv
          rw [if_neg (by omega), hmt]; rfl
        clear hmod hc' hkc hbl hcn hc1 hc2
        obtain ⟨W8, hW8⟩ : ∃ W, wr.alloc (.cells #[.string (S x.nm), .string (S x.tx), .int .i64 (x.sy : Int)] 67) = W := ⟨_, rfl⟩
        obtain ⟨g0, hg0⟩ : ∃ x, wr.heap.size = x := ⟨_, rfl⟩
        have hgg : g ≠ g0 := by omega
        have hpg : p ≠ g0 := by omega
        have HB8 : Hid (FBox W8 g0 x) := Lib.hid (by rw [← hW8, ← hg0]; exact HB0.out)
        have HQ8 : Hid (QAt W8 p (.slice (some ⟨g, 0, none⟩) n cap) ⟨cutsTo D.fs keep i, D.acts, D.arm, D.off⟩) := Lib.hid (by rw [← hW8]; exact HQ0.out)
        have HF8 : Hid (Beside R w W8) := Lib.hid (by rw [← hW8]; exact HF0.out)
        rw [hW8, hg0]
        rw [hg0] at hwz
        clear hW8 hg0 y0 y1 y2 f0 f1 f2 c0 c2 c3 HB0 HQ0 HF0 hg hpl
        have HCE : Hid (∀ W, Below W8.heap.size W8 W → W.cell? ⟨g0, 0, none⟩ = some (.string (S x.nm)) ∧ W.cell? ⟨g0, 1, none⟩ = some (.string (S x.tx)) ∧ W.cell? ⟨g0, 2, none⟩ = some (.int .i64 (x.sy : Int))) := Lib.hid (fun W hW => by
          obtain ⟨z0, z1, z2, _, _⟩ := (HB8.out.below hW).cells
          exact ⟨z0, z1, z2⟩)
        have hB : Below W8.heap.size W8 W8.drew := (Below.refl W8.heap.size W8).drew
        refine region_mix (fun W => Below W8.heap.size W8 W) (9) (.reads [0, 1, 2, 3, 4, 5, 6, 7, 8] (.only 9 (.only 10 (.only 11 (.stop))))) (by kernel_rfl) (by kernel_rfl) (hB) ?_
        obtain ⟨wq, hwq⟩ : ∃ W, W8.drew = W := ⟨_, rfl⟩
        rw [hwq] at hB ⊢
        clear hwq
        repeat (
          refine plan_read rfl (fun K hK => ?_)
          first
            | (refine plan_neg ?_ ?_
               focus (go_simp; done)
               go_simp
               refine hK _ ?_
               clear hK K)
            | (apply plan_pos
               focus (go_simp; done)
               focus (
                 intro W hW
                 (obtain ⟨d0, d1, d2⟩ := HCE.out W hW)
                 go_simp
                 first
                   | done
                   | exact rfl)
               go_simp
               refine hK _ ?_
               clear hK K))
        have HBq := Lib.hid (HB8.out.below hB)
        obtain ⟨d0, d1, d2, df, dl⟩ := HBq.out.cells
        have df1 := df 1
        have df2 := df 2
        clear df
        refine plan_only rfl (fun Q hQ => ?_)
        go_wp2
        refine hQ _ _ (fun h => absurd h (by omega)) ?_
        clear hQ Q
        refine plan_only rfl (fun Q hQ => ?_)
        go_wp2
        refine hQ _ _ (fun h => absurd h (by omega)) ?_
        clear hQ Q
        refine plan_only rfl (fun Q hQ => ?_)
        go_wp2
        refine hQ _ _ (fun h => absurd h (by omega)) ?_
        clear hQ Q
        unfold Plan.wp
        have HB9 := Lib.hid (HBq.out.text (x.tx.take M))
        obtain ⟨e0, e1, e2, ef, el⟩ := HB9.out.cells
        dsimp only at e0 e1 e2
        have ef2 := ef 2
        clear ef
        go_upto_region 12 with fail
        have HB10 := Lib.hid (HB9.out.sync M)
        have HQ10 := Lib.hid (((HQ8.out.below hB).far (a := ⟨g0, 1, none⟩) (.string (S (x.tx.take M))) (fun e => hpg e.symm) (fun b e => by simp [Value.ownBlock] at e; dsimp only; omega)).far (a := ⟨g0, 2, none⟩) (.int .i64 (M : Int)) (fun e => hpg e.symm) (fun b e => by simp [Value.ownBlock] at e; dsimp only; omega))
        have HF10 := Lib.hid (((HF8.out.trans (Beside.of_below (R := R) hB) (fun b hb _ => hb)).fresh (a := ⟨g0, 1, none⟩) (.string (S (x.tx.take M))) hwz).fresh (a := ⟨g0, 2, none⟩) (.int .i64 (M : Int)) hwz)
        obtain ⟨W10, hW10⟩ : ∃ W, (wq.setCell ⟨g0, 1, none⟩ (.string (S (x.tx.take M)))).setCell ⟨g0, 2, none⟩ (.int .i64 (M : Int)) = W := ⟨_, rfl⟩
        rw [hW10] at HB10 HQ10 HF10 ⊢
        clear hW10 e0 e1 e2 ef2 el dl d0 d1 d2 df1 df2
        have HCE2 : Hid (∀ W, Below W10.heap.size W10 W → W.cell? ⟨p, 0, none⟩ = some (.slice (some ⟨g, 0, none⟩) n cap) ∧ W.cell? ⟨g0, 0, none⟩ = some (.string (S x.nm)) ∧ W.cell? ⟨g0, 1, none⟩ = some (.string (S (x.tx.take M))) ∧ W.cell? ⟨g0, 2, none⟩ = some (.int .i64 (M : Int)) ∧ p < W.heap.size) := Lib.hid (fun W hW => by
          obtain ⟨z0, z1, z2, _, _⟩ := (HB10.out.below hW).cells
          have hq := HQ10.out.below hW
          exact ⟨hq.cells.1, z0, z1, z2, hq.lt.1⟩)
        have hB2 : Below W10.heap.size W10 W10.drew := (Below.refl W10.heap.size W10).drew
        refine region_mix (fun W => Below W10.heap.size W10 W) (6) (.reads [0, 1, 2, 3, 4, 5] (.only 6 (.only 7 (.stop)))) (by kernel_rfl) (by kernel_rfl) (hB2) ?_
        obtain ⟨w11, hw11⟩ : ∃ W, W10.drew = W := ⟨_, rfl⟩
        rw [hw11] at hB2 ⊢
        clear hw11
        repeat (
          refine plan_read rfl (fun K hK => ?_)
          first
            | (refine plan_neg ?_ ?_
               focus (go_simp; done)
               go_simp
               refine hK _ ?_
               clear hK K)
            | (apply plan_pos
               focus (go_simp; done)
               focus (
                 intro W hW
                 (obtain ⟨d0, d1, d2, d3, d4⟩ := HCE2.out W hW)
                 go_simp
                 first
                   | done
                   | exact rfl)
               go_simp
               refine hK _ ?_
               clear hK K))
        have HQ11 := Lib.hid (HQ10.out.below hB2)
        obtain ⟨hgl, _, f0, f1, f2⟩ := HQ11.out.fileg HHILC.out HHX.out
        have hfz : ∀ j, w11.frozen? ⟨g, j, none⟩ = false := by
          obtain ⟨g', cap'', hv, _, _, _, _, _, hf⟩ := HQ11.out.file HHILC.out
          injection hv with e1 e2 e3
          injection e1 with e1
          injection e1 with e1
          subst e1
          exact hf
        have hf0 := hfz (i * 3)
        have hf1 := hfz (i * 3 + 1)
        have hf2 := hfz (i * 3 + 2)
        clear hfz
        refine plan_only rfl (fun Q hQ => ?_)
        go_wp2
        refine hQ _ _ (fun h => absurd h (by omega)) ?_
        clear hQ Q
        refine plan_only rfl (fun Q hQ => ?_)
        go_wp2
        refine hQ _ _ (fun h => absurd h (by omega)) ?_
        clear hQ Q
        unfold Plan.wp
        have HE : Hid (RsAt w (((w11.setCell ⟨g, i * 3, none⟩ (.string (S x.nm))).setCell ⟨g, i * 3 + 1, none⟩ (.string (S (x.tx.take M)))).setCell ⟨g, i * 3 + 2, none⟩ (.int .i64 (M : Int))) p (.slice (some ⟨g, 0, none⟩) n cap) R D keep (i + 1)) := Lib.hid (by
          have hnl : (cutsTo D.fs keep i).length = n := by rw [cutsTo_len, HN.out]
          have hq := HQ11.out
          rw [← hnl] at hq
          have hq2 := QAt.whole (D := ⟨cutsTo D.fs keep i, D.acts, D.arm, D.off⟩) hq HHILC.out ⟨x.nm, x.tx.take M, M⟩
          dsimp only at hq2
          rw [hnl, ← HST.out] at hq2
          have hRg := (HR.out g).2 (.inr rfl)
          exact ⟨hq2, (((HF10.out.trans (Beside.of_below (R := R) hB2) (fun b hb _ => hb)).trans (Beside.set w11 _ hRg) (fun b hb _ => hb)).trans (Beside.set _ _ hRg) (fun b hb _ => hb)).trans (Beside.set _ _ hRg) (fun b hb _ => hb)⟩)
        go_wp2
        go_roundw
        case rel => exact ⟨i + 1, by omega, by go_num, HE.out⟩
        case measure => simp [intOf]; omega
      · go_upto_region 10 with fail
        have hcp : 0 ≤ C := by omega
        have hmt : C.tmod (N1 : Int) = (K : Int) := by rw [Int.tmod_eq_emod_of_nonneg hcp]; exact hmod
        have hrem : ∀ W, (Op.intDiv .rem .i64 C (N1 : Int)).run Try.prog W = .ok (.int .i64 (K : Int)) W := fun W => by
          unfold Op.intDiv
          rw [if_neg (by omega), hmt]; rfl
        clear hmod hkc hbl hcn
        obtain ⟨W8, hW8⟩ : ∃ W, wr.alloc (.cells #[.string (S x.nm), .string (S x.tx), .int .i64 (x.sy : Int)] 67) = W := ⟨_, rfl⟩
        obtain ⟨g0, hg0⟩ : ∃ x, wr.heap.size = x := ⟨_, rfl⟩
        have hgg : g ≠ g0 := by omega
        have hpg : p ≠ g0 := by omega
        have HB8 : Hid (FBox W8 g0 x) := Lib.hid (by rw [← hW8, ← hg0]; exact HB0.out)
        have HQ8 : Hid (QAt W8 p (.slice (some ⟨g, 0, none⟩) n cap) ⟨cutsTo D.fs keep i, D.acts, D.arm, D.off⟩) := Lib.hid (by rw [← hW8]; exact HQ0.out)
        have HF8 : Hid (Beside R w W8) := Lib.hid (by rw [← hW8]; exact HF0.out)
        rw [hW8, hg0]
        rw [hg0] at hwz
        clear hW8 hg0 y0 y1 y2 f0 f1 f2 c0 c2 c3 HB0 HQ0 HF0 hg hpl
        have HCE : Hid (∀ W, Below W8.heap.size W8 W → W.cell? ⟨g0, 0, none⟩ = some (.string (S x.nm)) ∧ W.cell? ⟨g0, 1, none⟩ = some (.string (S x.tx)) ∧ W.cell? ⟨g0, 2, none⟩ = some (.int .i64 (x.sy : Int))) := Lib.hid (fun W hW => by
          obtain ⟨z0, z1, z2, _, _⟩ := (HB8.out.below hW).cells
          exact ⟨z0, z1, z2⟩)
        have hB : Below W8.heap.size W8 W8.drew := (Below.refl W8.heap.size W8).drew
        refine region_mix (fun W => Below W8.heap.size W8 W) (9) (.reads [0, 1, 2, 3, 4, 5, 6, 7, 8] (.only 9 (.only 10 (.only 11 (.stop))))) (by kernel_rfl) (by kernel_rfl) (hB) ?_
        obtain ⟨wq, hwq⟩ : ∃ W, W8.drew = W := ⟨_, rfl⟩
        rw [hwq] at hB ⊢
        clear hwq
        repeat (
          refine plan_read rfl (fun K hK => ?_)
          first
            | (refine plan_neg ?_ ?_
               focus (go_simp; done)
               go_simp
               refine hK _ ?_
               clear hK K)
            | (apply plan_pos
               focus (go_simp; done)
               focus (
                 intro W hW
                 (obtain ⟨d0, d1, d2⟩ := HCE.out W hW)
                 go_simp
                 first
                   | done
                   | exact rfl)
               go_simp
               refine hK _ ?_
               clear hK K))
        have HBq := Lib.hid (HB8.out.below hB)
        obtain ⟨d0, d1, d2, df, dl⟩ := HBq.out.cells
        have df1 := df 1
        have df2 := df 2
        clear df
        refine plan_only rfl (fun Q hQ => ?_)
        go_wp2
        refine hQ _ _ (fun h => absurd h (by omega)) ?_
        clear hQ Q
        refine plan_only rfl (fun Q hQ => ?_)
        go_wp2
        refine hQ _ _ (fun h => absurd h (by omega)) ?_
        clear hQ Q
        refine plan_only rfl (fun Q hQ => ?_)
        go_wp2
        refine hQ _ _ (fun h => absurd h (by omega)) ?_
        clear hQ Q
        unfold Plan.wp
        have HB9 := Lib.hid (HBq.out.text (x.tx.take M))
        obtain ⟨e0, e1, e2, ef, el⟩ := HB9.out.cells
        dsimp only at e0 e1 e2
        have ef2 := ef 2
        clear ef
        go_upto_region 12 with fail
        have HB10 := Lib.hid (HB9.out.sync M)
        have HQ10 := Lib.hid (((HQ8.out.below hB).far (a := ⟨g0, 1, none⟩) (.string (S (x.tx.take M))) (fun e => hpg e.symm) (fun b e => by simp [Value.ownBlock] at e; dsimp only; omega)).far (a := ⟨g0, 2, none⟩) (.int .i64 (M : Int)) (fun e => hpg e.symm) (fun b e => by simp [Value.ownBlock] at e; dsimp only; omega))
        have HF10 := Lib.hid (((HF8.out.trans (Beside.of_below (R := R) hB) (fun b hb _ => hb)).fresh (a := ⟨g0, 1, none⟩) (.string (S (x.tx.take M))) hwz).fresh (a := ⟨g0, 2, none⟩) (.int .i64 (M : Int)) hwz)
        obtain ⟨W10, hW10⟩ : ∃ W, (wq.setCell ⟨g0, 1, none⟩ (.string (S (x.tx.take M)))).setCell ⟨g0, 2, none⟩ (.int .i64 (M : Int)) = W := ⟨_, rfl⟩
        rw [hW10] at HB10 HQ10 HF10 ⊢
        clear hW10 e0 e1 e2 ef2 el dl d0 d1 d2 df1 df2
        have HCE2 : Hid (∀ W, Below W10.heap.size W10 W → W.cell? ⟨p, 0, none⟩ = some (.slice (some ⟨g, 0, none⟩) n cap) ∧ W.cell? ⟨g0, 0, none⟩ = some (.string (S x.nm)) ∧ W.cell? ⟨g0, 1, none⟩ = some (.string (S (x.tx.take M))) ∧ W.cell? ⟨g0, 2, none⟩ = some (.int .i64 (M : Int)) ∧ p < W.heap.size) := Lib.hid (fun W hW => by
          obtain ⟨z0, z1, z2, _, _⟩ := (HB10.out.below hW).cells
          have hq := HQ10.out.below hW
          exact ⟨hq.cells.1, z0, z1, z2, hq.lt.1⟩)
        have hB2 : Below W10.heap.size W10 W10.drew := (Below.refl W10.heap.size W10).drew
        refine region_mix (fun W => Below W10.heap.size W10 W) (6) (.reads [0, 1, 2, 3, 4, 5] (.only 6 (.only 7 (.stop)))) (by kernel_rfl) (by kernel_rfl) (hB2) ?_
        obtain ⟨w11, hw11⟩ : ∃ W, W10.drew = W := ⟨_, rfl⟩
        rw [hw11] at hB2 ⊢
        clear hw11
        repeat (
          refine plan_read rfl (fun K hK => ?_)
          first
            | (refine plan_neg ?_ ?_
               focus (go_simp; done)
               go_simp
               refine hK _ ?_
               clear hK K)
            | (apply plan_pos
               focus (go_simp; done)
               focus (
                 intro W hW
                 (obtain ⟨d0, d1, d2, d3, d4⟩ := HCE2.out W hW)
                 go_simp
                 first
                   | done
                   | exact rfl)
               go_simp
               refine hK _ ?_
               clear hK K))
        have HQ11 := Lib.hid (HQ10.out.below hB2)
        obtain ⟨hgl, _, f0, f1, f2⟩ := HQ11.out.fileg HHILC.out HHX.out
        have hfz : ∀ j, w11.frozen? ⟨g, j, none⟩ = false := by
          obtain ⟨g', cap'', hv, _, _, _, _, _, hf⟩ := HQ11.out.file HHILC.out
          injection hv with e1 e2 e3
          injection e1 with e1
          injection e1 with e1
          subst e1
          exact hf
        have hf0 := hfz (i * 3)
        have hf1 := hfz (i * 3 + 1)
        have hf2 := hfz (i * 3 + 2)
        clear hfz
        refine plan_only rfl (fun Q hQ => ?_)
        go_wp2
        refine hQ _ _ (fun h => absurd h (by omega)) ?_
        clear hQ Q
        refine plan_only rfl (fun Q hQ => ?_)
        go_wp2
        refine hQ _ _ (fun h => absurd h (by omega)) ?_
        clear hQ Q
        unfold Plan.wp
        have HE : Hid (RsAt w (((w11.setCell ⟨g, i * 3, none⟩ (.string (S x.nm))).setCell ⟨g, i * 3 + 1, none⟩ (.string (S (x.tx.take M)))).setCell ⟨g, i * 3 + 2, none⟩ (.int .i64 (M : Int))) p (.slice (some ⟨g, 0, none⟩) n cap) R D keep (i + 1)) := Lib.hid (by
          have hnl : (cutsTo D.fs keep i).length = n := by rw [cutsTo_len, HN.out]
          have hq := HQ11.out
          rw [← hnl] at hq
          have hq2 := QAt.whole (D := ⟨cutsTo D.fs keep i, D.acts, D.arm, D.off⟩) hq HHILC.out ⟨x.nm, x.tx.take M, M⟩
          dsimp only at hq2
          rw [hnl, ← HST.out] at hq2
          have hRg := (HR.out g).2 (.inr rfl)
          exact ⟨hq2, (((HF10.out.trans (Beside.of_below (R := R) hB2) (fun b hb _ => hb)).trans (Beside.set w11 _ hRg) (fun b hb _ => hb)).trans (Beside.set _ _ hRg) (fun b hb _ => hb)).trans (Beside.set _ _ hRg) (fun b hb _ => hb)⟩)
        go_wp2
        go_roundw
        case rel => exact ⟨i + 1, by omega, by go_num, HE.out⟩
        case measure => simp [intOf]; omega
      · go_upto_region 10 with fail
        obtain rfl : M = x.sy := by omega
        obtain rfl : K = 0 := by omega
        have hrem : ∀ W, (Op.intDiv .rem .i64 0 (N1 : Int)).run Try.prog W = .ok (.int .i64 (0 : Int)) W := fun W => by
          unfold Op.intDiv
          rw [if_neg (by omega), Int.zero_tmod]; rfl
        obtain ⟨W8, hW8⟩ : ∃ W, wr.alloc (.cells #[.string (S x.nm), .string (S x.tx), .int .i64 (x.sy : Int)] 67) = W := ⟨_, rfl⟩
        obtain ⟨g0, hg0⟩ : ∃ x, wr.heap.size = x := ⟨_, rfl⟩
        have hgg : g ≠ g0 := by omega
        have hpg : p ≠ g0 := by omega
        have HB8 : Hid (FBox W8 g0 x) := Lib.hid (by rw [← hW8, ← hg0]; exact HB0.out)
        have HQ8 : Hid (QAt W8 p (.slice (some ⟨g, 0, none⟩) n cap) ⟨cutsTo D.fs keep i, D.acts, D.arm, D.off⟩) := Lib.hid (by rw [← hW8]; exact HQ0.out)
        have HF8 : Hid (Beside R w W8) := Lib.hid (by rw [← hW8]; exact HF0.out)
        rw [hW8, hg0]
        rw [hg0] at hwz
        clear hW8 hg0 y0 y1 y2 f0 f1 f2 c0 c2 c3 HB0 HQ0 HF0 hg hpl
        have HCE : Hid (∀ W, Below W8.heap.size W8 W → W.cell? ⟨g0, 0, none⟩ = some (.string (S x.nm)) ∧ W.cell? ⟨g0, 1, none⟩ = some (.string (S x.tx)) ∧ W.cell? ⟨g0, 2, none⟩ = some (.int .i64 (x.sy : Int))) := Lib.hid (fun W hW => by
          obtain ⟨z0, z1, z2, _, _⟩ := (HB8.out.below hW).cells
          exact ⟨z0, z1, z2⟩)
        have hB : Below W8.heap.size W8 W8.drew := (Below.refl W8.heap.size W8).drew
        refine region_mix (fun W => Below W8.heap.size W8 W) (9) (.reads [0, 1, 2, 3, 4, 5, 6, 7, 8] (.only 9 (.only 10 (.only 11 (.stop))))) (by kernel_rfl) (by kernel_rfl) (hB) ?_
        obtain ⟨wq, hwq⟩ : ∃ W, W8.drew = W := ⟨_, rfl⟩
        rw [hwq] at hB ⊢
        clear hwq
        repeat (
          refine plan_read rfl (fun K hK => ?_)
          first
            | (refine plan_neg ?_ ?_
               focus (go_simp; done)
               go_simp
               refine hK _ ?_
               clear hK K)
            | (apply plan_pos
               focus (go_simp; done)
               focus (
                 intro W hW
                 (obtain ⟨d0, d1, d2⟩ := HCE.out W hW)
                 go_simp
                 first
                   | done
                   | exact rfl)
               go_simp
               refine hK _ ?_
               clear hK K))
        have HBq := Lib.hid (HB8.out.below hB)
        obtain ⟨d0, d1, d2, df, dl⟩ := HBq.out.cells
        have df1 := df 1
        have df2 := df 2
        clear df
        refine plan_only rfl (fun Q hQ => ?_)
        go_wp2
        refine hQ _ _ (fun h => absurd h (by omega)) ?_
        clear hQ Q
        refine plan_only rfl (fun Q hQ => ?_)
        go_wp2
        refine hQ _ _ (fun h => absurd h (by omega)) ?_
        clear hQ Q
        refine plan_only rfl (fun Q hQ => ?_)
        go_wp2
        refine hQ _ _ (fun h => absurd h (by omega)) ?_
        clear hQ Q
        unfold Plan.wp
        have HB9 := Lib.hid (HBq.out.text (x.tx.take x.sy))
        obtain ⟨e0, e1, e2, ef, el⟩ := HB9.out.cells
        dsimp only at e0 e1 e2
        have ef2 := ef 2
        clear ef
        go_upto_region 12 with fail
        have HB10 := Lib.hid (HB9.out.sync x.sy)
        have HQ10 := Lib.hid (((HQ8.out.below hB).far (a := ⟨g0, 1, none⟩) (.string (S (x.tx.take x.sy))) (fun e => hpg e.symm) (fun b e => by simp [Value.ownBlock] at e; dsimp only; omega)).far (a := ⟨g0, 2, none⟩) (.int .i64 (x.sy : Int)) (fun e => hpg e.symm) (fun b e => by simp [Value.ownBlock] at e; dsimp only; omega))
        have HF10 := Lib.hid (((HF8.out.trans (Beside.of_below (R := R) hB) (fun b hb _ => hb)).fresh (a := ⟨g0, 1, none⟩) (.string (S (x.tx.take x.sy))) hwz).fresh (a := ⟨g0, 2, none⟩) (.int .i64 (x.sy : Int)) hwz)
        obtain ⟨W10, hW10⟩ : ∃ W, (wq.setCell ⟨g0, 1, none⟩ (.string (S (x.tx.take x.sy)))).setCell ⟨g0, 2, none⟩ (.int .i64 (x.sy : Int)) = W := ⟨_, rfl⟩
        rw [hW10] at HB10 HQ10 HF10 ⊢
        clear hW10 e0 e1 e2 ef2 el dl d0 d1 d2 df1 df2
        have HCE2 : Hid (∀ W, Below W10.heap.size W10 W → W.cell? ⟨p, 0, none⟩ = some (.slice (some ⟨g, 0, none⟩) n cap) ∧ W.cell? ⟨g0, 0, none⟩ = some (.string (S x.nm)) ∧ W.cell? ⟨g0, 1, none⟩ = some (.string (S (x.tx.take x.sy))) ∧ W.cell? ⟨g0, 2, none⟩ = some (.int .i64 (x.sy : Int)) ∧ p < W.heap.size) := Lib.hid (fun W hW => by
          obtain ⟨z0, z1, z2, _, _⟩ := (HB10.out.below hW).cells
          have hq := HQ10.out.below hW
          exact ⟨hq.cells.1, z0, z1, z2, hq.lt.1⟩)
        have hB2 : Below W10.heap.size W10 W10.drew := (Below.refl W10.heap.size W10).drew
        refine region_mix (fun W => Below W10.heap.size W10 W) (6) (.reads [0, 1, 2, 3, 4, 5] (.only 6 (.only 7 (.stop)))) (by kernel_rfl) (by kernel_rfl) (hB2) ?_
        obtain ⟨w11, hw11⟩ : ∃ W, W10.drew = W := ⟨_, rfl⟩
        rw [hw11] at hB2 ⊢
        clear hw11
        repeat (
          refine plan_read rfl (fun K hK => ?_)
          first
            | (refine plan_neg ?_ ?_
               focus (go_simp; done)
               go_simp
               refine hK _ ?_
               clear hK K)
            | (apply plan_pos
               focus (go_simp; done)
               focus (
                 intro W hW
                 (obtain ⟨d0, d1, d2, d3, d4⟩ := HCE2.out W hW)
                 go_simp
                 first
                   | done
                   | exact rfl)
               go_simp
               refine hK _ ?_
               clear hK K))
        have HQ11 := Lib.hid (HQ10.out.below hB2)
        obtain ⟨hgl, _, f0, f1, f2⟩ := HQ11.out.fileg HHILC.out HHX.out
        have hfz : ∀ j, w11.frozen? ⟨g, j, none⟩ = false := by
          obtain ⟨g', cap'', hv, _, _, _, _, _, hf⟩ := HQ11.out.file HHILC.out
          injection hv with e1 e2 e3
          injection e1 with e1
          injection e1 with e1
          subst e1
          exact hf
        have hf0 := hfz (i * 3)
        have hf1 := hfz (i * 3 + 1)
        have hf2 := hfz (i * 3 + 2)
        clear hfz
        refine plan_only rfl (fun Q hQ => ?_)
        go_wp2
        refine hQ _ _ (fun h => absurd h (by omega)) ?_
        clear hQ Q
        refine plan_only rfl (fun Q hQ => ?_)
        go_wp2
        refine hQ _ _ (fun h => absurd h (by omega)) ?_
        clear hQ Q
        unfold Plan.wp
        have HE : Hid (RsAt w (((w11.setCell ⟨g, i * 3, none⟩ (.string (S x.nm))).setCell ⟨g, i * 3 + 1, none⟩ (.string (S (x.tx.take x.sy)))).setCell ⟨g, i * 3 + 2, none⟩ (.int .i64 (x.sy : Int))) p (.slice (some ⟨g, 0, none⟩) n cap) R D keep (i + 1)) := Lib.hid (by
          have hnl : (cutsTo D.fs keep i).length = n := by rw [cutsTo_len, HN.out]
          have hq := HQ11.out
          rw [← hnl] at hq
          have hq2 := QAt.whole (D := ⟨cutsTo D.fs keep i, D.acts, D.arm, D.off⟩) hq HHILC.out ⟨x.nm, x.tx.take x.sy, x.sy⟩
          dsimp only at hq2
          rw [hnl, ← HST.out] at hq2
          have hRg := (HR.out g).2 (.inr rfl)
          exact ⟨hq2, (((HF10.out.trans (Beside.of_below (R := R) hB2) (fun b hb _ => hb)).trans (Beside.set w11 _ hRg) (fun b hb _ => hb)).trans (Beside.set _ _ hRg) (fun b hb _ => hb)).trans (Beside.set _ _ hRg) (fun b hb _ => hb)⟩)
        go_wp2
        go_roundw
        case rel => exact ⟨i + 1, by omega, by go_num, HE.out⟩
        case measure => simp [intOf]; omega
    · obtain rfl : i = n := by omega
      have hE : cutsTo D.fs keep i = cutsF D.fs keep := by rw [← HN.out, cutsTo_all]
      have hf3 := hfz 3
      have hq1 := hp.q.set3 false
      obtain ⟨_, _, d2, _, df, _⟩ := hq1.cells
      dsimp only at d2
      have df2 := df 2
      have hq2 := hq1.set2 0
      dsimp only at hq2
      rw [hE] at hq2
      have HQ2 := Lib.hid hq2
      clear hfz hp hlt hE hq1 df hq2
      go_wp2
      go_end0
      refine ⟨rfl, q_turn HR.out (HOK.out.restart keep) HQ2.out ?_ (fun b e => .inl e)⟩
      exact (HP.out.far.trans (Beside.set wr _ ((HR.out p).2 (.inl rfl))) (fun b hb _ => hb)).trans (Beside.set _ _ ((HR.out p).2 (.inl rfl))) (fun b hb _ => hb)
end Go.Proofs.Ytffpmcelelloeaa
