/-
  The program's book: Sent, Learn.
-/
import Derived.Test.YtgkpkegbjkjhiaaLpgrant
namespace Go.Proofs.Ytgkpkegbjkjhiaa
open Go.RowKit Gm

/-- A grant more. -/
theorem PAt.pushed {w wc : World} {p : Nat} {v v' : Value} {gx : PX} {u : Int} {D : Bk} (h : PAt w p v gx u D) {x : Gr} {m : Nat} (hb : w.grownBy wc v.ownBlock) (hr : wc.ownsRow 0 58 3 v' (gx.length + 1) (pxV gx ++ pxC (x, m))) (hm : CntAt wc m 1048576 (sumC x.l)) :
    PAt (wc.setCell ⟨p, 2, none⟩ v') p v' (gx ++ [(x, m)]) u { D with g := D.g ++ [x] } := by
  obtain ⟨f1, f2⟩ := h.far
  have hp : wc.heap[p]? = some (.cells #[.bool (!D.unknown), .int .i64 u, v] 52 (0, 0)) := (hb.block p (h.lt (.inl rfl)) fun e => f1 e.symm).trans h.blk
  have hset : ∀ b, b ≠ p → (wc.setCell ⟨p, 2, none⟩ v').heap[b]? = wc.heap[b]? := fun b hn => Below.heap_setCell _ _ _ b hn
  refine ⟨by rw [List.map_append, h.eq]; rfl, h.to, ?_, ?_, fun y hy => ?_⟩
  · simp [World.setCell, Array.getElem?_modify, hp]
  · have e1 : (gx ++ [(x, m)]).length = gx.length + 1 := by simp
    have e2 : pxV (gx ++ [(x, m)]) = pxV gx ++ pxC (x, m) := by rw [pxV_app]; rfl
    rw [e1, e2]
    exact row_moved hr fun b e => hset b fun e' => by
      obtain ⟨cs, hc⟩ := row_blk hr e
      rw [e', hp] at hc; injection hc with hc; injection hc with _ ht; exact absurd ht (by decide)
  · rcases List.mem_append.1 hy with hy | hy
    · have hyb := h.cnt y hy
      exact (hyb.moved (hb.block y.2 hyb.lt fun e => (f2 y hy).2 e.symm)).moved (hset _ (f2 y hy).1)
    · obtain rfl : y = (x, m) := by simpa using hy
      exact hm.moved (hset _ fun e => hm.cells (by rw [show m = p from e]; exact hp))

set_option maxRecDepth 100000 in
set_option maxHeartbeats 4000000 in
theorem sent_any (p : Nat) (D : Bk) (R : Nat → Prop) (v u : Int) (a : Option Addr) (len cap : Nat) (l : List Bd) (w : World) (h : PBook w p D R) (_hD : OkB D) (hg : D.g.length ≤ 999) (_hv : I64 v) (_hu : I64 u) (hl : BindsAt w (fun b => b < w.heap.size ∧ ¬ R b) a len l) (ok : OkL l) :
    Calls Try.prog 22 #[.pointer (some ⟨p, 0, none⟩), .int .i64 v, .int .i64 u, .slice a len cap] w fun e w' => e = .returned (.tuple #[]) ∧ Turn PBook w w' p (sentB D v u l) R := by
  obtain ⟨rv, gx, k, hk, hR, hq⟩ := h
  obtain ⟨i0, hi0, hz0, hz1, hz2⟩ := info_parts infoPg
  obtain ⟨_, _, c2, hfz, hpl⟩ := hq.cells
  have f2 := hfz 2
  have hgl : gx.length ≤ 999 := by have := congrArg List.length hq.eq; rw [List.length_map] at this; omega
  have HQ := Lib.hid hq
  have HR := Lib.hid hR
  have HK := Lib.hid hk
  have HOK := Lib.hid ok
  obtain ⟨ra, rc, hrv⟩ := row_form hq.row
  subst hrv
  have HL : Hid (BindsAt w.drew (fun b => b < w.drew.heap.size) a len l) := Lib.hid (BindsAt.imp (W := w.drew) hl fun b hb => hb.1)
  have c2' : w.drew.cell? ⟨p, 2, none⟩ = some (.slice ra gx.length rc) := c2
  clear hq hR hfz hl c2 hk ok
  go_enter Try.func22, Try.ntmps22
  go_wp2
  refine region_mix (fun W => W.cell? ⟨p, 2, none⟩ = some (.slice ra gx.length rc)) (11) (.reads [0, 1, 2, 3, 4, 5, 6, 7] (.only 8 (.only 9 (.only 10 (.only 11 (.only 12 (.only 13 (.stop)))))))) (by kernel_rfl) (by kernel_rfl) (c2') ?_
  repeat (
    refine plan_read rfl (fun K hK => ?_)
    first
      | (refine plan_neg ?_ ?_
         focus (go_simp; done)
         go_simp
         refine hK _ ?_
         clear hK K)
      | (apply plan_pos
         focus (go_simp; done)
         focus (
           intro W hW
           (have c2 := hW)
           go_simp
           first
             | done
             | exact rfl)
         go_simp
         refine hK _ ?_
         clear hK K))
  refine plan_only rfl (fun Q hQ => ?_)
  go_wp2_with (go_at_call 38; (with_reducible refine (newGrant_any v u a len cap l w.drew HL.out HOK.out).mono ?_); rintro e wa ⟨m, rfl, hma, hca, hba⟩)
  have HCA := Lib.hid hca
  have hba' : Below w.heap.size w wa := bt (Below.refl _ w).drew hba
  have d2 : wa.cell? ⟨p, 2, none⟩ = some (.slice ra gx.length rc) := (hba'.cell (p := ⟨p, 2, none⟩) hpl).trans c2'
  have hpl2 : p < wa.heap.size := Nat.lt_of_lt_of_le hpl hba'.size
  have f2a : wa.frozen? ⟨p, 2, none⟩ = false := (hba'.frozen (p := ⟨p, 2, none⟩) hpl).trans f2
  have HBA := Lib.hid hba'
  have HMA : Hid (w.heap.size ≤ m) := Lib.hid hma
  clear hca hba hma hba'
  refine hQ _ _ (fun _ => d2) ?_
  clear hQ Q
  refine plan_only rfl (fun Q hQ => ?_)
  go_wp2
  have d3 : (wa.alloc (.cells #[.int .i64 v, .int .i64 u, .map (some m)] 58)).cell? ⟨p, 2, none⟩ = some (.slice ra gx.length rc) := by
    rw [World.cell?_alloc_lt wa _ ⟨p, 2, none⟩ hpl2]; exact d2
  refine hQ _ _ (fun _ => d3) ?_
  clear hQ Q
  have cuts := cells_3 wa (.int .i64 v) (.int .i64 u) (.map (some m)) 58
  have hb1 : Below wa.heap.size wa (wa.alloc (.cells #[.int .i64 v, .int .i64 u, .map (some m)] 58)) := (Below.refl _ wa).alloc (Nat.le_refl _) _
  have hgw : w.grownBy (wa.alloc (.cells #[.int .i64 v, .int .i64 u, .map (some m)] 58)) none := gbb' (bt HBA.out hb1)
  have HCB := Lib.hid (HCA.out.moved (hb1.block m HCA.out.lt))
  have hrow1 := HQ.out.row.kept hgw (Classical.em _)
  have HQ1 := Lib.hid (HQ.out.keep fun b e => hgw.block b (HQ.out.lt e) fun e' => by cases e')
  have f3 : (wa.alloc (.cells #[.int .i64 v, .int .i64 u, .map (some m)] 58)).frozen? ⟨p, 2, none⟩ = false := (World.frozen?_of_block (a := ⟨p, 2, none⟩) (hgw.block p hpl (fun e => by cases e))).trans f2
  have hz1' : (wa.alloc (.cells #[.int .i64 v, .int .i64 u, .map (some m)] 58)).heap.size = wa.heap.size + 1 := by simp
  clear hb1
  generalize (wa.alloc (.cells #[.int .i64 v, .int .i64 u, .map (some m)] 58)) = wb at *
  refine plan_only rfl (fun Q hQ => ?_)
  refine wpList_append_lies _ (by rfl) (.tmp 12) (.tmp 17) 50 (by rfl) 0 58 i0 _ 3 24 Try.underlying50 hi0 hz0 hz1 hz2 rfl (by decide) (.slice ra gx.length rc) gx.length (pxV gx) (by rfl) hrow1 ⟨wa.heap.size, 0, none⟩ 1 1 [.int .i64 v, .int .i64 u, .map (some m)] (by rfl) (by rfl) cuts (by simp [Value.oneCell']) (by omega) (by unfold maxLen; omega) (by omega) (Nat.zero_le _) wb.heap.size rfl ?_
  intro gg cap' wc hownc hgrow hat hltc
  have hfar := HQ1.out.far
  have d4 : wc.cell? ⟨p, 2, none⟩ = some (.slice ra gx.length rc) := hgrow.cell d3 (fun e => hfar.1 e.symm)
  have hpb : p < wb.heap.size := Nat.lt_of_lt_of_le hpl hgw.size
  have f4 : wc.frozen? ⟨p, 2, none⟩ = false := (hgrow.frozen_far ⟨p, 2, none⟩ hpb (fun e => hfar.1 e.symm)).trans f3
  have hpc : p < wc.heap.size := Nat.lt_of_lt_of_le hpb hgrow.size
  have HCC : Hid (CntAt wc m 1048576 (sumC l)) := Lib.hid (HCB.out.moved (hgrow.block m HCB.out.lt fun e => by
    obtain ⟨cs, hc⟩ := row_blk hrow1 e.symm
    exact HCB.out.cells hc))
  have HROWC := Lib.hid hownc
  have HGR := Lib.hid hgrow
  have HAT := Lib.hid hat
  have HWB : Hid (w.heap.size ≤ wb.heap.size) := Lib.hid hgw.size
  have HGW := Lib.hid hgw
  clear d2 d3 f2 f2a f3 hfar cuts hrow1 hownc hgrow hat hltc hgw hz1' c2'
  go_wp2
  refine hQ _ _ (fun _ => d4) ?_
  clear hQ Q
  refine plan_only rfl (fun Q hQ => ?_)
  go_wp2
  refine hQ _ _ (fun h => absurd h (by omega)) ?_
  clear hQ Q
  refine plan_only rfl (fun Q hQ => ?_)
  go_wp2
  refine hQ _ _ (fun h => absurd h (by omega)) ?_
  clear hQ Q
  refine plan_only rfl (fun Q hQ => ?_)
  go_wp2
  refine hQ _ _ (fun h => absurd h (by omega)) ?_
  clear hQ Q
  unfold Plan.wp
  go_wp2
  go_end0
  have hfin := HQ1.out.pushed (x := ⟨v, u, l⟩) (m := m) HGR.out HROWC.out HCC.out
  refine ⟨rfl, p_turn HR.out HK.out hfin ?_ fun b e => ?_⟩
  · refine ((Beside.grown (R := R) HGW.out fun b e => by cases e).trans (Beside.grown (R := R) HGR.out fun b e _ => (HR.out b).2 (.inr (.inl e))) fun b hb _ => hb).trans (Beside.set wc _ ((HR.out p).2 (.inl rfl))) fun b hb _ => hb
  · rcases e with e | e | ⟨y, hy, e⟩
    · exact .inl (.inl e)
    · have e' : gg = b := by simpa [Value.ownBlock] using e
      rcases HAT.out with h | h
      · exact .inl (.inr (.inl (by rw [← e']; exact h)))
      · exact .inr (by rw [← e', h]; exact HWB.out)
    · rcases List.mem_append.1 hy with hy | hy
      · exact .inl (.inr (.inr ⟨y, hy, e⟩))
      · obtain rfl : y = (⟨v, u, l⟩, m) := by simpa using hy
        exact .inr (by rw [← e]; exact HMA.out)

set_option maxRecDepth 100000 in
set_option maxHeartbeats 4000000 in
theorem learn_any (p : Nat) (D : Bk) (R : Nat → Prop) (v u : Int) (a : Option Addr) (len cap : Nat) (l : List Bd) (w : World) (h : PBook w p D R) (_hD : OkB D) (_hv : I64 v) (_hu : I64 u) (hl : BindsAt w (fun b => b < w.heap.size ∧ ¬ R b) a len l) (ok : OkL l) :
    Calls Try.prog 20 #[.pointer (some ⟨p, 0, none⟩), .int .i64 v, .int .i64 u, .slice a len cap] w fun e w' => e = .returned (.tuple #[]) ∧ Turn PBook w w' p (learnB D v u l) R := by
  obtain ⟨rv, gx, k, hk, hR, hq⟩ := h
  obtain ⟨_, _, _, hfz, hpl⟩ := hq.cells
  have HQ := Lib.hid hq
  have HR := Lib.hid hR
  have HOK := Lib.hid ok
  have HL : Hid (BindsAt w (fun b => b < w.heap.size) a len l) := Lib.hid (hl.imp fun b hb => hb.1)
  have HZ := Lib.hid hfz
  obtain ⟨c0, c1, c2, _, _⟩ := hq.cells
  have C0 := Lib.hid c0
  have C1 := Lib.hid c1
  have C2 := Lib.hid c2
  clear hq hR hl hk ok hfz c0 c1 c2
  go_enter Try.func20, Try.ntmps20
  go_wp2_with (go_at_call 38; (with_reducible refine (newGrant_any v u a len cap l w HL.out HOK.out).mono ?_); rintro e wa ⟨m, rfl, hma, hca, hba⟩
               have hb1 : Below wa.heap.size wa (wa.alloc (.cells #[.int .i64 v, .int .i64 u, .map (some m)] 58)) := (Below.refl _ wa).alloc (Nat.le_refl _) _
               have hbb := bt hba hb1
               have c0 := (hbb.cell (p := ⟨p, 0, none⟩) hpl).trans C0.out
               have c1 := (hbb.cell (p := ⟨p, 1, none⟩) hpl).trans C1.out
               have c2 := (hbb.cell (p := ⟨p, 2, none⟩) hpl).trans C2.out
               have z0 := (hbb.frozen (p := ⟨p, 0, none⟩) hpl).trans (HZ.out 0)
               have z1 := (hbb.frozen (p := ⟨p, 1, none⟩) hpl).trans (HZ.out 1)
               have z2 := (hbb.frozen (p := ⟨p, 2, none⟩) hpl).trans (HZ.out 2)
               have hpw := Nat.lt_of_lt_of_le hpl hbb.size
               have HMA : Hid (w.heap.size ≤ m) := Lib.hid hma
               have HCA := Lib.hid hca
               have HB1 := Lib.hid hb1
               have HBB := Lib.hid hbb
               have HBA := Lib.hid hba
               clear hma hca hb1 hbb hba)
  go_end0
  have hn := new_at wa (.cells #[.int .i64 v, .int .i64 u, .map (some m)] 58)
  obtain ⟨wb, hwb⟩ : ∃ W, wa.alloc (.cells #[.int .i64 v, .int .i64 u, .map (some m)] 58) = W := ⟨_, rfl⟩
  have hrow : wb.ownsRow 0 58 3 (.slice (some ⟨wa.heap.size, 0, none⟩) 1 1) 1 [.int .i64 v, .int .i64 u, .map (some m)] := hwb ▸ World.ownsRow_lit wa #[.int .i64 v, .int .i64 u, .map (some m)] 1 (Nat.zero_le _) (by unfold maxLen; omega) rfl
  have hbb := HBB.out
  have hb1 := HB1.out
  rw [hwb] at hbb hb1 hn hpw ⊢
  have hpn : wa.heap.size ≠ p := by have := HBA.out.size; omega
  have hpb : wb.heap[p]? = w.heap[p]? := hbb.block p hpl
  have hg3 : (((wb.setCell ⟨p, 0, none⟩ (.bool true)).setCell ⟨p, 1, none⟩ (.int .i64 0)).setCell ⟨p, 2, none⟩ (.slice (some ⟨wa.heap.size, 0, none⟩) 1 1)).heap[p]? = some (.cells #[.bool true, .int .i64 0, .slice (some ⟨wa.heap.size, 0, none⟩) 1 1] 52 (0, 0)) := by
    simp [World.setCell, Array.getElem?_modify, hpb, HQ.out.blk]
  have hgr := set3_grown wb p (.bool true) (.int .i64 0) (.slice (some ⟨wa.heap.size, 0, none⟩) 1 1) (i := 0) (j := 1) (k := 2)
  generalize ((wb.setCell ⟨p, 0, none⟩ (.bool true)).setCell ⟨p, 1, none⟩ (.int .i64 0)).setCell ⟨p, 2, none⟩ (.slice (some ⟨wa.heap.size, 0, none⟩) 1 1) = wc at *
  have hcm := (HCA.out.moved (hb1.block m HCA.out.lt)).moved (hgr.block m (Nat.lt_of_lt_of_le HCA.out.lt hb1.size) (by intro e; injection e with e; have := HMA.out; omega))
  have hfin : PAt wc p (.slice (some ⟨wa.heap.size, 0, none⟩) 1 1) [(⟨v, u, l⟩, m)] 0 (learnB D v u l) :=
    ⟨rfl, fun h => (by simp [learnB] at h), hg3, row_moved hrow fun b e => by
      have e' : wa.heap.size = b := by simpa [Value.ownBlock] using e
      refine hgr.block b ((hrow.lt b e).2) fun h => hpn ?_
      injection h with h
      omega, fun y hy => by
      obtain rfl : y = (⟨v, u, l⟩, m) := by simpa using hy
      exact hcm⟩
  refine ⟨rfl, p_turn HR.out (by unfold I64; omega) hfin ?_ fun b e => ?_⟩
  · exact (Beside.of_below hbb).trans (Beside.grown (R := R) hgr fun b e _ => (by injection e with e; exact (HR.out b).2 (.inl e.symm))) fun b hb _ => hb
  · rcases e with e | e | ⟨y, hy, e⟩
    · exact .inl (.inl e)
    · have e' : wa.heap.size = b := by simpa [Value.ownBlock] using e
      exact .inr (by rw [← e']; exact HBA.out.size)
    · obtain rfl : y = (⟨v, u, l⟩, m) := by simpa using hy
      exact .inr (by rw [← e]; exact HMA.out)
end Go.Proofs.Ytgkpkegbjkjhiaa
