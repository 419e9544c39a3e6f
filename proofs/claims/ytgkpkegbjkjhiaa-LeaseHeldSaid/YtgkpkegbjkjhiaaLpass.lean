/-
  The program's book: Acked, Pass.
-/
import Derived.Test.YtgkpkegbjkjhiaaLpdel2
namespace Go.Proofs.Ytgkpkegbjkjhiaa
open Go.RowKit Gm

/-- The row of grants is cut to some of them. -/
theorem PAt.filtered {w wc : World} {p : Nat} {v v' : Value} {gx : PX} {u : Int} {D : Bk} (h : PAt w p v gx u D) (c : Gr → Bool) (hg : w.grownBy wc v.ownBlock) (hr : wc.ownsRow 0 58 3 v' (gx.filter fun y => c y.1).length (pxV (gx.filter fun y => c y.1))) :
    PAt (wc.setCell ⟨p, 2, none⟩ v') p v' (gx.filter fun y => c y.1) u { D with g := D.g.filter c } := by
  obtain ⟨f1, f2⟩ := h.far
  have hp : wc.heap[p]? = some (.cells #[.bool (!D.unknown), .int .i64 u, v] 52 (0, 0)) := (hg.block p (h.lt (.inl rfl)) fun e => f1 e.symm).trans h.blk
  have hset : ∀ b, b ≠ p → (wc.setCell ⟨p, 2, none⟩ v').heap[b]? = wc.heap[b]? := fun b hn => Below.heap_setCell _ _ _ b hn
  refine ⟨?_, h.to, ?_, row_moved hr fun b e => hset b fun e' => ?_, fun y hy => ?_⟩
  · show D.g.filter c = _
    rw [h.eq, List.filter_map]; rfl
  · simp [World.setCell, Array.getElem?_modify, hp]
  · obtain ⟨cs, hc⟩ := row_blk hr e
    rw [e', hp] at hc; injection hc with hc; injection hc with _ ht; exact absurd ht (by decide)
  · have hy := (List.mem_filter.1 hy).1
    have hyb := h.cnt y hy
    exact (hyb.moved (hg.block y.2 hyb.lt fun e => (f2 y hy).2 e.symm)).moved (hset _ (f2 y hy).1)
theorem PAt.fit {w : World} {p : Nat} {v : Value} {gx : PX} {u : Int} {D : Bk} (h : PAt w p v gx u D) (hD : OkB D) : ∀ y ∈ gx, I64 y.1.unt := fun y hy => by
  have := hD.fit y.1 (by rw [h.eq]; exact List.mem_map.2 ⟨y, hy, rfl⟩)
  exact ⟨this.2.2.2.1, this.2.2.2.2.1⟩

set_option maxRecDepth 100000 in
set_option maxHeartbeats 4000000 in
theorem remove_any (g B : Nat) (t : Int) (c : Gr → Bool) (eg : ∀ args w, (callFunc g args).run Try.prog w = .ok (.enter g args) w) (hs : Says g B t c) (p : Nat) (v : Value) (gx : PX) (u : Int) (D : Bk) (R : Nat → Prop) (w : World) (h : PAt w p v gx u D) (hR : ∀ b, R b ↔ PBlk p v gx b) (hD : OkB D)
    (hb : ∃ cs ty, w.heap[B]? = some (.cells cs ty (0, 0)) ∧ ty ≠ 58) (hB : w.cell? ⟨B, 0, none⟩ = some (.int .i64 t)) :
    Calls Try.prog 39 #[.pointer (some ⟨p, 0, none⟩), .func (.func g) #[] #[.pointer (some ⟨B, 0, none⟩)]] w fun e w' => e = .returned (.tuple #[]) ∧ ∃ v' gx', PAt w' p v' gx' u { D with g := D.g.filter fun x => !c x } ∧ Beside R w w' ∧ ∀ b, PBlk p v' gx' b → PBlk p v gx b := by
  obtain ⟨_, _, c2, hfz, hpl⟩ := h.cells
  obtain ⟨a, cap, hv⟩ := row_form h.row
  subst hv
  have hgl : gx.length ≤ 1000 := by have := congrArg List.length h.eq; rw [List.length_map] at this; have := hD.len; omega
  have hBa : (Value.slice a gx.length cap).ownBlock ≠ some B := fun e => by
    obtain ⟨cs, ty, h1, h2⟩ := hb
    obtain ⟨cs', h3⟩ := row_blk h.row e
    rw [h1] at h3; injection h3 with h3; injection h3 with _ h4; exact h2 h4
  have HD1 : Hid (∀ W, W = w → Calls Try.prog 43 #[.slice a gx.length cap, .func (.func g) #[] #[.pointer (some ⟨B, 0, none⟩)]] W fun e w' => e = .returned (.slice a (gx.filter fun y => !c y.1).length cap) ∧
      w'.ownsRow 0 58 3 (.slice a (gx.filter fun y => !c y.1).length cap) (gx.filter fun y => !c y.1).length (pxV (gx.filter fun y => !c y.1)) ∧ w.grownBy w' (Value.slice a gx.length cap).ownBlock) :=
    Lib.hid fun W e => by subst e; exact delete_any g B t c eg hs a gx.length cap gx W rfl hgl h.row (h.fit hD) hB hBa
  have H := Lib.hid h
  have HR := Lib.hid hR
  have F2 : Hid (w.frozen? ⟨p, 2, none⟩ = false) := Lib.hid (hfz 2)
  have C2 := Lib.hid c2
  clear hs hD hb hB hBa hfz h hR
  go_enter Try.func39, Try.ntmps39
  go_wp2_with (go_at_call 43; (with_reducible refine (HD1.out _ rfl).mono ?_); rintro e w1 ⟨rfl, hr1, hg1⟩
               have hfar := H.out.far.1
               have d2 := hg1.cell C2.out (a := ⟨p, 2, none⟩) (fun e => hfar e.symm)
               have hp1 : p < w1.heap.size := Nat.lt_of_lt_of_le hpl hg1.size
               have z2 := (hg1.frozen_far ⟨p, 2, none⟩ hpl (fun e => hfar e.symm)).trans F2.out
               have HR1 := Lib.hid hr1
               have HG1 := Lib.hid hg1
               clear hr1 hg1 hfar)
  go_end0
  refine ⟨rfl, _, _, H.out.filtered (fun x => !c x) HG1.out HR1.out, ?_, fun b e => ?_⟩
  · exact (Beside.grown (R := R) HG1.out fun b e _ => (HR.out b).2 (.inr (.inl e))).trans (Beside.set w1 _ ((HR.out p).2 (.inl rfl))) fun b hb _ => hb
  · rcases e with e | e | ⟨y, hy, e⟩
    · exact .inl e
    · exact .inr (.inl (by cases a <;> exact e))
    · exact .inr (.inr ⟨y, (List.mem_filter.1 hy).1, e⟩)

theorem eg_acked : ∀ args w, (callFunc 40 args).run Try.prog w = .ok (.enter 40 args) w := enters_of Try.func40 (by kernel_rfl) rfl
theorem eg_pass : ∀ args w, (callFunc 41 args).run Try.prog w = .ok (.enter 41 args) w := enters_of Try.func41 (by kernel_rfl) rfl
theorem says_acked (B : Nat) (t : Int) : Says 40 B t (fun y => decide (y.ver < t)) := ⟨fun W y m hB _ => acked1_any t B y m W hB⟩
theorem says_pass (B : Nat) (t : Int) (ht : I64 t) : Says 41 B t (fun y => overN t y.unt) := ⟨fun W y m hB hy => pass1_any t ht B y m W hB hy⟩

set_option maxRecDepth 100000 in
set_option maxHeartbeats 4000000 in
theorem acked_any (p : Nat) (D : Bk) (R : Nat → Prop) (v : Int) (w : World) (h : PBook w p D R) (hD : OkB D) (_hv : I64 v) :
    Calls Try.prog 24 #[.pointer (some ⟨p, 0, none⟩), .int .i64 v] w fun e w' => e = .returned (.tuple #[]) ∧ Turn PBook w w' p (ackedB D v) R := by
  obtain ⟨rv, gx, u, hu, hR, hq⟩ := h
  have HR := Lib.hid hR
  have HU := Lib.hid hu
  have hb1 : Below w.heap.size w (w.alloc (.cells #[.int .i64 v] 3)) := (Below.refl _ w).alloc (Nat.le_refl _) _
  have HQ := Lib.hid (hq.below hb1)
  have HD := Lib.hid hD
  have HB1 := Lib.hid hb1
  have hnew := new_at w (.cells #[.int .i64 v] 3)
  have HN := Lib.hid hnew
  have HC : Hid ((w.alloc (.cells #[.int .i64 v] 3)).cell? ⟨w.heap.size, 0, none⟩ = some (.int .i64 v)) := Lib.hid (by rw [cell_of_row _ _ _ _ _ _ hnew]; rfl)
  have HE : Hid ({ D with g := D.g.filter fun x => !decide (x.ver < v) } = ackedB D v) := Lib.hid (by
    unfold ackedB
    congr 2
    funext x
    rw [← decide_not]
    exact decide_eq_decide.2 (by omega))
  clear hR hu hq hD hb1 hnew
  go_enter Try.func24, Try.ntmps24
  go_wp2_with (go_at_call 39; (with_reducible refine (remove_any 40 w.heap.size v (fun y => decide (y.ver < v)) eg_acked (says_acked _ _) p rv gx u D R _ HQ.out HR.out HD.out ⟨_, _, HN.out, by decide⟩ HC.out).mono ?_); rintro e w1 ⟨rfl, v', gx', h1, h2, h3⟩
               have H1 := Lib.hid h1
               have H2 := Lib.hid h2
               have H3 := Lib.hid h3
               clear h1 h2 h3)
  go_end0
  have h1 := H1.out
  rw [HE.out] at h1
  exact ⟨rfl, p_turn HR.out HU.out h1 ((Beside.of_below HB1.out).trans H2.out fun b hb _ => hb) fun b e => .inl (H3.out b e)⟩

theorem PAt.opened {w : World} {p : Nat} {v : Value} {gx : PX} {u : Int} {D : Bk} (h : PAt w p v gx u D) (k m : Bool) (hm : k = !m) (hto : m = true → u = D.to) : PAt (w.setCell ⟨p, 0, none⟩ (.bool k)) p v gx u { D with unknown := m } := by
  subst hm
  have hset : ∀ b, b ≠ p → (w.setCell ⟨p, 0, none⟩ (.bool (!m))).heap[b]? = w.heap[b]? := fun b hn => Below.heap_setCell _ _ _ b hn
  refine ⟨h.eq, hto, ?_, row_moved h.row fun b e => hset b fun e' => h.far.1 (by rw [e, e']), fun y hy => (h.cnt y hy).moved (hset _ (h.far.2 y hy).1)⟩
  simp [World.setCell, Array.getElem?_modify, h.blk]

set_option maxRecDepth 100000 in
set_option maxHeartbeats 4000000 in
theorem pass_any (p : Nat) (D : Bk) (R : Nat → Prop) (t : Int) (w : World) (h : PBook w p D R) (hD : OkB D) (ht : I64 t) :
    Calls Try.prog 26 #[.pointer (some ⟨p, 0, none⟩), .int .i64 t] w fun e w' => e = .returned (.tuple #[]) ∧ Turn PBook w w' p (passB D t) R := by
  obtain ⟨rv, gx, u, hu, hR, hq⟩ := h
  have HR := Lib.hid hR
  have HU := Lib.hid hu
  have HT := Lib.hid ht
  have hb1 : Below w.heap.size w (w.alloc (.cells #[.int .i64 t] 3)) := (Below.refl _ w).alloc (Nat.le_refl _) _
  have HNR : Hid (¬ R w.heap.size) := Lib.hid fun e => by have := hq.lt ((hR _).1 e); omega
  have HQ := Lib.hid (hq.below hb1)
  have HD := Lib.hid hD
  have HB1 := Lib.hid hb1
  have hnew := new_at w (.cells #[.int .i64 t] 3)
  have HN := Lib.hid hnew
  have HC : Hid ((w.alloc (.cells #[.int .i64 t] 3)).cell? ⟨w.heap.size, 0, none⟩ = some (.int .i64 t)) := Lib.hid (by rw [cell_of_row _ _ _ _ _ _ hnew]; rfl)
  clear hR hu hq hD hb1 ht hnew
  go_enter Try.func26, Try.ntmps26
  go_upto_region 2 with (go_at_call 39; (with_reducible refine (remove_any 41 w.heap.size t (fun y => overN t y.unt) eg_pass (says_pass _ _ HT.out) p rv gx u D R _ HQ.out HR.out HD.out ⟨_, _, HN.out, by decide⟩ HC.out).mono ?_); rintro e w1 ⟨rfl, v', gx', h1, h2, h3⟩
                         have H1 := Lib.hid h1
                         have H2 := Lib.hid h2
                         have H3 := Lib.hid h3
                         clear h1 h2 h3)
  have H1d : PAt w1.drew p v' gx' u { D with g := D.g.filter fun x => !overN t x.unt } := H1.out.keep fun _ _ => rfl
  obtain ⟨c0, c1, _, hz, hpl⟩ := H1d.cells
  have H1D := Lib.hid H1d
  have HBS : Hid (Beside R (w.alloc (.cells #[.int .i64 t] 3)) w1.drew) := Lib.hid (H2.out.trans (Beside.of_below (R := R) (Below.refl _ w1).drew) fun b hb _ => hb)
  have cb : w1.drew.cell? ⟨w.heap.size, 0, none⟩ = some (.int .i64 t) := (World.cell?_of_block (a := ⟨w.heap.size, 0, none⟩) (HBS.out.block w.heap.size (by simp) HNR.out)).trans HC.out
  have z0 := hz 0
  have hend : ∀ k m, k = (!m) → (m = true → u = D.to) → passB D t = { D with unknown := m, g := D.g.filter fun x => !overN t x.unt } → Turn PBook w (w1.drew.setCell ⟨p, 0, none⟩ (.bool k)) p (passB D t) R := fun k m h1 h2 h3 => by
    rw [h3]
    exact p_turn HR.out HU.out (H1D.out.opened k m h1 h2) (((Beside.of_below HB1.out).trans HBS.out fun b hb _ => hb).trans (Beside.set w1.drew _ ((HR.out p).2 (.inl rfl))) fun b hb _ => hb) fun b e => .inl (H3.out b e)
  have HEND := Lib.hid hend
  clear hz hend H1d
  rcases hk : D.unknown with _ | _
  · have HF : Hid (passB D t = { D with unknown := false, g := D.g.filter fun x => !overN t x.unt }) := Lib.hid (by unfold passB; rw [hk]; rfl)
    have c0' : w1.drew.cell? ⟨p, 0, none⟩ = some (.bool true) := by rw [c0]; simp [hk]
    have HFIN := Lib.hid (HEND.out true false rfl (fun h => by cases h) HF.out)
    clear c0 HEND hk
    refine region_mix (fun W => W.cell? ⟨p, 0, none⟩ = some (.bool true) ∧ W.cell? ⟨p, 1, none⟩ = some (.int .i64 u) ∧ W.cell? ⟨w.heap.size, 0, none⟩ = some (.int .i64 t)) (13) (.reads [0, 1, 2, 3, 4, 5, 6, 7, 8, 9, 10] (.only 11 (.reads [12] (.only 13 (.only 14 (.only 15 (.stop))))))) (by kernel_rfl) (by kernel_rfl) (⟨c0', c1, cb⟩) ?_
    repeat (
      refine plan_read rfl (fun K hK => ?_)
      first
        | (refine plan_neg ?_ ?_
           focus (go_simp; done)
           go_simp
           refine hK _ ?_
           clear hK K)
        | (apply plan_pos
           focus (go_simp; done)
           focus (
             intro W hW
             (obtain ⟨k0, k1, k2⟩ := hW)
             go_simp
             first
               | done
               | exact rfl)
           go_simp
           refine hK _ ?_
           clear hK K))
    refine plan_only rfl (fun Q hQ => ?_)
    go_wp2
    refine hQ _ _ (fun _ => ⟨c0', c1, cb⟩) ?_
    clear hQ Q
    repeat (
      refine plan_read rfl (fun K hK => ?_)
      first
        | (refine plan_neg ?_ ?_
           focus (go_simp; done)
           go_simp
           refine hK _ ?_
           clear hK K)
        | (apply plan_pos
           focus (go_simp; done)
           focus (
             intro W hW
             (obtain ⟨k0, k1, k2⟩ := hW)
             go_simp
             first
               | done
               | exact rfl)
           go_simp
           refine hK _ ?_
           clear hK K))
    refine plan_only rfl (fun Q hQ => ?_)
    go_wp2
    refine hQ _ _ (fun h => absurd h (by omega)) ?_
    clear hQ Q
    refine plan_only rfl (fun Q hQ => ?_)
    go_wp2
    refine hQ _ _ (fun h => absurd h (by omega)) ?_
    clear hQ Q
    refine plan_only rfl (fun Q hQ => ?_)
    go_wp2
    refine hQ _ _ (fun h => absurd h (by omega)) ?_
    clear hQ Q
    unfold Plan.wp
    go_wp2
    go_end0
    exact ⟨rfl, HFIN.out⟩
  · have hto : u = D.to := H1.out.to hk
    obtain ⟨x, hx⟩ : ∃ x, overN t D.to = x := ⟨_, rfl⟩
    have HX : Hid (overN t u = x) := Lib.hid (by rw [hto]; exact hx)
    have HF : Hid (passB D t = { D with unknown := !x, g := D.g.filter fun x => !overN t x.unt }) := Lib.hid (by unfold passB; rw [hk, hx]; rfl)
    have c0' : w1.drew.cell? ⟨p, 0, none⟩ = some (.bool false) := by rw [c0]; simp [hk]
    have HFIN := Lib.hid (HEND.out x (!x) (by simp) (fun _ => hto) HF.out)
    clear c0 HEND hk hto hx HF
    refine region_mix (fun W => W.cell? ⟨p, 0, none⟩ = some (.bool false) ∧ W.cell? ⟨p, 1, none⟩ = some (.int .i64 u) ∧ W.cell? ⟨w.heap.size, 0, none⟩ = some (.int .i64 t)) (13) (.reads [0, 1, 2, 3, 4, 5, 6, 7, 8, 9, 10] (.only 11 (.reads [12] (.only 13 (.only 14 (.only 15 (.stop))))))) (by kernel_rfl) (by kernel_rfl) (⟨c0', c1, cb⟩) ?_
    repeat (
      refine plan_read rfl (fun K hK => ?_)
      first
        | (refine plan_neg ?_ ?_
           focus (go_simp; done)
           go_simp
           refine hK _ ?_
           clear hK K)
        | (apply plan_pos
           focus (go_simp; done)
           focus (
             intro W hW
             (obtain ⟨k0, k1, k2⟩ := hW)
             go_simp
             first
               | done
               | exact rfl)
           go_simp
           refine hK _ ?_
           clear hK K))
    refine plan_only rfl (fun Q hQ => ?_)
    go_wp2_with (go_at_call 16; (with_reducible refine (pover_is t u _ HT.out HU.out HX.out).mono ?_); rintro e w5 ⟨rfl, rfl⟩)
    refine hQ _ _ (fun _ => ⟨c0', c1, cb⟩) ?_
    clear hQ Q
    repeat (
      refine plan_read rfl (fun K hK => ?_)
      first
        | (refine plan_neg ?_ ?_
           focus (go_simp; done)
           go_simp
           refine hK _ ?_
           clear hK K)
        | (apply plan_pos
           focus (go_simp; done)
           focus (
             intro W hW
             (obtain ⟨k0, k1, k2⟩ := hW)
             go_simp
             first
               | done
               | exact rfl)
           go_simp
           refine hK _ ?_
           clear hK K))
    refine plan_only rfl (fun Q hQ => ?_)
    go_wp2
    refine hQ _ _ (fun h => absurd h (by omega)) ?_
    clear hQ Q
    refine plan_only rfl (fun Q hQ => ?_)
    go_wp2
    refine hQ _ _ (fun h => absurd h (by omega)) ?_
    clear hQ Q
    refine plan_only rfl (fun Q hQ => ?_)
    go_wp2
    refine hQ _ _ (fun h => absurd h (by omega)) ?_
    clear hQ Q
    unfold Plan.wp
    go_wp2
    go_end0
    exact ⟨rfl, HFIN.out⟩
end Go.Proofs.Ytgkpkegbjkjhiaa
