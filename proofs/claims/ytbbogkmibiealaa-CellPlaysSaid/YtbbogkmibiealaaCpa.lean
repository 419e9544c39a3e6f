/-
  The program's cell: Running, Report.
-/
import Derived.Test.YtbbogkmibiealaaCpcopy
namespace Go.Proofs.Ytbbogkmibiealaa
open Go.RowKit Gm

theorem prun_any (p : Nat) (D : Ce) (R : Nat → Prop) (now : Int) (w : World) (h : PCell w p D R) (ok : OkC D) (hn : I64 now) :
    Calls Try.prog 17 #[.pointer (some ⟨p, 0, none⟩), .int .i64 now] w fun e w' => ∃ a cap, e = .returned (.slice a (runC D now).length cap) ∧ w'.ownsRow w.heap.size 35 3 (.slice a (runC D now).length cap) (runC D now).length (bdsV (runC D now)) ∧ Below w.heap.size w w' := by
  obtain ⟨_, v, _, h⟩ := h
  obtain ⟨a, cap, rfl, hb⟩ := h.binds
  obtain ⟨c0, c1, c2, c3, c4, c5, _, hpl⟩ := six_cells h.blk
  have hlt := h.lt.2
  have HB : Hid (BindsAt w (· < w.heap.size) a D.l.length D.l) := Lib.hid (hb.imp fun b e => hlt b e)
  have HFW : Hid (OkK D.l) := Lib.hid ok.few.ok
  obtain ⟨u, hu⟩ : ∃ u, D.unt = u := ⟨_, rfl⟩
  obtain ⟨n, hl⟩ : ∃ n, D.l.length = n := ⟨_, rfl⟩
  have hu64 : I64 u := by rw [← hu]; exact ok.nums.2.2.2.2
  obtain ⟨x, hx⟩ : ∃ x, holdsN now u = x := ⟨_, rfl⟩
  have HH : Hid (∀ W, Calls Try.prog 26 #[.int .i64 now, .int .i64 u] W fun e w' => e = .returned (.bool x) ∧ W = w') := Lib.hid fun W => by rw [← hx]; exact pholds_is now u W hn hu64
  have HR : Hid (runC D now = if x = true then D.l else []) := Lib.hid (by unfold runC; rw [hu, hx])
  rw [hu] at c4
  rw [hl] at c5 HB
  have HL := Lib.hid hl
  clear h hb hu ok hn hx c0 c1 c2 c3 hlt
  rcases x with _ | _
  · rw [HR.out, if_neg (by decide)]
    clear HR hl
    go_enter Try.func17, Try.ntmps17
    go_wp2_with (go_at_call 26; (with_reducible refine (HH.out _).mono ?_); rintro e w1 ⟨rfl, rfl⟩)
    go_ret
    exact ⟨none, 0, rfl, World.ownsRow_nil _ _ _ _, Below.refl _ _⟩
  · rw [HR.out, if_pos rfl, hl]
    clear HR hl
    have HC := Lib.hid (copyOf_any a n cap D.l w HB.out HFW.out)
    go_enter Try.func17, Try.ntmps17
    go_wp2_with (first
      | (go_at_call 26; (with_reducible refine (HH.out _).mono ?_); rintro e w1 ⟨rfl, rfl⟩)
      | (go_at_call 24; (with_reducible refine HC.out.mono ?_); rintro e w2 ⟨a2, c2', rfl, ho, hb2⟩; have HO := Lib.hid ho; have HB2 := Lib.hid hb2; clear ho hb2))
    go_ret
    exact ⟨a2, c2', rfl, HO.out, HB2.out⟩
set_option maxRecDepth 100000 in
set_option maxHeartbeats 4000000 in
theorem preport_any (p : Nat) (D : Ce) (R : Nat → Prop) (w : World) (h : PCell w p D R) (ok : OkC D) :
    Calls Try.prog 15 #[.pointer (some ⟨p, 0, none⟩)] w fun e w' => ∃ a cap, e = .returned (msgV 2 D.n D.boot D.epoch D.ver D.unt a D.l.length cap) ∧ w'.ownsRow w.heap.size 35 3 (.slice a D.l.length cap) D.l.length (bdsV D.l) ∧ Below w.heap.size w w' := by
  obtain ⟨_, v, _, h⟩ := h
  have hb0 : Below w.heap.size w (w.alloc (.cells #[.int .i64 0, .int .i64 0, .int .i64 0, .int .i64 0, .int .i64 0, .int .i64 0, .slice none 0 0] 31)) := (Below.refl _ w).alloc (Nat.le_refl _) _
  have hnew := new_at w (.cells #[.int .i64 0, .int .i64 0, .int .i64 0, .int .i64 0, .int .i64 0, .int .i64 0, .slice none 0 0] 31)
  have h1 := h.below hb0.drew
  obtain ⟨a, cap, hv, hb⟩ := h1.binds
  subst hv
  obtain ⟨c0, c1, c2, c3, c4, c5, _, hpl⟩ := six_cells h1.blk
  obtain ⟨n, hl⟩ : ∃ n, D.l.length = n := ⟨_, rfl⟩
  rw [hl] at c5 hb ⊢
  have hlt := h1.lt.2
  rw [hl] at hlt
  have HC := Lib.hid (copyOf_any a n cap D.l _ (hb.imp fun b e => hlt b e) ok.few.ok)
  have hsz1 : (w.alloc (.cells #[.int .i64 0, .int .i64 0, .int .i64 0, .int .i64 0, .int .i64 0, .int .i64 0, .slice none 0 0] 31)).drew.heap.size = w.heap.size + 1 := by simp
  have HAFT : Hid (∀ W a' cap', Below (w.alloc (.cells #[.int .i64 0, .int .i64 0, .int .i64 0, .int .i64 0, .int .i64 0, .int .i64 0, .slice none 0 0] 31)).drew.heap.size (w.alloc (.cells #[.int .i64 0, .int .i64 0, .int .i64 0, .int .i64 0, .int .i64 0, .int .i64 0, .slice none 0 0] 31)).drew W → W.ownsRow (w.alloc (.cells #[.int .i64 0, .int .i64 0, .int .i64 0, .int .i64 0, .int .i64 0, .int .i64 0, .slice none 0 0] 31)).drew.heap.size 35 3 (.slice a' n cap') n (bdsV D.l) → W.heap[w.heap.size]? = some (.cells #[.int .i64 0, .int .i64 0, .int .i64 0, .int .i64 0, .int .i64 0, .int .i64 0, .slice none 0 0] 31 (0, 0)) ∧ ((((((((W.setCell ⟨w.heap.size, 0, none⟩ (.int .i64 2)).setCell ⟨w.heap.size, 1, none⟩ (.int .i64 D.n)).setCell ⟨w.heap.size, 2, none⟩ (.int .i64 D.boot)).setCell ⟨w.heap.size, 3, none⟩ (.int .i64 D.epoch)).setCell ⟨w.heap.size, 4, none⟩ (.int .i64 D.ver)).setCell ⟨w.heap.size, 5, none⟩ (.int .i64 D.unt)).setCell ⟨w.heap.size, 6, none⟩ (.slice a' n cap')).heap[w.heap.size]? = some (msgO 2 D.n D.boot D.epoch D.ver D.unt a' n cap')) ∧ Below w.heap.size w (((((((W.setCell ⟨w.heap.size, 0, none⟩ (.int .i64 2)).setCell ⟨w.heap.size, 1, none⟩ (.int .i64 D.n)).setCell ⟨w.heap.size, 2, none⟩ (.int .i64 D.boot)).setCell ⟨w.heap.size, 3, none⟩ (.int .i64 D.epoch)).setCell ⟨w.heap.size, 4, none⟩ (.int .i64 D.ver)).setCell ⟨w.heap.size, 5, none⟩ (.int .i64 D.unt)).setCell ⟨w.heap.size, 6, none⟩ (.slice a' n cap')) ∧ (((((((W.setCell ⟨w.heap.size, 0, none⟩ (.int .i64 2)).setCell ⟨w.heap.size, 1, none⟩ (.int .i64 D.n)).setCell ⟨w.heap.size, 2, none⟩ (.int .i64 D.boot)).setCell ⟨w.heap.size, 3, none⟩ (.int .i64 D.epoch)).setCell ⟨w.heap.size, 4, none⟩ (.int .i64 D.ver)).setCell ⟨w.heap.size, 5, none⟩ (.int .i64 D.unt)).setCell ⟨w.heap.size, 6, none⟩ (.slice a' n cap')).ownsRow w.heap.size 35 3 (.slice a' n cap') n (bdsV D.l)) := Lib.hid fun W a' cap' hb1 hr2 => by
    have hm := (hb1.block w.heap.size (by omega)).trans (show (w.alloc (.cells #[.int .i64 0, .int .i64 0, .int .i64 0, .int .i64 0, .int .i64 0, .int .i64 0, .slice none 0 0] 31)).drew.heap[w.heap.size]? = _ from hnew)
    have hbw := (hb0.drew).trans (hb1.mono hb0.drew.size)
    exact ⟨hm, msg_set (k := 2) (c := D.n) (b := D.boot) (e := D.epoch) (v := D.ver) (u := D.unt) (a := a') (n := n) (cap := cap') hm rfl, seven_set hbw (Nat.le_refl _) (.int .i64 2) (.int .i64 D.n) (.int .i64 D.boot) (.int .i64 D.epoch) (.int .i64 D.ver) (.int .i64 D.unt) (.slice a' n cap'), own_low (row_moved hr2 fun b e => seven_far _ _ _ (fun e' => by have := (hr2.lt b e).1; omega) _ _ _ _ _ _ _) (by omega)⟩
  obtain ⟨xn, hxn⟩ : ∃ x, D.n = x := ⟨_, rfl⟩
  obtain ⟨xb, hxb⟩ : ∃ x, D.boot = x := ⟨_, rfl⟩
  obtain ⟨xe, hxe⟩ : ∃ x, D.epoch = x := ⟨_, rfl⟩
  obtain ⟨xv, hxv⟩ : ∃ x, D.ver = x := ⟨_, rfl⟩
  obtain ⟨xu, hxu⟩ : ∃ x, D.unt = x := ⟨_, rfl⟩
  rw [hxn] at c0 HAFT
  rw [hxb] at c1 HAFT
  rw [hxe] at c2 HAFT
  rw [hxv] at c3 HAFT
  rw [hxu] at c4 HAFT
  rw [hxn, hxb, hxe, hxv, hxu]
  clear h h1 hb hb0 hnew hl ok hxn hxb hxe hxv hxu hlt
  go_enter Try.func15, Try.ntmps15
  go_upto_region 1 with fail
  refine region_mix (fun W => W.cell? ⟨p, 0, none⟩ = some (.int .i64 xn) ∧ W.cell? ⟨p, 1, none⟩ = some (.int .i64 xb) ∧ W.cell? ⟨p, 2, none⟩ = some (.int .i64 xe) ∧ W.cell? ⟨p, 3, none⟩ = some (.int .i64 xv) ∧ W.cell? ⟨p, 4, none⟩ = some (.int .i64 xu) ∧ W.cell? ⟨p, 5, none⟩ = some (.slice a n cap)) (27) (.reads [0, 1, 2, 3, 4, 5, 6, 7, 8, 9, 10, 11, 12, 13, 14, 15, 16, 17, 18, 19, 20, 21, 22, 23, 24, 25] (.only 26 (.only 27 (.only 28 (.stop))))) (by kernel_rfl) (by kernel_rfl) (⟨c0, c1, c2, c3, c4, c5⟩) ?_
  repeat (
    refine plan_read rfl (fun K hK => ?_)
    first
      | (refine plan_neg ?_ ?_
         focus (first | (go_simp; done) | (go_simp; decide))
         go_simp
         refine hK _ ?_
         clear hK K)
      | (apply plan_pos
         focus (go_simp; done)
         focus (
           intro W hW
           (obtain ⟨q0, q1, q2, q3, q4, q5⟩ := hW)
           go_simp
           first
             | done
             | exact rfl)
         go_simp
         refine hK _ ?_
         clear hK K))
  refine plan_only rfl (fun Q hQ => ?_)
  go_wp2_with (go_at_call 24; (with_reducible refine HC.out.mono ?_); rintro e w2 ⟨a2, c2', rfl, ho, hb2⟩; have HA := Lib.hid (HAFT.out w2 a2 c2' hb2 ho); have hz2 := hb2.size; have HB2 := Lib.hid hb2; clear ho hb2)
  refine hQ _ _ (fun _ => ⟨(HB2.out.cell (p := ⟨p, 0, none⟩) hpl).trans c0, (HB2.out.cell (p := ⟨p, 1, none⟩) hpl).trans c1, (HB2.out.cell (p := ⟨p, 2, none⟩) hpl).trans c2, (HB2.out.cell (p := ⟨p, 3, none⟩) hpl).trans c3, (HB2.out.cell (p := ⟨p, 4, none⟩) hpl).trans c4, (HB2.out.cell (p := ⟨p, 5, none⟩) hpl).trans c5⟩) ?_
  clear hQ Q
  refine plan_only rfl (fun Q hQ => ?_)
  go_wp2
  refine hQ _ _ (fun h => absurd h (by omega)) ?_
  clear hQ Q
  have hm := HA.out.1
  have hlm : w.heap.size < w2.heap.size := by omega
  obtain ⟨z0, z1, z2, z3, z4, z5, z6, zf, _⟩ : w2.cell? ⟨w.heap.size, 0, none⟩ = some (.int .i64 0) ∧ w2.cell? ⟨w.heap.size, 1, none⟩ = some (.int .i64 0) ∧ w2.cell? ⟨w.heap.size, 2, none⟩ = some (.int .i64 0) ∧ w2.cell? ⟨w.heap.size, 3, none⟩ = some (.int .i64 0) ∧ w2.cell? ⟨w.heap.size, 4, none⟩ = some (.int .i64 0) ∧ w2.cell? ⟨w.heap.size, 5, none⟩ = some (.int .i64 0) ∧ w2.cell? ⟨w.heap.size, 6, none⟩ = some (.slice none 0 0) ∧ (∀ i, w2.frozen? ⟨w.heap.size, i, none⟩ = false) ∧ True :=
    ⟨cell_of_row _ _ _ _ _ _ hm, cell_of_row _ _ _ _ _ _ hm, cell_of_row _ _ _ _ _ _ hm, cell_of_row _ _ _ _ _ _ hm, cell_of_row _ _ _ _ _ _ hm, cell_of_row _ _ _ _ _ _ hm, cell_of_row _ _ _ _ _ _ hm, fun i => by simp [World.frozen?, hm], trivial⟩
  have f0 := zf 0
  have f1 := zf 1
  have f2 := zf 2
  have f3 := zf 3
  have f4 := zf 4
  have f5 := zf 5
  have f6 := zf 6
  clear zf hm
  refine plan_only rfl (fun Q hQ => ?_)
  go_wp2
  refine hQ _ _ (fun h => absurd h (by omega)) ?_
  clear hQ Q
  unfold Plan.wp
  go_wp2
  (try simp only [Exit.inBlock, Exit.then])
  refine bodyPost_ret (results_cell_row (cs := #[.int .i64 2, .int .i64 xn, .int .i64 xb, .int .i64 xe, .int .i64 xv, .int .i64 xu, .slice a2 n c2']) rfl _ _ w.heap.size 31 (0, 0) _ rfl HA.out.2.1 Try.underlying31 rfl (by kernel_rfl)) rfl ?_
  exact ⟨a2, c2', rfl, HA.out.2.2.2, HA.out.2.2.1⟩
end Go.Proofs.Ytbbogkmibiealaa
