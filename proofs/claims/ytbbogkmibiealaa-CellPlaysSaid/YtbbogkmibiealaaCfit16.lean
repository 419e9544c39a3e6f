/-
  The law's own Fit of layer 16: numbers by picks, raw binds put in order.
-/
import Derived.Deep.DeepCutAuto
import Derived.Laws.Cover1
import Derived.Test.YtbbogkmibiealaaMix
import Derived.Test.YtbbogkmibiealaaCpick
import Derived.Test.YtbbogkmibiealaaCcell
namespace Go.Proofs.Ytbbogkmibiealaa
open Go.RowKit Gm

abbrev zmsg : Obj := .cells #[.int .i64 0, .int .i64 0, .int .i64 0, .int .i64 0, .int .i64 0, .int .i64 0, .slice none 0 0] 31 (0, 0)
/-- What stands behind each round: the message's block X, which has the row of acc; the raw binds' row. -/
structure FitAt (w wr : World) (X : Nat) (za : Option Addr) (zc nb : Nat) (bs : List Bd) (q1 p2 p3 p4 p5 q6 : Int) (acc : List Bd) (a : Option Addr) (cap : Nat) : Prop where
  below : Below w.heap.size w wr
  res : wr.heap[w.heap.size + 1]? = some zmsg
  zrow : wr.ownsRow w.heap.size 35 3 (.slice za nb zc) nb (bdsV bs)
  msg : wr.heap[X]? = some (msgO q1 p2 p3 p4 p5 q6 a acc.length cap)
  row : wr.ownsRow w.heap.size 35 3 (.slice a acc.length cap) acc.length (bdsV acc)
  x : w.heap.size + 2 = X
theorem FitAt.next {w WO W : World} {X : Nat} {za : Option Addr} {zc nb : Nat} {bs : List Bd} {q1 p2 p3 p4 p5 q6 : Int} {acc acc' : List Bd} {a na : Option Addr} {cap nc base : Nat} (h : FitAt w WO X za zc nb bs q1 p2 p3 p4 p5 q6 acc a cap) (hb : Below WO.heap.size WO W) (hr : W.ownsRow base 35 3 (.slice na acc'.length nc) acc'.length (bdsV acc')) (h1 : w.heap.size ≤ base) (h2 : X < base) :
    FitAt w (W.setCell ⟨X, 6, none⟩ (.slice na acc'.length nc)) X za zc nb bs q1 p2 p3 p4 p5 q6 acc' na nc := by
  have hx := h.x
  have hXl : X < WO.heap.size := (Array.getElem?_eq_some_iff.1 h.msg).1
  have hrl : w.heap.size + 1 < WO.heap.size := (Array.getElem?_eq_some_iff.1 h.res).1
  have hm := (hb.block X hXl).trans h.msg
  refine ⟨(h.below.trans (hb.mono h.below.size)).setCell (by dsimp only; omega) _, ?_, ?_, ?_, own_low (row_moved hr fun b e => Below.heap_setCell _ _ _ b fun e' => by have := (hr.lt b e).1; dsimp only at e'; omega) h1, hx⟩
  · rw [Below.heap_setCell _ _ _ _ (by dsimp only; omega)]
    exact (hb.block _ hrl).trans h.res
  · refine row_moved (row_moved h.zrow fun b e => hb.block b (h.zrow.lt b e).2) fun b e => Below.heap_setCell _ _ _ b fun e' => ?_
    obtain ⟨cs, hc⟩ := row_blk h.zrow e
    dsimp only at e'
    rw [e', h.msg] at hc
    injection hc with hc; injection hc with _ ht; exact absurd ht (by decide)
  · simp [World.setCell, Array.getElem?_modify, hm]
set_option maxRecDepth 100000 in
set_option maxHeartbeats 8000000 in
theorem fit16_any (k c b e v u : Int) (hnum : I64 k ∧ I64 c ∧ I64 b ∧ I64 e ∧ I64 v ∧ I64 u) (a0 : Option Addr) (n0 cap0 : Nat) (B : Nat) (az : Option Addr) (nz capz : Nat) (z : List Int) (w : World) (hz : KeepB B w az nz z) (hBw : B ≤ w.heap.size) :
    Calls Try.prog 28 #[msgV k c b e v u a0 n0 cap0, .slice az nz capz] w fun x w' => ∃ a cap, x = .returned (msgV (1 + pk k 2) (pk c 3) (pk b 1099511627777) (pk e 1099511627777) (pk v 1099511627777) (pk u 2199023255552 - 1000) a (fitL z).length cap) ∧ w'.ownsRow w.heap.size 35 3 (.slice a (fitL z).length cap) (fitL z).length (bdsV (fitL z)) ∧ Below w.heap.size w w' := by
  have HZ := Lib.hid hz
  have hb1 := pk_bd k 2 (by omega)
  have HP1 := Lib.hid (fun W => pick16_any k 2 W hnum.1 (by omega) (by omega))
  obtain ⟨p1, hp1⟩ : ∃ p, pk k 2 = p := ⟨_, rfl⟩
  rw [hp1] at hb1 HP1
  rw [hp1]
  have hb2 := pk_bd c 3 (by omega)
  have HP2 := Lib.hid (fun W => pick16_any c 3 W hnum.2.1 (by omega) (by omega))
  obtain ⟨p2, hp2⟩ : ∃ p, pk c 3 = p := ⟨_, rfl⟩
  rw [hp2] at hb2 HP2
  rw [hp2]
  have hb3 := pk_bd b 1099511627777 (by omega)
  have HP3 := Lib.hid (fun W => pick16_any b 1099511627777 W hnum.2.2.1 (by omega) (by omega))
  obtain ⟨p3, hp3⟩ : ∃ p, pk b 1099511627777 = p := ⟨_, rfl⟩
  rw [hp3] at hb3 HP3
  rw [hp3]
  have hb4 := pk_bd e 1099511627777 (by omega)
  have HP4 := Lib.hid (fun W => pick16_any e 1099511627777 W hnum.2.2.2.1 (by omega) (by omega))
  obtain ⟨p4, hp4⟩ : ∃ p, pk e 1099511627777 = p := ⟨_, rfl⟩
  rw [hp4] at hb4 HP4
  rw [hp4]
  have hb5 := pk_bd v 1099511627777 (by omega)
  have HP5 := Lib.hid (fun W => pick16_any v 1099511627777 W hnum.2.2.2.2.1 (by omega) (by omega))
  obtain ⟨p5, hp5⟩ : ∃ p, pk v 1099511627777 = p := ⟨_, rfl⟩
  rw [hp5] at hb5 HP5
  rw [hp5]
  have hb6 := pk_bd u 2199023255552 (by omega)
  have HP6 := Lib.hid (fun W => pick16_any u 2199023255552 W hnum.2.2.2.2.2 (by omega) (by omega))
  obtain ⟨p6, hp6⟩ : ∃ p, pk u 2199023255552 = p := ⟨_, rfl⟩
  rw [hp6] at hb6 HP6
  rw [hp6]
  obtain ⟨q1, hq1⟩ : ∃ q, 1 + p1 = q := ⟨_, rfl⟩
  obtain ⟨q6, hq6⟩ : ∃ q, p6 - 1000 = q := ⟨_, rfl⟩
  obtain ⟨bs, hbs⟩ : ∃ l, bindsN z = l := ⟨_, rfl⟩
  rw [hq1, hq6, show fitL z = fitN bs by unfold fitL; rw [hbs]]
  have HQ1 := Lib.hid hq1
  have HQ6 := Lib.hid hq6
  have HBS := Lib.hid hbs
  clear hq1 hq6 hbs
  have hb0 : Below w.heap.size w ((w.alloc (msgO k c b e v u a0 n0 cap0)).alloc zmsg) := ((Below.refl _ w).alloc (Nat.le_refl _) _).alloc (by simp) _
  have hm0 := new_at w (msgO k c b e v u a0 n0 cap0)
  have hm1 := (((Below.refl _ (w.alloc (msgO k c b e v u a0 n0 cap0))).alloc (Nat.le_refl _) zmsg).block w.heap.size (by simp)).trans hm0
  have hr1 := new_at (w.alloc (msgO k c b e v u a0 n0 cap0)) zmsg
  rw [show (w.alloc (msgO k c b e v u a0 n0 cap0)).heap.size = w.heap.size + 1 by simp] at hr1
  have hs0 : ((w.alloc (msgO k c b e v u a0 n0 cap0)).alloc zmsg).heap.size = w.heap.size + 2 := by simp
  go_enter Try.func28, Try.ntmps28
  go_upto_region 1 with fail
  obtain ⟨W0, hW0⟩ : ∃ W, (w.alloc (msgO k c b e v u a0 n0 cap0)).alloc zmsg = W := ⟨_, rfl⟩
  rw [hW0] at hb0 hm1 hr1 hs0 ⊢
  have HB0 := Lib.hid hb0
  have HR1 := Lib.hid hr1
  have HCE : Hid (∀ W, Below W0.heap.size W0 W → W.cell? ⟨w.heap.size, 0, none⟩ = some (.int .i64 k) ∧ W.cell? ⟨w.heap.size, 1, none⟩ = some (.int .i64 c) ∧ W.cell? ⟨w.heap.size, 2, none⟩ = some (.int .i64 b) ∧ W.cell? ⟨w.heap.size, 3, none⟩ = some (.int .i64 e) ∧ W.cell? ⟨w.heap.size, 4, none⟩ = some (.int .i64 v) ∧ W.cell? ⟨w.heap.size, 5, none⟩ = some (.int .i64 u)) := Lib.hid fun W h => by
    obtain ⟨c0, c1, c2, c3, c4, c5, _⟩ := msg_cells ((h.block w.heap.size (by omega)).trans hm1)
    exact ⟨c0, c1, c2, c3, c4, c5⟩
  have k0 : Below W0.heap.size W0 W0.drew := (Below.refl _ _).drew
  have K0 := Lib.hid k0
  have K1 : Hid (Below W0.heap.size W0 (W0.alloc zmsg).drew) := Lib.hid ((Below.refl _ W0).alloc (Nat.le_refl _) _).drew
  have hnew : (W0.alloc (msgO (1 + p1) p2 p3 p4 p5 (p6 - 1000) none 0 0)).drew.heap[W0.heap.size]? = some (msgO (1 + p1) p2 p3 p4 p5 (p6 - 1000) none 0 0) := new_at W0 _
  have HNEW := Lib.hid hnew
  have HB1 : Hid (Below w.heap.size w (W0.alloc (msgO (1 + p1) p2 p3 p4 p5 (p6 - 1000) none 0 0)).drew) := Lib.hid (hb0.alloc hb0.size _).drew
  have HS0 := Lib.hid hs0
  clear hW0 hb0 hm0 hm1 hr1 hnew hnum hz hs0
  go_cut [5] from 13 to 33 (fun s5 wx => s5 = .pointer (some ⟨W0.heap.size, 0, none⟩) ∧ wx = (W0.alloc (msgO (1 + p1) p2 p3 p4 p5 (p6 - 1000) none 0 0)).drew)
  case first =>
    refine region_mix (fun W => Below W0.heap.size W0 W) (22) (.reads [0, 1, 4, 5, 7, 8, 10, 11, 13, 14, 16, 17] (.fork 2 (.reads [3] (.fork 6 (.fork 9 (.fork 12 (.fork 15 (.fork 18 (.reads [19, 20] (.only 21 (.only 22 (.stop)))) 21 (.only 18 (.reads [19, 20] (.only 22 (.stop))))) 21 (.only 15 (.only 18 (.reads [19, 20] (.only 22 (.stop)))))) 21 (.only 12 (.only 15 (.only 18 (.reads [19, 20] (.only 22 (.stop))))))) 21 (.only 9 (.only 12 (.only 15 (.only 18 (.reads [19, 20] (.only 22 (.stop)))))))) 21 (.only 6 (.only 9 (.only 12 (.only 15 (.only 18 (.reads [19, 20] (.only 22 (.stop)))))))))) 21 (.only 2 (.reads [3] (.only 6 (.only 9 (.only 12 (.only 15 (.only 18 (.reads [19, 20] (.only 22 (.stop)))))))))))) (by kernel_rfl) (by kernel_rfl) (K0.out) ?_
    repeat (
      refine plan_read rfl (fun K hK => ?_)
      first
        | (refine plan_neg ?_ ?_
           focus (first | (go_simp; done) | (go_simp; decide))
           go_simp
           refine hK _ ?_
           clear hK K)
        | (apply plan_pos
           focus (go_simp; done)
           focus (
             intro W hW
             (first | obtain ⟨d0, d1, d2, d3, d4, d5⟩ := HCE.out W hW | skip)
             go_simp
             first
               | done
               | exact rfl)
           go_simp
           refine hK _ ?_
           clear hK K))
    refine plan_fork rfl rfl (fun Q hQ => ?_) (fun Q hQ => ?_)
    · go_wp2_with (go_at_call 36; (with_reducible refine (HP1.out _).mono ?_); rintro x w2 ⟨rfl, rfl⟩)
      refine hQ _ _ (fun _ => by first | exact K0.out | exact K1.out) ?_
      clear hQ Q
      repeat (
        refine plan_read rfl (fun K hK => ?_)
        first
          | (refine plan_neg ?_ ?_
             focus (first | (go_simp; done) | (go_simp; decide))
             go_simp
             refine hK _ ?_
             clear hK K)
          | (apply plan_pos
             focus (go_simp; done)
             focus (
               intro W hW
               (first | obtain ⟨d0, d1, d2, d3, d4, d5⟩ := HCE.out W hW | skip)
               go_simp
               first
                 | done
                 | exact rfl)
             go_simp
             refine hK _ ?_
             clear hK K))
      refine plan_fork rfl rfl (fun Q hQ => ?_) (fun Q hQ => ?_)
      · go_wp2_with (go_at_call 36; (with_reducible refine (HP2.out _).mono ?_); rintro x w2 ⟨rfl, rfl⟩)
        refine hQ _ _ (fun _ => by first | exact K0.out | exact K1.out) ?_
        clear hQ Q
        refine plan_fork rfl rfl (fun Q hQ => ?_) (fun Q hQ => ?_)
        · go_wp2_with (go_at_call 36; (with_reducible refine (HP3.out _).mono ?_); rintro x w2 ⟨rfl, rfl⟩)
          refine hQ _ _ (fun _ => by first | exact K0.out | exact K1.out) ?_
          clear hQ Q
          refine plan_fork rfl rfl (fun Q hQ => ?_) (fun Q hQ => ?_)
          · go_wp2_with (go_at_call 36; (with_reducible refine (HP4.out _).mono ?_); rintro x w2 ⟨rfl, rfl⟩)
            refine hQ _ _ (fun _ => by first | exact K0.out | exact K1.out) ?_
            clear hQ Q
            refine plan_fork rfl rfl (fun Q hQ => ?_) (fun Q hQ => ?_)
            · go_wp2_with (go_at_call 36; (with_reducible refine (HP5.out _).mono ?_); rintro x w2 ⟨rfl, rfl⟩)
              refine hQ _ _ (fun _ => by first | exact K0.out | exact K1.out) ?_
              clear hQ Q
              refine plan_fork rfl rfl (fun Q hQ => ?_) (fun Q hQ => ?_)
              · go_wp2_with (go_at_call 36; (with_reducible refine (HP6.out _).mono ?_); rintro x w2 ⟨rfl, rfl⟩)
                refine hQ _ _ (fun _ => by first | exact K0.out | exact K1.out) ?_
                clear hQ Q
                repeat (
                  refine plan_read rfl (fun K hK => ?_)
                  first
                    | (refine plan_neg ?_ ?_
                       focus (first | (go_simp; done) | (go_simp; decide))
                       go_simp
                       refine hK _ ?_
                       clear hK K)
                    | (apply plan_pos
                       focus (go_simp; done)
                       focus (
                         intro W hW
                         (first | obtain ⟨d0, d1, d2, d3, d4, d5⟩ := HCE.out W hW | skip)
                         go_simp
                         first
                           | done
                           | exact rfl)
                       go_simp
                       refine hK _ ?_
                       clear hK K))
                refine plan_only rfl (fun Q hQ => ?_)
                go_wp2
                refine hQ _ _ (fun _ => by first | exact K0.out | exact K1.out) ?_
                clear hQ Q
                refine plan_only rfl (fun Q hQ => ?_)
                go_wp2
                refine hQ _ _ (fun h => absurd h (by omega)) ?_
                clear hQ Q
                unfold Plan.wp
                go_wp2
                go_meet
                exact ⟨rfl, rfl⟩
              · go_wp2
                refine hQ _ _ (fun _ => by first | exact K0.out | exact K1.out) ?_
                clear hQ Q
                refine plan_only rfl (fun Q hQ => ?_)
                go_wp2_with (go_at_call 36; (with_reducible refine (HP6.out _).mono ?_); rintro x w2 ⟨rfl, rfl⟩)
                refine hQ _ _ (fun _ => by first | exact K0.out | exact K1.out) ?_
                clear hQ Q
                repeat (
                  refine plan_read rfl (fun K hK => ?_)
                  first
                    | (refine plan_neg ?_ ?_
                       focus (first | (go_simp; done) | (go_simp; decide))
                       go_simp
                       refine hK _ ?_
                       clear hK K)
                    | (apply plan_pos
                       focus (go_simp; done)
                       focus (
                         intro W hW
                         (first | obtain ⟨d0, d1, d2, d3, d4, d5⟩ := HCE.out W hW | skip)
                         go_simp
                         first
                           | done
                           | exact rfl)
                       go_simp
                       refine hK _ ?_
                       clear hK K))
                refine plan_only rfl (fun Q hQ => ?_)
                go_wp2
                refine hQ _ _ (fun h => absurd h (by omega)) ?_
                clear hQ Q
                unfold Plan.wp
                go_wp2
                go_meet
                exact ⟨rfl, rfl⟩
            · go_wp2
              refine hQ _ _ (fun _ => by first | exact K0.out | exact K1.out) ?_
              clear hQ Q
              refine plan_only rfl (fun Q hQ => ?_)
              go_wp2_with (go_at_call 36; (with_reducible refine (HP5.out _).mono ?_); rintro x w2 ⟨rfl, rfl⟩)
              refine hQ _ _ (fun _ => by first | exact K0.out | exact K1.out) ?_
              clear hQ Q
              refine plan_only rfl (fun Q hQ => ?_)
              go_wp2_with (go_at_call 36; (with_reducible refine (HP6.out _).mono ?_); rintro x w2 ⟨rfl, rfl⟩)
              refine hQ _ _ (fun _ => by first | exact K0.out | exact K1.out) ?_
              clear hQ Q
              repeat (
                refine plan_read rfl (fun K hK => ?_)
                first
                  | (refine plan_neg ?_ ?_
                     focus (first | (go_simp; done) | (go_simp; decide))
                     go_simp
                     refine hK _ ?_
                     clear hK K)
                  | (apply plan_pos
                     focus (go_simp; done)
                     focus (
                       intro W hW
                       (first | obtain ⟨d0, d1, d2, d3, d4, d5⟩ := HCE.out W hW | skip)
                       go_simp
                       first
                         | done
                         | exact rfl)
                     go_simp
                     refine hK _ ?_
                     clear hK K))
              refine plan_only rfl (fun Q hQ => ?_)
              go_wp2
              refine hQ _ _ (fun h => absurd h (by omega)) ?_
              clear hQ Q
              unfold Plan.wp
              go_wp2
              go_meet
              exact ⟨rfl, rfl⟩
          · go_wp2
            refine hQ _ _ (fun _ => by first | exact K0.out | exact K1.out) ?_
            clear hQ Q
            refine plan_only rfl (fun Q hQ => ?_)
            go_wp2_with (go_at_call 36; (with_reducible refine (HP4.out _).mono ?_); rintro x w2 ⟨rfl, rfl⟩)
            refine hQ _ _ (fun _ => by first | exact K0.out | exact K1.out) ?_
            clear hQ Q
            refine plan_only rfl (fun Q hQ => ?_)
            go_wp2_with (go_at_call 36; (with_reducible refine (HP5.out _).mono ?_); rintro x w2 ⟨rfl, rfl⟩)
            refine hQ _ _ (fun _ => by first | exact K0.out | exact K1.out) ?_
            clear hQ Q
            refine plan_only rfl (fun Q hQ => ?_)
            go_wp2_with (go_at_call 36; (with_reducible refine (HP6.out _).mono ?_); rintro x w2 ⟨rfl, rfl⟩)
            refine hQ _ _ (fun _ => by first | exact K0.out | exact K1.out) ?_
            clear hQ Q
            repeat (
              refine plan_read rfl (fun K hK => ?_)
              first
                | (refine plan_neg ?_ ?_
                   focus (first | (go_simp; done) | (go_simp; decide))
                   go_simp
                   refine hK _ ?_
                   clear hK K)
                | (apply plan_pos
                   focus (go_simp; done)
                   focus (
                     intro W hW
                     (first | obtain ⟨d0, d1, d2, d3, d4, d5⟩ := HCE.out W hW | skip)
                     go_simp
                     first
                       | done
                       | exact rfl)
                   go_simp
                   refine hK _ ?_
                   clear hK K))
            refine plan_only rfl (fun Q hQ => ?_)
            go_wp2
            refine hQ _ _ (fun h => absurd h (by omega)) ?_
            clear hQ Q
            unfold Plan.wp
            go_wp2
            go_meet
            exact ⟨rfl, rfl⟩
        · go_wp2
          refine hQ _ _ (fun _ => by first | exact K0.out | exact K1.out) ?_
          clear hQ Q
          refine plan_only rfl (fun Q hQ => ?_)
          go_wp2_with (go_at_call 36; (with_reducible refine (HP3.out _).mono ?_); rintro x w2 ⟨rfl, rfl⟩)
          refine hQ _ _ (fun _ => by first | exact K0.out | exact K1.out) ?_
          clear hQ Q
          refine plan_only rfl (fun Q hQ => ?_)
          go_wp2_with (go_at_call 36; (with_reducible refine (HP4.out _).mono ?_); rintro x w2 ⟨rfl, rfl⟩)
          refine hQ _ _ (fun _ => by first | exact K0.out | exact K1.out) ?_
          clear hQ Q
          refine plan_only rfl (fun Q hQ => ?_)
          go_wp2_with (go_at_call 36; (with_reducible refine (HP5.out _).mono ?_); rintro x w2 ⟨rfl, rfl⟩)
          refine hQ _ _ (fun _ => by first | exact K0.out | exact K1.out) ?_
          clear hQ Q
          refine plan_only rfl (fun Q hQ => ?_)
          go_wp2_with (go_at_call 36; (with_reducible refine (HP6.out _).mono ?_); rintro x w2 ⟨rfl, rfl⟩)
          refine hQ _ _ (fun _ => by first | exact K0.out | exact K1.out) ?_
          clear hQ Q
          repeat (
            refine plan_read rfl (fun K hK => ?_)
            first
              | (refine plan_neg ?_ ?_
                 focus (first | (go_simp; done) | (go_simp; decide))
                 go_simp
                 refine hK _ ?_
                 clear hK K)
              | (apply plan_pos
                 focus (go_simp; done)
                 focus (
                   intro W hW
                   (first | obtain ⟨d0, d1, d2, d3, d4, d5⟩ := HCE.out W hW | skip)
                   go_simp
                   first
                     | done
                     | exact rfl)
                 go_simp
                 refine hK _ ?_
                 clear hK K))
          refine plan_only rfl (fun Q hQ => ?_)
          go_wp2
          refine hQ _ _ (fun h => absurd h (by omega)) ?_
          clear hQ Q
          unfold Plan.wp
          go_wp2
          go_meet
          exact ⟨rfl, rfl⟩
      · go_wp2
        refine hQ _ _ (fun _ => by first | exact K0.out | exact K1.out) ?_
        clear hQ Q
        refine plan_only rfl (fun Q hQ => ?_)
        go_wp2_with (go_at_call 36; (with_reducible refine (HP2.out _).mono ?_); rintro x w2 ⟨rfl, rfl⟩)
        refine hQ _ _ (fun _ => by first | exact K0.out | exact K1.out) ?_
        clear hQ Q
        refine plan_only rfl (fun Q hQ => ?_)
        go_wp2_with (go_at_call 36; (with_reducible refine (HP3.out _).mono ?_); rintro x w2 ⟨rfl, rfl⟩)
        refine hQ _ _ (fun _ => by first | exact K0.out | exact K1.out) ?_
        clear hQ Q
        refine plan_only rfl (fun Q hQ => ?_)
        go_wp2_with (go_at_call 36; (with_reducible refine (HP4.out _).mono ?_); rintro x w2 ⟨rfl, rfl⟩)
        refine hQ _ _ (fun _ => by first | exact K0.out | exact K1.out) ?_
        clear hQ Q
        refine plan_only rfl (fun Q hQ => ?_)
        go_wp2_with (go_at_call 36; (with_reducible refine (HP5.out _).mono ?_); rintro x w2 ⟨rfl, rfl⟩)
        refine hQ _ _ (fun _ => by first | exact K0.out | exact K1.out) ?_
        clear hQ Q
        refine plan_only rfl (fun Q hQ => ?_)
        go_wp2_with (go_at_call 36; (with_reducible refine (HP6.out _).mono ?_); rintro x w2 ⟨rfl, rfl⟩)
        refine hQ _ _ (fun _ => by first | exact K0.out | exact K1.out) ?_
        clear hQ Q
        repeat (
          refine plan_read rfl (fun K hK => ?_)
          first
            | (refine plan_neg ?_ ?_
               focus (first | (go_simp; done) | (go_simp; decide))
               go_simp
               refine hK _ ?_
               clear hK K)
            | (apply plan_pos
               focus (go_simp; done)
               focus (
                 intro W hW
                 (first | obtain ⟨d0, d1, d2, d3, d4, d5⟩ := HCE.out W hW | skip)
                 go_simp
                 first
                   | done
                   | exact rfl)
               go_simp
               refine hK _ ?_
               clear hK K))
        refine plan_only rfl (fun Q hQ => ?_)
        go_wp2
        refine hQ _ _ (fun h => absurd h (by omega)) ?_
        clear hQ Q
        unfold Plan.wp
        go_wp2
        go_meet
        exact ⟨rfl, rfl⟩
    · go_wp2
      refine hQ _ _ (fun _ => by first | exact K0.out | exact K1.out) ?_
      clear hQ Q
      refine plan_only rfl (fun Q hQ => ?_)
      go_wp2_with (go_at_call 36; (with_reducible refine (HP1.out _).mono ?_); rintro x w2 ⟨rfl, rfl⟩)
      refine hQ _ _ (fun _ => by first | exact K0.out | exact K1.out) ?_
      clear hQ Q
      repeat (
        refine plan_read rfl (fun K hK => ?_)
        first
          | (refine plan_neg ?_ ?_
             focus (first | (go_simp; done) | (go_simp; decide))
             go_simp
             refine hK _ ?_
             clear hK K)
          | (apply plan_pos
             focus (go_simp; done)
             focus (
               intro W hW
               (first | obtain ⟨d0, d1, d2, d3, d4, d5⟩ := HCE.out W hW | skip)
               go_simp
               first
                 | done
                 | exact rfl)
             go_simp
             refine hK _ ?_
             clear hK K))
      refine plan_only rfl (fun Q hQ => ?_)
      go_wp2_with (go_at_call 36; (with_reducible refine (HP2.out _).mono ?_); rintro x w2 ⟨rfl, rfl⟩)
      refine hQ _ _ (fun _ => by first | exact K0.out | exact K1.out) ?_
      clear hQ Q
      refine plan_only rfl (fun Q hQ => ?_)
      go_wp2_with (go_at_call 36; (with_reducible refine (HP3.out _).mono ?_); rintro x w2 ⟨rfl, rfl⟩)
      refine hQ _ _ (fun _ => by first | exact K0.out | exact K1.out) ?_
      clear hQ Q
      refine plan_only rfl (fun Q hQ => ?_)
      go_wp2_with (go_at_call 36; (with_reducible refine (HP4.out _).mono ?_); rintro x w2 ⟨rfl, rfl⟩)
      refine hQ _ _ (fun _ => by first | exact K0.out | exact K1.out) ?_
      clear hQ Q
      refine plan_only rfl (fun Q hQ => ?_)
      go_wp2_with (go_at_call 36; (with_reducible refine (HP5.out _).mono ?_); rintro x w2 ⟨rfl, rfl⟩)
      refine hQ _ _ (fun _ => by first | exact K0.out | exact K1.out) ?_
      clear hQ Q
      refine plan_only rfl (fun Q hQ => ?_)
      go_wp2_with (go_at_call 36; (with_reducible refine (HP6.out _).mono ?_); rintro x w2 ⟨rfl, rfl⟩)
      refine hQ _ _ (fun _ => by first | exact K0.out | exact K1.out) ?_
      clear hQ Q
      repeat (
        refine plan_read rfl (fun K hK => ?_)
        first
          | (refine plan_neg ?_ ?_
             focus (first | (go_simp; done) | (go_simp; decide))
             go_simp
             refine hK _ ?_
             clear hK K)
          | (apply plan_pos
             focus (go_simp; done)
             focus (
               intro W hW
               (first | obtain ⟨d0, d1, d2, d3, d4, d5⟩ := HCE.out W hW | skip)
               go_simp
               first
                 | done
                 | exact rfl)
             go_simp
             refine hK _ ?_
             clear hK K))
      refine plan_only rfl (fun Q hQ => ?_)
      go_wp2
      refine hQ _ _ (fun h => absurd h (by omega)) ?_
      clear hQ Q
      unfold Plan.wp
      go_wp2
      go_meet
      exact ⟨rfl, rfl⟩
  case rest =>
    obtain ⟨rfl, rfl⟩ := hcut
    have hq1 := HQ1.out
    have hq6 := HQ6.out
    rw [hq1, hq6] at HNEW HB1 ⊢
    obtain ⟨W1, hW1⟩ : ∃ W, (W0.alloc (msgO q1 p2 p3 p4 p5 q6 none 0 0)).drew = W := ⟨_, rfl⟩
    have hr1 : W1.heap[w.heap.size + 1]? = some zmsg := by
      rw [← hW1]
      exact (((Below.refl W0.heap.size W0).alloc (Nat.le_refl _) _).block (w.heap.size + 1) (by have := HS0.out; omega)).trans HR1.out
    rw [hW1] at HNEW HB1 ⊢
    obtain ⟨X, hX⟩ : ∃ X, W0.heap.size = X := ⟨_, rfl⟩
    rw [hX] at HNEW ⊢
    have hXw : w.heap.size + 2 = X := by rw [← hX]; exact HS0.out.symm
    have HXW := Lib.hid hXw
    have hXl : X < W1.heap.size := (Array.getElem?_eq_some_iff.1 HNEW.out).1
    have HXL := Lib.hid hXl
    have HR := Lib.hid hr1
    have hbs := HBS.out
    have HOKB : Hid (bs.length ≤ 20 ∧ ∀ x ∈ bs, 0 ≤ x.cnt ∧ x.cnt ≤ 4) := Lib.hid (by
      rw [← hbs]
      refine ⟨bindsN_len z, fun x hx => ?_⟩
      unfold bindsN at hx
      obtain ⟨n, _, rfl⟩ := List.mem_map.1 hx
      exact ⟨(bdN_ok n).1, (bdN_ok n).2.1⟩)
    have HBN : Hid (Calls Try.prog 37 #[.slice az nz capz] W1 fun x w' => ∃ v, x = .returned v ∧ w'.ownsRow W1.heap.size 35 3 v bs.length (bdsV bs) ∧ Below W1.heap.size W1 w') := Lib.hid (by
      rw [← hbs]
      exact (binds_any B az nz capz z W1 (HZ.out.below (HB1.out.mono hBw)) (Nat.le_trans hBw HB1.out.size)).mono fun x w' ⟨v, h1, h2, _, h3⟩ => ⟨v, h1, h2, h3⟩)
    obtain ⟨nb, hnb⟩ : ∃ n, bs.length = n := ⟨_, rfl⟩
    rw [hnb] at HOKB HBN
    have HNB := Lib.hid hnb
    have hnb20 : nb ≤ 20 := HOKB.out.1
    clear hr1 hW1 hX hXw hXl hbs hnb HBS HQ1 HQ6 HZ HCE K0 K1 HS0 HR1 HB0 hBw hq1 hq6 hb1 hb2 hb3 hb4 hb5 hb6 hp1 hp2 hp3 hp4 hp5 hp6 HP1 HP2 HP3 HP4 HP5 HP6
    go_wp2_with (go_at_call 37; (with_reducible refine HBN.out.mono ?_); rintro x w2 ⟨zv, rfl, ho2, hb2⟩
                 obtain ⟨za, zc, rfl⟩ := row_form ho2
                 have HO2 := Lib.hid ho2
                 have HB2 := Lib.hid hb2
                 clear ho2 hb2)
    have hAT : FitAt w w2 X za zc nb bs q1 p2 p3 p4 p5 q6 [] none 0 := ⟨HB1.out.trans (HB2.out.mono HB1.out.size), (HB2.out.block _ (by have := HXL.out; have := HXW.out; omega)).trans HR.out, own_low HO2.out HB1.out.size, (HB2.out.block X HXL.out).trans HNEW.out, World.ownsRow_nil _ _ _ _, HXW.out⟩
    have HAT0 := Lib.hid hAT
    clear hAT HBN HO2 HB2 HR HNEW HB1 HXL
    go_loopw [7] (fun iv wr => ∃ i : Nat, i ≤ nb ∧ iv = .int .i64 (i : Int) ∧ ∃ a cap, FitAt w wr X za zc nb bs q1 p2 p3 p4 p5 q6 (fitN (bs.take i)) a cap) (fun iv _ => nb - (intOf iv).toNat)
    case atStart => exact ⟨0, Nat.zero_le _, rfl, none, 0, HAT0.out⟩
    case round =>
      obtain ⟨i, hi, rfl, a, cap, hat⟩ := hrel
      clear HAT0
      have HAT := Lib.hid hat
      obtain ⟨WO, hWO⟩ : ∃ W, W = wr := ⟨_, rfl⟩
      subst hWO
      obtain ⟨acc, hacc⟩ : ∃ l, fitN (bs.take i) = l := ⟨_, rfl⟩
      rw [hacc] at HAT hat
      have hal : acc.length ≤ 20 := by
        rw [← hacc]
        have h1 := fitN_len (bs.take i)
        rw [List.length_take] at h1
        omega
      have HACC := Lib.hid hacc
      obtain ⟨m, hm⟩ : ∃ m, acc.length = m := ⟨_, rfl⟩
      have HM := Lib.hid hm
      obtain ⟨x0, x1, x2, x3, x4, x5, x6, xf, xl⟩ := msg_cells hat.msg
      rw [hm] at x6 hal
      have xf6 := xf 6
      by_cases hlt : i < nb
      · have hil : i < bs.length := by rw [HNB.out]; exact hlt
        obtain ⟨_, _, hzv, _, hzb⟩ := binds_own (hat.zrow)
        injection hzv with hz1 hz2 hz3
        subst hz1 hz3
        obtain ⟨g, off, rfl, hgo, hzc⟩ := hzb.bind hlt
        obtain ⟨s0, s1, s2⟩ := hzc i hil
        obtain ⟨x, hx⟩ : ∃ x, bs[i] = x := ⟨_, rfl⟩
        have hxb := HOKB.out.2 x (hx ▸ List.getElem_mem hil)
        rw [hx] at s0 s1 s2
        have HTK : Hid (fitN (bs.take (i + 1)) = insL (plusB x) acc) := Lib.hid (by
          rw [List.take_succ_eq_append_getElem hil, hx, fitN_snoc, HACC.out])
        have hgl : g < WO.heap.size := (hat.zrow.lt g hgo).2
        obtain ⟨xw, xn, xc⟩ := x
        dsimp only at s0 s1 s2 hxb
        have hi0 : (0 : Int) ≤ (i : Int) := by omega
        have hi1 : (i : Int) < (nb : Int) := by omega
        have HU : Hid (i + 1 ≤ nb) := Lib.hid hlt
        have hnw := new_at WO (.cells #[.string (S xw), .string (S xn), .int .i64 (xc + 1)] 35)
        have hbi : Below WO.heap.size WO (WO.alloc (.cells #[.string (S xw), .string (S xn), .int .i64 (xc + 1)] 35)) := (Below.refl _ _).alloc (Nat.le_refl _) _
        have hsz : (WO.alloc (.cells #[.string (S xw), .string (S xn), .int .i64 (xc + 1)] 35)).heap.size = WO.heap.size + 1 := by simp
        have HNW := Lib.hid hnw
        have HBI := Lib.hid hbi
        have HSZ := Lib.hid hsz
        clear hat hacc hm hil hzb hgo hzc hx hnw hbi hsz xf x0 x1 x2 x3 x4 x5
        go_wp2
        go_loopw [9, 10, 11] (fun nv pv jv wx => ∃ j : Nat, j ≤ m ∧ jv = .int .i64 (j : Int) ∧ ∃ nl pf, insR ⟨xw, xn, xc + 1⟩ (acc.take j) = (nl, pf) ∧ pv = .bool pf ∧ wx.ownsRow (WO.heap.size + 1) 35 3 nv nl.length (bdsV nl) ∧ Below (WO.heap.size + 1) (WO.alloc (.cells #[.string (S xw), .string (S xn), .int .i64 (xc + 1)] 35)) wx) (fun _ _ jv _ => m - (intOf jv).toNat)
        case atStart => exact ⟨0, Nat.zero_le _, rfl, [], false, rfl, rfl, World.ownsRow_nil _ _ _ _, Below.refl _ _⟩
        case round =>
          obtain ⟨j, hj, rfl, nl, pf, hins, rfl, hnr, hbx⟩ := hrel
          have HX0 := Lib.hid (HBI.out.trans (hbx.mono (by have := HSZ.out; omega)))
          have hsx := HX0.out.size
          have HNR := Lib.hid hnr
          have HBX := Lib.hid hbx
          have HINS := Lib.hid hins
          have hmx := (HX0.out.block X xl).trans HAT.out.msg
          obtain ⟨_, _, _, _, _, _, y6, yf, yl⟩ := msg_cells hmx
          rw [HM.out] at y6
          have yf6 := yf 6
          have hbb := (hbx.block WO.heap.size (by omega)).trans HNW.out
          obtain ⟨b0, b1, b2⟩ : wr.cell? ⟨WO.heap.size, 0, none⟩ = some (.string (S xw)) ∧ wr.cell? ⟨WO.heap.size, 1, none⟩ = some (.string (S xn)) ∧ wr.cell? ⟨WO.heap.size, 2, none⟩ = some (.int .i64 (xc + 1)) := ⟨cell_of_row _ _ _ _ _ _ hbb, cell_of_row _ _ _ _ _ _ hbb, cell_of_row _ _ _ _ _ _ hbb⟩
          have bl := (Array.getElem?_eq_some_iff.1 hbb).1
          have hnl : nl.length ≤ 22 := by
            have h1 := insR_le ⟨xw, xn, xc + 1⟩ (acc.take j)
            rw [hins, List.length_take] at h1
            dsimp only at h1
            have := HM.out
            omega
          clear hnr hbx hins hmx yf hbb
          by_cases hjm : j < m
          · have hjl : j < acc.length := by rw [HM.out]; exact hjm
            obtain ⟨_, _, hav, _, hab⟩ := binds_own HAT.out.row
            rw [HM.out] at hav hab
            injection hav with hv1 hv2 hv3
            subst hv1 hv3
            obtain ⟨ga, oa, hae, hgo, hac⟩ := hab.bind hjm
            subst hae
            obtain ⟨c0, c1, c2⟩ := hac j hjl
            have hga : ga < WO.heap.size := (HAT.out.row.lt ga (by rw [HM.out]; exact hgo)).2
            replace c0 := (HX0.out.cell (p := ⟨ga, oa + j * 3, none⟩) hga).trans c0
            replace c1 := (HX0.out.cell (p := ⟨ga, oa + j * 3 + 1, none⟩) hga).trans c1
            replace c2 := (HX0.out.cell (p := ⟨ga, oa + j * 3 + 2, none⟩) hga).trans c2
            have hgl := Nat.lt_of_lt_of_le hga hsx
            have HTK2 : Hid (insR ⟨xw, xn, xc + 1⟩ (acc.take (j + 1)) = insStep ⟨xw, xn, xc + 1⟩ (nl, pf) acc[j]) := Lib.hid (by
              rw [List.take_succ_eq_append_getElem hjl, insR_snoc, HINS.out])
            obtain ⟨q, hq⟩ : ∃ q, acc[j] = q := ⟨_, rfl⟩
            rw [hq] at c0 c1 c2 HTK2
            obtain ⟨qw, qn, qc⟩ := q
            dsimp only at c0 c1 c2
            have hj0 : (0 : Int) ≤ (j : Int) := by omega
            have hj1 : (j : Int) < (m : Int) := by omega
            have HV : Hid (j + 1 ≤ m) := Lib.hid hjm
            have hnk := new_at wr (.cells #[.string (S qw), .string (S qn), .int .i64 qc] 35)
            have hbk : Below (WO.heap.size + 1) wr (wr.alloc (.cells #[.string (S qw), .string (S qn), .int .i64 qc] 35)) := (Below.refl _ _).alloc (by have := HBX.out.size; rw [HSZ.out] at this; exact this) _
            have hk2 : (wr.alloc (.cells #[.string (S qw), .string (S qn), .int .i64 qc] 35)).heap.size = wr.heap.size + 1 := by simp
            have HN2 := Lib.hid (HNR.out.alloc (.cells #[.string (S qw), .string (S qn), .int .i64 qc] 35))
            have HB2 := Lib.hid (HBX.out.trans hbk)
            have HK2 := Lib.hid hk2
            have hbs2 : WO.heap.size + 1 ≤ (wr.alloc (.cells #[.string (S qw), .string (S qn), .int .i64 qc] 35)).heap.size := by have := HB2.out.size; rw [HSZ.out] at this; exact this
            have HKQ : Hid (∀ W : World, W.heap[wr.heap.size]? = (wr.alloc (.cells #[.string (S qw), .string (S qn), .int .i64 qc] 35)).heap[wr.heap.size]? → W.cell? ⟨wr.heap.size, 0, none⟩ = some (.string (S qw)) ∧ W.cell? ⟨wr.heap.size, 1, none⟩ = some (.string (S qn)) ∧ W.cell? ⟨wr.heap.size, 2, none⟩ = some (.int .i64 qc) ∧ wr.heap.size < W.heap.size) := Lib.hid fun W h => by
              have h2 := h.trans hnk
              exact ⟨cell_of_row _ _ _ _ _ _ h2, cell_of_row _ _ _ _ _ _ h2, cell_of_row _ _ _ _ _ _ h2, (Array.getElem?_eq_some_iff.1 h2).1⟩
            have hnek : u9.ownBlock ≠ some wr.heap.size := fun e => by have := (HNR.out.lt _ e).2; omega
            have HBB : Hid (∀ W : World, Below (WO.heap.size + 1) (wr.alloc (.cells #[.string (S qw), .string (S qn), .int .i64 qc] 35)) W → W.cell? ⟨WO.heap.size, 0, none⟩ = some (.string (S xw)) ∧ W.cell? ⟨WO.heap.size, 1, none⟩ = some (.string (S xn)) ∧ W.cell? ⟨WO.heap.size, 2, none⟩ = some (.int .i64 (xc + 1)) ∧ WO.heap.size < W.heap.size) := Lib.hid fun W h => by
              have h2 := ((HB2.out.trans h).block WO.heap.size (by omega)).trans HNW.out
              exact ⟨cell_of_row _ _ _ _ _ _ h2, cell_of_row _ _ _ _ _ _ h2, cell_of_row _ _ _ _ _ _ h2, (Array.getElem?_eq_some_iff.1 h2).1⟩
            obtain ⟨d0, d1, d2, dl⟩ := HBB.out _ (Below.refl _ _)
            obtain ⟨r0, r1, r2, rl⟩ := HKQ.out _ rfl
            have hew : ((S qw).toList == (S xw).toList) = decide (qw = xw) := S_beq _ _
            have hen : ((S qn).toList == (S xn).toList) = decide (qn = xn) := S_beq _ _
            have hirr := ls_irr xw
            have hirn := ls_irr xn
            clear hab hgo hac hjl hga hq hnk
            rcases pf with _ | _
            · rcases hl1 : Op.bytesLess qw xw with _ | _
              · by_cases hw : qw = xw
                · rcases hl2 : Op.bytesLess qn xn with _ | _
                  · by_cases hn : qn = xn
                    · have L1 : Op.bytesLess (S qw).toList (S xw).toList = false := by rw [S_toList, S_toList]; exact hl1
                      have E1 : ((S qw).toList == (S xw).toList) = true := by rw [hew]; exact decide_eq_true hw
                      have N1 : ((S qw).toList != (S xw).toList) = false := by simp only [bne, E1]; rfl
                      have L2 : Op.bytesLess (S qn).toList (S xn).toList = false := by rw [S_toList, S_toList]; exact hl2
                      have E2 : ((S qn).toList == (S xn).toList) = true := by rw [hen]; exact decide_eq_true hn
                      have N2 : ((S qn).toList != (S xn).toList) = false := by simp only [bne, E2]; rfl
                      have HST : Hid (insR ⟨xw, xn, xc + 1⟩ (acc.take (j + 1)) = (nl ++ [⟨xw, xn, xc + 1⟩], true)) := Lib.hid (by
                        rw [HTK2.out, insStep_eval (g := true) (s := true) (by unfold geB lsB; dsimp only; rw [hl1, decide_eq_true hw, hl2]; rfl) (by unfold sameB; dsimp only; rw [decide_eq_true hw, decide_eq_true hn]; rfl)]
                        rfl)
                      obtain ⟨a3, c3, w3, hr3, ho3, hb3, hf3⟩ := append_bd (x := ⟨xw, xn, xc + 1⟩) HN2.out (by omega) hbs2
                      dsimp only at hr3
                      rw [HK2.out] at hr3
                      have HAP3 := Lib.hid hr3
                      have HO3 := Lib.hid ho3
                      have HB3 := Lib.hid hb3
                      obtain ⟨t0, t1, t2, tl⟩ := HKQ.out w3 (hf3 _ (by rw [HK2.out]; omega) hnek)
                      obtain ⟨u0, u1, u2, ul⟩ := HBB.out w3 hb3
                      clear hr3 ho3 hb3 hf3
                      clear hew hen hirr hirn hw hn hl1 hl2
                      go_wp2_with (at_builtin; refine wpList_append_any rfl _ _ _ _ rfl _ _ _ _ rfl rfl HAP3.out ?_)
                      go_roundw
                      case rel => exact ⟨j + 1, HV.out, by go_num, nl ++ [⟨xw, xn, xc + 1⟩], true, HST.out, rfl, by rw [List.length_append]; exact HO3.out, HB2.out.trans HB3.out⟩
                      case measure => simp [intOf]; omega
                    · have L1 : Op.bytesLess (S qw).toList (S xw).toList = false := by rw [S_toList, S_toList]; exact hl1
                      have E1 : ((S qw).toList == (S xw).toList) = true := by rw [hew]; exact decide_eq_true hw
                      have N1 : ((S qw).toList != (S xw).toList) = false := by simp only [bne, E1]; rfl
                      have L2 : Op.bytesLess (S qn).toList (S xn).toList = false := by rw [S_toList, S_toList]; exact hl2
                      have E2 : ((S qn).toList == (S xn).toList) = false := by rw [hen]; exact decide_eq_false hn
                      have N2 : ((S qn).toList != (S xn).toList) = true := by simp only [bne, E2]; rfl
                      have HST : Hid (insR ⟨xw, xn, xc + 1⟩ (acc.take (j + 1)) = (nl ++ [⟨xw, xn, xc + 1⟩] ++ [⟨qw, qn, qc⟩], true)) := Lib.hid (by
                        rw [HTK2.out, insStep_eval (g := true) (s := false) (by unfold geB lsB; dsimp only; rw [hl1, decide_eq_true hw, hl2]; rfl) (by unfold sameB; dsimp only; rw [decide_eq_true hw, decide_eq_false hn]; rfl)]
                        rfl)
                      obtain ⟨a3, c3, w3, hr3, ho3, hb3, hf3⟩ := append_bd (x := ⟨xw, xn, xc + 1⟩) HN2.out (by omega) hbs2
                      dsimp only at hr3
                      rw [HK2.out] at hr3
                      have HAP3 := Lib.hid hr3
                      have HO3 := Lib.hid ho3
                      have HB3 := Lib.hid hb3
                      obtain ⟨t0, t1, t2, tl⟩ := HKQ.out w3 (hf3 _ (by rw [HK2.out]; omega) hnek)
                      obtain ⟨u0, u1, u2, ul⟩ := HBB.out w3 hb3
                      obtain ⟨a4, c4, w4, hr4, ho4, hb4, hf4⟩ := append_bd (x := ⟨qw, qn, qc⟩) HO3.out (by omega) (Nat.le_trans hbs2 (by have := hb3.size; omega))
                      dsimp only at hr4
                      have HAP4 := Lib.hid hr4
                      have HO4 := Lib.hid ho4
                      have HB4 := Lib.hid hb4
                      clear hr4 ho4 hb4 hf4
                      clear hr3 ho3 hb3 hf3
                      clear hew hen hirr hirn hw hn hl1 hl2
                      go_wp2_with (first
                        | (at_builtin; refine wpList_append_any rfl _ _ _ _ rfl _ _ _ _ rfl rfl HAP3.out ?_)
                        | (at_builtin; refine wpList_append_any rfl _ _ _ _ rfl _ _ _ _ rfl rfl HAP4.out ?_))
                      go_roundw
                      case rel => exact ⟨j + 1, HV.out, by go_num, nl ++ [⟨xw, xn, xc + 1⟩] ++ [⟨qw, qn, qc⟩], true, HST.out, rfl, by rw [List.length_append, List.length_append]; exact HO4.out, (HB2.out.trans HB3.out).trans HB4.out⟩
                      case measure => simp [intOf]; omega
                  · have hn : ¬ qn = xn := fun e => by rw [e, hirn] at hl2; cases hl2
                    have L1 : Op.bytesLess (S qw).toList (S xw).toList = false := by rw [S_toList, S_toList]; exact hl1
                    have E1 : ((S qw).toList == (S xw).toList) = true := by rw [hew]; exact decide_eq_true hw
                    have N1 : ((S qw).toList != (S xw).toList) = false := by simp only [bne, E1]; rfl
                    have L2 : Op.bytesLess (S qn).toList (S xn).toList = true := by rw [S_toList, S_toList]; exact hl2
                    have E2 : ((S qn).toList == (S xn).toList) = false := by rw [hen]; exact decide_eq_false hn
                    have N2 : ((S qn).toList != (S xn).toList) = true := by simp only [bne, E2]; rfl
                    have HST : Hid (insR ⟨xw, xn, xc + 1⟩ (acc.take (j + 1)) = (nl ++ [⟨qw, qn, qc⟩], false)) := Lib.hid (by
                      rw [HTK2.out, insStep_eval (g := false) (s := false) (by unfold geB lsB; dsimp only; rw [hl1, decide_eq_true hw, hl2]; rfl) (by unfold sameB; dsimp only; rw [decide_eq_true hw, decide_eq_false hn]; rfl)]
                      rfl)
                    obtain ⟨a4, c4, w4, hr4, ho4, hb4, hf4⟩ := append_bd (x := ⟨qw, qn, qc⟩) HN2.out (by omega) hbs2
                    dsimp only at hr4
                    rw [HK2.out] at hr4
                    have HAP4 := Lib.hid hr4
                    have HO4 := Lib.hid ho4
                    have HB4 := Lib.hid hb4
                    clear hr4 ho4 hb4 hf4
                    clear hew hen hirr hirn hw hn hl1 hl2
                    go_wp2_with (at_builtin; refine wpList_append_any rfl _ _ _ _ rfl _ _ _ _ rfl rfl HAP4.out ?_)
                    go_roundw
                    case rel => exact ⟨j + 1, HV.out, by go_num, nl ++ [⟨qw, qn, qc⟩], false, HST.out, rfl, by rw [List.length_append]; exact HO4.out, HB2.out.trans HB4.out⟩
                    case measure => simp [intOf]; omega
                · have L1 : Op.bytesLess (S qw).toList (S xw).toList = false := by rw [S_toList, S_toList]; exact hl1
                  have E1 : ((S qw).toList == (S xw).toList) = false := by rw [hew]; exact decide_eq_false hw
                  have N1 : ((S qw).toList != (S xw).toList) = true := by simp only [bne, E1]; rfl
                  have HST : Hid (insR ⟨xw, xn, xc + 1⟩ (acc.take (j + 1)) = (nl ++ [⟨xw, xn, xc + 1⟩] ++ [⟨qw, qn, qc⟩], true)) := Lib.hid (by
                    rw [HTK2.out, insStep_eval (g := true) (s := false) (by unfold geB lsB; dsimp only; rw [hl1, decide_eq_false hw]; rfl) (by unfold sameB; dsimp only; rw [decide_eq_false hw]; rfl)]
                    rfl)
                  obtain ⟨a3, c3, w3, hr3, ho3, hb3, hf3⟩ := append_bd (x := ⟨xw, xn, xc + 1⟩) HN2.out (by omega) hbs2
                  dsimp only at hr3
                  rw [HK2.out] at hr3
                  have HAP3 := Lib.hid hr3
                  have HO3 := Lib.hid ho3
                  have HB3 := Lib.hid hb3
                  obtain ⟨t0, t1, t2, tl⟩ := HKQ.out w3 (hf3 _ (by rw [HK2.out]; omega) hnek)
                  obtain ⟨u0, u1, u2, ul⟩ := HBB.out w3 hb3
                  obtain ⟨a4, c4, w4, hr4, ho4, hb4, hf4⟩ := append_bd (x := ⟨qw, qn, qc⟩) HO3.out (by omega) (Nat.le_trans hbs2 (by have := hb3.size; omega))
                  dsimp only at hr4
                  have HAP4 := Lib.hid hr4
                  have HO4 := Lib.hid ho4
                  have HB4 := Lib.hid hb4
                  clear hr4 ho4 hb4 hf4
                  clear hr3 ho3 hb3 hf3
                  clear hew hen hirr hirn hw hl1
                  go_wp2_with (first
                    | (at_builtin; refine wpList_append_any rfl _ _ _ _ rfl _ _ _ _ rfl rfl HAP3.out ?_)
                    | (at_builtin; refine wpList_append_any rfl _ _ _ _ rfl _ _ _ _ rfl rfl HAP4.out ?_))
                  go_roundw
                  case rel => exact ⟨j + 1, HV.out, by go_num, nl ++ [⟨xw, xn, xc + 1⟩] ++ [⟨qw, qn, qc⟩], true, HST.out, rfl, by rw [List.length_append, List.length_append]; exact HO4.out, (HB2.out.trans HB3.out).trans HB4.out⟩
                  case measure => simp [intOf]; omega
              · have hw : ¬ qw = xw := fun e => by rw [e, hirr] at hl1; cases hl1
                have L1 : Op.bytesLess (S qw).toList (S xw).toList = true := by rw [S_toList, S_toList]; exact hl1
                have E1 : ((S qw).toList == (S xw).toList) = false := by rw [hew]; exact decide_eq_false hw
                have N1 : ((S qw).toList != (S xw).toList) = true := by simp only [bne, E1]; rfl
                have HST : Hid (insR ⟨xw, xn, xc + 1⟩ (acc.take (j + 1)) = (nl ++ [⟨qw, qn, qc⟩], false)) := Lib.hid (by
                  rw [HTK2.out, insStep_eval (g := false) (s := false) (by unfold geB lsB; dsimp only; rw [hl1, decide_eq_false hw]; rfl) (by unfold sameB; dsimp only; rw [decide_eq_false hw]; rfl)]
                  rfl)
                obtain ⟨a4, c4, w4, hr4, ho4, hb4, hf4⟩ := append_bd (x := ⟨qw, qn, qc⟩) HN2.out (by omega) hbs2
                dsimp only at hr4
                rw [HK2.out] at hr4
                have HAP4 := Lib.hid hr4
                have HO4 := Lib.hid ho4
                have HB4 := Lib.hid hb4
                clear hr4 ho4 hb4 hf4
                clear hew hen hirr hirn hw hl1
                go_wp2_with (at_builtin; refine wpList_append_any rfl _ _ _ _ rfl _ _ _ _ rfl rfl HAP4.out ?_)
                go_roundw
                case rel => exact ⟨j + 1, HV.out, by go_num, nl ++ [⟨qw, qn, qc⟩], false, HST.out, rfl, by rw [List.length_append]; exact HO4.out, HB2.out.trans HB4.out⟩
                case measure => simp [intOf]; omega
            · by_cases hw : qw = xw
              · by_cases hn : qn = xn
                · have E1 : ((S qw).toList == (S xw).toList) = true := by rw [hew]; exact decide_eq_true hw
                  have N1 : ((S qw).toList != (S xw).toList) = false := by simp only [bne, E1]; rfl
                  have E2 : ((S qn).toList == (S xn).toList) = true := by rw [hen]; exact decide_eq_true hn
                  have N2 : ((S qn).toList != (S xn).toList) = false := by simp only [bne, E2]; rfl
                  have HST : Hid (insR ⟨xw, xn, xc + 1⟩ (acc.take (j + 1)) = (nl, true)) := Lib.hid (by
                    rw [HTK2.out, insStep_eval (g := _) (s := true) rfl (by unfold sameB; dsimp only; rw [decide_eq_true hw, decide_eq_true hn]; rfl)]
                    rfl)
                  clear hew hen hirr hirn hw hn
                  go_wp2
                  go_roundw
                  case rel => exact ⟨j + 1, HV.out, by go_num, nl, true, HST.out, rfl, HN2.out, HB2.out⟩
                  case measure => simp [intOf]; omega
                · have E1 : ((S qw).toList == (S xw).toList) = true := by rw [hew]; exact decide_eq_true hw
                  have N1 : ((S qw).toList != (S xw).toList) = false := by simp only [bne, E1]; rfl
                  have E2 : ((S qn).toList == (S xn).toList) = false := by rw [hen]; exact decide_eq_false hn
                  have N2 : ((S qn).toList != (S xn).toList) = true := by simp only [bne, E2]; rfl
                  have HST : Hid (insR ⟨xw, xn, xc + 1⟩ (acc.take (j + 1)) = (nl ++ [⟨qw, qn, qc⟩], true)) := Lib.hid (by
                    rw [HTK2.out, insStep_eval (g := _) (s := false) rfl (by unfold sameB; dsimp only; rw [decide_eq_true hw, decide_eq_false hn]; rfl)]
                    rfl)
                  obtain ⟨a4, c4, w4, hr4, ho4, hb4, hf4⟩ := append_bd (x := ⟨qw, qn, qc⟩) HN2.out (by omega) hbs2
                  dsimp only at hr4
                  rw [HK2.out] at hr4
                  have HAP4 := Lib.hid hr4
                  have HO4 := Lib.hid ho4
                  have HB4 := Lib.hid hb4
                  clear hr4 ho4 hb4 hf4
                  clear hew hen hirr hirn hw hn
                  go_wp2_with (at_builtin; refine wpList_append_any rfl _ _ _ _ rfl _ _ _ _ rfl rfl HAP4.out ?_)
                  go_roundw
                  case rel => exact ⟨j + 1, HV.out, by go_num, nl ++ [⟨qw, qn, qc⟩], true, HST.out, rfl, by rw [List.length_append]; exact HO4.out, HB2.out.trans HB4.out⟩
                  case measure => simp [intOf]; omega
              · have E1 : ((S qw).toList == (S xw).toList) = false := by rw [hew]; exact decide_eq_false hw
                have N1 : ((S qw).toList != (S xw).toList) = true := by simp only [bne, E1]; rfl
                have HST : Hid (insR ⟨xw, xn, xc + 1⟩ (acc.take (j + 1)) = (nl ++ [⟨qw, qn, qc⟩], true)) := Lib.hid (by
                  rw [HTK2.out, insStep_eval (g := _) (s := false) rfl (by unfold sameB; dsimp only; rw [decide_eq_false hw]; rfl)]
                  rfl)
                obtain ⟨a4, c4, w4, hr4, ho4, hb4, hf4⟩ := append_bd (x := ⟨qw, qn, qc⟩) HN2.out (by omega) hbs2
                dsimp only at hr4
                rw [HK2.out] at hr4
                have HAP4 := Lib.hid hr4
                have HO4 := Lib.hid ho4
                have HB4 := Lib.hid hb4
                clear hr4 ho4 hb4 hf4
                clear hew hen hirr hirn hw
                go_wp2_with (at_builtin; refine wpList_append_any rfl _ _ _ _ rfl _ _ _ _ rfl rfl HAP4.out ?_)
                go_roundw
                case rel => exact ⟨j + 1, HV.out, by go_num, nl ++ [⟨qw, qn, qc⟩], true, HST.out, rfl, by rw [List.length_append]; exact HO4.out, HB2.out.trans HB4.out⟩
                case measure => simp [intOf]; omega
          · have hje : j = m := by omega
            have HINM : Hid (insR ⟨xw, xn, xc + 1⟩ acc = (nl, pf)) := Lib.hid (by rw [← HINS.out, hje, ← HM.out, List.take_length])
            have hjn : ¬ (j : Int) < (m : Int) := by omega
            have hxn := HAT.out.x
            have hXW : X < WO.heap.size := (Array.getElem?_eq_some_iff.1 HAT.out.msg).1
            have HXW2 := Lib.hid hXW
            rcases pf with _ | _
            · have HINL : Hid (insL ⟨xw, xn, xc + 1⟩ acc = nl ++ [⟨xw, xn, xc + 1⟩]) := Lib.hid (by unfold insL; rw [HINM.out]; rfl)
              have hbs2 : WO.heap.size + 1 ≤ wr.heap.size := by have := HBX.out.size; rw [HSZ.out] at this; exact this
              obtain ⟨a3, c3, w3, hr3, ho3, hb3, hf3⟩ := append_bd (x := ⟨xw, xn, xc + 1⟩) HNR.out (by omega) hbs2
              dsimp only at hr3
              have HAP3 := Lib.hid hr3
              have HO3 := Lib.hid ho3
              have HB3 := Lib.hid hb3
              have hm3 := (hb3.block X (by omega)).trans ((HX0.out.block X hXW).trans HAT.out.msg)
              obtain ⟨_, _, _, _, _, _, t6, tf, tl⟩ := msg_cells hm3
              have tf6 := tf 6
              have HF3 := Lib.hid (HAT.out.next (HX0.out.trans (hb3.mono (by omega))) (acc' := nl ++ [⟨xw, xn, xc + 1⟩]) (by rw [List.length_append]; exact ho3) (show w.heap.size ≤ WO.heap.size + 1 by have := HAT.out.below.size; omega) (by omega))
              rw [List.length_append] at HF3
              rw [HM.out] at t6
              clear hr3 ho3 hb3 hf3 hm3 tf hje hjm hXW hxn
              go_wp2_with (at_builtin; refine wpList_append_any rfl _ _ _ _ rfl _ _ _ _ rfl rfl HAP3.out ?_)
              go_roundw
              case rel => exact ⟨i + 1, HU.out, by go_num, a3, c3, by rw [HTK.out, show plusB ⟨xw, xn, xc⟩ = ⟨xw, xn, xc + 1⟩ from rfl, HINL.out]; exact HF3.out⟩
              case measure => simp [intOf]; omega
            · have HINL : Hid (insL ⟨xw, xn, xc + 1⟩ acc = nl) := Lib.hid (by unfold insL; rw [HINM.out]; rfl)
              obtain ⟨na, nc, hnv⟩ := row_form HNR.out
              subst hnv
              have HF3 := Lib.hid (HAT.out.next HX0.out (acc' := nl) HNR.out (show w.heap.size ≤ WO.heap.size + 1 by have := HAT.out.below.size; omega) (by omega))
              clear hje hjm hXW hxn
              go_wp2
              go_roundw
              case rel => exact ⟨i + 1, HU.out, by go_num, na, nc, by rw [HTK.out, show plusB ⟨xw, xn, xc⟩ = ⟨xw, xn, xc + 1⟩ from rfl, HINL.out]; exact HF3.out⟩
              case measure => simp [intOf]; omega
      · have hie : i = nb := by omega
        have HE : Hid (fitN bs = acc) := Lib.hid (by rw [← HACC.out, hie, ← HNB.out, List.take_length])
        have hin : ¬ (i : Int) < (nb : Int) := by omega
        have hrz := HAT.out.res
        obtain ⟨z0, z1, z2, z3, z4, z5, z6, zf, zl⟩ := msg_cells hrz
        have zf0 := zf 0
        have zf1 := zf 1
        have zf2 := zf 2
        have zf3 := zf 3
        have zf4 := zf 4
        have zf5 := zf 5
        have zf6 := zf 6
        have hrow := HAT.out.row
        rw [HM.out] at hrow
        have HMS := Lib.hid (msg_set (k := q1) (c := p2) (b := p3) (e := p4) (v := p5) (u := q6) (a := a) (n := m) (cap := cap) hrz rfl)
        have HBF := Lib.hid (seven_set HAT.out.below (show w.heap.size ≤ w.heap.size + 1 by omega) (.int .i64 q1) (.int .i64 p2) (.int .i64 p3) (.int .i64 p4) (.int .i64 p5) (.int .i64 q6) (.slice a m cap))
        have HRF : Hid ((((((((WO.setCell ⟨w.heap.size + 1, 0, none⟩ (.int .i64 q1)).setCell ⟨w.heap.size + 1, 1, none⟩ (.int .i64 p2)).setCell ⟨w.heap.size + 1, 2, none⟩ (.int .i64 p3)).setCell ⟨w.heap.size + 1, 3, none⟩ (.int .i64 p4)).setCell ⟨w.heap.size + 1, 4, none⟩ (.int .i64 p5)).setCell ⟨w.heap.size + 1, 5, none⟩ (.int .i64 q6)).setCell ⟨w.heap.size + 1, 6, none⟩ (.slice a m cap)).ownsRow w.heap.size 35 3 (.slice a m cap) m (bdsV acc)) := Lib.hid (row_moved hrow fun b e => seven_far _ _ _ (fun e' => by
          obtain ⟨cs, hc⟩ := row_blk hrow e
          rw [e', hrz] at hc
          injection hc with hc; injection hc with _ ht; exact absurd ht (by decide)) _ _ _ _ _ _ _)
        clear hie hlt hrz zf hrow hm hat xf
        go_wp2
        (try simp only [Exit.inBlock, Exit.then])
        refine bodyPost_ret (results_cell_row (cs := #[.int .i64 q1, .int .i64 p2, .int .i64 p3, .int .i64 p4, .int .i64 p5, .int .i64 q6, .slice a m cap]) rfl _ _ (w.heap.size + 1) 31 (0, 0) _ rfl HMS.out Try.underlying31 rfl (by kernel_rfl)) rfl ?_
        rw [HE.out, HM.out]
        exact ⟨a, cap, rfl, HRF.out, HBF.out⟩
end Go.Proofs.Ytbbogkmibiealaa
