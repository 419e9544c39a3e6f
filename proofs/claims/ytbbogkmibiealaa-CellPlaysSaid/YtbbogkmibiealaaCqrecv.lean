/-
  The document's Receive.
-/
import Derived.Test.YtbbogkmibiealaaCcell
import Derived.Test.YtbbogkmibiealaaCqright
namespace Go.Proofs.Ytbbogkmibiealaa
open Go.RowKit Gm

theorem cel_all' {f : Ce → Value → Array Value} {t : TypeId} {w w2 : World} {p : Nat} {v v' : Value} {D' : Ce} {R : Nat → Prop} (hR : ∀ b, R b ↔ (b = p ∨ v.ownBlock = some b)) (hb : Beside R w w2) (hp : w2.heap[p]? = some (.cells (f D' v') t (0, 0))) (hr : w2.ownsRow w.heap.size 35 3 v' D'.l.length (bdsV D'.l)) : Turn (CelK f t) w w2 p D' R :=
  cel_turn hR ⟨hp, own_low hr (Nat.zero_le _)⟩ hb fun b e => .inr (hr.lt b e).1
theorem set_two {W : World} {p : Nat} {t : TypeId} {x0 x1 x2 x3 x4 x5 : Value} (h : W.heap[p]? = some (.cells #[x0, x1, x2, x3, x4, x5] t (0, 0))) (y2 y3 : Value) :
    ((W.setCell ⟨p, 2, none⟩ y2).setCell ⟨p, 3, none⟩ y3).heap[p]? = some (.cells #[x0, x1, y2, y3, x4, x5] t (0, 0)) := by
  simp [World.setCell, Array.getElem?_modify, h]
theorem set_three {W : World} {p : Nat} {t : TypeId} {x0 x1 x2 x3 x4 x5 : Value} (h : W.heap[p]? = some (.cells #[x0, x1, x2, x3, x4, x5] t (0, 0))) (y2 y3 y4 : Value) :
    (((W.setCell ⟨p, 2, none⟩ y2).setCell ⟨p, 3, none⟩ y3).setCell ⟨p, 4, none⟩ y4).heap[p]? = some (.cells #[x0, x1, y2, y3, y4, x5] t (0, 0)) := by
  simp [World.setCell, Array.getElem?_modify, h]
theorem set_five {W : World} {p : Nat} {t : TypeId} {x0 x1 x2 x3 x4 x5 : Value} (h : W.heap[p]? = some (.cells #[x0, x1, x2, x3, x4, x5] t (0, 0))) (y : Value) :
    (W.setCell ⟨p, 5, none⟩ y).heap[p]? = some (.cells #[x0, x1, x2, x3, x4, y] t (0, 0)) := by
  simp [World.setCell, Array.getElem?_modify, h]
theorem qgreet_turn {w W : World} {p : Nat} {v : Value} {D : Ce} {R : Nat → Prop} (hR : ∀ b, R b ↔ (b = p ∨ v.ownBlock = some b)) (h : CelAt cellsQ 53 w p v D) (hb : Below w.heap.size w W) (e : Int) :
    Turn QCell w ((W.setCell ⟨p, 2, none⟩ (.int .i64 e)).setCell ⟨p, 3, none⟩ (.int .i64 0)) p { D with epoch := e, ver := 0 } R :=
  cel_nums (D' := { D with epoch := e, ver := 0 }) (w' := W) (w2 := (W.setCell ⟨p, 2, none⟩ (.int .i64 e)).setCell ⟨p, 3, none⟩ (.int .i64 0)) tq_ne hR h hb rfl (fun b hn => by rw [Below.heap_setCell _ _ _ b hn, Below.heap_setCell _ _ _ b hn]) (by simp [World.setCell]) ⟨rfl, rfl, rfl⟩ (set_two (h.below hb).blk _ _)
theorem qgrant_turn {w W w4 : World} {p : Nat} {v v' : Value} {D : Ce} {R : Nat → Prop} (hR : ∀ b, R b ↔ (b = p ∨ v.ownBlock = some b)) (h : CelAt cellsQ 53 w p v D) (hb : Below w.heap.size w W) (e ver u : Int) (l : List Bd)
    (hg : Below (((W.setCell ⟨p, 2, none⟩ (.int .i64 e)).setCell ⟨p, 3, none⟩ (.int .i64 ver)).setCell ⟨p, 4, none⟩ (.int .i64 u)).heap.size (((W.setCell ⟨p, 2, none⟩ (.int .i64 e)).setCell ⟨p, 3, none⟩ (.int .i64 ver)).setCell ⟨p, 4, none⟩ (.int .i64 u)) w4)
    (hr : w4.ownsRow (((W.setCell ⟨p, 2, none⟩ (.int .i64 e)).setCell ⟨p, 3, none⟩ (.int .i64 ver)).setCell ⟨p, 4, none⟩ (.int .i64 u)).heap.size 35 3 v' l.length (bdsV l)) :
    Turn QCell w (w4.setCell ⟨p, 5, none⟩ v') p { D with epoch := e, ver := ver, unt := u, l := l } R := by
  have hp3 := set_three (h.below hb).blk (.int .i64 e) (.int .i64 ver) (.int .i64 u)
  have hs3 : (((W.setCell ⟨p, 2, none⟩ (.int .i64 e)).setCell ⟨p, 3, none⟩ (.int .i64 ver)).setCell ⟨p, 4, none⟩ (.int .i64 u)).heap.size = W.heap.size := by simp [World.setCell]
  have hRp : R p := (hR p).2 (.inl rfl)
  have hbs : Beside R w (((W.setCell ⟨p, 2, none⟩ (.int .i64 e)).setCell ⟨p, 3, none⟩ (.int .i64 ver)).setCell ⟨p, 4, none⟩ (.int .i64 u)) :=
    (((Beside.of_below hb).trans (Beside.set W _ hRp) fun b hb _ => hb).trans (Beside.set _ _ hRp) fun b hb _ => hb).trans (Beside.set _ _ hRp) fun b hb _ => hb
  have hp4 := (hg.block p (Array.getElem?_eq_some_iff.1 hp3).1).trans hp3
  have hne : v'.ownBlock ≠ some p := fun e => by
    have h1 := (hr.lt p e).1
    have h2 := (Array.getElem?_eq_some_iff.1 hp3).1
    omega
  have hsz := hb.size
  refine cel_all' hR ((hbs.trans (Beside.of_below (R := R) hg) fun b hb _ => hb).trans (Beside.set _ _ hRp) fun b hb _ => hb) (set_five hp4 v') (own_low (row_moved hr fun b e => Below.heap_setCell _ _ _ b fun e' => hne (by rw [e, e'])) (by omega))
theorem took_no_right {D : Ce} {m : Ms} (h : rightM m = false) : tookC D m = false := by unfold tookC; rw [h]; rfl
theorem took_no_kind {D : Ce} {m : Ms} (h : m.kind ≠ 1) : tookC D m = false := by unfold tookC; rw [decide_eq_false h]; simp
theorem took_no_cell {D : Ce} {m : Ms} (h : m.cell ≠ D.n) : tookC D m = false := by unfold tookC; rw [decide_eq_false h]; simp
theorem took_newer {D : Ce} {m : Ms} (h : rightM m = true) (hk : m.kind = 1) (hc : m.cell = D.n) : tookC D m = newerC D m := by unfold tookC; rw [h, decide_eq_true hk, decide_eq_true hc]; rfl
set_option maxRecDepth 100000 in
set_option maxHeartbeats 8000000 in
theorem qreceive_any (p : Nat) (D : Ce) (R : Nat → Prop) (k c b e v u : Int) (a : Option Addr) (n cap : Nat) (l : List Bd) (w : World) (h : QCell w p D R) (_ok : OkC D) (hm : OkM ⟨k, c, b, e, v, u, l⟩) (hb : BindsAt w (fun b => b < w.heap.size ∧ ¬ R b) a n l) :
    Calls Try.prog 12 #[.pointer (some ⟨p, 0, none⟩), msgV k c b e v u a n cap] w fun x w' => x = .returned (.bool (tookC D ⟨k, c, b, e, v, u, l⟩)) ∧ Turn QCell w w' p (recvC D ⟨k, c, b, e, v, u, l⟩) R := by
  have HK := Lib.hid h
  obtain ⟨rv, hR, hq⟩ := h
  have HR := Lib.hid hR
  have HQ := Lib.hid hq
  have hn : n ≤ 1048576 := by rw [← hb.1]; exact hm.fit.1
  have hb0 : Below w.heap.size w (w.alloc (msgO k c b e v u a n cap)) := (Below.refl _ w).alloc (Nat.le_refl _) _
  have hnew := new_at w (msgO k c b e v u a n cap)
  obtain ⟨c0, c1, c2, c3, c4, c5, c6, _, hg⟩ := msg_cells hnew
  have hpw := hq.lt.1
  have HPW := Lib.hid hpw
  obtain ⟨y, hy⟩ : ∃ y, rightM ⟨k, c, b, e, v, u, l⟩ = y := ⟨_, rfl⟩
  have HRT : Hid (Calls Try.prog 25 #[msgV k c b e v u a n cap] (w.alloc (msgO k c b e v u a n cap)) fun x w' => x = .returned (.bool y) ∧ Below (w.alloc (msgO k c b e v u a n cap)).heap.size (w.alloc (msgO k c b e v u a n cap)) w') := Lib.hid (by
    rw [← hy]; exact qright_any k c b e v u a n cap l _ ((hb.keep fun _ h => hb0.block _ h.1).imp fun _ h => Nat.lt_of_lt_of_le h.1 hb0.size) hn)
  have HNEW := Lib.hid hnew
  have HB0 := Lib.hid hb0
  have HB := Lib.hid hb
  have HY := Lib.hid hy
  have HNL := Lib.hid hn
  have HAFT : Hid (∀ W, Below (w.alloc (msgO k c b e v u a n cap)).heap.size (w.alloc (msgO k c b e v u a n cap)) W → Below w.heap.size w W ∧ W.heap[w.heap.size]? = some (msgO k c b e v u a n cap) ∧ W.heap[p]? = some (.cells (cellsQ D rv) 53 (0, 0))) := Lib.hid fun W h => ⟨bt hb0 h, (h.block _ (by simp)).trans hnew, ((bt hb0 h).block p hpw).trans hq.blk⟩
  obtain ⟨xn, hxn⟩ : ∃ x, D.n = x := ⟨_, rfl⟩
  obtain ⟨xb, hxb⟩ : ∃ x, D.boot = x := ⟨_, rfl⟩
  obtain ⟨xe, hxe⟩ : ∃ x, D.epoch = x := ⟨_, rfl⟩
  obtain ⟨xv, hxv⟩ : ∃ x, D.ver = x := ⟨_, rfl⟩
  obtain ⟨xu, hxu⟩ : ∃ x, D.unt = x := ⟨_, rfl⟩
  have HXN := Lib.hid hxn
  have HXB := Lib.hid hxb
  have HXE := Lib.hid hxe
  have HXV := Lib.hid hxv
  have HCQ : Hid (cellsQ D rv = #[.int .i64 xn, .int .i64 xb, .int .i64 xe, .int .i64 xv, .int .i64 xu, rv]) := Lib.hid (by rw [← hxn, ← hxb, ← hxe, ← hxv, ← hxu])
  clear hR hq hn hb0 hnew hpw hy hb hm hxn hxb hxe hxv hxu
  rcases y with _ | _
  · have HT : Hid (tookC D ⟨k, c, b, e, v, u, l⟩ = false) := Lib.hid (took_no_right HY.out)
    go_enter Try.func12, Try.ntmps12
    go_wp2_with (go_at_call 25; (with_reducible refine HRT.out.mono ?_); rintro x w1 ⟨rfl, hb1⟩
                 obtain ⟨h1, h2, h3⟩ := HAFT.out w1 hb1
                 rw [HCQ.out] at h3
                 obtain ⟨e0, e1, e2, e3, e4, e5, e6, ef, eg⟩ := msg_cells h2
                 obtain ⟨d0, d1, d2, d3, d4, d5, df, dg⟩ := six_cells h3
                 have df2 := df 2
                 have df3 := df 3
                 have df4 := df 4
                 have df5 := df 5
                 have HW1 := Lib.hid h1
                 have HM1 := Lib.hid h2
                 have HP1 := Lib.hid h3
                 clear hb1 h1 h2 h3 ef df)
    go_quiet (fail)
    go_wp2
    go_ret
    exact ⟨ret_bool HT.out.symm, by rw [recv_same HT.out]; first | exact cel_same HK.out (below_drewN HW1.out _) | exact cel_same HK.out (below_drewN (below_drewN HW1.out _) _)⟩
  · by_cases hk : k = 1
    · have k1 : (k == 1) = true := by simpa using hk
      have k2 : (k != 1) = false := by simpa using hk
      by_cases hc : c = xn
      · have k3 : (c == xn) = true := by simpa using hc
        have k4 : (c != xn) = false := by simpa using hc
        have HN : Hid (tookC D ⟨k, c, b, e, v, u, l⟩ = newerC D ⟨k, c, b, e, v, u, l⟩) := Lib.hid (took_newer HY.out hk (by rw [HXN.out]; exact hc))
        clear hk hc
        by_cases hv : v = 0
        · have k5 : (v == 0) = true := by simpa using hv
          have k6 : (v != 0) = false := by simpa using hv
          by_cases he : e ≤ xe
          · have k7 : decide (e ≤ xe) = true := decide_eq_true he
            have HT : Hid (tookC D ⟨k, c, b, e, v, u, l⟩ = false) := Lib.hid (by
              rw [HN.out]; unfold newerC; dsimp only; rw [if_pos hv, HXE.out]; exact decide_eq_false (by omega))
            clear hv he
            go_enter Try.func12, Try.ntmps12
            go_wp2_with (go_at_call 25; (with_reducible refine HRT.out.mono ?_); rintro x w1 ⟨rfl, hb1⟩
                         obtain ⟨h1, h2, h3⟩ := HAFT.out w1 hb1
                         rw [HCQ.out] at h3
                         obtain ⟨e0, e1, e2, e3, e4, e5, e6, ef, eg⟩ := msg_cells h2
                         obtain ⟨d0, d1, d2, d3, d4, d5, df, dg⟩ := six_cells h3
                         have df2 := df 2
                         have df3 := df 3
                         have df4 := df 4
                         have df5 := df 5
                         have HW1 := Lib.hid h1
                         have HM1 := Lib.hid h2
                         have HP1 := Lib.hid h3
                         clear hb1 h1 h2 h3 ef df)
            go_quiet (fail)
            go_wp2
            go_quiet (fail)
            go_wp2
            go_ret
            exact ⟨ret_bool HT.out.symm, by rw [recv_same HT.out]; first | exact cel_same HK.out (below_drewN HW1.out _) | exact cel_same HK.out (below_drewN (below_drewN HW1.out _) _)⟩
          · have k7 : decide (e ≤ xe) = false := decide_eq_false he
            have HT : Hid (tookC D ⟨k, c, b, e, v, u, l⟩ = true) := Lib.hid (by
              rw [HN.out]; unfold newerC; dsimp only; rw [if_pos hv, HXE.out]; exact decide_eq_true (by omega))
            have HS : Hid (recvC D ⟨k, c, b, e, v, u, l⟩ = { D with epoch := e, ver := 0 }) := Lib.hid (by rw [recv_set HT.out]; unfold setC; dsimp only; rw [if_pos hv])
            clear hv he
            go_enter Try.func12, Try.ntmps12
            go_wp2_with (go_at_call 25; (with_reducible refine HRT.out.mono ?_); rintro x w1 ⟨rfl, hb1⟩
                         obtain ⟨h1, h2, h3⟩ := HAFT.out w1 hb1
                         rw [HCQ.out] at h3
                         obtain ⟨e0, e1, e2, e3, e4, e5, e6, ef, eg⟩ := msg_cells h2
                         obtain ⟨d0, d1, d2, d3, d4, d5, df, dg⟩ := six_cells h3
                         have df2 := df 2
                         have df3 := df 3
                         have df4 := df 4
                         have df5 := df 5
                         have HW1 := Lib.hid h1
                         have HM1 := Lib.hid h2
                         have HP1 := Lib.hid h3
                         clear hb1 h1 h2 h3 ef df)
            go_quiet (fail)
            go_wp2
            go_quiet (fail)
            go_wp2
            go_ret
            exact ⟨ret_bool HT.out.symm, by rw [HS.out]; exact qgreet_turn HR.out HQ.out (below_drewN HW1.out _) e⟩
        · have k5 : (v == 0) = false := by simpa using hv
          have k6 : (v != 0) = true := by simpa using hv
          have HS : Hid (tookC D ⟨k, c, b, e, v, u, l⟩ = true → recvC D ⟨k, c, b, e, v, u, l⟩ = { D with epoch := e, ver := v, unt := u, l := l }) := Lib.hid fun ht => by rw [recv_set ht]; unfold setC; dsimp only; rw [if_neg hv]
          have HNV : Hid (newerC D ⟨k, c, b, e, v, u, l⟩ = (decide (b = xb) && (decide (xe < e) || (decide (e = xe) && decide (xv < v))))) := Lib.hid (by unfold newerC; dsimp only; rw [if_neg hv, HXB.out, HXE.out, HXV.out])
          clear hv
          by_cases hbb : b = xb
          · have k7 : (b == xb) = true := by simpa using hbb
            have k8 : (b != xb) = false := by simpa using hbb
            by_cases he : e < xe
            · have k9 : decide (e < xe) = true := decide_eq_true he
              have HT : Hid (tookC D ⟨k, c, b, e, v, u, l⟩ = false) := Lib.hid (by
                rw [HN.out, HNV.out, decide_eq_false (show ¬ xe < e by omega), decide_eq_false (show ¬ e = xe by omega)]; simp)
              clear hbb he HS
              go_enter Try.func12, Try.ntmps12
              go_wp2_with (go_at_call 25; (with_reducible refine HRT.out.mono ?_); rintro x w1 ⟨rfl, hb1⟩
                           obtain ⟨h1, h2, h3⟩ := HAFT.out w1 hb1
                           rw [HCQ.out] at h3
                           obtain ⟨e0, e1, e2, e3, e4, e5, e6, ef, eg⟩ := msg_cells h2
                           obtain ⟨d0, d1, d2, d3, d4, d5, df, dg⟩ := six_cells h3
                           have df2 := df 2
                           have df3 := df 3
                           have df4 := df 4
                           have df5 := df 5
                           have HW1 := Lib.hid h1
                           have HM1 := Lib.hid h2
                           have HP1 := Lib.hid h3
                           clear hb1 h1 h2 h3 ef df)
              go_quiet (fail)
              go_wp2
              go_quiet (fail)
              go_wp2
              go_ret
              exact ⟨ret_bool HT.out.symm, by rw [recv_same HT.out]; first | exact cel_same HK.out (below_drewN HW1.out _) | exact cel_same HK.out (below_drewN (below_drewN HW1.out _) _)⟩
            · have k9 : decide (e < xe) = false := decide_eq_false he
              by_cases hee : e = xe
              · have k10 : (e == xe) = true := by simpa using hee
                have k11 : (e != xe) = false := by simpa using hee
                by_cases hvv : v ≤ xv
                · have k12 : decide (v ≤ xv) = true := decide_eq_true hvv
                  have HT : Hid (tookC D ⟨k, c, b, e, v, u, l⟩ = false) := Lib.hid (by
                    rw [HN.out, HNV.out, decide_eq_false (show ¬ xe < e by omega), decide_eq_false (show ¬ xv < v by omega)]; simp)
                  clear hbb he hee hvv HS
                  go_enter Try.func12, Try.ntmps12
                  go_wp2_with (go_at_call 25; (with_reducible refine HRT.out.mono ?_); rintro x w1 ⟨rfl, hb1⟩
                               obtain ⟨h1, h2, h3⟩ := HAFT.out w1 hb1
                               rw [HCQ.out] at h3
                               obtain ⟨e0, e1, e2, e3, e4, e5, e6, ef, eg⟩ := msg_cells h2
                               obtain ⟨d0, d1, d2, d3, d4, d5, df, dg⟩ := six_cells h3
                               have df2 := df 2
                               have df3 := df 3
                               have df4 := df 4
                               have df5 := df 5
                               have HW1 := Lib.hid h1
                               have HM1 := Lib.hid h2
                               have HP1 := Lib.hid h3
                               clear hb1 h1 h2 h3 ef df)
                  go_quiet (fail)
                  go_wp2
                  go_quiet (fail)
                  go_wp2
                  go_ret
                  exact ⟨ret_bool HT.out.symm, by rw [recv_same HT.out]; first | exact cel_same HK.out (below_drewN HW1.out _) | exact cel_same HK.out (below_drewN (below_drewN HW1.out _) _)⟩
                · have k12 : decide (v ≤ xv) = false := decide_eq_false hvv
                  have HT : Hid (tookC D ⟨k, c, b, e, v, u, l⟩ = true) := Lib.hid (by
                    rw [HN.out, HNV.out, decide_eq_true hbb, decide_eq_true hee, decide_eq_true (show xv < v by omega)]; simp)
                  clear hbb he hee hvv
                  have HS2 := Lib.hid (HS.out HT.out)
                  clear HS
                  go_enter Try.func12, Try.ntmps12
                  go_wp2_with (go_at_call 25; (with_reducible refine HRT.out.mono ?_); rintro x w1 ⟨rfl, hb1⟩
                               obtain ⟨h1, h2, h3⟩ := HAFT.out w1 hb1
                               rw [HCQ.out] at h3
                               obtain ⟨e0, e1, e2, e3, e4, e5, e6, ef, eg⟩ := msg_cells h2
                               obtain ⟨d0, d1, d2, d3, d4, d5, df, dg⟩ := six_cells h3
                               have df2 := df 2
                               have df3 := df 3
                               have df4 := df 4
                               have df5 := df 5
                               have HW1 := Lib.hid h1
                               have HM1 := Lib.hid h2
                               have HP1 := Lib.hid h3
                               clear hb1 h1 h2 h3 ef df)
                  go_quiet (fail)
                  go_wp2
                  go_quiet (fail)
                  generalize hW2 : World.drewN (World.drewN w1 _) nq = W2
                  have hbw : Below w.heap.size w W2 := by rw [← hW2]; exact below_drewN (below_drewN HW1.out _) _
                  have hm2 : W2.heap[w.heap.size]? = some (msgO k c b e v u a n cap) := by rw [← hW2]; exact HM1.out
                  have hq2 : W2.heap[p]? = some (.cells #[.int .i64 xn, .int .i64 xb, .int .i64 xe, .int .i64 xv, .int .i64 xu, rv] 53 (0, 0)) := by rw [← hW2]; exact HP1.out
                  have hb2 := HB.out.keep (W' := W2) fun _ h => hbw.block _ h.1
                  have hpw := HPW.out
                  have hp3 := set_three hq2 (.int .i64 e) (.int .i64 v) (.int .i64 u)
                  have hfar : ∀ b, b ≠ p → ((((W2.setCell ⟨p, 2, none⟩ (.int .i64 e)).setCell ⟨p, 3, none⟩ (.int .i64 v)).setCell ⟨p, 4, none⟩ (.int .i64 u)).heap[b]? = W2.heap[b]?) := fun b hn => by rw [Below.heap_setCell _ _ _ b hn, Below.heap_setCell _ _ _ b hn, Below.heap_setCell _ _ _ b hn]
                  have hb3 := hb2.keep fun b h => hfar b fun e => h.2 ((HR.out b).2 (.inl e))
                  have hm3 := (hfar w.heap.size (by omega)).trans hm2
                  obtain ⟨v', w4, hr1, hr2, hr3⟩ := append_binds (cap := cap) hb3 HNL.out
                  obtain ⟨a2, cap2, hv2⟩ := row_form hr2
                  subst hv2
                  have hg4 := gb_none hr3
                  have HAP := Lib.hid hr1
                  have HR4 := Lib.hid hr2
                  have HG4 := Lib.hid hg4
                  have hp4 := (hg4.block p (Array.getElem?_eq_some_iff.1 hp3).1).trans hp3
                  obtain ⟨_, _, _, _, _, x5, xf, x6⟩ := six_cells hp4
                  have xf5 := xf 5
                  obtain ⟨_, _, _, g3, g4, g5, g6, _, gg⟩ := msg_cells hm2
                  obtain ⟨y0, y1, y2, y3, y4, y5, yf, yg⟩ := six_cells hq2
                  have yf2 := yf 2
                  have yf3 := yf 3
                  have yf4 := yf 4
                  obtain ⟨_, _, _, _, _, _, m6, _, mg⟩ := msg_cells hm3
                  have hne : p ≠ w.heap.size := by omega
                  have hne' : ¬ w.heap.size = p := by omega
                  have HBW := Lib.hid hbw
                  clear hW2 hbw hm2 hq2 hb2 hp3 hfar hb3 hm3 hr1 hr2 hr3 hg4 hp4 xf yf
                  go_wp2_with (at_builtin; refine wpList_append_any rfl _ _ _ _ rfl _ _ _ _ rfl rfl HAP.out ?_)
                  go_ret
                  exact ⟨ret_bool HT.out.symm, by rw [HS2.out]; exact qgrant_turn HR.out HQ.out HBW.out e v u l HG4.out HR4.out⟩
              · have k10 : (e == xe) = false := by simpa using hee
                have k11 : (e != xe) = true := by simpa using hee
                have HT : Hid (tookC D ⟨k, c, b, e, v, u, l⟩ = true) := Lib.hid (by
                  rw [HN.out, HNV.out, decide_eq_true hbb, decide_eq_true (show xe < e by omega)]; simp)
                clear hbb he hee
                have HS2 := Lib.hid (HS.out HT.out)
                clear HS
                go_enter Try.func12, Try.ntmps12
                go_wp2_with (go_at_call 25; (with_reducible refine HRT.out.mono ?_); rintro x w1 ⟨rfl, hb1⟩
                             obtain ⟨h1, h2, h3⟩ := HAFT.out w1 hb1
                             rw [HCQ.out] at h3
                             obtain ⟨e0, e1, e2, e3, e4, e5, e6, ef, eg⟩ := msg_cells h2
                             obtain ⟨d0, d1, d2, d3, d4, d5, df, dg⟩ := six_cells h3
                             have df2 := df 2
                             have df3 := df 3
                             have df4 := df 4
                             have df5 := df 5
                             have HW1 := Lib.hid h1
                             have HM1 := Lib.hid h2
                             have HP1 := Lib.hid h3
                             clear hb1 h1 h2 h3 ef df)
                go_quiet (fail)
                go_wp2
                go_quiet (fail)
                generalize hW2 : World.drewN (World.drewN w1 _) nq = W2
                have hbw : Below w.heap.size w W2 := by rw [← hW2]; exact below_drewN (below_drewN HW1.out _) _
                have hm2 : W2.heap[w.heap.size]? = some (msgO k c b e v u a n cap) := by rw [← hW2]; exact HM1.out
                have hq2 : W2.heap[p]? = some (.cells #[.int .i64 xn, .int .i64 xb, .int .i64 xe, .int .i64 xv, .int .i64 xu, rv] 53 (0, 0)) := by rw [← hW2]; exact HP1.out
                have hb2 := HB.out.keep (W' := W2) fun _ h => hbw.block _ h.1
                have hpw := HPW.out
                have hp3 := set_three hq2 (.int .i64 e) (.int .i64 v) (.int .i64 u)
                have hfar : ∀ b, b ≠ p → ((((W2.setCell ⟨p, 2, none⟩ (.int .i64 e)).setCell ⟨p, 3, none⟩ (.int .i64 v)).setCell ⟨p, 4, none⟩ (.int .i64 u)).heap[b]? = W2.heap[b]?) := fun b hn => by rw [Below.heap_setCell _ _ _ b hn, Below.heap_setCell _ _ _ b hn, Below.heap_setCell _ _ _ b hn]
                have hb3 := hb2.keep fun b h => hfar b fun e => h.2 ((HR.out b).2 (.inl e))
                have hm3 := (hfar w.heap.size (by omega)).trans hm2
                obtain ⟨v', w4, hr1, hr2, hr3⟩ := append_binds (cap := cap) hb3 HNL.out
                obtain ⟨a2, cap2, hv2⟩ := row_form hr2
                subst hv2
                have hg4 := gb_none hr3
                have HAP := Lib.hid hr1
                have HR4 := Lib.hid hr2
                have HG4 := Lib.hid hg4
                have hp4 := (hg4.block p (Array.getElem?_eq_some_iff.1 hp3).1).trans hp3
                obtain ⟨_, _, _, _, _, x5, xf, x6⟩ := six_cells hp4
                have xf5 := xf 5
                obtain ⟨_, _, _, g3, g4, g5, g6, _, gg⟩ := msg_cells hm2
                obtain ⟨y0, y1, y2, y3, y4, y5, yf, yg⟩ := six_cells hq2
                have yf2 := yf 2
                have yf3 := yf 3
                have yf4 := yf 4
                obtain ⟨_, _, _, _, _, _, m6, _, mg⟩ := msg_cells hm3
                have hne : p ≠ w.heap.size := by omega
                have hne' : ¬ w.heap.size = p := by omega
                have HBW := Lib.hid hbw
                clear hW2 hbw hm2 hq2 hb2 hp3 hfar hb3 hm3 hr1 hr2 hr3 hg4 hp4 xf yf
                go_wp2_with (at_builtin; refine wpList_append_any rfl _ _ _ _ rfl _ _ _ _ rfl rfl HAP.out ?_)
                go_ret
                exact ⟨ret_bool HT.out.symm, by rw [HS2.out]; exact qgrant_turn HR.out HQ.out HBW.out e v u l HG4.out HR4.out⟩
          · have k7 : (b == xb) = false := by simpa using hbb
            have k8 : (b != xb) = true := by simpa using hbb
            have HT : Hid (tookC D ⟨k, c, b, e, v, u, l⟩ = false) := Lib.hid (by
              rw [HN.out, HNV.out, decide_eq_false hbb]; rfl)
            clear hbb HS
            go_enter Try.func12, Try.ntmps12
            go_wp2_with (go_at_call 25; (with_reducible refine HRT.out.mono ?_); rintro x w1 ⟨rfl, hb1⟩
                         obtain ⟨h1, h2, h3⟩ := HAFT.out w1 hb1
                         rw [HCQ.out] at h3
                         obtain ⟨e0, e1, e2, e3, e4, e5, e6, ef, eg⟩ := msg_cells h2
                         obtain ⟨d0, d1, d2, d3, d4, d5, df, dg⟩ := six_cells h3
                         have df2 := df 2
                         have df3 := df 3
                         have df4 := df 4
                         have df5 := df 5
                         have HW1 := Lib.hid h1
                         have HM1 := Lib.hid h2
                         have HP1 := Lib.hid h3
                         clear hb1 h1 h2 h3 ef df)
            go_quiet (fail)
            go_wp2
            go_quiet (fail)
            go_wp2
            go_ret
            exact ⟨ret_bool HT.out.symm, by rw [recv_same HT.out]; first | exact cel_same HK.out (below_drewN HW1.out _) | exact cel_same HK.out (below_drewN (below_drewN HW1.out _) _)⟩
      · have k3 : (c == xn) = false := by simpa using hc
        have k4 : (c != xn) = true := by simpa using hc
        have HT : Hid (tookC D ⟨k, c, b, e, v, u, l⟩ = false) := Lib.hid (took_no_cell (by rw [HXN.out]; exact hc))
        clear hk hc
        go_enter Try.func12, Try.ntmps12
        go_wp2_with (go_at_call 25; (with_reducible refine HRT.out.mono ?_); rintro x w1 ⟨rfl, hb1⟩
                     obtain ⟨h1, h2, h3⟩ := HAFT.out w1 hb1
                     rw [HCQ.out] at h3
                     obtain ⟨e0, e1, e2, e3, e4, e5, e6, ef, eg⟩ := msg_cells h2
                     obtain ⟨d0, d1, d2, d3, d4, d5, df, dg⟩ := six_cells h3
                     have df2 := df 2
                     have df3 := df 3
                     have df4 := df 4
                     have df5 := df 5
                     have HW1 := Lib.hid h1
                     have HM1 := Lib.hid h2
                     have HP1 := Lib.hid h3
                     clear hb1 h1 h2 h3 ef df)
        go_quiet (fail)
        go_wp2
        go_ret
        exact ⟨ret_bool HT.out.symm, by rw [recv_same HT.out]; first | exact cel_same HK.out (below_drewN HW1.out _) | exact cel_same HK.out (below_drewN (below_drewN HW1.out _) _)⟩
    · have k1 : (k == 1) = false := by simpa using hk
      have k2 : (k != 1) = true := by simpa using hk
      have HT : Hid (tookC D ⟨k, c, b, e, v, u, l⟩ = false) := Lib.hid (took_no_kind hk)
      clear hk
      go_enter Try.func12, Try.ntmps12
      go_wp2_with (go_at_call 25; (with_reducible refine HRT.out.mono ?_); rintro x w1 ⟨rfl, hb1⟩
                   obtain ⟨h1, h2, h3⟩ := HAFT.out w1 hb1
                   rw [HCQ.out] at h3
                   obtain ⟨e0, e1, e2, e3, e4, e5, e6, ef, eg⟩ := msg_cells h2
                   obtain ⟨d0, d1, d2, d3, d4, d5, df, dg⟩ := six_cells h3
                   have df2 := df 2
                   have df3 := df 3
                   have df4 := df 4
                   have df5 := df 5
                   have HW1 := Lib.hid h1
                   have HM1 := Lib.hid h2
                   have HP1 := Lib.hid h3
                   clear hb1 h1 h2 h3 ef df)
      go_quiet (fail)
      go_wp2
      go_ret
      exact ⟨ret_bool HT.out.symm, by rw [recv_same HT.out]; first | exact cel_same HK.out (below_drewN HW1.out _) | exact cel_same HK.out (below_drewN (below_drewN HW1.out _) _)⟩
end Go.Proofs.Ytbbogkmibiealaa
