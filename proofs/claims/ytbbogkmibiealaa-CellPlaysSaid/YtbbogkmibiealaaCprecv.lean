/-
  The program's Receive.
-/
import Derived.Test.YtbbogkmibiealaaCqrecv
import Derived.Test.YtbbogkmibiealaaCpfor
import Derived.Test.YtbbogkmibiealaaCpa
namespace Go.Proofs.Ytbbogkmibiealaa
open Go.RowKit Gm

theorem psame {w w' : World} {p : Nat} {D : Ce} {R : Nat → Prop} (h : PCell w p D R) (hb : Below w.heap.size w w') : Turn PCell w w' p D R := pturn h.1 (cel_same h.2 hb)
theorem turn_below {X : Type} {A : Kind X} (hA : Lawful A) {w w1 w2 : World} {p : Nat} {D : X} {R : Nat → Prop} (t : Turn A w w1 p D R) (hb : Below w1.heap.size w1 w2) : Turn A w w2 p D R := by
  obtain ⟨R', h1, h2, h3⟩ := t
  exact ⟨R', hA.keep h1 hb.size fun b hr => hb.block b (hA.lt h1 b hr), h2.trans (Beside.of_below (R := R) hb) fun b hb _ => hb, h3⟩
theorem took_for {D : Ce} {m : Ms} (hv : 0 ≤ D.ver) : tookC D m = (forC D m && laterB m.epoch m.ver D.epoch D.ver) := by
  unfold tookC forC newerC laterB
  cases rightM m
  · rfl
  · by_cases h1 : m.kind = 1 <;> by_cases h2 : m.cell = D.n <;> by_cases h3 : m.ver = 0 <;> by_cases h4 : m.boot = D.boot <;> simp [h1, h2, h3, h4] <;> try omega
theorem pset_turn {w W : World} {p : Nat} {v : Value} {D : Ce} {R : Nat → Prop} (hR : ∀ b, R b ↔ (b = p ∨ v.ownBlock = some b)) (h : CelAt cellsP 51 w p v D) (hb : Below w.heap.size w W) (e ver : Int) :
    Turn (CelK cellsP 51) w ((W.setCell ⟨p, 2, none⟩ (.int .i64 e)).setCell ⟨p, 3, none⟩ (.int .i64 ver)) p { D with epoch := e, ver := ver } R :=
  cel_nums (D' := { D with epoch := e, ver := ver }) (w' := W) (w2 := ((W.setCell ⟨p, 2, none⟩ (.int .i64 e)).setCell ⟨p, 3, none⟩ (.int .i64 ver))) tpc_ne hR h hb rfl (fun b hn => by rw [Below.heap_setCell _ _ _ b hn, Below.heap_setCell _ _ _ b hn]) (by simp [World.setCell]) ⟨rfl, rfl, rfl⟩ (set_two (h.below hb).blk _ _)
theorem pgrant_turn {w W w7 : World} {p : Nat} {v v' : Value} {D : Ce} {R : Nat → Prop} (hR : ∀ b, R b ↔ (b = p ∨ v.ownBlock = some b)) (h : CelAt cellsP 51 w p v D) (hb : Below w.heap.size w W) (e ver u : Int) (l : List Bd)
    (hg : Below ((W.setCell ⟨p, 2, none⟩ (.int .i64 e)).setCell ⟨p, 3, none⟩ (.int .i64 ver)).heap.size ((W.setCell ⟨p, 2, none⟩ (.int .i64 e)).setCell ⟨p, 3, none⟩ (.int .i64 ver)) w7) (hr : w7.ownsRow ((W.setCell ⟨p, 2, none⟩ (.int .i64 e)).setCell ⟨p, 3, none⟩ (.int .i64 ver)).heap.size 35 3 v' l.length (bdsV l)) :
    Turn (CelK cellsP 51) w ((w7.setCell ⟨p, 4, none⟩ (.int .i64 u)).setCell ⟨p, 5, none⟩ v') p { D with epoch := e, ver := ver, unt := u, l := l } R := by
  have hp2 := set_two (h.below hb).blk (.int .i64 e) (.int .i64 ver)
  have hs2 : ((W.setCell ⟨p, 2, none⟩ (.int .i64 e)).setCell ⟨p, 3, none⟩ (.int .i64 ver)).heap.size = W.heap.size := by simp [World.setCell]
  have hRp : R p := (hR p).2 (.inl rfl)
  have hp7 := (hg.block p (Array.getElem?_eq_some_iff.1 hp2).1).trans hp2
  have hne : v'.ownBlock ≠ some p := fun e => by
    have h1 := (hr.lt p e).1
    have h2 := (Array.getElem?_eq_some_iff.1 hp2).1
    omega
  have hsz := hb.size
  have hbs : Beside R w ((w7.setCell ⟨p, 4, none⟩ (.int .i64 u)).setCell ⟨p, 5, none⟩ v') :=
    (((((Beside.of_below hb).trans (Beside.set W _ hRp) fun b hb _ => hb).trans (Beside.set _ _ hRp) fun b hb _ => hb).trans (Beside.of_below (R := R) hg) fun b hb _ => hb).trans (Beside.set _ _ hRp) fun b hb _ => hb).trans (Beside.set _ _ hRp) fun b hb _ => hb
  refine cel_all' hR hbs (by simp [World.setCell, Array.getElem?_modify, hp7]) (own_low (row_moved hr fun b e => ?_) (by omega))
  have hn : b ≠ p := fun e' => hne (by rw [e, e'])
  rw [Below.heap_setCell _ _ _ b hn, Below.heap_setCell _ _ _ b hn]
/-- Binds of the caller's stay as the cell's numbers are written. -/
theorem binds_stay {w W w6 : World} {p : Nat} {R : Nat → Prop} {a : Option Addr} {n : Nat} {l : List Bd} (hRp : R p) (h : BindsAt w (fun b => b < w.heap.size ∧ ¬ R b) a n l) (hb : Below w.heap.size w W) (e ver : Int) (hg : Below ((W.setCell ⟨p, 2, none⟩ (.int .i64 e)).setCell ⟨p, 3, none⟩ (.int .i64 ver)).heap.size ((W.setCell ⟨p, 2, none⟩ (.int .i64 e)).setCell ⟨p, 3, none⟩ (.int .i64 ver)) w6) :
    BindsAt w6 (· < w6.heap.size) a n l := by
  have hs2 : ((W.setCell ⟨p, 2, none⟩ (.int .i64 e)).setCell ⟨p, 3, none⟩ (.int .i64 ver)).heap.size = W.heap.size := by simp [World.setCell]
  have hz := hb.size
  have hz2 := hg.size
  refine (h.keep (W' := w6) fun b hx => ?_).imp fun b hx => by have := hx.1; omega
  have hn : b ≠ p := fun e' => hx.2 (e' ▸ hRp)
  rw [hg.block b (by have := hx.1; omega), Below.heap_setCell _ _ _ b hn, Below.heap_setCell _ _ _ b hn, hb.block b hx.1]
set_option maxRecDepth 100000 in
set_option maxHeartbeats 8000000 in
theorem preceive_any (p : Nat) (D : Ce) (R : Nat → Prop) (k c b e v u : Int) (a : Option Addr) (n cap : Nat) (l : List Bd) (w : World) (h : PCell w p D R) (_ok : OkC D) (hm : OkM ⟨k, c, b, e, v, u, l⟩) (hb : BindsAt w (fun b => b < w.heap.size ∧ ¬ R b) a n l) :
    Calls Try.prog 11 #[.pointer (some ⟨p, 0, none⟩), msgV k c b e v u a n cap] w fun x w' => x = .returned (.bool (tookC D ⟨k, c, b, e, v, u, l⟩)) ∧ Turn PCell w w' p (recvC D ⟨k, c, b, e, v, u, l⟩) R := by
  have HK := Lib.hid h
  obtain ⟨hv0, rv, hR, hq⟩ := h
  have HR := Lib.hid hR
  have HQ := Lib.hid hq
  have HOM := Lib.hid hm
  have hn : n ≤ 1048576 := by rw [← hb.1]; exact hm.fit.1
  have HLN : Hid (l.length = n) := Lib.hid hb.1
  have hb0 : Below w.heap.size w ((w.alloc (msgO k c b e v u a n cap)).alloc (.cells #[.int .i64 e, .int .i64 v] 49)) := ((Below.refl _ w).alloc (Nat.le_refl _) _).alloc (by simp) _
  have hm0 : ((w.alloc (msgO k c b e v u a n cap)).alloc (.cells #[.int .i64 e, .int .i64 v] 49)).heap[w.heap.size]? = some (msgO k c b e v u a n cap) := by
    rw [← new_at w (msgO k c b e v u a n cap)]
    exact ((Below.refl _ (w.alloc (msgO k c b e v u a n cap))).alloc (Nat.le_refl _) _).block _ (by simp)
  have hx0 : ((w.alloc (msgO k c b e v u a n cap)).alloc (.cells #[.int .i64 e, .int .i64 v] 49)).heap[w.heap.size + 1]? = some (.cells #[.int .i64 e, .int .i64 v] 49) := by
    have := new_at (w.alloc (msgO k c b e v u a n cap)) (.cells #[.int .i64 e, .int .i64 v] 49)
    rwa [show (w.alloc (msgO k c b e v u a n cap)).heap.size = w.heap.size + 1 by simp] at this
  have hz0 : ((w.alloc (msgO k c b e v u a n cap)).alloc (.cells #[.int .i64 e, .int .i64 v] 49)).heap.size = w.heap.size + 2 := by simp
  have hpw := hq.lt.1
  obtain ⟨y, hy⟩ : ∃ y, forC D ⟨k, c, b, e, v, u, l⟩ = y := ⟨_, rfl⟩
  obtain ⟨z, hz⟩ : ∃ z, laterB e v D.epoch D.ver = z := ⟨_, rfl⟩
  have HT : Hid (tookC D ⟨k, c, b, e, v, u, l⟩ = (y && z)) := Lib.hid (by rw [took_for hv0, hy, ← hz])
  have HVV : Hid (tookC D ⟨k, c, b, e, v, u, l⟩ = true → 0 ≤ v) := Lib.hid fun h => (nums_bd (rightM_l (took_right h).1).1).2.1.1
  have HFR : Hid (∀ W, Below ((w.alloc (msgO k c b e v u a n cap)).alloc (.cells #[.int .i64 e, .int .i64 v] 49)).heap.size ((w.alloc (msgO k c b e v u a n cap)).alloc (.cells #[.int .i64 e, .int .i64 v] 49)) W → Calls Try.prog 21 #[.pointer (some ⟨p, 0, none⟩), msgV k c b e v u a n cap] W fun x w' => x = .returned (.bool y) ∧ Below ((w.alloc (msgO k c b e v u a n cap)).alloc (.cells #[.int .i64 e, .int .i64 v] 49)).heap.size ((w.alloc (msgO k c b e v u a n cap)).alloc (.cells #[.int .i64 e, .int .i64 v] 49)) w') := Lib.hid fun W hW => by
    have hbw := bt hb0 hW
    rw [← hy]
    exact (for_any p D R k c b e v u a n cap l W (pcell_law.keep HK.out hbw.size fun b hr => hbw.block b (pcell_law.lt HK.out b hr)) ((hb.keep fun _ h => hbw.block _ h.1).imp fun _ h => Nat.lt_of_lt_of_le h.1 hbw.size) hn).mono fun _ _ ⟨g1, g2⟩ => ⟨g1, bt hW g2⟩
  have HLT : Hid (∀ W, Below ((w.alloc (msgO k c b e v u a n cap)).alloc (.cells #[.int .i64 e, .int .i64 v] 49)).heap.size ((w.alloc (msgO k c b e v u a n cap)).alloc (.cells #[.int .i64 e, .int .i64 v] 49)) W → Calls Try.prog 22 #[.agg #[.int .i64 e, .int .i64 v], .agg #[.int .i64 D.epoch, .int .i64 D.ver]] W fun x w' => x = .returned (.bool z) ∧ Below ((w.alloc (msgO k c b e v u a n cap)).alloc (.cells #[.int .i64 e, .int .i64 v] 49)).heap.size ((w.alloc (msgO k c b e v u a n cap)).alloc (.cells #[.int .i64 e, .int .i64 v] 49)) w') := Lib.hid fun W hW => by
    rw [← hz]
    exact (later_any e v D.epoch D.ver W).mono fun _ _ ⟨g1, g2⟩ => ⟨g1, bt hW g2⟩
  have HB := Lib.hid hb
  have HBW : Hid (∀ W, Below ((w.alloc (msgO k c b e v u a n cap)).alloc (.cells #[.int .i64 e, .int .i64 v] 49)).heap.size ((w.alloc (msgO k c b e v u a n cap)).alloc (.cells #[.int .i64 e, .int .i64 v] 49)) W → Below w.heap.size w W) := Lib.hid fun W h => bt hb0 h
  have HAFT : Hid (∀ W, Below ((w.alloc (msgO k c b e v u a n cap)).alloc (.cells #[.int .i64 e, .int .i64 v] 49)).heap.size ((w.alloc (msgO k c b e v u a n cap)).alloc (.cells #[.int .i64 e, .int .i64 v] 49)) W → W.heap[w.heap.size]? = some (msgO k c b e v u a n cap) ∧ W.heap[w.heap.size + 1]? = some (.cells #[.int .i64 e, .int .i64 v] 49) ∧ W.heap[p]? = some (.cells (cellsP D rv) 51 (0, 0)) ∧ w.heap.size + 1 < W.heap.size) := Lib.hid fun W h => ⟨(h.block _ (by omega)).trans hm0, (h.block _ (by omega)).trans hx0, ((bt hb0 h).block p hpw).trans hq.blk, by have := h.size; omega⟩
  obtain ⟨xn, hxn⟩ : ∃ x, D.n = x := ⟨_, rfl⟩
  obtain ⟨xb, hxb⟩ : ∃ x, D.boot = x := ⟨_, rfl⟩
  obtain ⟨xe, hxe⟩ : ∃ x, D.epoch = x := ⟨_, rfl⟩
  obtain ⟨xv, hxv⟩ : ∃ x, D.ver = x := ⟨_, rfl⟩
  obtain ⟨xu, hxu⟩ : ∃ x, D.unt = x := ⟨_, rfl⟩
  have HCQ : Hid (cellsP D rv = #[.int .i64 xn, .int .i64 xb, .int .i64 xe, .int .i64 xv, .int .i64 xu, rv]) := Lib.hid (by rw [← hxn, ← hxb, ← hxe, ← hxv, ← hxu])
  rw [hxe, hxv] at HLT
  have hpn : p ≠ w.heap.size := by omega
  have hpn' : ¬ w.heap.size = p := by omega
  have hpx : p ≠ w.heap.size + 1 := by omega
  have hpx' : ¬ w.heap.size + 1 = p := by omega
  have HNE : Hid (p ≠ w.heap.size ∧ p ≠ w.heap.size + 1) := Lib.hid ⟨hpn, hpx⟩
  clear hR hq hn hb0 hm0 hx0 hz0 hpw hy hz hb hm hxn hxb hxe hxv hxu hpn hpn' hpx hpx' hv0
  rcases y with _ | _
  · have HF : Hid (tookC D ⟨k, c, b, e, v, u, l⟩ = false) := Lib.hid (by rw [HT.out]; rfl)
    go_enter Try.func11, Try.ntmps11
    go_upto_region 2 with fail
    refine region_mix (fun W => Below ((w.alloc (msgO k c b e v u a n cap)).alloc (.cells #[.int .i64 e, .int .i64 v] 49)).heap.size ((w.alloc (msgO k c b e v u a n cap)).alloc (.cells #[.int .i64 e, .int .i64 v] 49)) W) (10) (.reads [0, 1] (.only 2 (.reads [3, 4, 5, 6, 7, 8, 9] (.only 10 (.only 11 (.only 12 (.stop))))))) (by kernel_rfl) (by kernel_rfl) ((Below.refl _ _).drew) ?_
    repeat (
      refine plan_read rfl (fun K hK => ?_)
      first
        | (refine plan_neg ?_ ?_
           focus (first | (go_simp; done) | (go_simp; decide))
           go_simp
           refine hK _ ?_
           clear hK K)
        | (apply plan_pos
           focus (go_simp; done)
           focus (
             intro W hW
             (obtain ⟨h2, hx2, h3, hs3⟩ := HAFT.out _ (hW); rw [HCQ.out] at h3; obtain ⟨e0, e1, e2, e3, e4, e5, e6, ef, eg⟩ := msg_cells h2; obtain ⟨d0, d1, d2, d3, d4, d5, df, dg⟩ := six_cells h3; have a0 := cell_of_row _ _ 0 _ _ _ hx2; have a1 := cell_of_row _ _ 1 _ _ _ hx2; clear ef df)
             go_simp
             first
               | done
               | exact rfl)
           go_simp
           refine hK _ ?_
           clear hK K))
    refine plan_only rfl (fun Q hQ => ?_)
    go_wp2_with (go_at_call 21; (with_reducible refine (HFR.out _ (Below.refl _ _).drew).mono ?_); rintro x w1 ⟨rfl, hb1⟩; have HB1 := Lib.hid hb1; clear hb1)
    refine hQ _ _ (fun _ => HB1.out) ?_
    clear hQ Q
    repeat (
      refine plan_read rfl (fun K hK => ?_)
      first
        | (refine plan_neg ?_ ?_
           focus (first | (go_simp; done) | (go_simp; decide))
           go_simp
           refine hK _ ?_
           clear hK K)
        | (apply plan_pos
           focus (go_simp; done)
           focus (
             intro W hW
             (obtain ⟨h2, hx2, h3, hs3⟩ := HAFT.out _ (hW); rw [HCQ.out] at h3; obtain ⟨e0, e1, e2, e3, e4, e5, e6, ef, eg⟩ := msg_cells h2; obtain ⟨d0, d1, d2, d3, d4, d5, df, dg⟩ := six_cells h3; have a0 := cell_of_row _ _ 0 _ _ _ hx2; have a1 := cell_of_row _ _ 1 _ _ _ hx2; clear ef df)
             go_simp
             first
               | done
               | exact rfl)
           go_simp
           refine hK _ ?_
           clear hK K))
    refine plan_only rfl (fun Q hQ => ?_)
    go_wp2
    refine hQ _ _ (fun h => absurd h (by omega)) ?_
    clear hQ Q
    refine plan_only rfl (fun Q hQ => ?_)
    go_wp2
    refine hQ _ _ (fun h => absurd h (by omega)) ?_
    clear hQ Q
    refine plan_only rfl (fun Q hQ => ?_)
    go_wp2
    refine hQ _ _ (fun h => absurd h (by omega)) ?_
    clear hQ Q
    unfold Plan.wp
    go_wp2
    go_ret
    exact ⟨ret_bool HF.out.symm, by rw [recv_same HF.out]; exact psame HK.out (HBW.out _ HB1.out)⟩
  · rcases z with _ | _
    · have HF : Hid (tookC D ⟨k, c, b, e, v, u, l⟩ = false) := Lib.hid (by rw [HT.out]; rfl)
      go_enter Try.func11, Try.ntmps11
      go_upto_region 2 with fail
      refine region_mix (fun W => Below ((w.alloc (msgO k c b e v u a n cap)).alloc (.cells #[.int .i64 e, .int .i64 v] 49)).heap.size ((w.alloc (msgO k c b e v u a n cap)).alloc (.cells #[.int .i64 e, .int .i64 v] 49)) W) (10) (.reads [0, 1] (.only 2 (.reads [3, 4, 5, 6, 7, 8, 9] (.only 10 (.only 11 (.only 12 (.stop))))))) (by kernel_rfl) (by kernel_rfl) ((Below.refl _ _).drew) ?_
      repeat (
        refine plan_read rfl (fun K hK => ?_)
        first
          | (refine plan_neg ?_ ?_
             focus (first | (go_simp; done) | (go_simp; decide))
             go_simp
             refine hK _ ?_
             clear hK K)
          | (apply plan_pos
             focus (go_simp; done)
             focus (
               intro W hW
               (obtain ⟨h2, hx2, h3, hs3⟩ := HAFT.out _ (hW); rw [HCQ.out] at h3; obtain ⟨e0, e1, e2, e3, e4, e5, e6, ef, eg⟩ := msg_cells h2; obtain ⟨d0, d1, d2, d3, d4, d5, df, dg⟩ := six_cells h3; have a0 := cell_of_row _ _ 0 _ _ _ hx2; have a1 := cell_of_row _ _ 1 _ _ _ hx2; clear ef df)
               go_simp
               first
                 | done
                 | exact rfl)
             go_simp
             refine hK _ ?_
             clear hK K))
      refine plan_only rfl (fun Q hQ => ?_)
      go_wp2_with (go_at_call 21; (with_reducible refine (HFR.out _ (Below.refl _ _).drew).mono ?_); rintro x w1 ⟨rfl, hb1⟩; have HB1 := Lib.hid hb1; clear hb1)
      refine hQ _ _ (fun _ => HB1.out) ?_
      clear hQ Q
      repeat (
        refine plan_read rfl (fun K hK => ?_)
        first
          | (refine plan_neg ?_ ?_
             focus (first | (go_simp; done) | (go_simp; decide))
             go_simp
             refine hK _ ?_
             clear hK K)
          | (apply plan_pos
             focus (go_simp; done)
             focus (
               intro W hW
               (obtain ⟨h2, hx2, h3, hs3⟩ := HAFT.out _ (hW); rw [HCQ.out] at h3; obtain ⟨e0, e1, e2, e3, e4, e5, e6, ef, eg⟩ := msg_cells h2; obtain ⟨d0, d1, d2, d3, d4, d5, df, dg⟩ := six_cells h3; have a0 := cell_of_row _ _ 0 _ _ _ hx2; have a1 := cell_of_row _ _ 1 _ _ _ hx2; clear ef df)
               go_simp
               first
                 | done
                 | exact rfl)
             go_simp
             refine hK _ ?_
             clear hK K))
      refine plan_only rfl (fun Q hQ => ?_)
      go_wp2_with (go_at_call 22; (with_reducible refine (HLT.out _ HB1.out).mono ?_); rintro x w2 ⟨rfl, hb2⟩; have HB2 := Lib.hid hb2; clear hb2)
      refine hQ _ _ (fun h => absurd h (by omega)) ?_
      clear hQ Q
      refine plan_only rfl (fun Q hQ => ?_)
      go_wp2
      refine hQ _ _ (fun h => absurd h (by omega)) ?_
      clear hQ Q
      refine plan_only rfl (fun Q hQ => ?_)
      go_wp2
      refine hQ _ _ (fun h => absurd h (by omega)) ?_
      clear hQ Q
      unfold Plan.wp
      go_wp2
      go_ret
      exact ⟨ret_bool HF.out.symm, by rw [recv_same HF.out]; exact psame HK.out (HBW.out _ HB2.out)⟩
    · have HF : Hid (tookC D ⟨k, c, b, e, v, u, l⟩ = true) := Lib.hid (by rw [HT.out]; rfl)
      have HV := Lib.hid (HVV.out HF.out)
      by_cases hv : v = 0
      · have k1 : (v == 0) = true := by simpa using hv
        have HST : Hid (recvC D ⟨k, c, b, e, v, u, l⟩ = { D with epoch := e, ver := v }) := Lib.hid (by rw [recv_set HF.out]; unfold setC; dsimp only; rw [if_pos hv, hv])
        clear hv
        go_enter Try.func11, Try.ntmps11
        go_upto_region 2 with fail
        refine region_mix (fun W => Below ((w.alloc (msgO k c b e v u a n cap)).alloc (.cells #[.int .i64 e, .int .i64 v] 49)).heap.size ((w.alloc (msgO k c b e v u a n cap)).alloc (.cells #[.int .i64 e, .int .i64 v] 49)) W) (10) (.reads [0, 1] (.only 2 (.reads [3, 4, 5, 6, 7, 8, 9] (.only 10 (.only 11 (.only 12 (.stop))))))) (by kernel_rfl) (by kernel_rfl) ((Below.refl _ _).drew) ?_
        repeat (
          refine plan_read rfl (fun K hK => ?_)
          first
            | (refine plan_neg ?_ ?_
               focus (first | (go_simp; done) | (go_simp; decide))
               go_simp
               refine hK _ ?_
               clear hK K)
            | (apply plan_pos
               focus (go_simp; done)
               focus (
                 intro W hW
                 (obtain ⟨h2, hx2, h3, hs3⟩ := HAFT.out _ (hW); rw [HCQ.out] at h3; obtain ⟨e0, e1, e2, e3, e4, e5, e6, ef, eg⟩ := msg_cells h2; obtain ⟨d0, d1, d2, d3, d4, d5, df, dg⟩ := six_cells h3; have a0 := cell_of_row _ _ 0 _ _ _ hx2; have a1 := cell_of_row _ _ 1 _ _ _ hx2; clear ef df)
                 go_simp
                 first
                   | done
                   | exact rfl)
               go_simp
               refine hK _ ?_
               clear hK K))
        refine plan_only rfl (fun Q hQ => ?_)
        go_wp2_with (go_at_call 21; (with_reducible refine (HFR.out _ (Below.refl _ _).drew).mono ?_); rintro x w1 ⟨rfl, hb1⟩; have HB1 := Lib.hid hb1; clear hb1)
        refine hQ _ _ (fun _ => HB1.out) ?_
        clear hQ Q
        repeat (
          refine plan_read rfl (fun K hK => ?_)
          first
            | (refine plan_neg ?_ ?_
               focus (first | (go_simp; done) | (go_simp; decide))
               go_simp
               refine hK _ ?_
               clear hK K)
            | (apply plan_pos
               focus (go_simp; done)
               focus (
                 intro W hW
                 (obtain ⟨h2, hx2, h3, hs3⟩ := HAFT.out _ (hW); rw [HCQ.out] at h3; obtain ⟨e0, e1, e2, e3, e4, e5, e6, ef, eg⟩ := msg_cells h2; obtain ⟨d0, d1, d2, d3, d4, d5, df, dg⟩ := six_cells h3; have a0 := cell_of_row _ _ 0 _ _ _ hx2; have a1 := cell_of_row _ _ 1 _ _ _ hx2; clear ef df)
                 go_simp
                 first
                   | done
                   | exact rfl)
               go_simp
               refine hK _ ?_
               clear hK K))
        refine plan_only rfl (fun Q hQ => ?_)
        go_wp2_with (go_at_call 22; (with_reducible refine (HLT.out _ HB1.out).mono ?_); rintro x w2 ⟨rfl, hb2⟩; have HB2 := Lib.hid hb2; clear hb2)
        refine hQ _ _ (fun h => absurd h (by omega)) ?_
        clear hQ Q
        refine plan_only rfl (fun Q hQ => ?_)
        go_wp2
        refine hQ _ _ (fun h => absurd h (by omega)) ?_
        clear hQ Q
        refine plan_only rfl (fun Q hQ => ?_)
        go_wp2
        refine hQ _ _ (fun h => absurd h (by omega)) ?_
        clear hQ Q
        unfold Plan.wp
        have HS := Lib.hid (HBW.out _ HB2.out)
        obtain ⟨h2, hx2, h3, hs3⟩ := HAFT.out _ HB2.out
        rw [HCQ.out] at h3
        have hp5 := set_two h3 (.int .i64 e) (.int .i64 v)
        have hm5 : ((w2.setCell ⟨p, 2, none⟩ (.int .i64 e)).setCell ⟨p, 3, none⟩ (.int .i64 v)).heap[w.heap.size]? = some (msgO k c b e v u a n cap) := by
          rw [Below.heap_setCell _ _ _ _ (Ne.symm HNE.out.1), Below.heap_setCell _ _ _ _ (Ne.symm HNE.out.1)]; exact h2
        have HP5 := Lib.hid hp5
        have HM5 := Lib.hid hm5
        obtain ⟨d0, d1, d2, d3, d4, d5, df, dg⟩ := six_cells h3
        have df2 := df 2
        have df3 := df 3
        have a0 : w2.cell? ⟨w.heap.size + 1, 0, none⟩ = some (.int .i64 e) := cell_of_row _ _ 0 _ _ _ hx2
        have a1 : w2.cell? ⟨w.heap.size + 1, 1, none⟩ = some (.int .i64 v) := cell_of_row _ _ 1 _ _ _ hx2
        clear df h2 hx2 h3 hp5 hm5
        go_upto_region 5 with fail
        obtain ⟨W5, hW5⟩ : ∃ W, (w2.setCell ⟨p, 2, none⟩ (.int .i64 e)).setCell ⟨p, 3, none⟩ (.int .i64 v) = W := ⟨_, rfl⟩
        rw [hW5] at HP5 HM5 ⊢
        have HW5 := Lib.hid hW5
        clear hW5 d0 d1 d2 d3 d4 d5 dg df2 df3 a0 a1
        obtain ⟨e0, e1, e2, e3, e4, e5, e6, ef, eg⟩ := msg_cells HM5.out
        clear ef
        go_wp2_with (go_at_call 23; (with_reducible refine (greet_any k c b e v u a n cap _).mono ?_); rintro x w6 ⟨rfl, hb6⟩; have HB6 := Lib.hid hb6; clear hb6)
        go_ret
        have hw := HW5.out
        subst hw
        exact ⟨ret_bool HF.out.symm, by rw [HST.out]; exact pturn HV.out (turn_below (cel_law _ _) (pset_turn HR.out HQ.out HS.out e v) HB6.out)⟩
      · have k1 : (v == 0) = false := by simpa using hv
        have HST : Hid (recvC D ⟨k, c, b, e, v, u, l⟩ = { D with epoch := e, ver := v, unt := u, l := l }) := Lib.hid (by rw [recv_set HF.out]; unfold setC; dsimp only; rw [if_neg hv])
        clear hv
        go_enter Try.func11, Try.ntmps11
        go_upto_region 2 with fail
        refine region_mix (fun W => Below ((w.alloc (msgO k c b e v u a n cap)).alloc (.cells #[.int .i64 e, .int .i64 v] 49)).heap.size ((w.alloc (msgO k c b e v u a n cap)).alloc (.cells #[.int .i64 e, .int .i64 v] 49)) W) (10) (.reads [0, 1] (.only 2 (.reads [3, 4, 5, 6, 7, 8, 9] (.only 10 (.only 11 (.only 12 (.stop))))))) (by kernel_rfl) (by kernel_rfl) ((Below.refl _ _).drew) ?_
        repeat (
          refine plan_read rfl (fun K hK => ?_)
          first
            | (refine plan_neg ?_ ?_
               focus (first | (go_simp; done) | (go_simp; decide))
               go_simp
               refine hK _ ?_
               clear hK K)
            | (apply plan_pos
               focus (go_simp; done)
               focus (
                 intro W hW
                 (obtain ⟨h2, hx2, h3, hs3⟩ := HAFT.out _ (hW); rw [HCQ.out] at h3; obtain ⟨e0, e1, e2, e3, e4, e5, e6, ef, eg⟩ := msg_cells h2; obtain ⟨d0, d1, d2, d3, d4, d5, df, dg⟩ := six_cells h3; have a0 := cell_of_row _ _ 0 _ _ _ hx2; have a1 := cell_of_row _ _ 1 _ _ _ hx2; clear ef df)
                 go_simp
                 first
                   | done
                   | exact rfl)
               go_simp
               refine hK _ ?_
               clear hK K))
        refine plan_only rfl (fun Q hQ => ?_)
        go_wp2_with (go_at_call 21; (with_reducible refine (HFR.out _ (Below.refl _ _).drew).mono ?_); rintro x w1 ⟨rfl, hb1⟩; have HB1 := Lib.hid hb1; clear hb1)
        refine hQ _ _ (fun _ => HB1.out) ?_
        clear hQ Q
        repeat (
          refine plan_read rfl (fun K hK => ?_)
          first
            | (refine plan_neg ?_ ?_
               focus (first | (go_simp; done) | (go_simp; decide))
               go_simp
               refine hK _ ?_
               clear hK K)
            | (apply plan_pos
               focus (go_simp; done)
               focus (
                 intro W hW
                 (obtain ⟨h2, hx2, h3, hs3⟩ := HAFT.out _ (hW); rw [HCQ.out] at h3; obtain ⟨e0, e1, e2, e3, e4, e5, e6, ef, eg⟩ := msg_cells h2; obtain ⟨d0, d1, d2, d3, d4, d5, df, dg⟩ := six_cells h3; have a0 := cell_of_row _ _ 0 _ _ _ hx2; have a1 := cell_of_row _ _ 1 _ _ _ hx2; clear ef df)
                 go_simp
                 first
                   | done
                   | exact rfl)
               go_simp
               refine hK _ ?_
               clear hK K))
        refine plan_only rfl (fun Q hQ => ?_)
        go_wp2_with (go_at_call 22; (with_reducible refine (HLT.out _ HB1.out).mono ?_); rintro x w2 ⟨rfl, hb2⟩; have HB2 := Lib.hid hb2; clear hb2)
        refine hQ _ _ (fun h => absurd h (by omega)) ?_
        clear hQ Q
        refine plan_only rfl (fun Q hQ => ?_)
        go_wp2
        refine hQ _ _ (fun h => absurd h (by omega)) ?_
        clear hQ Q
        refine plan_only rfl (fun Q hQ => ?_)
        go_wp2
        refine hQ _ _ (fun h => absurd h (by omega)) ?_
        clear hQ Q
        unfold Plan.wp
        have HS := Lib.hid (HBW.out _ HB2.out)
        obtain ⟨h2, hx2, h3, hs3⟩ := HAFT.out _ HB2.out
        rw [HCQ.out] at h3
        have hp5 := set_two h3 (.int .i64 e) (.int .i64 v)
        have hm5 : ((w2.setCell ⟨p, 2, none⟩ (.int .i64 e)).setCell ⟨p, 3, none⟩ (.int .i64 v)).heap[w.heap.size]? = some (msgO k c b e v u a n cap) := by
          rw [Below.heap_setCell _ _ _ _ (Ne.symm HNE.out.1), Below.heap_setCell _ _ _ _ (Ne.symm HNE.out.1)]; exact h2
        have HP5 := Lib.hid hp5
        have HM5 := Lib.hid hm5
        obtain ⟨d0, d1, d2, d3, d4, d5, df, dg⟩ := six_cells h3
        have df2 := df 2
        have df3 := df 3
        have a0 : w2.cell? ⟨w.heap.size + 1, 0, none⟩ = some (.int .i64 e) := cell_of_row _ _ 0 _ _ _ hx2
        have a1 : w2.cell? ⟨w.heap.size + 1, 1, none⟩ = some (.int .i64 v) := cell_of_row _ _ 1 _ _ _ hx2
        clear df h2 hx2 h3 hp5 hm5
        go_upto_region 5 with fail
        obtain ⟨W5, hW5⟩ : ∃ W, (w2.setCell ⟨p, 2, none⟩ (.int .i64 e)).setCell ⟨p, 3, none⟩ (.int .i64 v) = W := ⟨_, rfl⟩
        rw [hW5] at HP5 HM5 ⊢
        have HW5 := Lib.hid hW5
        clear hW5 d0 d1 d2 d3 d4 d5 dg df2 df3 a0 a1
        obtain ⟨e0, e1, e2, e3, e4, e5, e6, ef, eg⟩ := msg_cells HM5.out
        clear ef
        go_upto_region 6 with (go_at_call 23; (with_reducible refine (greet_any k c b e v u a n cap _).mono ?_); rintro x w6 ⟨rfl, hb6⟩; have HB6 := Lib.hid hb6; clear hb6)
        have HG6 : Hid (Below W5.heap.size W5 w6.drew) := Lib.hid HB6.out.drew
        have HM6 : Hid (w6.drew.heap[w.heap.size]? = some (msgO k c b e v u a n cap)) := Lib.hid ((HG6.out.block _ eg).trans HM5.out)
        have HCP : Hid (Calls Try.prog 24 #[.slice a n cap] w6.drew fun e' w' => ∃ a' cap', e' = .returned (.slice a' n cap') ∧ w'.ownsRow w6.drew.heap.size 35 3 (.slice a' n cap') n (bdsV l) ∧ Below w6.drew.heap.size w6.drew w') := Lib.hid (by
          have hw := HW5.out
          have hg := HG6.out
          rw [← hw] at hg
          exact copyOf_any a n cap l w6.drew (binds_stay ((HR.out p).2 (.inl rfl)) HB.out HS.out e v hg) HOM.out.fit)
        clear e0 e1 e2 e3 e4 e5 e6
        refine region_mix (fun W => W.heap[w.heap.size]? = some (msgO k c b e v u a n cap)) (10) (.reads [0, 1, 2, 3, 4, 5] (.only 6 (.reads [7, 8] (.only 9 (.only 10 (.only 11 (.only 12 (.stop)))))))) (by kernel_rfl) (by kernel_rfl) (HM6.out) ?_
        repeat (
          refine plan_read rfl (fun K hK => ?_)
          first
            | (refine plan_neg ?_ ?_
               focus (first | (go_simp; done) | (go_simp; decide))
               go_simp
               refine hK _ ?_
               clear hK K)
            | (apply plan_pos
               focus (go_simp; done)
               focus (
                 intro W hW
                 (obtain ⟨q0, q1, q2, q3, q4, q5, q6, qf, qg⟩ := msg_cells hW; clear qf)
                 go_simp
                 first
                   | done
                   | exact rfl)
               go_simp
               refine hK _ ?_
               clear hK K))
        refine plan_only rfl (fun Q hQ => ?_)
        go_wp2_with (go_at_call 24; (with_reducible refine HCP.out.mono ?_); rintro x w7 ⟨a2, cap2, rfl, hr7, hb7⟩; have HR7 := Lib.hid hr7; have HB7 := Lib.hid hb7; clear hr7 hb7)
        have HG7 : Hid (Below W5.heap.size W5 w7) := Lib.hid (bt HG6.out HB7.out)
        have HM7 : Hid (w7.heap[w.heap.size]? = some (msgO k c b e v u a n cap)) := Lib.hid ((HG7.out.block _ eg).trans HM5.out)
        have HP7 := Lib.hid ((HG7.out.block p (Array.getElem?_eq_some_iff.1 HP5.out).1).trans HP5.out)
        refine hQ _ _ (fun _ => HM7.out) ?_
        clear hQ Q
        obtain ⟨y0, y1, y2, y3, y4, y5, yf, yg⟩ := six_cells HP7.out
        have yf4 := yf 4
        clear yf y0 y1 y2 y3
        repeat (
          refine plan_read rfl (fun K hK => ?_)
          first
            | (refine plan_neg ?_ ?_
               focus (first | (go_simp; done) | (go_simp; decide))
               go_simp
               refine hK _ ?_
               clear hK K)
            | (apply plan_pos
               focus (go_simp; done)
               focus (
                 intro W hW
                 (skip)
                 go_simp
                 first
                   | done
                   | exact rfl)
               go_simp
               refine hK _ ?_
               clear hK K))
        refine plan_only rfl (fun Q hQ => ?_)
        go_wp2
        have hp8 : (w7.setCell ⟨p, 4, none⟩ (.int .i64 u)).heap[p]? = some (.cells #[.int .i64 xn, .int .i64 xb, .int .i64 e, .int .i64 v, .int .i64 u, rv] 51 (0, 0)) := by simp [World.setCell, Array.getElem?_modify, HP7.out]
        have HM8 : Hid ((w7.setCell ⟨p, 4, none⟩ (.int .i64 u)).heap[w.heap.size]? = some (msgO k c b e v u a n cap)) := Lib.hid (by rw [Below.heap_setCell _ _ _ _ (Ne.symm HNE.out.1)]; exact HM7.out)
        refine hQ _ _ (fun _ => HM8.out) ?_
        clear hQ Q y4 y5 yf4 yg
        obtain ⟨y0, y1, y2, y3, y4, y5, yf, yg⟩ := six_cells hp8
        have yf5 := yf 5
        clear yf y0 y1 y2 y3 hp8
        refine plan_only rfl (fun Q hQ => ?_)
        go_wp2
        refine hQ _ _ (fun h => absurd h (by omega)) ?_
        clear hQ Q
        refine plan_only rfl (fun Q hQ => ?_)
        go_wp2
        refine hQ _ _ (fun h => absurd h (by omega)) ?_
        clear hQ Q
        refine plan_only rfl (fun Q hQ => ?_)
        go_wp2
        refine hQ _ _ (fun h => absurd h (by omega)) ?_
        clear hQ Q
        unfold Plan.wp
        go_wp2
        go_ret
        have hw := HW5.out
        subst hw
        exact ⟨ret_bool HF.out.symm, by rw [HST.out]; exact pturn HV.out (pgrant_turn HR.out HQ.out HS.out e v u l HG7.out (by rw [HLN.out]; exact own_low HR7.out HG6.out.size))⟩
end Go.Proofs.Ytbbogkmibiealaa
