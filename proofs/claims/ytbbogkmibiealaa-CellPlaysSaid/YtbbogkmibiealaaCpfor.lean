/-
  The program's isLater, isGreeting, isFor.
-/
import Derived.Test.YtbbogkmibiealaaCpright2
import Derived.Test.YtbbogkmibiealaaCplater
import Derived.Test.YtbbogkmibiealaaCpcl
namespace Go.Proofs.Ytbbogkmibiealaa
open Go.RowKit Gm

theorem later_any (e v x y : Int) (w : World) : Calls Try.prog 22 #[.agg #[.int .i64 e, .int .i64 v], .agg #[.int .i64 x, .int .i64 y]] w fun r w' => r = .returned (.bool (laterB e v x y)) ∧ Below w.heap.size w w' := by
  have h0 := new_at w (.cells #[.int .i64 e, .int .i64 v] 49)
  have h1 := new_at (w.alloc (.cells #[.int .i64 e, .int .i64 v] 49)) (.cells #[.int .i64 x, .int .i64 y] 49)
  have hb0 : Below w.heap.size w (w.alloc (.cells #[.int .i64 e, .int .i64 v] 49)) := (Below.refl _ w).alloc (Nat.le_refl _) _
  have hb1 : Below w.heap.size w ((w.alloc (.cells #[.int .i64 e, .int .i64 v] 49)).alloc (.cells #[.int .i64 x, .int .i64 y] 49)) := hb0.alloc (by simp) _
  have h0' : ((w.alloc (.cells #[.int .i64 e, .int .i64 v] 49)).alloc (.cells #[.int .i64 x, .int .i64 y] 49)).heap[w.heap.size]? = some (.cells #[.int .i64 e, .int .i64 v] 49) := by
    rw [← h0]
    exact ((Below.refl _ (w.alloc (.cells #[.int .i64 e, .int .i64 v] 49))).alloc (Nat.le_refl _) _).block _ (by simp)
  have hs : (w.alloc (.cells #[.int .i64 e, .int .i64 v] 49)).heap.size = w.heap.size + 1 := by simp
  rw [hs] at h1
  have HC := Lib.hid (compare2_any w.heap.size (w.heap.size + 1) e v x y ((w.alloc (.cells #[.int .i64 e, .int .i64 v] 49)).alloc (.cells #[.int .i64 x, .int .i64 y] 49)).drew h0' h1)
  obtain ⟨q, hq⟩ : ∃ q, cmp2 e v x y = q := ⟨_, rfl⟩
  have HE : Hid (decide (0 < q) = laterB e v x y) := Lib.hid (by rw [← hq]; exact cmp2_later e v x y)
  obtain ⟨z, hz⟩ : ∃ z, decide (0 < q) = z := ⟨_, rfl⟩
  rw [hz] at HE
  rw [hq] at HC
  rw [← HE.out]
  have HB := Lib.hid hb1.drew
  clear h0 h1 hb0 hb1 h0' hs hq
  go_enter Try.func22, Try.ntmps22
  go_upto_region 1 with fail
  refine region_mix (fun _ => True) (2) (.reads [0, 1] (.only 2 (.only 3 (.only 4 (.stop))))) (by kernel_rfl) (by kernel_rfl) (trivial) ?_
  repeat (
    refine plan_read rfl (fun K hK => ?_)
    first
      | (refine plan_neg ?_ ?_
         focus (first | (go_simp; done) | (go_simp; decide))
         go_simp
         refine hK _ ?_
         clear hK K)
      | (apply plan_pos
         focus (go_simp; done)
         focus (
           intro W hW
           (skip)
           go_simp
           first
             | done
             | exact rfl)
         go_simp
         refine hK _ ?_
         clear hK K))
  refine plan_only rfl (fun Q hQ => ?_)
  go_wp2_with (go_at_call 30; (with_reducible refine HC.out.mono ?_); rintro r w1 ⟨rfl, rfl⟩)
  refine hQ _ _ (fun h => absurd h (by omega)) ?_
  clear hQ Q
  refine plan_only rfl (fun Q hQ => ?_)
  go_wp2
  refine hQ _ _ (fun h => absurd h (by omega)) ?_
  clear hQ Q
  refine plan_only rfl (fun Q hQ => ?_)
  go_wp2
  refine hQ _ _ (fun h => absurd h (by omega)) ?_
  clear hQ Q
  unfold Plan.wp
  go_wp2
  go_ret
  exact ⟨by first | rfl | rw [← hz], HB.out⟩
theorem greet_any (k c b e v u : Int) (a : Option Addr) (n cap : Nat) (w : World) : Calls Try.prog 23 #[msgV k c b e v u a n cap] w fun r w' => r = .returned (.bool (v == 0)) ∧ Below w.heap.size w w' := by
  have hnew := new_at w (msgO k c b e v u a n cap)
  obtain ⟨c0, c1, c2, c3, c4, c5, c6, _, hg⟩ := msg_cells hnew
  have HB0 : Hid (Below w.heap.size w (w.alloc (msgO k c b e v u a n cap))) := Lib.hid ((Below.refl _ w).alloc (Nat.le_refl _) _)
  clear hnew c0 c1 c2 c3 c5 c6
  go_enter Try.func23, Try.ntmps23
  go_wp2
  go_ret
  exact ⟨rfl, HB0.out⟩
/-- Is a message for the cell? -/
def forC (D : Ce) (m : Ms) : Bool := rightM m && decide (m.kind = 1) && decide (m.cell = D.n) && (decide (m.ver = 0) || decide (m.boot = D.boot))
set_option maxRecDepth 100000 in
set_option maxHeartbeats 4000000 in
theorem for_any (p : Nat) (D : Ce) (R : Nat → Prop) (k c b e v u : Int) (a : Option Addr) (n cap : Nat) (l : List Bd) (w : World) (h : PCell w p D R) (hb : BindsAt w (· < w.heap.size) a n l) (hn : n ≤ 1048576) :
    Calls Try.prog 21 #[.pointer (some ⟨p, 0, none⟩), msgV k c b e v u a n cap] w fun x w' => x = .returned (.bool (forC D ⟨k, c, b, e, v, u, l⟩)) ∧ Below w.heap.size w w' := by
  obtain ⟨_, rv, hR, hq⟩ := h
  have hb0 : Below w.heap.size w (w.alloc (msgO k c b e v u a n cap)) := (Below.refl _ w).alloc (Nat.le_refl _) _
  have hnew := new_at w (msgO k c b e v u a n cap)
  have hpw := hq.lt.1
  obtain ⟨y, hy⟩ : ∃ y, rightM ⟨k, c, b, e, v, u, l⟩ = y := ⟨_, rfl⟩
  have HRT : Hid (∀ W, Below (w.alloc (msgO k c b e v u a n cap)).heap.size (w.alloc (msgO k c b e v u a n cap)) W → Calls Try.prog 29 #[msgV k c b e v u a n cap] W fun x w' => x = .returned (.bool y) ∧ Below (w.alloc (msgO k c b e v u a n cap)).heap.size (w.alloc (msgO k c b e v u a n cap)) w') := Lib.hid fun W hW => by
    rw [← hy]; exact (right_any k c b e v u a n cap l _ ((hb.keep fun _ h => (bt hb0 hW).block _ h).imp fun _ h => Nat.lt_of_lt_of_le h (bt hb0 hW).size) hn).mono fun _ _ ⟨g1, g2⟩ => ⟨g1, bt hW g2⟩
  have HGR : Hid (∀ W, Below (w.alloc (msgO k c b e v u a n cap)).heap.size (w.alloc (msgO k c b e v u a n cap)) W → Calls Try.prog 23 #[msgV k c b e v u a n cap] W fun x w' => x = .returned (.bool (v == 0)) ∧ Below (w.alloc (msgO k c b e v u a n cap)).heap.size (w.alloc (msgO k c b e v u a n cap)) w') := Lib.hid fun W hW =>
    (greet_any k c b e v u a n cap W).mono fun _ _ ⟨g1, g2⟩ => ⟨g1, bt hW g2⟩
  have HBW : Hid (∀ W, Below (w.alloc (msgO k c b e v u a n cap)).heap.size (w.alloc (msgO k c b e v u a n cap)) W → Below w.heap.size w W) := Lib.hid fun W h => bt hb0 h
  have HAFT : Hid (∀ W, Below (w.alloc (msgO k c b e v u a n cap)).heap.size (w.alloc (msgO k c b e v u a n cap)) W → W.heap[w.heap.size]? = some (msgO k c b e v u a n cap) ∧ W.heap[p]? = some (.cells (cellsP D rv) 51 (0, 0))) := Lib.hid fun W h => ⟨(h.block _ (by simp)).trans hnew, ((bt hb0 h).block p hpw).trans hq.blk⟩
  obtain ⟨xn, hxn⟩ : ∃ x, D.n = x := ⟨_, rfl⟩
  obtain ⟨xb, hxb⟩ : ∃ x, D.boot = x := ⟨_, rfl⟩
  have HCQ : Hid (cellsP D rv = #[.int .i64 xn, .int .i64 xb, .int .i64 D.epoch, .int .i64 D.ver, .int .i64 D.unt, rv]) := Lib.hid (by rw [← hxn, ← hxb])
  have HFOR : Hid (forC D ⟨k, c, b, e, v, u, l⟩ = (y && decide (k = 1) && decide (c = xn) && (decide (v = 0) || decide (b = xb)))) := Lib.hid (by unfold forC; dsimp only; rw [hy, hxn, hxb])
  rw [HFOR.out]
  obtain ⟨xe, hxe⟩ : ∃ x, D.epoch = x := ⟨_, rfl⟩
  obtain ⟨xv, hxv⟩ : ∃ x, D.ver = x := ⟨_, rfl⟩
  obtain ⟨xu, hxu⟩ : ∃ x, D.unt = x := ⟨_, rfl⟩
  rw [hxe, hxv, hxu] at HCQ
  clear hR hq hn hb0 hnew hpw hy hb hxn hxb HFOR hxe hxv hxu
  rcases y with _ | _
  · have HE : Hid ((false && decide (k = 1) && decide (c = xn) && (decide (v = 0) || decide (b = xb))) = false) := Lib.hid (by simp)
    rw [HE.out]
    go_enter Try.func21, Try.ntmps21
    go_upto_region 1 with fail
    refine region_mix (fun W => Below (w.alloc (msgO k c b e v u a n cap)).heap.size (w.alloc (msgO k c b e v u a n cap)) W) (26) (.reads [0] (.only 1 (.reads [2, 3, 4, 5, 6, 7, 8, 9, 10, 11, 12, 13, 14, 15, 16, 17] (.only 18 (.reads [19, 20, 21, 22, 23, 24, 25] (.only 26 (.only 27 (.only 28 (.only 29 (.stop)))))))))) (by kernel_rfl) (by kernel_rfl) ((Below.refl _ _).drew) ?_
    repeat (
      refine plan_read rfl (fun K hK => ?_)
      first
        | (refine plan_neg ?_ ?_
           focus (first | (go_simp; done) | (go_simp; decide))
           go_simp
           refine hK _ ?_
           clear hK K)
        | (apply plan_pos
           focus (go_simp; done)
           focus (
             intro W hW
             (obtain ⟨h2, h3⟩ := HAFT.out _ (hW); rw [HCQ.out] at h3; obtain ⟨e0, e1, e2, e3, e4, e5, e6, ef, eg⟩ := msg_cells h2; obtain ⟨d0, d1, d2, d3, d4, d5, df, dg⟩ := six_cells h3; clear ef df)
             go_simp
             first
               | done
               | exact rfl)
           go_simp
           refine hK _ ?_
           clear hK K))
    refine plan_only rfl (fun Q hQ => ?_)
    go_wp2_with (go_at_call 29; (with_reducible refine (HRT.out _ (Below.refl _ _).drew).mono ?_); rintro x w1 ⟨rfl, hb1⟩; have HB1 := Lib.hid hb1; clear hb1)
    refine hQ _ _ (fun _ => HB1.out) ?_
    clear hQ Q
    repeat (
      refine plan_read rfl (fun K hK => ?_)
      first
        | (refine plan_neg ?_ ?_
           focus (first | (go_simp; done) | (go_simp; decide))
           go_simp
           refine hK _ ?_
           clear hK K)
        | (apply plan_pos
           focus (go_simp; done)
           focus (
             intro W hW
             (obtain ⟨h2, h3⟩ := HAFT.out _ (hW); rw [HCQ.out] at h3; obtain ⟨e0, e1, e2, e3, e4, e5, e6, ef, eg⟩ := msg_cells h2; obtain ⟨d0, d1, d2, d3, d4, d5, df, dg⟩ := six_cells h3; clear ef df)
             go_simp
             first
               | done
               | exact rfl)
           go_simp
           refine hK _ ?_
           clear hK K))
    refine plan_only rfl (fun Q hQ => ?_)
    go_wp2
    refine hQ _ _ (fun _ => HB1.out) ?_
    clear hQ Q
    repeat (
      refine plan_read rfl (fun K hK => ?_)
      first
        | (refine plan_neg ?_ ?_
           focus (first | (go_simp; done) | (go_simp; decide))
           go_simp
           refine hK _ ?_
           clear hK K)
        | (apply plan_pos
           focus (go_simp; done)
           focus (
             intro W hW
             (obtain ⟨h2, h3⟩ := HAFT.out _ (hW); rw [HCQ.out] at h3; obtain ⟨e0, e1, e2, e3, e4, e5, e6, ef, eg⟩ := msg_cells h2; obtain ⟨d0, d1, d2, d3, d4, d5, df, dg⟩ := six_cells h3; clear ef df)
             go_simp
             first
               | done
               | exact rfl)
           go_simp
           refine hK _ ?_
           clear hK K))
    refine plan_only rfl (fun Q hQ => ?_)
    go_wp2
    refine hQ _ _ (fun h => absurd h (by omega)) ?_
    clear hQ Q
    refine plan_only rfl (fun Q hQ => ?_)
    go_wp2
    refine hQ _ _ (fun h => absurd h (by omega)) ?_
    clear hQ Q
    refine plan_only rfl (fun Q hQ => ?_)
    go_wp2
    refine hQ _ _ (fun h => absurd h (by omega)) ?_
    clear hQ Q
    refine plan_only rfl (fun Q hQ => ?_)
    go_wp2
    refine hQ _ _ (fun h => absurd h (by omega)) ?_
    clear hQ Q
    unfold Plan.wp
    go_wp2
    go_ret
    exact ⟨ret_bool (by first | rfl | exact HE.out.symm), HBW.out _ HB1.out⟩
  · by_cases hk : k = 1
    · have k1 : (k == 1) = true := by simpa using hk
      by_cases hc : c = xn
      · have k2 : (c == xn) = true := by simpa using hc
        by_cases hv : v = 0
        · have k3 : (v == 0) = true := by simpa using hv
          have HE : Hid ((true && decide (k = 1) && decide (c = xn) && (decide (v = 0) || decide (b = xb))) = true) := Lib.hid (by simp [hk, hc, hv])
          rw [HE.out]
          clear hk hc hv
          go_enter Try.func21, Try.ntmps21
          go_upto_region 1 with fail
          refine region_mix (fun W => Below (w.alloc (msgO k c b e v u a n cap)).heap.size (w.alloc (msgO k c b e v u a n cap)) W) (26) (.reads [0] (.only 1 (.reads [2, 3, 4, 5, 6, 7, 8, 9, 10, 11, 12, 13, 14, 15, 16, 17] (.only 18 (.reads [19, 20, 21, 22, 23, 24, 25] (.only 26 (.only 27 (.only 28 (.only 29 (.stop)))))))))) (by kernel_rfl) (by kernel_rfl) ((Below.refl _ _).drew) ?_
          repeat (
            refine plan_read rfl (fun K hK => ?_)
            first
              | (refine plan_neg ?_ ?_
                 focus (first | (go_simp; done) | (go_simp; decide))
                 go_simp
                 refine hK _ ?_
                 clear hK K)
              | (apply plan_pos
                 focus (go_simp; done)
                 focus (
                   intro W hW
                   (obtain ⟨h2, h3⟩ := HAFT.out _ (hW); rw [HCQ.out] at h3; obtain ⟨e0, e1, e2, e3, e4, e5, e6, ef, eg⟩ := msg_cells h2; obtain ⟨d0, d1, d2, d3, d4, d5, df, dg⟩ := six_cells h3; clear ef df)
                   go_simp
                   first
                     | done
                     | exact rfl)
                 go_simp
                 refine hK _ ?_
                 clear hK K))
          refine plan_only rfl (fun Q hQ => ?_)
          go_wp2_with (go_at_call 29; (with_reducible refine (HRT.out _ (Below.refl _ _).drew).mono ?_); rintro x w1 ⟨rfl, hb1⟩; have HB1 := Lib.hid hb1; clear hb1)
          refine hQ _ _ (fun _ => HB1.out) ?_
          clear hQ Q
          repeat (
            refine plan_read rfl (fun K hK => ?_)
            first
              | (refine plan_neg ?_ ?_
                 focus (first | (go_simp; done) | (go_simp; decide))
                 go_simp
                 refine hK _ ?_
                 clear hK K)
              | (apply plan_pos
                 focus (go_simp; done)
                 focus (
                   intro W hW
                   (obtain ⟨h2, h3⟩ := HAFT.out _ (hW); rw [HCQ.out] at h3; obtain ⟨e0, e1, e2, e3, e4, e5, e6, ef, eg⟩ := msg_cells h2; obtain ⟨d0, d1, d2, d3, d4, d5, df, dg⟩ := six_cells h3; clear ef df)
                   go_simp
                   first
                     | done
                     | exact rfl)
                 go_simp
                 refine hK _ ?_
                 clear hK K))
          refine plan_only rfl (fun Q hQ => ?_)
          go_wp2_with (go_at_call 23; (with_reducible refine (HGR.out _ HB1.out).mono ?_); rintro x w2 ⟨rfl, hb2⟩; have HB2 := Lib.hid hb2; clear hb2)
          refine hQ _ _ (fun _ => HB2.out) ?_
          clear hQ Q
          repeat (
            refine plan_read rfl (fun K hK => ?_)
            first
              | (refine plan_neg ?_ ?_
                 focus (first | (go_simp; done) | (go_simp; decide))
                 go_simp
                 refine hK _ ?_
                 clear hK K)
              | (apply plan_pos
                 focus (go_simp; done)
                 focus (
                   intro W hW
                   (obtain ⟨h2, h3⟩ := HAFT.out _ (hW); rw [HCQ.out] at h3; obtain ⟨e0, e1, e2, e3, e4, e5, e6, ef, eg⟩ := msg_cells h2; obtain ⟨d0, d1, d2, d3, d4, d5, df, dg⟩ := six_cells h3; clear ef df)
                   go_simp
                   first
                     | done
                     | exact rfl)
                 go_simp
                 refine hK _ ?_
                 clear hK K))
          refine plan_only rfl (fun Q hQ => ?_)
          go_wp2
          refine hQ _ _ (fun h => absurd h (by omega)) ?_
          clear hQ Q
          refine plan_only rfl (fun Q hQ => ?_)
          go_wp2
          refine hQ _ _ (fun h => absurd h (by omega)) ?_
          clear hQ Q
          refine plan_only rfl (fun Q hQ => ?_)
          go_wp2
          refine hQ _ _ (fun h => absurd h (by omega)) ?_
          clear hQ Q
          refine plan_only rfl (fun Q hQ => ?_)
          go_wp2
          refine hQ _ _ (fun h => absurd h (by omega)) ?_
          clear hQ Q
          unfold Plan.wp
          go_wp2
          go_ret
          exact ⟨ret_bool (by first | rfl | exact HE.out.symm), HBW.out _ HB2.out⟩
        · have k3 : (v == 0) = false := by simpa using hv
          obtain ⟨z, hz⟩ : ∃ z, (b == xb) = z := ⟨_, rfl⟩
          have HE : Hid ((true && decide (k = 1) && decide (c = xn) && (decide (v = 0) || decide (b = xb))) = z) := Lib.hid (by rw [← hz]; simp [hk, hc, hv]; rfl)
          rw [HE.out]
          clear hk hc hv
          go_enter Try.func21, Try.ntmps21
          go_upto_region 1 with fail
          refine region_mix (fun W => Below (w.alloc (msgO k c b e v u a n cap)).heap.size (w.alloc (msgO k c b e v u a n cap)) W) (26) (.reads [0] (.only 1 (.reads [2, 3, 4, 5, 6, 7, 8, 9, 10, 11, 12, 13, 14, 15, 16, 17] (.only 18 (.reads [19, 20, 21, 22, 23, 24, 25] (.only 26 (.only 27 (.only 28 (.only 29 (.stop)))))))))) (by kernel_rfl) (by kernel_rfl) ((Below.refl _ _).drew) ?_
          repeat (
            refine plan_read rfl (fun K hK => ?_)
            first
              | (refine plan_neg ?_ ?_
                 focus (first | (go_simp; done) | (go_simp; decide))
                 go_simp
                 refine hK _ ?_
                 clear hK K)
              | (apply plan_pos
                 focus (go_simp; done)
                 focus (
                   intro W hW
                   (obtain ⟨h2, h3⟩ := HAFT.out _ (hW); rw [HCQ.out] at h3; obtain ⟨e0, e1, e2, e3, e4, e5, e6, ef, eg⟩ := msg_cells h2; obtain ⟨d0, d1, d2, d3, d4, d5, df, dg⟩ := six_cells h3; clear ef df)
                   go_simp
                   first
                     | done
                     | exact rfl)
                 go_simp
                 refine hK _ ?_
                 clear hK K))
          refine plan_only rfl (fun Q hQ => ?_)
          go_wp2_with (go_at_call 29; (with_reducible refine (HRT.out _ (Below.refl _ _).drew).mono ?_); rintro x w1 ⟨rfl, hb1⟩; have HB1 := Lib.hid hb1; clear hb1)
          refine hQ _ _ (fun _ => HB1.out) ?_
          clear hQ Q
          repeat (
            refine plan_read rfl (fun K hK => ?_)
            first
              | (refine plan_neg ?_ ?_
                 focus (first | (go_simp; done) | (go_simp; decide))
                 go_simp
                 refine hK _ ?_
                 clear hK K)
              | (apply plan_pos
                 focus (go_simp; done)
                 focus (
                   intro W hW
                   (obtain ⟨h2, h3⟩ := HAFT.out _ (hW); rw [HCQ.out] at h3; obtain ⟨e0, e1, e2, e3, e4, e5, e6, ef, eg⟩ := msg_cells h2; obtain ⟨d0, d1, d2, d3, d4, d5, df, dg⟩ := six_cells h3; clear ef df)
                   go_simp
                   first
                     | done
                     | exact rfl)
                 go_simp
                 refine hK _ ?_
                 clear hK K))
          refine plan_only rfl (fun Q hQ => ?_)
          go_wp2_with (go_at_call 23; (with_reducible refine (HGR.out _ HB1.out).mono ?_); rintro x w2 ⟨rfl, hb2⟩; have HB2 := Lib.hid hb2; clear hb2)
          refine hQ _ _ (fun _ => HB2.out) ?_
          clear hQ Q
          repeat (
            refine plan_read rfl (fun K hK => ?_)
            first
              | (refine plan_neg ?_ ?_
                 focus (first | (go_simp; done) | (go_simp; decide))
                 go_simp
                 refine hK _ ?_
                 clear hK K)
              | (apply plan_pos
                 focus (go_simp; done)
                 focus (
                   intro W hW
                   (obtain ⟨h2, h3⟩ := HAFT.out _ (hW); rw [HCQ.out] at h3; obtain ⟨e0, e1, e2, e3, e4, e5, e6, ef, eg⟩ := msg_cells h2; obtain ⟨d0, d1, d2, d3, d4, d5, df, dg⟩ := six_cells h3; clear ef df)
                   go_simp
                   first
                     | done
                     | exact rfl)
                 go_simp
                 refine hK _ ?_
                 clear hK K))
          refine plan_only rfl (fun Q hQ => ?_)
          go_wp2
          refine hQ _ _ (fun h => absurd h (by omega)) ?_
          clear hQ Q
          refine plan_only rfl (fun Q hQ => ?_)
          go_wp2
          refine hQ _ _ (fun h => absurd h (by omega)) ?_
          clear hQ Q
          refine plan_only rfl (fun Q hQ => ?_)
          go_wp2
          refine hQ _ _ (fun h => absurd h (by omega)) ?_
          clear hQ Q
          refine plan_only rfl (fun Q hQ => ?_)
          go_wp2
          refine hQ _ _ (fun h => absurd h (by omega)) ?_
          clear hQ Q
          unfold Plan.wp
          go_wp2
          go_ret
          exact ⟨ret_bool (by first | rfl | exact HE.out.symm), HBW.out _ HB2.out⟩
      · have k2 : (c == xn) = false := by simpa using hc
        have HE : Hid ((true && decide (k = 1) && decide (c = xn) && (decide (v = 0) || decide (b = xb))) = false) := Lib.hid (by simp [hc])
        rw [HE.out]
        clear hk hc
        go_enter Try.func21, Try.ntmps21
        go_upto_region 1 with fail
        refine region_mix (fun W => Below (w.alloc (msgO k c b e v u a n cap)).heap.size (w.alloc (msgO k c b e v u a n cap)) W) (26) (.reads [0] (.only 1 (.reads [2, 3, 4, 5, 6, 7, 8, 9, 10, 11, 12, 13, 14, 15, 16, 17] (.only 18 (.reads [19, 20, 21, 22, 23, 24, 25] (.only 26 (.only 27 (.only 28 (.only 29 (.stop)))))))))) (by kernel_rfl) (by kernel_rfl) ((Below.refl _ _).drew) ?_
        repeat (
          refine plan_read rfl (fun K hK => ?_)
          first
            | (refine plan_neg ?_ ?_
               focus (first | (go_simp; done) | (go_simp; decide))
               go_simp
               refine hK _ ?_
               clear hK K)
            | (apply plan_pos
               focus (go_simp; done)
               focus (
                 intro W hW
                 (obtain ⟨h2, h3⟩ := HAFT.out _ (hW); rw [HCQ.out] at h3; obtain ⟨e0, e1, e2, e3, e4, e5, e6, ef, eg⟩ := msg_cells h2; obtain ⟨d0, d1, d2, d3, d4, d5, df, dg⟩ := six_cells h3; clear ef df)
                 go_simp
                 first
                   | done
                   | exact rfl)
               go_simp
               refine hK _ ?_
               clear hK K))
        refine plan_only rfl (fun Q hQ => ?_)
        go_wp2_with (go_at_call 29; (with_reducible refine (HRT.out _ (Below.refl _ _).drew).mono ?_); rintro x w1 ⟨rfl, hb1⟩; have HB1 := Lib.hid hb1; clear hb1)
        refine hQ _ _ (fun _ => HB1.out) ?_
        clear hQ Q
        repeat (
          refine plan_read rfl (fun K hK => ?_)
          first
            | (refine plan_neg ?_ ?_
               focus (first | (go_simp; done) | (go_simp; decide))
               go_simp
               refine hK _ ?_
               clear hK K)
            | (apply plan_pos
               focus (go_simp; done)
               focus (
                 intro W hW
                 (obtain ⟨h2, h3⟩ := HAFT.out _ (hW); rw [HCQ.out] at h3; obtain ⟨e0, e1, e2, e3, e4, e5, e6, ef, eg⟩ := msg_cells h2; obtain ⟨d0, d1, d2, d3, d4, d5, df, dg⟩ := six_cells h3; clear ef df)
                 go_simp
                 first
                   | done
                   | exact rfl)
               go_simp
               refine hK _ ?_
               clear hK K))
        refine plan_only rfl (fun Q hQ => ?_)
        go_wp2
        refine hQ _ _ (fun _ => HB1.out) ?_
        clear hQ Q
        repeat (
          refine plan_read rfl (fun K hK => ?_)
          first
            | (refine plan_neg ?_ ?_
               focus (first | (go_simp; done) | (go_simp; decide))
               go_simp
               refine hK _ ?_
               clear hK K)
            | (apply plan_pos
               focus (go_simp; done)
               focus (
                 intro W hW
                 (obtain ⟨h2, h3⟩ := HAFT.out _ (hW); rw [HCQ.out] at h3; obtain ⟨e0, e1, e2, e3, e4, e5, e6, ef, eg⟩ := msg_cells h2; obtain ⟨d0, d1, d2, d3, d4, d5, df, dg⟩ := six_cells h3; clear ef df)
                 go_simp
                 first
                   | done
                   | exact rfl)
               go_simp
               refine hK _ ?_
               clear hK K))
        refine plan_only rfl (fun Q hQ => ?_)
        go_wp2
        refine hQ _ _ (fun h => absurd h (by omega)) ?_
        clear hQ Q
        refine plan_only rfl (fun Q hQ => ?_)
        go_wp2
        refine hQ _ _ (fun h => absurd h (by omega)) ?_
        clear hQ Q
        refine plan_only rfl (fun Q hQ => ?_)
        go_wp2
        refine hQ _ _ (fun h => absurd h (by omega)) ?_
        clear hQ Q
        refine plan_only rfl (fun Q hQ => ?_)
        go_wp2
        refine hQ _ _ (fun h => absurd h (by omega)) ?_
        clear hQ Q
        unfold Plan.wp
        go_wp2
        go_ret
        exact ⟨ret_bool (by first | rfl | exact HE.out.symm), HBW.out _ HB1.out⟩
    · have k1 : (k == 1) = false := by simpa using hk
      have HE : Hid ((true && decide (k = 1) && decide (c = xn) && (decide (v = 0) || decide (b = xb))) = false) := Lib.hid (by simp [hk])
      rw [HE.out]
      clear hk
      go_enter Try.func21, Try.ntmps21
      go_upto_region 1 with fail
      refine region_mix (fun W => Below (w.alloc (msgO k c b e v u a n cap)).heap.size (w.alloc (msgO k c b e v u a n cap)) W) (26) (.reads [0] (.only 1 (.reads [2, 3, 4, 5, 6, 7, 8, 9, 10, 11, 12, 13, 14, 15, 16, 17] (.only 18 (.reads [19, 20, 21, 22, 23, 24, 25] (.only 26 (.only 27 (.only 28 (.only 29 (.stop)))))))))) (by kernel_rfl) (by kernel_rfl) ((Below.refl _ _).drew) ?_
      repeat (
        refine plan_read rfl (fun K hK => ?_)
        first
          | (refine plan_neg ?_ ?_
             focus (first | (go_simp; done) | (go_simp; decide))
             go_simp
             refine hK _ ?_
             clear hK K)
          | (apply plan_pos
             focus (go_simp; done)
             focus (
               intro W hW
               (obtain ⟨h2, h3⟩ := HAFT.out _ (hW); rw [HCQ.out] at h3; obtain ⟨e0, e1, e2, e3, e4, e5, e6, ef, eg⟩ := msg_cells h2; obtain ⟨d0, d1, d2, d3, d4, d5, df, dg⟩ := six_cells h3; clear ef df)
               go_simp
               first
                 | done
                 | exact rfl)
             go_simp
             refine hK _ ?_
             clear hK K))
      refine plan_only rfl (fun Q hQ => ?_)
      go_wp2_with (go_at_call 29; (with_reducible refine (HRT.out _ (Below.refl _ _).drew).mono ?_); rintro x w1 ⟨rfl, hb1⟩; have HB1 := Lib.hid hb1; clear hb1)
      refine hQ _ _ (fun _ => HB1.out) ?_
      clear hQ Q
      repeat (
        refine plan_read rfl (fun K hK => ?_)
        first
          | (refine plan_neg ?_ ?_
             focus (first | (go_simp; done) | (go_simp; decide))
             go_simp
             refine hK _ ?_
             clear hK K)
          | (apply plan_pos
             focus (go_simp; done)
             focus (
               intro W hW
               (obtain ⟨h2, h3⟩ := HAFT.out _ (hW); rw [HCQ.out] at h3; obtain ⟨e0, e1, e2, e3, e4, e5, e6, ef, eg⟩ := msg_cells h2; obtain ⟨d0, d1, d2, d3, d4, d5, df, dg⟩ := six_cells h3; clear ef df)
               go_simp
               first
                 | done
                 | exact rfl)
             go_simp
             refine hK _ ?_
             clear hK K))
      refine plan_only rfl (fun Q hQ => ?_)
      go_wp2
      refine hQ _ _ (fun _ => HB1.out) ?_
      clear hQ Q
      repeat (
        refine plan_read rfl (fun K hK => ?_)
        first
          | (refine plan_neg ?_ ?_
             focus (first | (go_simp; done) | (go_simp; decide))
             go_simp
             refine hK _ ?_
             clear hK K)
          | (apply plan_pos
             focus (go_simp; done)
             focus (
               intro W hW
               (obtain ⟨h2, h3⟩ := HAFT.out _ (hW); rw [HCQ.out] at h3; obtain ⟨e0, e1, e2, e3, e4, e5, e6, ef, eg⟩ := msg_cells h2; obtain ⟨d0, d1, d2, d3, d4, d5, df, dg⟩ := six_cells h3; clear ef df)
               go_simp
               first
                 | done
                 | exact rfl)
             go_simp
             refine hK _ ?_
             clear hK K))
      refine plan_only rfl (fun Q hQ => ?_)
      go_wp2
      refine hQ _ _ (fun h => absurd h (by omega)) ?_
      clear hQ Q
      refine plan_only rfl (fun Q hQ => ?_)
      go_wp2
      refine hQ _ _ (fun h => absurd h (by omega)) ?_
      clear hQ Q
      refine plan_only rfl (fun Q hQ => ?_)
      go_wp2
      refine hQ _ _ (fun h => absurd h (by omega)) ?_
      clear hQ Q
      refine plan_only rfl (fun Q hQ => ?_)
      go_wp2
      refine hQ _ _ (fun h => absurd h (by omega)) ?_
      clear hQ Q
      unfold Plan.wp
      go_wp2
      go_ret
      exact ⟨ret_bool (by first | rfl | exact HE.out.symm), HBW.out _ HB1.out⟩
end Go.Proofs.Ytbbogkmibiealaa
