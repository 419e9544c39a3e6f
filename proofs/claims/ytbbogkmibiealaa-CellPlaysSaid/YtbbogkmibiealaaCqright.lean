/-
  The document's Right.
-/
import Derived.Deep.DeepCutAuto
import Derived.Test.YtbbogkmibiealaaCname
import Derived.Test.YtbbogkmibiealaaCmem
namespace Go.Proofs.Ytbbogkmibiealaa
open Go.RowKit Gm

set_option maxRecDepth 100000 in
set_option maxHeartbeats 4000000 in
theorem qright_any (k c b e v u : Int) (a : Option Addr) (n cap : Nat) (l : List Bd) (w : World) (hb : BindsAt w (· < w.heap.size) a n l) (hn : n ≤ 1048576) :
    Calls Try.prog 25 #[msgV k c b e v u a n cap] w fun e' w' => e' = .returned (.bool (rightM ⟨k, c, b, e, v, u, l⟩)) ∧ Below w.heap.size w w' := by
  have HL : Hid (l.length = n) := Lib.hid hb.1
  have hnew := new_at w (msgO k c b e v u a n cap)
  obtain ⟨c0, c1, c2, c3, c4, c5, c6, _, hg⟩ := msg_cells hnew
  have hb0 : Below w.heap.size w (w.alloc (msgO k c b e v u a n cap)) := (Below.refl _ w).alloc (Nat.le_refl _) _
  have HNEW := Lib.hid hnew
  have HB0 := Lib.hid hb0
  have HB := Lib.hid hb
  obtain ⟨x, hx⟩ : ∃ x, (!(numsM ⟨k, c, b, e, v, u, l⟩) || decide (64 < n)) = x := ⟨_, rfl⟩
  have HX := Lib.hid hx
  have HRM : Hid (rightM ⟨k, c, b, e, v, u, l⟩ = (numsM ⟨k, c, b, e, v, u, l⟩ && rightL l)) := Lib.hid rfl
  clear hb hb0 hnew hx
  go_enter Try.func25, Try.ntmps25
  go_upto_region 1 with fail
  obtain ⟨W, hW⟩ : ∃ W, w.alloc (msgO k c b e v u a n cap) = W := ⟨_, rfl⟩
  rw [hW] at c0 c1 c2 c3 c4 c5 c6 hg HNEW HB0 ⊢
  clear hW
  go_cut [70] from 7 to 69 (fun s70 wx => s70 = .bool x ∧ W = wx)
  case first =>
    by_cases h1 : k = 1
    · have hk : k = 1 ∨ k = 2 := .inl h1
      subst h1
      by_cases h0 : c < 0
      · have d0 : decide (c < 0) = true := decide_eq_true h0
        have E : Hid (true = x) := Lib.hid (by rw [← HX.out, nums_no (by omega)]; rfl)
        clear hk
        go_wp2
        go_meet
        exact ⟨by rw [E.out], rfl⟩
      · have d0 : decide (c < 0) = false := decide_eq_false h0
        by_cases h1 : 3 ≤ c
        · have d1 : decide ((3 : Int) ≤ c) = true := decide_eq_true h1
          have E : Hid (true = x) := Lib.hid (by rw [← HX.out, nums_no (by omega)]; rfl)
          clear hk
          go_wp2
          go_meet
          exact ⟨by rw [E.out], rfl⟩
        · have d1 : decide ((3 : Int) ≤ c) = false := decide_eq_false h1
          by_cases h2 : b < 0
          · have d2 : decide (b < 0) = true := decide_eq_true h2
            have E : Hid (true = x) := Lib.hid (by rw [← HX.out, nums_no (by omega)]; rfl)
            clear hk
            go_wp2
            go_meet
            exact ⟨by rw [E.out], rfl⟩
          · have d2 : decide (b < 0) = false := decide_eq_false h2
            by_cases h3 : 1099511627776 < b
            · have d3 : decide ((1099511627776 : Int) < b) = true := decide_eq_true h3
              have E : Hid (true = x) := Lib.hid (by rw [← HX.out, nums_no (by omega)]; rfl)
              clear hk
              go_wp2
              go_meet
              exact ⟨by rw [E.out], rfl⟩
            · have d3 : decide ((1099511627776 : Int) < b) = false := decide_eq_false h3
              by_cases h4 : e < 0
              · have d4 : decide (e < 0) = true := decide_eq_true h4
                have E : Hid (true = x) := Lib.hid (by rw [← HX.out, nums_no (by omega)]; rfl)
                clear hk
                go_wp2
                go_meet
                exact ⟨by rw [E.out], rfl⟩
              · have d4 : decide (e < 0) = false := decide_eq_false h4
                by_cases h5 : 1099511627776 < e
                · have d5 : decide ((1099511627776 : Int) < e) = true := decide_eq_true h5
                  have E : Hid (true = x) := Lib.hid (by rw [← HX.out, nums_no (by omega)]; rfl)
                  clear hk
                  go_wp2
                  go_meet
                  exact ⟨by rw [E.out], rfl⟩
                · have d5 : decide ((1099511627776 : Int) < e) = false := decide_eq_false h5
                  by_cases h6 : v < 0
                  · have d6 : decide (v < 0) = true := decide_eq_true h6
                    have E : Hid (true = x) := Lib.hid (by rw [← HX.out, nums_no (by omega)]; rfl)
                    clear hk
                    go_wp2
                    go_meet
                    exact ⟨by rw [E.out], rfl⟩
                  · have d6 : decide (v < 0) = false := decide_eq_false h6
                    by_cases h7 : 1099511627776 < v
                    · have d7 : decide ((1099511627776 : Int) < v) = true := decide_eq_true h7
                      have E : Hid (true = x) := Lib.hid (by rw [← HX.out, nums_no (by omega)]; rfl)
                      clear hk
                      go_wp2
                      go_meet
                      exact ⟨by rw [E.out], rfl⟩
                    · have d7 : decide ((1099511627776 : Int) < v) = false := decide_eq_false h7
                      by_cases h8 : u < -2199023255552
                      · have d8 : decide (u < -2199023255552) = true := decide_eq_true h8
                        have E : Hid (true = x) := Lib.hid (by rw [← HX.out, nums_no (by omega)]; rfl)
                        clear hk
                        go_wp2
                        go_meet
                        exact ⟨by rw [E.out], rfl⟩
                      · have d8 : decide (u < -2199023255552) = false := decide_eq_false h8
                        by_cases h9 : 2199023255552 < u
                        · have d9 : decide ((2199023255552 : Int) < u) = true := decide_eq_true h9
                          have E : Hid (true = x) := Lib.hid (by rw [← HX.out, nums_no (by omega)]; rfl)
                          clear hk
                          go_wp2
                          go_meet
                          exact ⟨by rw [E.out], rfl⟩
                        · have d9 : decide ((2199023255552 : Int) < u) = false := decide_eq_false h9
                          by_cases hl : 64 < n
                          · have d11 : decide ((64 : Int) < (n : Int)) = true := decide_eq_true (by omega)
                            have E : Hid (true = x) := Lib.hid (by rw [← HX.out, decide_eq_true hl, Bool.or_true])
                            clear hk
                            go_wp2
                            go_meet
                            exact ⟨by rw [E.out], rfl⟩
                          · have d11 : decide ((64 : Int) < (n : Int)) = false := decide_eq_false (by omega)
                            have E : Hid (false = x) := Lib.hid (by rw [← HX.out, decide_eq_false hl, nums_yes (by omega)]; rfl)
                            clear hk
                            go_wp2
                            go_meet
                            exact ⟨by rw [E.out], rfl⟩
    · have kk1 : (k == 1) = false := by simpa using h1
      have kk2 : (k != 1) = true := by simpa using h1
      by_cases h2 : k = 2
      · have hk : k = 1 ∨ k = 2 := .inr h2
        subst h2
        by_cases h0 : c < 0
        · have d0 : decide (c < 0) = true := decide_eq_true h0
          have E : Hid (true = x) := Lib.hid (by rw [← HX.out, nums_no (by omega)]; rfl)
          clear hk
          go_wp2
          go_meet
          exact ⟨by rw [E.out], rfl⟩
        · have d0 : decide (c < 0) = false := decide_eq_false h0
          by_cases h1 : 3 ≤ c
          · have d1 : decide ((3 : Int) ≤ c) = true := decide_eq_true h1
            have E : Hid (true = x) := Lib.hid (by rw [← HX.out, nums_no (by omega)]; rfl)
            clear hk
            go_wp2
            go_meet
            exact ⟨by rw [E.out], rfl⟩
          · have d1 : decide ((3 : Int) ≤ c) = false := decide_eq_false h1
            by_cases h2 : b < 0
            · have d2 : decide (b < 0) = true := decide_eq_true h2
              have E : Hid (true = x) := Lib.hid (by rw [← HX.out, nums_no (by omega)]; rfl)
              clear hk
              go_wp2
              go_meet
              exact ⟨by rw [E.out], rfl⟩
            · have d2 : decide (b < 0) = false := decide_eq_false h2
              by_cases h3 : 1099511627776 < b
              · have d3 : decide ((1099511627776 : Int) < b) = true := decide_eq_true h3
                have E : Hid (true = x) := Lib.hid (by rw [← HX.out, nums_no (by omega)]; rfl)
                clear hk
                go_wp2
                go_meet
                exact ⟨by rw [E.out], rfl⟩
              · have d3 : decide ((1099511627776 : Int) < b) = false := decide_eq_false h3
                by_cases h4 : e < 0
                · have d4 : decide (e < 0) = true := decide_eq_true h4
                  have E : Hid (true = x) := Lib.hid (by rw [← HX.out, nums_no (by omega)]; rfl)
                  clear hk
                  go_wp2
                  go_meet
                  exact ⟨by rw [E.out], rfl⟩
                · have d4 : decide (e < 0) = false := decide_eq_false h4
                  by_cases h5 : 1099511627776 < e
                  · have d5 : decide ((1099511627776 : Int) < e) = true := decide_eq_true h5
                    have E : Hid (true = x) := Lib.hid (by rw [← HX.out, nums_no (by omega)]; rfl)
                    clear hk
                    go_wp2
                    go_meet
                    exact ⟨by rw [E.out], rfl⟩
                  · have d5 : decide ((1099511627776 : Int) < e) = false := decide_eq_false h5
                    by_cases h6 : v < 0
                    · have d6 : decide (v < 0) = true := decide_eq_true h6
                      have E : Hid (true = x) := Lib.hid (by rw [← HX.out, nums_no (by omega)]; rfl)
                      clear hk
                      go_wp2
                      go_meet
                      exact ⟨by rw [E.out], rfl⟩
                    · have d6 : decide (v < 0) = false := decide_eq_false h6
                      by_cases h7 : 1099511627776 < v
                      · have d7 : decide ((1099511627776 : Int) < v) = true := decide_eq_true h7
                        have E : Hid (true = x) := Lib.hid (by rw [← HX.out, nums_no (by omega)]; rfl)
                        clear hk
                        go_wp2
                        go_meet
                        exact ⟨by rw [E.out], rfl⟩
                      · have d7 : decide ((1099511627776 : Int) < v) = false := decide_eq_false h7
                        by_cases h8 : u < -2199023255552
                        · have d8 : decide (u < -2199023255552) = true := decide_eq_true h8
                          have E : Hid (true = x) := Lib.hid (by rw [← HX.out, nums_no (by omega)]; rfl)
                          clear hk
                          go_wp2
                          go_meet
                          exact ⟨by rw [E.out], rfl⟩
                        · have d8 : decide (u < -2199023255552) = false := decide_eq_false h8
                          by_cases h9 : 2199023255552 < u
                          · have d9 : decide ((2199023255552 : Int) < u) = true := decide_eq_true h9
                            have E : Hid (true = x) := Lib.hid (by rw [← HX.out, nums_no (by omega)]; rfl)
                            clear hk
                            go_wp2
                            go_meet
                            exact ⟨by rw [E.out], rfl⟩
                          · have d9 : decide ((2199023255552 : Int) < u) = false := decide_eq_false h9
                            by_cases hl : 64 < n
                            · have d11 : decide ((64 : Int) < (n : Int)) = true := decide_eq_true (by omega)
                              have E : Hid (true = x) := Lib.hid (by rw [← HX.out, decide_eq_true hl, Bool.or_true])
                              clear hk
                              go_wp2
                              go_meet
                              exact ⟨by rw [E.out], rfl⟩
                            · have d11 : decide ((64 : Int) < (n : Int)) = false := decide_eq_false (by omega)
                              have E : Hid (false = x) := Lib.hid (by rw [← HX.out, decide_eq_false hl, nums_yes (by omega)]; rfl)
                              clear hk
                              go_wp2
                              go_meet
                              exact ⟨by rw [E.out], rfl⟩
      · have kk3 : (k == 2) = false := by simpa using h2
        have kk4 : (k != 2) = true := by simpa using h2
        have E : Hid (true = x) := Lib.hid (by rw [← HX.out, nums_no (by omega)]; rfl)
        clear h1 h2
        go_wp2
        go_meet
        exact ⟨by rw [E.out], rfl⟩
  case rest =>
    obtain ⟨rfl, rfl⟩ := hcut
    rcases Bool.eq_false_or_eq_true x with rfl | rfl
    · have HE : Hid (rightM ⟨k, c, b, e, v, u, l⟩ = false) := Lib.hid (by
        rw [HRM.out]
        have h := HX.out
        rw [Bool.or_eq_true, Bool.not_eq_true', decide_eq_true_iff] at h
        rcases h with h | h
        · rw [h, Bool.false_and]
        · rw [right_long (by rw [HL.out]; exact h), Bool.and_false])
      clear HX HRM
      go_wp2
      go_ret
      exact ⟨ret_bool HE.out.symm, HB0.out⟩
    · have HE : Hid (rightM ⟨k, c, b, e, v, u, l⟩ = rightL l ∧ n ≤ 64) := Lib.hid (by
        rw [HRM.out]
        have h := HX.out
        rw [Bool.or_eq_false_iff, Bool.not_eq_false', decide_eq_false_iff_not] at h
        rw [h.1]
        exact ⟨rfl, by omega⟩)
      have hn64 := HE.out.2
      clear HX HRM c0 c1 c2 c3 c4 c5 c6 hg
      go_wp2
      go_loopw [3] (fun iv wr => ∃ i : Nat, i ≤ n ∧ iv = .int .i64 (i : Int) ∧ Below w.heap.size w wr ∧ wr.heap[w.heap.size]? = some (msgO k c b e v u a n cap) ∧ (List.range i).all (stepB l) = true) (fun iv _ => n - (intOf iv).toNat)
      case atStart => exact ⟨0, Nat.zero_le _, rfl, HB0.out, HNEW.out, rfl⟩
      case round =>
        obtain ⟨i, hi, rfl, hW, hM, hall⟩ := hrel
        obtain ⟨c0, c1, c2, c3, c4, c5, c6, _, hg⟩ := msg_cells hM
        have HALL := Lib.hid hall
        have HW := Lib.hid hW
        have HM := Lib.hid hM
        have hsz := hW.size
        clear hall hW hM HB0 HNEW c0 c1 c2 c3 c4 c5
        by_cases hlt : i < n
        · have hil : i < l.length := by rw [HL.out]; exact hlt
          obtain ⟨g, off, rfl, hgw, hcl⟩ := HB.out.bind hlt
          obtain ⟨p0, p1, p2⟩ := hcl i hil
          replace p0 := (HW.out.cell (p := ⟨g, off + i * 3, none⟩) hgw).trans p0
          replace p1 := (HW.out.cell (p := ⟨g, off + i * 3 + 1, none⟩) hgw).trans p1
          replace p2 := (HW.out.cell (p := ⟨g, off + i * 3 + 2, none⟩) hgw).trans p2
          have hgr := Nat.lt_of_lt_of_le hgw hsz
          have HST := Lib.hid (step_eq hil)
          have HNO : Hid (stepB l i = false → rightM ⟨k, c, b, e, v, u, l⟩ = false) := Lib.hid fun h => by rw [HE.out.1]; exact step_no hil h
          obtain ⟨x, hx⟩ : ∃ x, l[i] = x := ⟨_, rfl⟩
          rw [hx] at p0 p1 p2 HST
          have HS0 : Hid (i = 0 → stepB l i = okBd x) := Lib.hid fun h0 => by rw [HST.out, decide_eq_true h0]; simp
          have HPREV : Hid (0 < i → ∃ y : Bd, stepB l i = (okBd x && upB y x) ∧ wr.cell? ⟨g, off + (i - 1) * 3, none⟩ = some (.string (S y.work)) ∧ wr.cell? ⟨g, off + (i - 1) * 3 + 1, none⟩ = some (.string (S y.node))) := Lib.hid fun h0 => by
            obtain ⟨q0, q1, _⟩ := hcl (i - 1) (by omega)
            exact ⟨_, by rw [HST.out, decide_eq_false (by omega), Bool.false_or], (HW.out.cell (p := ⟨g, off + (i - 1) * 3, none⟩) hgw).trans q0, (HW.out.cell (p := ⟨g, off + (i - 1) * 3 + 1, none⟩) hgw).trans q1⟩
          have HOK : Hid (okBd x = false → stepB l i = false) := Lib.hid fun h => by rw [HST.out, h, Bool.false_and]
          have hi0 : (0 : Int) ≤ (i : Int) := by omega
          have hi1 : (i : Int) < (n : Int) := by omega
          have HU : Hid (i + 1 ≤ n) := Lib.hid hlt
          have hW1 := HW.out.alloc hsz (.cells #[.string (S x.work), .string (S x.node), .int .i64 x.cnt] 35)
          have hM1 := (((Below.refl wr.heap.size wr).alloc (Nat.le_refl _) (.cells #[.string (S x.work), .string (S x.node), .int .i64 x.cnt] 35)).block w.heap.size hg).trans HM.out
          have HW1 := Lib.hid hW1
          have HM1 := Lib.hid hM1
          have hM1' := hM1
          have hnb := new_at wr (.cells #[.string (S x.work), .string (S x.node), .int .i64 x.cnt] 35)
          have d6 := (msg_cells hM1').2.2.2.2.2.2.1
          have n0 := cell_of_row _ _ 0 _ _ _ hnb
          have n1 := cell_of_row _ _ 1 _ _ _ hnb
          have n2 := cell_of_row _ _ 2 _ _ _ hnb
          obtain ⟨b1, hb1⟩ : ∃ b1, nameB x.work = b1 := ⟨_, rfl⟩
          obtain ⟨b2, hb2⟩ : ∃ b2, nameB x.node = b2 := ⟨_, rfl⟩
          have HQ1 : Hid (∀ W, Calls Try.prog 33 #[.string (S x.work)] W fun e w' => e = .returned (.bool b1) ∧ W = w') := Lib.hid fun W => by rw [← hb1]; exact qname_any _ W
          have HQ2 : Hid (∀ W, Calls Try.prog 33 #[.string (S x.node)] W fun e w' => e = .returned (.bool b2) ∧ W = w') := Lib.hid fun W => by rw [← hb2]; exact qname_any _ W
          have hokd : okBd x = (b1 && b2 && frB 1 x.cnt 1000) := by unfold okBd; rw [hb1, hb2]
          have HOKD := Lib.hid hokd
          clear hcl hx hgw hW1 hM1 hb1 hb2 hokd HST hil hnb hM1'
          by_cases hok : okBd x = true
          · obtain ⟨⟨hb1, hb2⟩, hfr⟩ : (b1 = true ∧ b2 = true) ∧ frB 1 x.cnt 1000 = true := by
              have h := HOKD.out
              rw [hok] at h
              simpa [Bool.and_eq_true, and_assoc] using h.symm
            subst hb1 hb2
            unfold frB at hfr
            simp only [Bool.and_eq_true, decide_eq_true_eq] at hfr
            have t1 : decide (x.cnt < 1) = false := decide_eq_false (by omega)
            have t2 : decide ((1000 : Int) < x.cnt) = false := decide_eq_false (by omega)
            have HOKT := Lib.hid hok
            clear hfr hok HOK HOKD
            by_cases h0 : i = 0
            · have HC : Hid ((List.range (i + 1)).all (stepB l) = true) := Lib.hid (all_step HALL.out (by rw [HS0.out h0]; exact HOKT.out))
              have dz : decide ((0 : Int) < (i : Int)) = false := decide_eq_false (by omega)
              have dzn : decide (0 < i) = false := decide_eq_false (by omega)
              clear HPREV h0 HS0
              go_wp2_with (first
                | (go_at_call 33; (with_reducible refine (HQ1.out _).mono ?_); rintro e' w2 ⟨rfl, rfl⟩)
                | (go_at_call 33; (with_reducible refine (HQ2.out _).mono ?_); rintro e' w2 ⟨rfl, rfl⟩))
              go_quiet (fail)
              go_wp2
              go_roundw
              case rel => exact ⟨i + 1, HU.out, by go_num, below_drewN HW1.out _, HM1.out, HC.out⟩
              case measure => simp [intOf]; omega
            · obtain ⟨y, hy, q0, q1⟩ := HPREV.out (by omega)
              obtain ⟨j, hj⟩ : ∃ j : Nat, i - 1 = j := ⟨_, rfl⟩
              rw [hj] at q0 q1
              have r0 : (wr.alloc (.cells #[.string (S x.work), .string (S x.node), .int .i64 x.cnt] 35)).cell? ⟨g, off + j * 3, none⟩ = some (.string (S y.work)) := (World.cell?_alloc_lt wr _ ⟨g, off + j * 3, none⟩ hgr).trans q0
              have r1 : (wr.alloc (.cells #[.string (S x.work), .string (S x.node), .int .i64 x.cnt] 35)).cell? ⟨g, off + j * 3 + 1, none⟩ = some (.string (S y.node)) := (World.cell?_alloc_lt wr _ ⟨g, off + j * 3 + 1, none⟩ hgr).trans q1
              have hj0 : (0 : Int) ≤ (j : Int) := by omega
              have hjn : (j : Int) < (n : Int) := by omega
              have ej : (i : Int) - 1 = (j : Int) := by omega
              have dz : decide ((0 : Int) < (i : Int)) = true := decide_eq_true (by omega)
              have dzn : decide (0 < i) = true := decide_eq_true (by omega)
              have HY : Hid (stepB l i = upB y x) := Lib.hid (by rw [hy, HOKT.out, Bool.true_and])
              have hew : ((S y.work).toList == (S x.work).toList) = decide (y.work = x.work) := S_beq _ _
              clear HPREV h0 HS0 hy hj
              rcases hl1 : Op.bytesLess (S y.work).toList (S x.work).toList with _ | _
              · by_cases hw : y.work = x.work
                · have e1 : ((S y.work).toList == (S x.work).toList) = true := by rw [hew]; exact decide_eq_true hw
                  rcases hl2 : Op.bytesLess (S y.node).toList (S x.node).toList with _ | _
                  · have HF : Hid (rightM ⟨k, c, b, e, v, u, l⟩ = false) := Lib.hid (HNO.out (by
                      rw [HY.out]; unfold upB lsB
                      rw [S_toList, S_toList] at hl1 hl2
                      rw [hl1, hl2]; simp))
                    clear hw hew
                    go_wp2_with (first
                      | (go_at_call 33; (with_reducible refine (HQ1.out _).mono ?_); rintro e' w2 ⟨rfl, rfl⟩)
                      | (go_at_call 33; (with_reducible refine (HQ2.out _).mono ?_); rintro e' w2 ⟨rfl, rfl⟩))
                    go_quiet (fail)
                    go_wp2
                    go_ret
                    exact ⟨ret_bool HF.out.symm, below_drewN HW1.out _⟩
                  · have HC : Hid ((List.range (i + 1)).all (stepB l) = true) := Lib.hid (all_step HALL.out (by
                      rw [HY.out]; unfold upB lsB
                      rw [S_toList, S_toList] at hl1 hl2
                      rw [hl1, hl2, decide_eq_true hw]; rfl))
                    clear hw hew
                    go_wp2_with (first
                      | (go_at_call 33; (with_reducible refine (HQ1.out _).mono ?_); rintro e' w2 ⟨rfl, rfl⟩)
                      | (go_at_call 33; (with_reducible refine (HQ2.out _).mono ?_); rintro e' w2 ⟨rfl, rfl⟩))
                    go_quiet (fail)
                    go_wp2
                    go_roundw
                    case rel => exact ⟨i + 1, HU.out, by go_num, below_drewN HW1.out _, HM1.out, HC.out⟩
                    case measure => simp [intOf]; omega
                · have e1 : ((S y.work).toList == (S x.work).toList) = false := by rw [hew]; exact decide_eq_false hw
                  have HF : Hid (rightM ⟨k, c, b, e, v, u, l⟩ = false) := Lib.hid (HNO.out (by
                    rw [HY.out]; unfold upB lsB
                    rw [S_toList, S_toList] at hl1
                    rw [hl1, decide_eq_false hw]; rfl))
                  clear hw hew
                  go_wp2_with (first
                    | (go_at_call 33; (with_reducible refine (HQ1.out _).mono ?_); rintro e' w2 ⟨rfl, rfl⟩)
                    | (go_at_call 33; (with_reducible refine (HQ2.out _).mono ?_); rintro e' w2 ⟨rfl, rfl⟩))
                  go_quiet (fail)
                  go_wp2
                  go_ret
                  exact ⟨ret_bool HF.out.symm, below_drewN HW1.out _⟩
              · have e1 : ((S y.work).toList == (S x.work).toList) = false := by
                  rw [hew]
                  refine decide_eq_false fun e => ?_
                  rw [S_toList, S_toList, e, ls_irr] at hl1
                  cases hl1
                have HC : Hid ((List.range (i + 1)).all (stepB l) = true) := Lib.hid (all_step HALL.out (by
                  rw [HY.out]; unfold upB lsB
                  rw [S_toList, S_toList] at hl1
                  rw [hl1]; rfl))
                clear hew
                go_wp2_with (first
                  | (go_at_call 33; (with_reducible refine (HQ1.out _).mono ?_); rintro e' w2 ⟨rfl, rfl⟩)
                  | (go_at_call 33; (with_reducible refine (HQ2.out _).mono ?_); rintro e' w2 ⟨rfl, rfl⟩))
                go_quiet (fail)
                go_wp2
                go_roundw
                case rel => exact ⟨i + 1, HU.out, by go_num, below_drewN HW1.out _, HM1.out, HC.out⟩
                case measure => simp [intOf]; omega
          · have HF : Hid (rightM ⟨k, c, b, e, v, u, l⟩ = false) := Lib.hid (HNO.out (HOK.out (by simpa using hok)))
            have hor : b1 = false ∨ (b1 = true ∧ b2 = false) ∨ (b1 = true ∧ b2 = true ∧ x.cnt < 1) ∨ (b1 = true ∧ b2 = true ∧ ¬ x.cnt < 1 ∧ 1000 < x.cnt) := by
              rw [HOKD.out] at hok
              unfold frB at hok
              cases b1 <;> cases b2 <;> simp at hok ⊢ <;> omega
            clear hok HOK HOKD HS0 HPREV HNO
            rcases hor with rfl | ⟨rfl, rfl⟩ | ⟨rfl, rfl, ht⟩ | ⟨rfl, rfl, ht, ht'⟩
            · skip
              go_wp2_with (first
                | (go_at_call 33; (with_reducible refine (HQ1.out _).mono ?_); rintro e' w2 ⟨rfl, rfl⟩)
                | (go_at_call 33; (with_reducible refine (HQ2.out _).mono ?_); rintro e' w2 ⟨rfl, rfl⟩))
              go_ret
              exact ⟨ret_bool HF.out.symm, HW1.out⟩
            · skip
              go_wp2_with (first
                | (go_at_call 33; (with_reducible refine (HQ1.out _).mono ?_); rintro e' w2 ⟨rfl, rfl⟩)
                | (go_at_call 33; (with_reducible refine (HQ2.out _).mono ?_); rintro e' w2 ⟨rfl, rfl⟩))
              go_ret
              exact ⟨ret_bool HF.out.symm, HW1.out⟩
            · have t1 : decide (x.cnt < 1) = true := decide_eq_true ht
              clear ht
              go_wp2_with (first
                | (go_at_call 33; (with_reducible refine (HQ1.out _).mono ?_); rintro e' w2 ⟨rfl, rfl⟩)
                | (go_at_call 33; (with_reducible refine (HQ2.out _).mono ?_); rintro e' w2 ⟨rfl, rfl⟩))
              go_ret
              exact ⟨ret_bool HF.out.symm, HW1.out⟩
            · have t1 : decide (x.cnt < 1) = false := decide_eq_false ht
              have t2 : decide ((1000 : Int) < x.cnt) = true := decide_eq_true ht'
              clear ht ht'
              go_wp2_with (first
                | (go_at_call 33; (with_reducible refine (HQ1.out _).mono ?_); rintro e' w2 ⟨rfl, rfl⟩)
                | (go_at_call 33; (with_reducible refine (HQ2.out _).mono ?_); rintro e' w2 ⟨rfl, rfl⟩))
              go_ret
              exact ⟨ret_bool HF.out.symm, HW1.out⟩
        · obtain rfl : i = n := by omega
          have HF : Hid (rightM ⟨k, c, b, e, v, u, l⟩ = true) := Lib.hid (by rw [HE.out.1]; exact right_yes (by rw [HL.out]; exact HE.out.2) (by rw [HL.out]; exact HALL.out))
          clear hlt
          go_wp2
          go_ret
          exact ⟨ret_bool HF.out.symm, HW.out⟩
end Go.Proofs.Ytbbogkmibiealaa
