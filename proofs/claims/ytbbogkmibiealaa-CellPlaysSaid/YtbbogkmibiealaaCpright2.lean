/-
  The program's Right: hasNumbers, hasBinds, Right.
-/
import Derived.Test.YtbbogkmibiealaaCpright
namespace Go.Proofs.Ytbbogkmibiealaa
open Go.RowKit Gm

set_option maxRecDepth 100000 in
set_option maxHeartbeats 4000000 in
theorem numbers_any (k c b e v u : Int) (a : Option Addr) (n cap : Nat) (l : List Bd) (w : World) :
    Calls Try.prog 38 #[msgV k c b e v u a n cap] w fun e' w' => e' = .returned (.bool (numsM ⟨k, c, b, e, v, u, l⟩)) ∧ Below w.heap.size w w' := by
  have hnew := new_at w (msgO k c b e v u a n cap)
  obtain ⟨c0, c1, c2, c3, c4, c5, c6, _, hg⟩ := msg_cells hnew
  have HB0 : Hid (Below w.heap.size w (w.alloc (msgO k c b e v u a n cap))) := Lib.hid ((Below.refl _ w).alloc (Nat.le_refl _) _)
  obtain ⟨b1, hb1⟩ : ∃ y, frB 0 c 2 = y := ⟨_, rfl⟩
  have HQ1 : Hid (∀ W, Calls Try.prog 43 #[.int .i64 0, .int .i64 c, .int .i64 2] W fun e w' => e = .returned (.bool b1) ∧ W = w') := Lib.hid fun W => by rw [← hb1]; exact from_any _ _ _ W
  obtain ⟨b2, hb2⟩ : ∃ y, frB 0 b 1099511627776 = y := ⟨_, rfl⟩
  have HQ2 : Hid (∀ W, Calls Try.prog 43 #[.int .i64 0, .int .i64 b, .int .i64 1099511627776] W fun e w' => e = .returned (.bool b2) ∧ W = w') := Lib.hid fun W => by rw [← hb2]; exact from_any _ _ _ W
  obtain ⟨b3, hb3⟩ : ∃ y, frB 0 e 1099511627776 = y := ⟨_, rfl⟩
  have HQ3 : Hid (∀ W, Calls Try.prog 43 #[.int .i64 0, .int .i64 e, .int .i64 1099511627776] W fun e w' => e = .returned (.bool b3) ∧ W = w') := Lib.hid fun W => by rw [← hb3]; exact from_any _ _ _ W
  obtain ⟨b4, hb4⟩ : ∃ y, frB 0 v 1099511627776 = y := ⟨_, rfl⟩
  have HQ4 : Hid (∀ W, Calls Try.prog 43 #[.int .i64 0, .int .i64 v, .int .i64 1099511627776] W fun e w' => e = .returned (.bool b4) ∧ W = w') := Lib.hid fun W => by rw [← hb4]; exact from_any _ _ _ W
  obtain ⟨b5, hb5⟩ : ∃ y, frB (-2199023255552) u 2199023255552 = y := ⟨_, rfl⟩
  have HQ5 : Hid (∀ W, Calls Try.prog 43 #[.int .i64 (-2199023255552), .int .i64 u, .int .i64 2199023255552] W fun e w' => e = .returned (.bool b5) ∧ W = w') := Lib.hid fun W => by rw [← hb5]; exact from_any _ _ _ W
  have HE : Hid (numsM ⟨k, c, b, e, v, u, l⟩ = ((decide (k = 1) || decide (k = 2)) && b1 && b2 && b3 && b4 && b5)) := Lib.hid (by unfold numsM; dsimp only; rw [hb1, hb2, hb3, hb4, hb5])
  clear hnew hb1 hb2 hb3 hb4 hb5
  by_cases h1 : k = 1
  · have kk1 : (k == 1) = true := by simpa using h1
    have kk2 : (k != 1) = false := by simpa using h1
    have HK : Hid ((decide (k = 1) || decide (k = 2)) = true) := Lib.hid (by rw [decide_eq_true h1]; rfl)
    clear h1
    rcases b1 with _ | _
    · have HF : Hid (numsM ⟨k, c, b, e, v, u, l⟩ = false) := Lib.hid (by rw [HE.out, HK.out]; rfl)
      clear HE HK
      go_enter Try.func38, Try.ntmps38
      go_wp2_with (first
        | (go_at_call 43; (with_reducible refine (HQ1.out _).mono ?_); rintro e' w2 ⟨rfl, rfl⟩)
        | (go_at_call 43; (with_reducible refine (HQ2.out _).mono ?_); rintro e' w2 ⟨rfl, rfl⟩)
        | (go_at_call 43; (with_reducible refine (HQ3.out _).mono ?_); rintro e' w2 ⟨rfl, rfl⟩)
        | (go_at_call 43; (with_reducible refine (HQ4.out _).mono ?_); rintro e' w2 ⟨rfl, rfl⟩)
        | (go_at_call 43; (with_reducible refine (HQ5.out _).mono ?_); rintro e' w2 ⟨rfl, rfl⟩))
      go_ret
      exact ⟨ret_bool HF.out.symm, HB0.out⟩
    · rcases b2 with _ | _
      · have HF : Hid (numsM ⟨k, c, b, e, v, u, l⟩ = false) := Lib.hid (by rw [HE.out, HK.out]; rfl)
        clear HE HK
        go_enter Try.func38, Try.ntmps38
        go_wp2_with (first
          | (go_at_call 43; (with_reducible refine (HQ1.out _).mono ?_); rintro e' w2 ⟨rfl, rfl⟩)
          | (go_at_call 43; (with_reducible refine (HQ2.out _).mono ?_); rintro e' w2 ⟨rfl, rfl⟩)
          | (go_at_call 43; (with_reducible refine (HQ3.out _).mono ?_); rintro e' w2 ⟨rfl, rfl⟩)
          | (go_at_call 43; (with_reducible refine (HQ4.out _).mono ?_); rintro e' w2 ⟨rfl, rfl⟩)
          | (go_at_call 43; (with_reducible refine (HQ5.out _).mono ?_); rintro e' w2 ⟨rfl, rfl⟩))
        go_ret
        exact ⟨ret_bool HF.out.symm, HB0.out⟩
      · rcases b3 with _ | _
        · have HF : Hid (numsM ⟨k, c, b, e, v, u, l⟩ = false) := Lib.hid (by rw [HE.out, HK.out]; rfl)
          clear HE HK
          go_enter Try.func38, Try.ntmps38
          go_wp2_with (first
            | (go_at_call 43; (with_reducible refine (HQ1.out _).mono ?_); rintro e' w2 ⟨rfl, rfl⟩)
            | (go_at_call 43; (with_reducible refine (HQ2.out _).mono ?_); rintro e' w2 ⟨rfl, rfl⟩)
            | (go_at_call 43; (with_reducible refine (HQ3.out _).mono ?_); rintro e' w2 ⟨rfl, rfl⟩)
            | (go_at_call 43; (with_reducible refine (HQ4.out _).mono ?_); rintro e' w2 ⟨rfl, rfl⟩)
            | (go_at_call 43; (with_reducible refine (HQ5.out _).mono ?_); rintro e' w2 ⟨rfl, rfl⟩))
          go_ret
          exact ⟨ret_bool HF.out.symm, HB0.out⟩
        · rcases b4 with _ | _
          · have HF : Hid (numsM ⟨k, c, b, e, v, u, l⟩ = false) := Lib.hid (by rw [HE.out, HK.out]; rfl)
            clear HE HK
            go_enter Try.func38, Try.ntmps38
            go_wp2_with (first
              | (go_at_call 43; (with_reducible refine (HQ1.out _).mono ?_); rintro e' w2 ⟨rfl, rfl⟩)
              | (go_at_call 43; (with_reducible refine (HQ2.out _).mono ?_); rintro e' w2 ⟨rfl, rfl⟩)
              | (go_at_call 43; (with_reducible refine (HQ3.out _).mono ?_); rintro e' w2 ⟨rfl, rfl⟩)
              | (go_at_call 43; (with_reducible refine (HQ4.out _).mono ?_); rintro e' w2 ⟨rfl, rfl⟩)
              | (go_at_call 43; (with_reducible refine (HQ5.out _).mono ?_); rintro e' w2 ⟨rfl, rfl⟩))
            go_ret
            exact ⟨ret_bool HF.out.symm, HB0.out⟩
          · have HF : Hid (numsM ⟨k, c, b, e, v, u, l⟩ = b5) := Lib.hid (by rw [HE.out, HK.out]; rfl)
            clear HE HK
            go_enter Try.func38, Try.ntmps38
            go_wp2_with (first
              | (go_at_call 43; (with_reducible refine (HQ1.out _).mono ?_); rintro e' w2 ⟨rfl, rfl⟩)
              | (go_at_call 43; (with_reducible refine (HQ2.out _).mono ?_); rintro e' w2 ⟨rfl, rfl⟩)
              | (go_at_call 43; (with_reducible refine (HQ3.out _).mono ?_); rintro e' w2 ⟨rfl, rfl⟩)
              | (go_at_call 43; (with_reducible refine (HQ4.out _).mono ?_); rintro e' w2 ⟨rfl, rfl⟩)
              | (go_at_call 43; (with_reducible refine (HQ5.out _).mono ?_); rintro e' w2 ⟨rfl, rfl⟩))
            go_ret
            exact ⟨ret_bool HF.out.symm, HB0.out⟩
  · have kk1 : (k == 1) = false := by simpa using h1
    by_cases h2 : k = 2
    · have kk3 : (k == 2) = true := by simpa using h2
      have HK : Hid ((decide (k = 1) || decide (k = 2)) = true) := Lib.hid (by rw [decide_eq_true h2, Bool.or_true])
      clear h1 h2
      rcases b1 with _ | _
      · have HF : Hid (numsM ⟨k, c, b, e, v, u, l⟩ = false) := Lib.hid (by rw [HE.out, HK.out]; rfl)
        clear HE HK
        go_enter Try.func38, Try.ntmps38
        go_wp2_with (first
          | (go_at_call 43; (with_reducible refine (HQ1.out _).mono ?_); rintro e' w2 ⟨rfl, rfl⟩)
          | (go_at_call 43; (with_reducible refine (HQ2.out _).mono ?_); rintro e' w2 ⟨rfl, rfl⟩)
          | (go_at_call 43; (with_reducible refine (HQ3.out _).mono ?_); rintro e' w2 ⟨rfl, rfl⟩)
          | (go_at_call 43; (with_reducible refine (HQ4.out _).mono ?_); rintro e' w2 ⟨rfl, rfl⟩)
          | (go_at_call 43; (with_reducible refine (HQ5.out _).mono ?_); rintro e' w2 ⟨rfl, rfl⟩))
        go_ret
        exact ⟨ret_bool HF.out.symm, HB0.out⟩
      · rcases b2 with _ | _
        · have HF : Hid (numsM ⟨k, c, b, e, v, u, l⟩ = false) := Lib.hid (by rw [HE.out, HK.out]; rfl)
          clear HE HK
          go_enter Try.func38, Try.ntmps38
          go_wp2_with (first
            | (go_at_call 43; (with_reducible refine (HQ1.out _).mono ?_); rintro e' w2 ⟨rfl, rfl⟩)
            | (go_at_call 43; (with_reducible refine (HQ2.out _).mono ?_); rintro e' w2 ⟨rfl, rfl⟩)
            | (go_at_call 43; (with_reducible refine (HQ3.out _).mono ?_); rintro e' w2 ⟨rfl, rfl⟩)
            | (go_at_call 43; (with_reducible refine (HQ4.out _).mono ?_); rintro e' w2 ⟨rfl, rfl⟩)
            | (go_at_call 43; (with_reducible refine (HQ5.out _).mono ?_); rintro e' w2 ⟨rfl, rfl⟩))
          go_ret
          exact ⟨ret_bool HF.out.symm, HB0.out⟩
        · rcases b3 with _ | _
          · have HF : Hid (numsM ⟨k, c, b, e, v, u, l⟩ = false) := Lib.hid (by rw [HE.out, HK.out]; rfl)
            clear HE HK
            go_enter Try.func38, Try.ntmps38
            go_wp2_with (first
              | (go_at_call 43; (with_reducible refine (HQ1.out _).mono ?_); rintro e' w2 ⟨rfl, rfl⟩)
              | (go_at_call 43; (with_reducible refine (HQ2.out _).mono ?_); rintro e' w2 ⟨rfl, rfl⟩)
              | (go_at_call 43; (with_reducible refine (HQ3.out _).mono ?_); rintro e' w2 ⟨rfl, rfl⟩)
              | (go_at_call 43; (with_reducible refine (HQ4.out _).mono ?_); rintro e' w2 ⟨rfl, rfl⟩)
              | (go_at_call 43; (with_reducible refine (HQ5.out _).mono ?_); rintro e' w2 ⟨rfl, rfl⟩))
            go_ret
            exact ⟨ret_bool HF.out.symm, HB0.out⟩
          · rcases b4 with _ | _
            · have HF : Hid (numsM ⟨k, c, b, e, v, u, l⟩ = false) := Lib.hid (by rw [HE.out, HK.out]; rfl)
              clear HE HK
              go_enter Try.func38, Try.ntmps38
              go_wp2_with (first
                | (go_at_call 43; (with_reducible refine (HQ1.out _).mono ?_); rintro e' w2 ⟨rfl, rfl⟩)
                | (go_at_call 43; (with_reducible refine (HQ2.out _).mono ?_); rintro e' w2 ⟨rfl, rfl⟩)
                | (go_at_call 43; (with_reducible refine (HQ3.out _).mono ?_); rintro e' w2 ⟨rfl, rfl⟩)
                | (go_at_call 43; (with_reducible refine (HQ4.out _).mono ?_); rintro e' w2 ⟨rfl, rfl⟩)
                | (go_at_call 43; (with_reducible refine (HQ5.out _).mono ?_); rintro e' w2 ⟨rfl, rfl⟩))
              go_ret
              exact ⟨ret_bool HF.out.symm, HB0.out⟩
            · have HF : Hid (numsM ⟨k, c, b, e, v, u, l⟩ = b5) := Lib.hid (by rw [HE.out, HK.out]; rfl)
              clear HE HK
              go_enter Try.func38, Try.ntmps38
              go_wp2_with (first
                | (go_at_call 43; (with_reducible refine (HQ1.out _).mono ?_); rintro e' w2 ⟨rfl, rfl⟩)
                | (go_at_call 43; (with_reducible refine (HQ2.out _).mono ?_); rintro e' w2 ⟨rfl, rfl⟩)
                | (go_at_call 43; (with_reducible refine (HQ3.out _).mono ?_); rintro e' w2 ⟨rfl, rfl⟩)
                | (go_at_call 43; (with_reducible refine (HQ4.out _).mono ?_); rintro e' w2 ⟨rfl, rfl⟩)
                | (go_at_call 43; (with_reducible refine (HQ5.out _).mono ?_); rintro e' w2 ⟨rfl, rfl⟩))
              go_ret
              exact ⟨ret_bool HF.out.symm, HB0.out⟩
    · have kk3 : (k == 2) = false := by simpa using h2
      have HF : Hid (numsM ⟨k, c, b, e, v, u, l⟩ = false) := Lib.hid (by rw [HE.out, decide_eq_false h1, decide_eq_false h2]; rfl)
      clear h1 h2 HE
      go_enter Try.func38, Try.ntmps38
      go_wp2_with (first
        | (go_at_call 43; (with_reducible refine (HQ1.out _).mono ?_); rintro e' w2 ⟨rfl, rfl⟩)
        | (go_at_call 43; (with_reducible refine (HQ2.out _).mono ?_); rintro e' w2 ⟨rfl, rfl⟩)
        | (go_at_call 43; (with_reducible refine (HQ3.out _).mono ?_); rintro e' w2 ⟨rfl, rfl⟩)
        | (go_at_call 43; (with_reducible refine (HQ4.out _).mono ?_); rintro e' w2 ⟨rfl, rfl⟩)
        | (go_at_call 43; (with_reducible refine (HQ5.out _).mono ?_); rintro e' w2 ⟨rfl, rfl⟩))
      go_ret
      exact ⟨ret_bool HF.out.symm, HB0.out⟩
set_option maxRecDepth 100000 in
set_option maxHeartbeats 4000000 in
theorem binds_right_any (a : Option Addr) (n cap : Nat) (l : List Bd) (w : World) (hb : BindsAt w (· < w.heap.size) a n l) (hn : n ≤ 1048576) :
    Calls Try.prog 39 #[.slice a n cap] w fun e w' => e = .returned (.bool (rightL l)) ∧ Below w.heap.size w w' := by
  have HL : Hid (l.length = n) := Lib.hid hb.1
  have HB := Lib.hid hb
  clear hb
  by_cases hl : 64 < n
  · have HE : Hid (rightL l = false) := Lib.hid (right_long (by rw [HL.out]; exact hl))
    have d1 : decide ((64 : Int) < (n : Int)) = true := decide_eq_true (by omega)
    go_enter Try.func39, Try.ntmps39
    go_wp2
    go_ret
    exact ⟨ret_bool HE.out.symm, Below.refl _ _⟩
  · have d1 : decide ((64 : Int) < (n : Int)) = false := decide_eq_false (by omega)
    have HN64 : Hid (n ≤ 64) := Lib.hid (by omega)
    have hn64 : n ≤ 64 := by omega
    clear hl
    go_enter Try.func39, Try.ntmps39
    go_wp2
    go_loopw [10] (fun iv wr => ∃ i : Nat, i ≤ n ∧ iv = .int .i64 (i : Int) ∧ Below w.heap.size w wr ∧ (List.range i).all (stepB l) = true) (fun iv _ => n - (intOf iv).toNat)
    case atStart => exact ⟨0, Nat.zero_le _, rfl, Below.refl _ _, rfl⟩
    case round =>
      obtain ⟨i, hi, rfl, hW, hall⟩ := hrel
      have HALL := Lib.hid hall
      have HW := Lib.hid hW
      have hsz := hW.size
      clear hall hW
      by_cases hlt : i < n
      · have hil : i < l.length := by rw [HL.out]; exact hlt
        obtain ⟨g, off, rfl, hgw, hcl⟩ := HB.out.bind hlt
        obtain ⟨p0, p1, p2⟩ := hcl i hil
        replace p0 := (HW.out.cell (p := ⟨g, off + i * 3, none⟩) hgw).trans p0
        replace p1 := (HW.out.cell (p := ⟨g, off + i * 3 + 1, none⟩) hgw).trans p1
        replace p2 := (HW.out.cell (p := ⟨g, off + i * 3 + 2, none⟩) hgw).trans p2
        have hgr := Nat.lt_of_lt_of_le hgw hsz
        have HST := Lib.hid (step_eq hil)
        have HNO : Hid (stepB l i = false → rightL l = false) := Lib.hid (step_no hil)
        obtain ⟨x, hx⟩ : ∃ x, l[i] = x := ⟨_, rfl⟩
        rw [hx] at p0 p1 p2 HST
        have HS0 : Hid (i = 0 → stepB l i = okBd x) := Lib.hid fun h0 => by rw [HST.out, decide_eq_true h0]; simp
        have HPREV : Hid (0 < i → ∃ y : Bd, stepB l i = (okBd x && upB y x) ∧ wr.cell? ⟨g, off + (i - 1) * 3, none⟩ = some (.string (S y.work)) ∧ wr.cell? ⟨g, off + (i - 1) * 3 + 1, none⟩ = some (.string (S y.node)) ∧ wr.cell? ⟨g, off + (i - 1) * 3 + 2, none⟩ = some (.int .i64 y.cnt)) := Lib.hid fun h0 => by
          obtain ⟨q0, q1, q2⟩ := hcl (i - 1) (by omega)
          exact ⟨_, by rw [HST.out, decide_eq_false (by omega), Bool.false_or], (HW.out.cell (p := ⟨g, off + (i - 1) * 3, none⟩) hgw).trans q0, (HW.out.cell (p := ⟨g, off + (i - 1) * 3 + 1, none⟩) hgw).trans q1, (HW.out.cell (p := ⟨g, off + (i - 1) * 3 + 2, none⟩) hgw).trans q2⟩
        have HOK : Hid (okBd x = false → stepB l i = false) := Lib.hid fun h => by rw [HST.out, h, Bool.false_and]
        have hi0 : (0 : Int) ≤ (i : Int) := by omega
        have hi1 : (i : Int) < (n : Int) := by omega
        have HU : Hid (i + 1 ≤ n) := Lib.hid hlt
        have HW1 := Lib.hid (HW.out.alloc hsz (.cells #[.string (S x.work), .string (S x.node), .int .i64 x.cnt] 35))
        have hnb := new_at wr (.cells #[.string (S x.work), .string (S x.node), .int .i64 x.cnt] 35)
        have n0 : (wr.alloc (.cells #[.string (S x.work), .string (S x.node), .int .i64 x.cnt] 35)).drew.cell? ⟨wr.heap.size, 0, none⟩ = some (.string (S x.work)) := cell_of_row _ _ 0 _ _ _ hnb
        have n1 : (wr.alloc (.cells #[.string (S x.work), .string (S x.node), .int .i64 x.cnt] 35)).drew.cell? ⟨wr.heap.size, 1, none⟩ = some (.string (S x.node)) := cell_of_row _ _ 1 _ _ _ hnb
        have n2 : (wr.alloc (.cells #[.string (S x.work), .string (S x.node), .int .i64 x.cnt] 35)).drew.cell? ⟨wr.heap.size, 2, none⟩ = some (.int .i64 x.cnt) := cell_of_row _ _ 2 _ _ _ hnb
        obtain ⟨ob, hob⟩ : ∃ ob, okBd x = ob := ⟨_, rfl⟩
        have HQ1 : Hid (∀ W, Calls Try.prog 44 #[.agg #[.string (S x.work), .string (S x.node), .int .i64 x.cnt]] W fun e w' => e = .returned (.bool ob) ∧ Below W.heap.size W w') := Lib.hid fun W => by rw [← hob]; exact isbind_any _ W
        have HOB := Lib.hid hob
        have hls : wr.heap.size < (wr.alloc (.cells #[.string (S x.work), .string (S x.node), .int .i64 x.cnt] 35)).drew.heap.size := by simp
        have hlg : g < (wr.alloc (.cells #[.string (S x.work), .string (S x.node), .int .i64 x.cnt] 35)).drew.heap.size := by simp; omega
        clear hcl hx hgw HST hil hnb hob
        go_upto_region 6 with fail
        obtain ⟨W0, hW0⟩ : ∃ W0, wr.alloc (.cells #[.string (S x.work), .string (S x.node), .int .i64 x.cnt] 35) = W0 := ⟨_, rfl⟩
        by_cases h0 : i = 0
        · have dz : decide ((0 : Int) < (i : Int)) = false := decide_eq_false (by omega)
          have dzn : decide (0 < i) = false := decide_eq_false (by omega)
          have HC : Hid (ob = true → (List.range (i + 1)).all (stepB l) = true) := Lib.hid fun h => all_step HALL.out (by rw [HS0.out h0, HOB.out, h])
          have HF : Hid (ob = false → rightL l = false) := Lib.hid fun h => HNO.out (HOK.out (by rw [HOB.out, h]))
          clear HPREV h0 HS0
          rw [hW0] at n0 n1 n2 hls hlg HW1 ⊢
          clear hW0
          refine region_mix (fun W => W.cell? ⟨wr.heap.size, 0, none⟩ = some (.string (S x.work)) ∧ W.cell? ⟨wr.heap.size, 1, none⟩ = some (.string (S x.node)) ∧ W.cell? ⟨wr.heap.size, 2, none⟩ = some (.int .i64 x.cnt)) (13) (.reads [0] (.only 1 (.reads [2, 3, 4, 5, 6, 7, 8, 9, 10, 11, 12] (.only 13 (.only 14 (.only 15 (.only 16 (.stop)))))))) (by kernel_rfl) (by kernel_rfl) (⟨n0, n1, n2⟩) ?_
          repeat (
            refine plan_read rfl (fun K hK => ?_)
            first
              | (refine plan_neg ?_ ?_
                 focus (first | (go_simp; done) | (go_simp; decide))
                 go_simp
                 refine hK _ ?_
                 clear hK K)
              | (apply plan_pos
                 focus (go_simp; done)
                 focus (
                   intro W hW
                   (obtain ⟨q0, q1, q2⟩ := hW)
                   go_simp
                   first
                     | done
                     | exact rfl)
                 go_simp
                 refine hK _ ?_
                 clear hK K))
          refine plan_only rfl (fun Q hQ => ?_)
          go_wp2_with (go_at_call 44; (with_reducible refine (HQ1.out _).mono ?_); rintro e w2 ⟨rfl, hb2⟩; have HB2 := Lib.hid hb2; clear hb2)
          refine hQ _ _ (fun _ => ⟨(HB2.out.cell (p := ⟨wr.heap.size, 0, none⟩) hls).trans n0, (HB2.out.cell (p := ⟨wr.heap.size, 1, none⟩) hls).trans n1, (HB2.out.cell (p := ⟨wr.heap.size, 2, none⟩) hls).trans n2⟩) ?_
          clear hQ Q
          have HWF : Hid (Below w.heap.size w w2) := Lib.hid (HW1.out.drew.trans (HB2.out.mono (HW1.out.drew.size)))
          rcases ob with _ | _
          · skip
            have HF1 : Hid (rightL l = false) := Lib.hid (by first | exact HF.out rfl | exact HF.out trivial)
            repeat (
              refine plan_read rfl (fun K hK => ?_)
              first
                | (refine plan_neg ?_ ?_
                   focus (first | (go_simp; done) | (go_simp; decide))
                   go_simp
                   refine hK _ ?_
                   clear hK K)
                | (apply plan_pos
                   focus (go_simp; done)
                   focus (
                     intro W hW
                     (obtain ⟨q0, q1, q2⟩ := hW)
                     go_simp
                     first
                       | done
                       | exact rfl)
                   go_simp
                   refine hK _ ?_
                   clear hK K))
            refine plan_only rfl (fun Q hQ => ?_)
            go_wp2
            refine hQ _ _ (fun h => absurd h (by omega)) ?_
            clear hQ Q
            refine plan_only rfl (fun Q hQ => ?_)
            go_wp2
            refine hQ _ _ (fun h => absurd h (by omega)) ?_
            clear hQ Q
            refine plan_only rfl (fun Q hQ => ?_)
            go_wp2
            refine hQ _ _ (fun h => absurd h (by omega)) ?_
            clear hQ Q
            refine plan_only rfl (fun Q hQ => ?_)
            go_wp2
            refine hQ _ _ (fun h => absurd h (by omega)) ?_
            clear hQ Q
            unfold Plan.wp
            go_wp2
            go_ret
            exact ⟨ret_bool HF1.out.symm, HWF.out⟩
          · skip
            have HC1 := Lib.hid (HC.out rfl)
            repeat (
              refine plan_read rfl (fun K hK => ?_)
              first
                | (refine plan_neg ?_ ?_
                   focus (first | (go_simp; done) | (go_simp; decide))
                   go_simp
                   refine hK _ ?_
                   clear hK K)
                | (apply plan_pos
                   focus (go_simp; done)
                   focus (
                     intro W hW
                     (obtain ⟨q0, q1, q2⟩ := hW)
                     go_simp
                     first
                       | done
                       | exact rfl)
                   go_simp
                   refine hK _ ?_
                   clear hK K))
            refine plan_only rfl (fun Q hQ => ?_)
            go_wp2
            refine hQ _ _ (fun h => absurd h (by omega)) ?_
            clear hQ Q
            refine plan_only rfl (fun Q hQ => ?_)
            go_wp2
            refine hQ _ _ (fun h => absurd h (by omega)) ?_
            clear hQ Q
            refine plan_only rfl (fun Q hQ => ?_)
            go_wp2
            refine hQ _ _ (fun h => absurd h (by omega)) ?_
            clear hQ Q
            refine plan_only rfl (fun Q hQ => ?_)
            go_wp2
            refine hQ _ _ (fun h => absurd h (by omega)) ?_
            clear hQ Q
            unfold Plan.wp
            go_wp2
            go_roundw
            case rel => exact ⟨i + 1, HU.out, by go_num, HWF.out, HC1.out⟩
            case measure => simp [intOf]; omega
        · obtain ⟨y, hy, q0, q1, q2⟩ := HPREV.out (by omega)
          obtain ⟨j, hj⟩ : ∃ j : Nat, i - 1 = j := ⟨_, rfl⟩
          rw [hj] at q0 q1 q2
          have r0 : (wr.alloc (.cells #[.string (S x.work), .string (S x.node), .int .i64 x.cnt] 35)).drew.cell? ⟨g, off + j * 3, none⟩ = some (.string (S y.work)) := (World.cell?_alloc_lt wr _ ⟨g, off + j * 3, none⟩ hgr).trans q0
          have r1 : (wr.alloc (.cells #[.string (S x.work), .string (S x.node), .int .i64 x.cnt] 35)).drew.cell? ⟨g, off + j * 3 + 1, none⟩ = some (.string (S y.node)) := (World.cell?_alloc_lt wr _ ⟨g, off + j * 3 + 1, none⟩ hgr).trans q1
          have r2 : (wr.alloc (.cells #[.string (S x.work), .string (S x.node), .int .i64 x.cnt] 35)).drew.cell? ⟨g, off + j * 3 + 2, none⟩ = some (.int .i64 y.cnt) := (World.cell?_alloc_lt wr _ ⟨g, off + j * 3 + 2, none⟩ hgr).trans q2
          have hj0 : (0 : Int) ≤ (j : Int) := by omega
          have hjn : (j : Int) < (n : Int) := by omega
          have ej : (i : Int) - 1 = (j : Int) := by omega
          have ewj : IntKind.i64.wrap (j : Int) = (j : Int) := IntWalk.i64_in _ ⟨by omega, by omega⟩
          have ewi : IntKind.i64.wrap ((i : Int) - 1) = (j : Int) := by rw [ej]; exact ewj
          have dz : decide ((0 : Int) < (i : Int)) = true := decide_eq_true (by omega)
          have dzn : decide (0 < i) = true := decide_eq_true (by omega)
          have HY : Hid (stepB l i = (okBd x && upB y x)) := Lib.hid hy
          have HF : Hid (ob = false → rightL l = false) := Lib.hid fun h => HNO.out (HOK.out (by rw [HOB.out, h]))
          have HF2 : Hid (upB y x = false → rightL l = false) := Lib.hid fun h => HNO.out (by rw [HY.out, h, Bool.and_false])
          have HC : Hid (ob = true → upB y x = true → (List.range (i + 1)).all (stepB l) = true) := Lib.hid fun h h' => all_step HALL.out (by rw [HY.out, HOB.out, h, h']; rfl)
          clear HPREV h0 HS0 hy hj HY HNO HOK
          rw [hW0] at n0 n1 n2 r0 r1 r2 hls hlg HW1 ⊢
          clear hW0
          refine region_mix (fun W => W.cell? ⟨wr.heap.size, 0, none⟩ = some (.string (S x.work)) ∧ W.cell? ⟨wr.heap.size, 1, none⟩ = some (.string (S x.node)) ∧ W.cell? ⟨wr.heap.size, 2, none⟩ = some (.int .i64 x.cnt) ∧ W.cell? ⟨g, off + j * 3, none⟩ = some (.string (S y.work)) ∧ W.cell? ⟨g, off + j * 3 + 1, none⟩ = some (.string (S y.node)) ∧ W.cell? ⟨g, off + j * 3 + 2, none⟩ = some (.int .i64 y.cnt)) (13) (.reads [0] (.only 1 (.reads [2, 3, 4, 5, 6, 7, 8, 9, 10, 11, 12] (.only 13 (.only 14 (.only 15 (.only 16 (.stop)))))))) (by kernel_rfl) (by kernel_rfl) (⟨n0, n1, n2, r0, r1, r2⟩) ?_
          repeat (
            refine plan_read rfl (fun K hK => ?_)
            first
              | (refine plan_neg ?_ ?_
                 focus (first | (go_simp; done) | (go_simp; decide))
                 go_simp
                 refine hK _ ?_
                 clear hK K)
              | (apply plan_pos
                 focus (go_simp; done)
                 focus (
                   intro W hW
                   (obtain ⟨q0, q1, q2, q3, q4, q5⟩ := hW)
                   go_simp
                   first
                     | done
                     | exact rfl)
                 go_simp
                 refine hK _ ?_
                 clear hK K))
          refine plan_only rfl (fun Q hQ => ?_)
          go_wp2_with (go_at_call 44; (with_reducible refine (HQ1.out _).mono ?_); rintro e w2 ⟨rfl, hb2⟩; have HB2 := Lib.hid hb2; clear hb2)
          refine hQ _ _ (fun _ => ⟨(HB2.out.cell (p := ⟨wr.heap.size, 0, none⟩) hls).trans n0, (HB2.out.cell (p := ⟨wr.heap.size, 1, none⟩) hls).trans n1, (HB2.out.cell (p := ⟨wr.heap.size, 2, none⟩) hls).trans n2, (HB2.out.cell (p := ⟨g, off + j * 3, none⟩) hlg).trans r0, (HB2.out.cell (p := ⟨g, off + j * 3 + 1, none⟩) hlg).trans r1, (HB2.out.cell (p := ⟨g, off + j * 3 + 2, none⟩) hlg).trans r2⟩) ?_
          clear hQ Q
          have HWF : Hid (Below w.heap.size w w2) := Lib.hid (HW1.out.drew.trans (HB2.out.mono (HW1.out.drew.size)))
          rcases ob with _ | _
          · skip
            have HF1 : Hid (rightL l = false) := Lib.hid (by first | exact HF.out rfl | exact HF.out trivial)
            repeat (
              refine plan_read rfl (fun K hK => ?_)
              first
                | (refine plan_neg ?_ ?_
                   focus (first | (go_simp; done) | (go_simp; decide))
                   go_simp
                   refine hK _ ?_
                   clear hK K)
                | (apply plan_pos
                   focus (go_simp; done)
                   focus (
                     intro W hW
                     (obtain ⟨q0, q1, q2, q3, q4, q5⟩ := hW)
                     go_simp
                     first
                       | done
                       | exact rfl)
                   go_simp
                   refine hK _ ?_
                   clear hK K))
            refine plan_only rfl (fun Q hQ => ?_)
            go_wp2
            refine hQ _ _ (fun h => absurd h (by omega)) ?_
            clear hQ Q
            refine plan_only rfl (fun Q hQ => ?_)
            go_wp2
            refine hQ _ _ (fun h => absurd h (by omega)) ?_
            clear hQ Q
            refine plan_only rfl (fun Q hQ => ?_)
            go_wp2
            refine hQ _ _ (fun h => absurd h (by omega)) ?_
            clear hQ Q
            refine plan_only rfl (fun Q hQ => ?_)
            go_wp2
            refine hQ _ _ (fun h => absurd h (by omega)) ?_
            clear hQ Q
            unfold Plan.wp
            go_wp2
            go_ret
            exact ⟨ret_bool HF1.out.symm, HWF.out⟩
          · skip
            have HC1 := Lib.hid (HC.out rfl)
            repeat (
              refine plan_read rfl (fun K hK => ?_)
              first
                | (refine plan_neg ?_ ?_
                   focus (first | (go_simp; done) | (go_simp; decide))
                   go_simp
                   refine hK _ ?_
                   clear hK K)
                | (apply plan_pos
                   focus (go_simp; done)
                   focus (
                     intro W hW
                     (obtain ⟨q0, q1, q2, q3, q4, q5⟩ := hW)
                     go_simp
                     first
                       | done
                       | exact rfl)
                   go_simp
                   refine hK _ ?_
                   clear hK K))
            refine plan_only rfl (fun Q hQ => ?_)
            go_wp2_with (go_at_call 45; (with_reducible refine (compare_any y x _).mono ?_); rintro e w3 ⟨r, rfl, hr, hb3⟩; have HR3 := Lib.hid hr; have HB3 := Lib.hid hb3; clear hr hb3)
            refine hQ _ _ (fun h => absurd h (by omega)) ?_
            clear hQ Q
            have HWG : Hid (Below w.heap.size w w3) := Lib.hid (HWF.out.trans (HB3.out.mono HWF.out.size))
            by_cases hr0 : 0 ≤ r
            · have e1 : decide (0 ≤ r) = true := decide_eq_true hr0
              have HG : Hid (rightL l = false) := Lib.hid (HF2.out (HR3.out.1 hr0))
              clear hr0
              refine plan_only rfl (fun Q hQ => ?_)
              go_wp2
              refine hQ _ _ (fun h => absurd h (by omega)) ?_
              clear hQ Q
              refine plan_only rfl (fun Q hQ => ?_)
              go_wp2
              refine hQ _ _ (fun h => absurd h (by omega)) ?_
              clear hQ Q
              refine plan_only rfl (fun Q hQ => ?_)
              go_wp2
              refine hQ _ _ (fun h => absurd h (by omega)) ?_
              clear hQ Q
              unfold Plan.wp
              go_wp2
              go_ret
              exact ⟨ret_bool HG.out.symm, HWG.out⟩
            · have e1 : decide (0 ≤ r) = false := decide_eq_false hr0
              have HG : Hid ((List.range (i + 1)).all (stepB l) = true) := Lib.hid (HC1.out (by
                cases h : upB y x
                · exact absurd (HR3.out.2 h) hr0
                · rfl))
              clear hr0
              refine plan_only rfl (fun Q hQ => ?_)
              go_wp2
              refine hQ _ _ (fun h => absurd h (by omega)) ?_
              clear hQ Q
              refine plan_only rfl (fun Q hQ => ?_)
              go_wp2
              refine hQ _ _ (fun h => absurd h (by omega)) ?_
              clear hQ Q
              refine plan_only rfl (fun Q hQ => ?_)
              go_wp2
              refine hQ _ _ (fun h => absurd h (by omega)) ?_
              clear hQ Q
              unfold Plan.wp
              go_wp2
              go_roundw
              case rel => exact ⟨i + 1, HU.out, by go_num, HWG.out, HG.out⟩
              case measure => simp [intOf]; omega
      · obtain rfl : i = n := by omega
        have HF : Hid (rightL l = true) := Lib.hid (right_yes (by rw [HL.out]; exact HN64.out) (by rw [HL.out]; exact HALL.out))
        clear hlt
        go_wp2
        go_ret
        exact ⟨ret_bool HF.out.symm, HW.out⟩
theorem right_any (k c b e v u : Int) (a : Option Addr) (n cap : Nat) (l : List Bd) (w : World) (hb : BindsAt w (· < w.heap.size) a n l) (hn : n ≤ 1048576) :
    Calls Try.prog 29 #[msgV k c b e v u a n cap] w fun e' w' => e' = .returned (.bool (rightM ⟨k, c, b, e, v, u, l⟩)) ∧ Below w.heap.size w w' := by
  have hnew := new_at w (msgO k c b e v u a n cap)
  obtain ⟨c0, c1, c2, c3, c4, c5, c6, _, hg⟩ := msg_cells hnew
  have hb0 : Below w.heap.size w (w.alloc (msgO k c b e v u a n cap)) := (Below.refl _ w).alloc (Nat.le_refl _) _
  have HNEW := Lib.hid hnew
  have HB0 := Lib.hid hb0
  have HB := Lib.hid hb
  have HN := Lib.hid hn
  obtain ⟨b1, hb1⟩ : ∃ y, numsM ⟨k, c, b, e, v, u, l⟩ = y := ⟨_, rfl⟩
  have HQ1 : Hid (∀ W, Calls Try.prog 38 #[msgV k c b e v u a n cap] W fun e' w' => e' = .returned (.bool b1) ∧ Below W.heap.size W w') := Lib.hid fun W => by rw [← hb1]; exact numbers_any k c b e v u a n cap l W
  have HE : Hid (rightM ⟨k, c, b, e, v, u, l⟩ = (b1 && rightL l)) := Lib.hid (by unfold rightM; rw [hb1])
  clear hb hn hb0 hnew hb1
  rcases b1 with _ | _
  · have HF : Hid (rightM ⟨k, c, b, e, v, u, l⟩ = false) := Lib.hid (by rw [HE.out]; rfl)
    go_enter Try.func29, Try.ntmps29
    go_wp2_with (go_at_call 38; (with_reducible refine (HQ1.out _).mono ?_); rintro e' w1 ⟨rfl, hb1⟩; have HB1 := Lib.hid hb1; clear hb1)
    go_ret
    exact ⟨ret_bool HF.out.symm, bt HB0.out HB1.out⟩
  · have HF : Hid (rightM ⟨k, c, b, e, v, u, l⟩ = rightL l) := Lib.hid (by rw [HE.out]; rfl)
    go_enter Try.func29, Try.ntmps29
    go_wp2_with (first
      | (go_at_call 38; (with_reducible refine (HQ1.out _).mono ?_); rintro e' w1 ⟨rfl, hb1⟩; have HB1 := Lib.hid hb1; obtain ⟨_, _, _, _, _, _, e6, _, hg1⟩ := msg_cells ((hb1.block _ (Array.getElem?_eq_some_iff.1 HNEW.out).1).trans HNEW.out); clear hb1)
      | (go_at_call 39; (have hc := binds_right_any a n cap l _ ((HB.out.keep fun _ h => (bt HB0.out HB1.out).block _ h).imp fun _ h => Nat.lt_of_lt_of_le h (bt HB0.out HB1.out).size) HN.out; with_reducible refine hc.mono ?_); rintro e' w2 ⟨rfl, hb2⟩; have HB2 := Lib.hid hb2; clear hb2 hc))
    go_ret
    exact ⟨ret_bool HF.out.symm, bt (bt HB0.out HB1.out) HB2.out⟩
end Go.Proofs.Ytbbogkmibiealaa
