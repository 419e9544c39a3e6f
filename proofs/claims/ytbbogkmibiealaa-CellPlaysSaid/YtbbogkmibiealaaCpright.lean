/-
  The program's Right: isFrom, hasNumbers, isBind, compare.
-/
import Derived.Deep.DeepCutAuto
import Derived.Test.YtbbogkmibiealaaCpname
import Derived.Test.YtbbogkmibiealaaCmem
import Derived.Test.YtbbogkmibiealaaMix
namespace Go.Proofs.Ytbbogkmibiealaa
open Go.RowKit Gm

theorem from_any (a n b : Int) (w : World) : Calls Try.prog 43 #[.int .i64 a, .int .i64 n, .int .i64 b] w fun e w' => e = .returned (.bool (frB a n b)) ∧ w = w' := by
  unfold frB
  by_cases h1 : a ≤ n
  · by_cases h2 : n ≤ b
    · have d1 : decide (a ≤ n) = true := decide_eq_true h1
      have d2 : decide (n ≤ b) = true := decide_eq_true h2
      have HE : Hid ((decide (a ≤ n) && decide (n ≤ b)) = true) := Lib.hid (by rw [d1, d2]; rfl)
      clear h1 h2
      go_enter Try.func43, Try.ntmps43
      go_wp2
      go_ret
      exact ⟨ret_bool (by first | rfl | exact HE.out.symm), rfl⟩
    · have d1 : decide (a ≤ n) = true := decide_eq_true h1
      have d2 : decide (n ≤ b) = false := decide_eq_false h2
      have HE : Hid ((decide (a ≤ n) && decide (n ≤ b)) = false) := Lib.hid (by rw [d1, d2]; rfl)
      clear h1 h2
      go_enter Try.func43, Try.ntmps43
      go_wp2
      go_ret
      exact ⟨ret_bool (by first | rfl | exact HE.out.symm), rfl⟩
  · have d1 : decide (a ≤ n) = false := decide_eq_false h1
    have HE : Hid ((decide (a ≤ n) && decide (n ≤ b)) = false) := Lib.hid (by rw [d1]; rfl)
    clear h1
    go_enter Try.func43, Try.ntmps43
    go_wp2
    go_ret
    exact ⟨ret_bool (by first | rfl | exact HE.out.symm), rfl⟩
theorem nan_any (x : Bs) (w : World) : Calls Try.prog 50 #[.string (S x)] w fun e w' => e = .returned (.bool false) ∧ w = w' := by
  go_enter Try.func50, Try.ntmps50
  go_wp2
  go_ret
  exact ⟨by first | rfl | simp, rfl⟩
def cmpB (x y : Bs) : Int := if lsB x y = true then -1 else if x = y then 0 else 1
theorem cmp_any (x y : Bs) (w : World) : Calls Try.prog 49 #[.string (S x), .string (S y)] w fun e w' => e = .returned (.int .i64 (cmpB x y)) ∧ w = w' := by
  have hew : ((S x).toList == (S y).toList) = decide (x = y) := S_beq _ _
  unfold cmpB lsB
  rcases hl : Op.bytesLess (S x).toList (S y).toList with _ | _
  · have hl' := hl
    rw [S_toList, S_toList] at hl'
    rw [hl', if_neg (by decide)]
    by_cases h : x = y
    · have e1 : ((S x).toList == (S y).toList) = true := by rw [hew]; exact decide_eq_true h
      rw [if_pos h]
      clear h hew hl'
      go_enter Try.func49, Try.ntmps49
      go_wp2_with (first
        | (go_at_call 50; (with_reducible refine (nan_any x _).mono ?_); rintro e w1 ⟨rfl, rfl⟩)
        | (go_at_call 50; (with_reducible refine (nan_any y _).mono ?_); rintro e w1 ⟨rfl, rfl⟩))
      go_ret
      exact ⟨rfl, rfl⟩
    · have e1 : ((S x).toList == (S y).toList) = false := by rw [hew]; exact decide_eq_false h
      rw [if_neg h]
      clear h hew hl'
      go_enter Try.func49, Try.ntmps49
      go_wp2_with (first
        | (go_at_call 50; (with_reducible refine (nan_any x _).mono ?_); rintro e w1 ⟨rfl, rfl⟩)
        | (go_at_call 50; (with_reducible refine (nan_any y _).mono ?_); rintro e w1 ⟨rfl, rfl⟩))
      go_ret
      exact ⟨rfl, rfl⟩
  · have hl' := hl
    rw [S_toList, S_toList] at hl'
    rw [hl', if_pos rfl]
    clear hew hl'
    go_enter Try.func49, Try.ntmps49
    go_wp2_with (first
      | (go_at_call 50; (with_reducible refine (nan_any x _).mono ?_); rintro e w1 ⟨rfl, rfl⟩)
      | (go_at_call 50; (with_reducible refine (nan_any y _).mono ?_); rintro e w1 ⟨rfl, rfl⟩))
    go_ret
    exact ⟨rfl, rfl⟩
theorem or_any (g : Nat) (p q : Int) (w : World) (h : w.heap[g]? = some (.cells #[.int .i64 p, .int .i64 q] 3 (0, 0))) :
    Calls Try.prog 48 #[.slice (some ⟨g, 0, none⟩) 2 2] w fun e w' => e = .returned (.int .i64 (if p = 0 then q else p)) ∧ w = w' := by
  have hg := (Array.getElem?_eq_some_iff.1 h).1
  have HC : Hid (∀ i, i < 2 → w.cell? ⟨g, i, none⟩ = some (.int .i64 (if i = 0 then p else q))) := Lib.hid fun i hi => by
    rcases (show i = 0 ∨ i = 1 by omega) with rfl | rfl
    · exact cell_of_row _ _ _ _ _ _ h
    · exact cell_of_row _ _ _ _ _ _ h
  obtain ⟨r, hr⟩ : ∃ r, (if p = 0 then q else p) = r := ⟨_, rfl⟩
  have HR := Lib.hid hr
  rw [hr]
  clear h hr
  go_enter Try.func48, Try.ntmps48
  go_wp2
  go_loopw [8] (fun iv wr => ∃ i : Nat, i ≤ 2 ∧ iv = .int .i64 (i : Int) ∧ w = wr ∧ (1 ≤ i → p = 0) ∧ (2 ≤ i → q = 0)) (fun iv _ => 2 - (intOf iv).toNat)
  case atStart => exact ⟨0, by omega, rfl, rfl, fun h => by omega, fun h => by omega⟩
  case round =>
    obtain ⟨i, hi, rfl, rfl, h1, h2⟩ := hrel
    have H1 := Lib.hid h1
    have H2 := Lib.hid h2
    clear h1 h2
    by_cases hlt : i < 2
    · have c0 := HC.out i hlt
      obtain ⟨x, hx⟩ : ∃ x, (if i = 0 then p else q) = x := ⟨_, rfl⟩
      rw [hx] at c0
      have HX := Lib.hid hx
      have hi0 : (0 : Int) ≤ (i : Int) := by omega
      have hi1 : (i : Int) < 2 := by omega
      have HU : Hid (i + 1 ≤ 2) := Lib.hid hlt
      clear hx
      by_cases hx0 : x = 0
      · have e1 : (x == 0) = true := by simpa using hx0
        have e2 : (x != 0) = false := by simpa using hx0
        have HN : Hid ((1 ≤ i + 1 → p = 0) ∧ (2 ≤ i + 1 → q = 0)) := Lib.hid (by
          have hx := HX.out
          rcases (show i = 0 ∨ i = 1 by omega) with rfl | rfl
          · simp at hx
            exact ⟨fun _ => by omega, fun h => by omega⟩
          · simp at hx
            exact ⟨fun _ => H1.out (by omega), fun _ => by omega⟩)
        clear hx0
        go_wp2
        go_roundw
        case rel => exact ⟨i + 1, HU.out, by go_num, by first | trivial | rfl, HN.out⟩
        case measure => simp [intOf]; omega
      · have e1 : (x == 0) = false := by simpa using hx0
        have e2 : (x != 0) = true := by simpa using hx0
        have HE : Hid (x = r) := Lib.hid (by
          have hx := HX.out
          have hr := HR.out
          rcases (show i = 0 ∨ i = 1 by omega) with rfl | rfl
          · simp at hx
            subst hx
            rw [if_neg hx0] at hr
            exact hr
          · simp at hx
            subst hx
            rw [if_pos (H1.out (by omega))] at hr
            exact hr)
        clear hx0
        go_wp2
        go_ret
        exact ⟨ret_int HE.out, rfl⟩
    · obtain rfl : i = 2 := by omega
      have HE : Hid (0 = r) := Lib.hid (by
        have hr := HR.out
        rw [if_pos (H1.out (by omega)), H2.out (by omega)] at hr
        exact hr)
      clear hlt
      go_wp2
      go_ret
      exact ⟨ret_int HE.out, rfl⟩
theorem cmp_up (a b : Bd) : (0 ≤ (if cmpB a.work b.work = 0 then cmpB a.node b.node else cmpB a.work b.work)) ↔ upB a b = false := by
  unfold cmpB upB lsB
  have hi := ls_irr b.work
  rcases h1 : Op.bytesLess a.work b.work with _ | _
  · by_cases h2 : a.work = b.work
    · rcases h3 : Op.bytesLess a.node b.node with _ | _
      · by_cases h4 : a.node = b.node <;> simp [h2, h4]
      · simp [h2]
    · simp [h2]
  · have h2 : a.work ≠ b.work := fun e => by rw [e, hi] at h1; cases h1
    simp
set_option maxRecDepth 100000 in
set_option maxHeartbeats 4000000 in
/-- compare: not below 0 where a does not stand ahead of b. -/
theorem compare_any (a b : Bd) (w : World) :
    Calls Try.prog 45 #[.agg #[.string (S a.work), .string (S a.node), .int .i64 a.cnt], .agg #[.string (S b.work), .string (S b.node), .int .i64 b.cnt]] w fun e w' => ∃ r, e = .returned (.int .i64 r) ∧ (0 ≤ r ↔ upB a b = false) ∧ Below w.heap.size w w' := by
  have HU := Lib.hid (cmp_up a b)
  obtain ⟨p, hp⟩ : ∃ p, cmpB a.work b.work = p := ⟨_, rfl⟩
  obtain ⟨q, hq⟩ : ∃ q, cmpB a.node b.node = q := ⟨_, rfl⟩
  have HP : Hid (∀ W, Calls Try.prog 49 #[.string (S a.work), .string (S b.work)] W fun e w' => e = .returned (.int .i64 p) ∧ W = w') := Lib.hid fun W => by rw [← hp]; exact cmp_any _ _ W
  have HQ : Hid (∀ W, Calls Try.prog 49 #[.string (S a.node), .string (S b.node)] W fun e w' => e = .returned (.int .i64 q) ∧ W = w') := Lib.hid fun W => by rw [← hq]; exact cmp_any _ _ W
  rw [hp, hq] at HU
  have hb1 : Below w.heap.size w (w.alloc (.cells #[.string (S a.work), .string (S a.node), .int .i64 a.cnt] 35)) := (Below.refl _ w).alloc (Nat.le_refl _) _
  have hb2 := hb1.alloc hb1.size (.cells #[.string (S b.work), .string (S b.node), .int .i64 b.cnt] 35)
  have ha := new_at w (.cells #[.string (S a.work), .string (S a.node), .int .i64 a.cnt] 35)
  have hb := new_at (w.alloc (.cells #[.string (S a.work), .string (S a.node), .int .i64 a.cnt] 35)) (.cells #[.string (S b.work), .string (S b.node), .int .i64 b.cnt] 35)
  have hsz : (w.alloc (.cells #[.string (S a.work), .string (S a.node), .int .i64 a.cnt] 35)).heap.size = w.heap.size + 1 := by simp
  have ha2 := (((Below.refl _ (w.alloc (.cells #[.string (S a.work), .string (S a.node), .int .i64 a.cnt] 35))).alloc (Nat.le_refl _) (.cells #[.string (S b.work), .string (S b.node), .int .i64 b.cnt] 35)).block w.heap.size (by omega)).trans ha
  rw [hsz] at hb
  have HB2 := Lib.hid hb2
  have k0 : ((w.alloc (.cells #[.string (S a.work), .string (S a.node), .int .i64 a.cnt] 35)).alloc (.cells #[.string (S b.work), .string (S b.node), .int .i64 b.cnt] 35)).drew.cell? ⟨w.heap.size, 0, none⟩ = some (.string (S a.work)) := cell_of_row _ _ _ _ _ _ ha2
  have k1 : ((w.alloc (.cells #[.string (S a.work), .string (S a.node), .int .i64 a.cnt] 35)).alloc (.cells #[.string (S b.work), .string (S b.node), .int .i64 b.cnt] 35)).drew.cell? ⟨w.heap.size, 1, none⟩ = some (.string (S a.node)) := cell_of_row _ _ _ _ _ _ ha2
  have k2 : ((w.alloc (.cells #[.string (S a.work), .string (S a.node), .int .i64 a.cnt] 35)).alloc (.cells #[.string (S b.work), .string (S b.node), .int .i64 b.cnt] 35)).drew.cell? ⟨w.heap.size + 1, 0, none⟩ = some (.string (S b.work)) := cell_of_row _ _ _ _ _ _ hb
  have k3 : ((w.alloc (.cells #[.string (S a.work), .string (S a.node), .int .i64 a.cnt] 35)).alloc (.cells #[.string (S b.work), .string (S b.node), .int .i64 b.cnt] 35)).drew.cell? ⟨w.heap.size + 1, 1, none⟩ = some (.string (S b.node)) := cell_of_row _ _ _ _ _ _ hb
  have HOR : Hid (∀ W : World, Calls Try.prog 48 #[.slice (some ⟨W.heap.size, 0, none⟩) 2 2] (W.alloc (.cells #[.int .i64 p, .int .i64 q] 3)).drew fun e w' => e = .returned (.int .i64 (if p = 0 then q else p)) ∧ (W.alloc (.cells #[.int .i64 p, .int .i64 q] 3)).drew = w') := Lib.hid fun W => or_any _ p q _ (new_at W _)
  obtain ⟨r, hr⟩ : ∃ r, (if p = 0 then q else p) = r := ⟨_, rfl⟩
  rw [hr] at HU HOR
  clear hp hq hb1 hb2 ha hb ha2 hr hsz
  go_enter Try.func45, Try.ntmps45
  go_upto_region 1 with fail
  obtain ⟨W0, hW0⟩ : ∃ W0, ((w.alloc (.cells #[.string (S a.work), .string (S a.node), .int .i64 a.cnt] 35)).alloc (.cells #[.string (S b.work), .string (S b.node), .int .i64 b.cnt] 35)) = W0 := ⟨_, rfl⟩
  rw [hW0] at k0 k1 k2 k3 HB2 ⊢
  clear hW0
  refine region_mix (fun W => W.cell? ⟨w.heap.size, 0, none⟩ = some (.string (S a.work)) ∧ W.cell? ⟨w.heap.size, 1, none⟩ = some (.string (S a.node)) ∧ W.cell? ⟨w.heap.size + 1, 0, none⟩ = some (.string (S b.work)) ∧ W.cell? ⟨w.heap.size + 1, 1, none⟩ = some (.string (S b.node))) (9) (.reads [0, 1, 2, 3, 5, 6, 7, 8] (.only 4 (.only 9 (.only 10 (.only 11 (.only 12 (.stop))))))) (by kernel_rfl) (by kernel_rfl) (⟨k0, k1, k2, k3⟩) ?_
  repeat (
    refine plan_read rfl (fun K hK => ?_)
    first
      | (refine plan_neg ?_ ?_
         focus (first | (go_simp; done) | (go_simp; decide))
         go_simp
         refine hK _ ?_
         clear hK K)
      | (apply plan_pos
         focus (go_simp; done)
         focus (
           intro W hW
           (obtain ⟨q0, q1, q2, q3⟩ := hW)
           go_simp
           first
             | done
             | exact rfl)
         go_simp
         refine hK _ ?_
         clear hK K))
  refine plan_only rfl (fun Q hQ => ?_)
  go_wp2_with (go_at_call 49; (with_reducible refine (HP.out _).mono ?_); rintro e w1 ⟨rfl, rfl⟩)
  refine hQ _ _ (fun _ => ⟨k0, k1, k2, k3⟩) ?_
  clear hQ Q
  refine plan_only rfl (fun Q hQ => ?_)
  go_wp2_with (go_at_call 49; (with_reducible refine (HQ.out _).mono ?_); rintro e w1 ⟨rfl, rfl⟩)
  refine hQ _ _ (fun h => absurd h (by omega)) ?_
  clear hQ Q
  refine plan_only rfl (fun Q hQ => ?_)
  go_wp2
  refine hQ _ _ (fun h => absurd h (by omega)) ?_
  clear hQ Q
  have HBF := Lib.hid (HB2.out.alloc HB2.out.size (.cells #[.int .i64 p, .int .i64 q] 3)).drew
  refine plan_only rfl (fun Q hQ => ?_)
  go_wp2_with (go_at_call 48; (with_reducible refine (HOR.out _).mono ?_); rintro e w1 ⟨rfl, rfl⟩)
  refine hQ _ _ (fun h => absurd h (by omega)) ?_
  clear hQ Q
  refine plan_only rfl (fun Q hQ => ?_)
  go_wp2
  refine hQ _ _ (fun h => absurd h (by omega)) ?_
  clear hQ Q
  unfold Plan.wp
  go_wp2
  go_ret
  exact ⟨_, rfl, HU.out, HBF.out⟩
set_option maxRecDepth 100000 in
set_option maxHeartbeats 4000000 in
theorem isbind_any (x : Bd) (w : World) : Calls Try.prog 44 #[.agg #[.string (S x.work), .string (S x.node), .int .i64 x.cnt]] w fun e w' => e = .returned (.bool (okBd x)) ∧ Below w.heap.size w w' := by
  have hb1 : Below w.heap.size w (w.alloc (.cells #[.string (S x.work), .string (S x.node), .int .i64 x.cnt] 35)) := (Below.refl _ w).alloc (Nat.le_refl _) _
  have hx := new_at w (.cells #[.string (S x.work), .string (S x.node), .int .i64 x.cnt] 35)
  have hl : w.heap.size < (w.alloc (.cells #[.string (S x.work), .string (S x.node), .int .i64 x.cnt] 35)).heap.size := by simp
  obtain ⟨b1, hb⟩ : ∃ b1, nameB x.work = b1 := ⟨_, rfl⟩
  obtain ⟨b2, hb'⟩ : ∃ b2, nameB x.node = b2 := ⟨_, rfl⟩
  obtain ⟨b3, hb''⟩ : ∃ b3, frB 1 x.cnt 1000 = b3 := ⟨_, rfl⟩
  have HQ1 : Hid (∀ W, Calls Try.prog 47 #[.string (S x.work)] W fun e w' => e = .returned (.bool b1) ∧ Below W.heap.size W w') := Lib.hid fun W => by rw [← hb]; exact name_any _ W
  have HQ2 : Hid (∀ W, Calls Try.prog 47 #[.string (S x.node)] W fun e w' => e = .returned (.bool b2) ∧ Below W.heap.size W w') := Lib.hid fun W => by rw [← hb']; exact name_any _ W
  have HQ3 : Hid (∀ W, Calls Try.prog 43 #[.int .i64 1, .int .i64 x.cnt, .int .i64 1000] W fun e w' => e = .returned (.bool b3) ∧ W = w') := Lib.hid fun W => by rw [← hb'']; exact from_any _ _ _ W
  have HE : Hid (okBd x = (b1 && b2 && b3)) := Lib.hid (by unfold okBd; rw [hb, hb', hb''])
  have HX := Lib.hid hx
  have HB1 := Lib.hid hb1
  have HL := Lib.hid hl
  clear hb hb' hb'' hb1 hx hl
  have HCELL : Hid (∀ W, Below (w.alloc (.cells #[.string (S x.work), .string (S x.node), .int .i64 x.cnt] 35)).heap.size (w.alloc (.cells #[.string (S x.work), .string (S x.node), .int .i64 x.cnt] 35)) W → W.cell? ⟨w.heap.size, 0, none⟩ = some (.string (S x.work)) ∧ W.cell? ⟨w.heap.size, 1, none⟩ = some (.string (S x.node)) ∧ W.cell? ⟨w.heap.size, 2, none⟩ = some (.int .i64 x.cnt) ∧ w.heap.size < W.heap.size) := Lib.hid fun W hb => by
    have h := (hb.block w.heap.size HL.out).trans HX.out
    exact ⟨cell_of_row _ _ _ _ _ _ h, cell_of_row _ _ _ _ _ _ h, cell_of_row _ _ _ _ _ _ h, (Array.getElem?_eq_some_iff.1 h).1⟩
  obtain ⟨W0, hW0⟩ : ∃ W, w.alloc (.cells #[.string (S x.work), .string (S x.node), .int .i64 x.cnt] 35) = W := ⟨_, rfl⟩
  obtain ⟨k0, k1, k2, kl⟩ := HCELL.out _ (Below.refl _ _)
  rcases b1 with _ | _
  · have HF : Hid (okBd x = false) := Lib.hid (by rw [HE.out]; rfl)
    clear hW0
    go_enter Try.func44, Try.ntmps44
    go_wp2_with (go_at_call 47; (with_reducible refine (HQ1.out _).mono ?_); rintro e w1 ⟨rfl, hb1⟩; have HB2 := Lib.hid hb1; clear hb1)
    go_ret
    exact ⟨ret_bool HF.out.symm, bt HB1.out HB2.out⟩
  · rcases b2 with _ | _
    · have HF : Hid (okBd x = false) := Lib.hid (by rw [HE.out]; rfl)
      clear hW0
      go_enter Try.func44, Try.ntmps44
      go_wp2_with (first
        | (go_at_call 47; (with_reducible refine (HQ1.out _).mono ?_); rintro e w1 ⟨rfl, hb1⟩; have HB2 := Lib.hid hb1; obtain ⟨d0, d1, d2, dl⟩ := HCELL.out _ hb1; clear hb1)
        | (go_at_call 47; (with_reducible refine (HQ2.out _).mono ?_); rintro e w2 ⟨rfl, hb2⟩; have HB3 := Lib.hid hb2; clear hb2))
      go_ret
      exact ⟨ret_bool HF.out.symm, bt (bt HB1.out HB2.out) HB3.out⟩
    · have HF : Hid (okBd x = b3) := Lib.hid (by rw [HE.out]; rfl)
      clear hW0
      go_enter Try.func44, Try.ntmps44
      go_wp2_with (first
        | (go_at_call 47; (with_reducible refine (HQ1.out _).mono ?_); rintro e w1 ⟨rfl, hb1⟩; have HB2 := Lib.hid hb1; obtain ⟨d0, d1, d2, dl⟩ := HCELL.out _ hb1; clear hb1)
        | (go_at_call 47; (with_reducible refine (HQ2.out _).mono ?_); rintro e w2 ⟨rfl, hb2⟩; have HB3 := Lib.hid hb2; obtain ⟨e0, e1, e2, el⟩ := HCELL.out _ (bt HB2.out hb2); clear hb2)
        | (go_at_call 43; (with_reducible refine (HQ3.out _).mono ?_); rintro e w3 ⟨rfl, rfl⟩))
      go_ret
      exact ⟨ret_bool HF.out.symm, bt (bt HB1.out HB2.out) HB3.out⟩
end Go.Proofs.Ytbbogkmibiealaa
