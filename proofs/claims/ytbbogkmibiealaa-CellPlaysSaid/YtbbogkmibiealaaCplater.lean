/-
  The program's comparison of stamps.
-/
import Derived.Test.YtbbogkmibiealaaCcell
namespace Go.Proofs.Ytbbogkmibiealaa
open Go.RowKit Gm

def cmpI (x y : Int) : Int := if x < y then -1 else if y < x then 1 else 0
theorem nani_any (x : Int) (w : World) : Calls Try.prog 46 #[.int .i64 x] w fun e w' => e = .returned (.bool false) ∧ w = w' := by
  go_enter Try.func46, Try.ntmps46
  go_wp2
  go_ret
  exact ⟨by first | rfl | simp, rfl⟩
theorem cmpi_any (x y : Int) (w : World) : Calls Try.prog 40 #[.int .i64 x, .int .i64 y] w fun e w' => e = .returned (.int .i64 (cmpI x y)) ∧ w = w' := by
  unfold cmpI
  by_cases h1 : x < y
  · have d1 : decide (x < y) = true := decide_eq_true h1
    rw [if_pos h1]
    clear h1
    go_enter Try.func40, Try.ntmps40
    go_wp2_with (first
      | (go_at_call 46; (with_reducible refine (nani_any x _).mono ?_); rintro e w1 ⟨rfl, rfl⟩)
      | (go_at_call 46; (with_reducible refine (nani_any y _).mono ?_); rintro e w1 ⟨rfl, rfl⟩))
    go_ret
    exact ⟨rfl, rfl⟩
  · have d1 : decide (x < y) = false := decide_eq_false h1
    rw [if_neg h1]
    by_cases h2 : y < x
    · have d2 : decide (y < x) = true := decide_eq_true h2
      rw [if_pos h2]
      clear h1 h2
      go_enter Try.func40, Try.ntmps40
      go_wp2_with (first
        | (go_at_call 46; (with_reducible refine (nani_any x _).mono ?_); rintro e w1 ⟨rfl, rfl⟩)
        | (go_at_call 46; (with_reducible refine (nani_any y _).mono ?_); rintro e w1 ⟨rfl, rfl⟩))
      go_ret
      exact ⟨rfl, rfl⟩
    · have d2 : decide (y < x) = false := decide_eq_false h2
      rw [if_neg h2]
      clear h1 h2
      go_enter Try.func40, Try.ntmps40
      go_wp2_with (first
        | (go_at_call 46; (with_reducible refine (nani_any x _).mono ?_); rintro e w1 ⟨rfl, rfl⟩)
        | (go_at_call 46; (with_reducible refine (nani_any y _).mono ?_); rintro e w1 ⟨rfl, rfl⟩))
      go_ret
      exact ⟨rfl, rfl⟩
/-- Two pairs, by their first numbers and then by their second ones. -/
def cmp2 (e v x y : Int) : Int := if cmpI e x = 0 then cmpI v y else cmpI e x
def laterB (e v x y : Int) : Bool := decide (x < e) || (decide (e = x) && decide (y < v))
theorem cmp2_later (e v x y : Int) : decide (0 < cmp2 e v x y) = laterB e v x y := by
  unfold cmp2 cmpI laterB
  by_cases h1 : e < x <;> by_cases h2 : x < e <;> by_cases h3 : v < y <;> by_cases h4 : y < v <;> first | (exfalso; omega) | (simp [h1, h2, h3, h4]; try omega)
theorem compare2_any (g g' : Nat) (e v x y : Int) (w : World) (h : w.heap[g]? = some (.cells #[.int .i64 e, .int .i64 v] 49 (0, 0))) (h' : w.heap[g']? = some (.cells #[.int .i64 x, .int .i64 y] 49 (0, 0))) :
    Calls Try.prog 30 #[.slice (some ⟨g, 0, none⟩) 2 2, .slice (some ⟨g', 0, none⟩) 2 2] w fun r w' => r = .returned (.int .i64 (cmp2 e v x y)) ∧ w = w' := by
  have hg := (Array.getElem?_eq_some_iff.1 h).1
  have hg' := (Array.getElem?_eq_some_iff.1 h').1
  have HC : Hid (∀ i, i < 2 → w.cell? ⟨g, i, none⟩ = some (.int .i64 (if i = 0 then e else v)) ∧ w.cell? ⟨g', i, none⟩ = some (.int .i64 (if i = 0 then x else y))) := Lib.hid fun i hi => by
    rcases (show i = 0 ∨ i = 1 by omega) with rfl | rfl
    · exact ⟨cell_of_row _ _ _ _ _ _ h, cell_of_row _ _ _ _ _ _ h'⟩
    · exact ⟨cell_of_row _ _ _ _ _ _ h, cell_of_row _ _ _ _ _ _ h'⟩
  obtain ⟨r, hr⟩ : ∃ r, cmp2 e v x y = r := ⟨_, rfl⟩
  have HR := Lib.hid hr
  rw [hr]
  clear h h' hr
  go_enter Try.func30, Try.ntmps30
  go_wp2
  go_loopw [11] (fun iv wr => ∃ i : Nat, i ≤ 2 ∧ iv = .int .i64 (i : Int) ∧ w = wr ∧ (1 ≤ i → cmpI e x = 0) ∧ (2 ≤ i → cmpI v y = 0)) (fun iv _ => 2 - (intOf iv).toNat)
  case atStart => exact ⟨0, by omega, rfl, rfl, fun h => by omega, fun h => by omega⟩
  case round =>
    obtain ⟨i, hi, rfl, rfl, h1, h2⟩ := hrel
    have H1 := Lib.hid h1
    have H2 := Lib.hid h2
    clear h1 h2
    by_cases hlt : i < 2
    · obtain ⟨c0, c1⟩ := HC.out i hlt
      obtain ⟨m, hm⟩ : ∃ m, (if i = 0 then e else v) = m := ⟨_, rfl⟩
      obtain ⟨n, hn⟩ : ∃ n, (if i = 0 then x else y) = n := ⟨_, rfl⟩
      rw [hm] at c0
      rw [hn] at c1
      have HM := Lib.hid hm
      have HN := Lib.hid hn
      obtain ⟨q, hq⟩ : ∃ q, cmpI m n = q := ⟨_, rfl⟩
      have HCM := Lib.hid (cmpi_any m n w)
      rw [hq] at HCM
      have HQ := Lib.hid hq
      have hi0 : (0 : Int) ≤ (i : Int) := by omega
      have hi1 : (i : Int) < 2 := by omega
      have hi2 : decide ((2 : Int) ≤ (i : Int)) = false := decide_eq_false (by omega)
      have HU : Hid (i + 1 ≤ 2) := Lib.hid hlt
      clear hm hn hq
      by_cases hq0 : q = 0
      · have e1 : (q == 0) = true := by simpa using hq0
        have e2 : (q != 0) = false := by simpa using hq0
        have HNX : Hid ((1 ≤ i + 1 → cmpI e x = 0) ∧ (2 ≤ i + 1 → cmpI v y = 0)) := Lib.hid (by
          have hx := HQ.out
          rw [← HM.out, ← HN.out] at hx
          rcases (show i = 0 ∨ i = 1 by omega) with rfl | rfl
          · simp at hx
            exact ⟨fun _ => by omega, fun h => by omega⟩
          · simp at hx
            exact ⟨fun _ => H1.out (by omega), fun _ => by omega⟩)
        clear hq0
        go_wp2_with (go_at_call 40; (with_reducible refine HCM.out.mono ?_); rintro e w1 ⟨rfl, rfl⟩)
        go_roundw
        case rel => exact ⟨i + 1, HU.out, by go_num, by first | trivial | rfl, HNX.out⟩
        case measure => simp [intOf]; omega
      · have e1 : (q == 0) = false := by simpa using hq0
        have e2 : (q != 0) = true := by simpa using hq0
        have HF : Hid (q = r) := Lib.hid (by
          have hx := HQ.out
          rw [← HM.out, ← HN.out] at hx
          rw [← HR.out]
          unfold cmp2
          rcases (show i = 0 ∨ i = 1 by omega) with rfl | rfl
          · simp at hx
            rw [hx, if_neg hq0]
          · simp at hx
            rw [if_pos (H1.out (by omega)), hx])
        clear hq0
        go_wp2_with (go_at_call 40; (with_reducible refine HCM.out.mono ?_); rintro e w1 ⟨rfl, rfl⟩)
        go_ret
        exact ⟨ret_int HF.out, rfl⟩
    · obtain rfl : i = 2 := by omega
      have HF : Hid (r = 0) := Lib.hid (by rw [← HR.out]; unfold cmp2; rw [if_pos (H1.out (by omega)), H2.out (by omega)])
      clear hlt
      go_wp2
      go_ret
      exact ⟨ret_int HF.out.symm, rfl⟩
end Go.Proofs.Ytbbogkmibiealaa
