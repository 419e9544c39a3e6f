/-
  The laws' own Ints and pick of layer 6.
-/
import Derived.Test.YthchlfoebkachaaQmax
namespace Go.Proofs.Ythchlfoebkachaa
open Go.RowKit Gm

theorem getD_exti {r q : List Int} (hl : r.length = q.length) (h : ∀ i, i < r.length → r[i]?.getD 0 = q[i]?.getD 0) : r = q := by
  apply List.ext_getElem hl
  intro i h1 h2
  have := h i h1
  simpa [h1, h2] using this
set_option maxHeartbeats 1000000 in
theorem intsame_any (a b : Option Addr) (la ca lb cb : Nat) (r q : List Int) (w : World) (ha : FlowAt w.heap.size w a la r) (hb : FlowAt w.heap.size w b lb q) :
    Calls Try.prog 12 #[.slice a la ca, .slice b lb cb] w fun e w' => e = .returned (.bool (decide (r = q))) ∧ Drawn w w' := by
  obtain ⟨h1, h2, h3⟩ := ha
  obtain ⟨g1, g2, g3⟩ := hb
  obtain ⟨p, o, pa, pc⟩ := h3.int
  obtain ⟨p', o', pa', pc'⟩ := g3.int
  have HA := Lib.hid h1
  have HB := Lib.hid g1
  clear h1 g1
  by_cases hl : la = lb
  · subst hl
    have HPC := Lib.hid pc
    have HPC' := Lib.hid pc'
    have HPA := Lib.hid pa
    have HPA' := Lib.hid pa'
    clear pc pc' pa pa'
    go_enter Try.func12, Try.ntmps12
    go_wp2
    go_loopw [5] (fun i wr => ∃ k : Nat, k ≤ la ∧ i = .int .i64 k ∧ Drawn w wr ∧ ∀ i, i < k → r[i]?.getD 0 = q[i]?.getD 0) (fun i _ => la - (intOf i).toNat)
    case atStart => exact ⟨0, Nat.zero_le _, rfl, ⟨0, rfl⟩, fun i hi => by omega⟩
    case round =>
      obtain ⟨k, hk, rfl, ⟨m, rfl⟩, hall⟩ := hrel
      have HALL := Lib.hid hall
      clear hall
      by_cases hlt : k < la
      · obtain rfl : a = some ⟨p, o, none⟩ := by
          rcases HPA.out with h | h
          · have := HA.out; omega
          · exact h
        obtain rfl : b = some ⟨p', o', none⟩ := by
          rcases HPA'.out with h | h
          · have := HB.out; omega
          · exact h
        have c1 : w.cell? ⟨p, o + k, none⟩ = some (.int .i64 (r[k]?.getD 0)) := (HPC.out k (by rw [HA.out]; exact hlt)).2
        have c2 : w.cell? ⟨p', o' + k, none⟩ = some (.int .i64 (q[k]?.getD 0)) := (HPC'.out k (by rw [HB.out]; exact hlt)).2
        obtain ⟨x, hx⟩ : ∃ x, r[k]?.getD 0 = x := ⟨_, rfl⟩
        obtain ⟨y, hy⟩ : ∃ y, q[k]?.getD 0 = y := ⟨_, rfl⟩
        rw [hx] at c1
        rw [hy] at c2
        have hi0 : (0 : Int) ≤ (k : Int) := by omega
        have hi1 : (k : Int) < (la : Int) := by omega
        have HX := Lib.hid hx
        have HY := Lib.hid hy
        clear hx hy
        by_cases hxy : x = y
        · have e1 : (x != y) = false := by simp [hxy]
          have e2 : (x == y) = true := by simp [hxy]
          have HN : Hid (∀ i, i < k + 1 → r[i]?.getD 0 = q[i]?.getD 0) := Lib.hid (fun i hi => by
            rcases Nat.lt_or_ge i k with h | h
            · exact HALL.out i h
            · obtain rfl : i = k := by omega
              rw [HX.out, HY.out, hxy])
          clear hxy
          go_wp2
          go_quiet (fail)
          go_wp2
          go_roundw
          case rel => exact ⟨k + 1, by omega, by go_num, ⟨m + nq, rfl⟩, HN.out⟩
          case measure => simp [intOf]; omega
        · have e1 : (x != y) = true := by simp [hxy]
          have e2 : (x == y) = false := by simp [hxy]
          have HN : Hid (decide (r = q) = false) := Lib.hid (by
            rw [decide_eq_false_iff_not]; intro e; apply hxy; rw [← HX.out, ← HY.out, e])
          clear hxy
          go_wp2
          go_quiet (fail)
          go_wp2
          go_ret
          exact ⟨ret_bool HN.out.symm, ⟨m + nq, by simp⟩⟩
      · obtain rfl : k = la := by omega
        have HN : Hid (decide (r = q) = true) := Lib.hid (by
          rw [decide_eq_true_iff]; exact getD_exti (by rw [HA.out, HB.out]) (fun i hi => HALL.out i (by have := HA.out; omega)))
        go_wp2
        go_ret
        exact ⟨ret_bool HN.out.symm, ⟨m, rfl⟩⟩
  · have HN : Hid (decide (r = q) = false) := Lib.hid (by
      rw [decide_eq_false_iff_not]; intro e; apply hl; rw [← HA.out, ← HB.out, e])
    have e1 : ((la : Int) != (lb : Int)) = true := by simp; omega
    have e2 : ((la : Int) == (lb : Int)) = false := by simp; omega
    clear pc pc' pa pa' hl
    go_enter Try.func12, Try.ntmps12
    go_wp2
    go_ret
    exact ⟨ret_bool HN.out.symm, ⟨0, rfl⟩⟩
theorem intsame_yes (a b : Option Addr) (la ca lb cb : Nat) (r : List Int) (w : World) (ha : FlowAt w.heap.size w a la r) (hb : FlowAt w.heap.size w b lb r) :
    Calls Try.prog 12 #[.slice a la ca, .slice b lb cb] w fun e w' => e = .returned (.bool true) ∧ Drawn w w' :=
  (intsame_any a b la ca lb cb r r w ha hb).mono fun _ _ ⟨h, d⟩ => ⟨by rw [h]; simp, d⟩
end Go.Proofs.Ythchlfoebkachaa
