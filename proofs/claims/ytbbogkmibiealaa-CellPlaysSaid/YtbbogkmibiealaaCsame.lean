/-
  The laws' own comparisons: of binds, of messages.
-/
import Derived.Deep.QuietTactic
import Derived.Laws.StructEq
import Derived.Test.YtbbogkmibiealaaCmem
namespace Go.Proofs.Ytbbogkmibiealaa
open Go.RowKit Gm

set_option maxHeartbeats 1000000 in
theorem same8_any (a b : Option Addr) (la ca lb cb : Nat) (r q : List Bd) (w : World) (hlen : la ≤ 1048576) (ha : BindsAt w (· < w.heap.size) a la r) (hb : BindsAt w (· < w.heap.size) b lb q) :
    Calls Try.prog 13 #[.slice a la ca, .slice b lb cb] w fun e w' => e = .returned (.bool (decide (r = q))) ∧ Below w.heap.size w w' := by
  obtain ⟨h1, p, o, pa, pc⟩ := ha
  obtain ⟨g1, p', o', pa', pc'⟩ := hb
  have HA := Lib.hid h1
  have HB := Lib.hid g1
  clear h1 g1
  by_cases hl : la = lb
  · subst hl
    have HPC := Lib.hid pc
    have HPC' := Lib.hid pc'
    have HPA := Lib.hid pa
    have HPA' := Lib.hid pa'
    clear pc pc' pa pa'
    go_enter Try.func13, Try.ntmps13
    go_wp2
    go_loopw [5] (fun i wr => ∃ k : Nat, k ≤ la ∧ i = .int .i64 k ∧ Below w.heap.size w wr ∧ ∀ i (h : i < k) (h1 : i < r.length) (h2 : i < q.length), r[i] = q[i]) (fun i _ => la - (intOf i).toNat)
    case atStart => exact ⟨0, Nat.zero_le _, rfl, Below.refl _ _, fun i hi => by omega⟩
    case round =>
      obtain ⟨k, hk, rfl, hw, hall⟩ := hrel
      have HALL := Lib.hid hall
      have HW := Lib.hid hw
      have hsz := hw.size
      clear hall hw
      by_cases hlt : k < la
      · obtain ⟨rfl, l1⟩ : a = some ⟨p, o, none⟩ ∧ p < w.heap.size := by
          rcases HPA.out with h | h
          · omega
          · exact h
        obtain ⟨rfl, l2⟩ : b = some ⟨p', o', none⟩ ∧ p' < w.heap.size := by
          rcases HPA'.out with h | h
          · omega
          · exact h
        obtain ⟨c1, d1, f1⟩ := HPC.out k (by rw [HA.out]; exact hlt)
        obtain ⟨c2, d2, f2⟩ := HPC'.out k (by rw [HB.out]; exact hlt)
        replace c1 := (HW.out.cell (p := ⟨p, o + k * 3, none⟩) l1).trans c1
        replace d1 := (HW.out.cell (p := ⟨p, o + k * 3 + 1, none⟩) l1).trans d1
        replace f1 := (HW.out.cell (p := ⟨p, o + k * 3 + 2, none⟩) l1).trans f1
        replace c2 := (HW.out.cell (p := ⟨p', o' + k * 3, none⟩) l2).trans c2
        replace d2 := (HW.out.cell (p := ⟨p', o' + k * 3 + 1, none⟩) l2).trans d2
        replace f2 := (HW.out.cell (p := ⟨p', o' + k * 3 + 2, none⟩) l2).trans f2
        obtain ⟨x, hx⟩ : ∃ x, r[k]'(by rw [HA.out]; exact hlt) = x := ⟨_, rfl⟩
        obtain ⟨y, hy⟩ : ∃ y, q[k]'(by rw [HB.out]; exact hlt) = y := ⟨_, rfl⟩
        rw [hx] at c1 d1 f1
        rw [hy] at c2 d2 f2
        have hi0 : (0 : Int) ≤ (k : Int) := by omega
        have hi1 : (k : Int) < (la : Int) := by omega
        have l1' := Nat.lt_of_lt_of_le l1 hsz
        have l2' := Nat.lt_of_lt_of_le l2 hsz
        have HX := Lib.hid hx
        have HY := Lib.hid hy
        clear hx hy
        by_cases h1 : x.work = y.work
        · have e1 : ((S x.work).toList == (S y.work).toList) = true := by rw [S_beq]; simpa using h1
          by_cases h2 : x.node = y.node
          · have e2 : ((S x.node).toList == (S y.node).toList) = true := by rw [S_beq]; simpa using h2
            by_cases h3 : x.cnt = y.cnt
            · have e3 : (x.cnt == y.cnt) = true := by simpa using h3
              have HN : Hid (∀ i (h : i < k + 1) (h1 : i < r.length) (h2 : i < q.length), r[i] = q[i]) := Lib.hid (fun i hi g1 g2 => by
                rcases Nat.lt_or_ge i k with h | h
                · exact HALL.out i h g1 g2
                · obtain rfl : i = k := by omega
                  rw [HX.out, HY.out]; cases x; cases y; simp_all)
              clear h1 h2 h3
              go_wp2
              go_quiet (fail)
              go_wp2
              go_roundw
              case rel => exact ⟨k + 1, by omega, by go_num, below_drewN HW.out _, HN.out⟩
              case measure => simp [intOf]; omega
            · have e3 : (x.cnt == y.cnt) = false := by simpa using h3
              have HN : Hid (decide (r = q) = false) := Lib.hid (by
                rw [decide_eq_false_iff_not]; intro e; apply h3; rw [← HX.out, ← HY.out]; simp only [e])
              clear h1 h2 h3
              go_wp2
              go_quiet (fail)
              go_wp2
              go_ret
              exact ⟨ret_bool HN.out.symm, below_drewN HW.out _⟩
          · have e2 : ((S x.node).toList == (S y.node).toList) = false := by rw [S_beq]; simpa using h2
            have HN : Hid (decide (r = q) = false) := Lib.hid (by
              rw [decide_eq_false_iff_not]; intro e; apply h2; rw [← HX.out, ← HY.out]; simp only [e])
            clear h1 h2
            go_wp2
            go_quiet (fail)
            go_wp2
            go_ret
            exact ⟨ret_bool HN.out.symm, below_drewN HW.out _⟩
        · have e1 : ((S x.work).toList == (S y.work).toList) = false := by rw [S_beq]; simpa using h1
          have HN : Hid (decide (r = q) = false) := Lib.hid (by
            rw [decide_eq_false_iff_not]; intro e; apply h1; rw [← HX.out, ← HY.out]; simp only [e])
          clear h1
          go_wp2
          go_quiet (fail)
          go_wp2
          go_ret
          exact ⟨ret_bool HN.out.symm, below_drewN HW.out _⟩
      · obtain rfl : k = la := by omega
        have HN : Hid (decide (r = q) = true) := Lib.hid (by
          rw [decide_eq_true_iff]; exact List.ext_getElem (by rw [HA.out, HB.out]) (fun i h1 h2 => HALL.out i (by have := HA.out; omega) h1 h2))
        go_wp2
        go_ret
        exact ⟨ret_bool HN.out.symm, HW.out⟩
  · have HN : Hid (decide (r = q) = false) := Lib.hid (by
      rw [decide_eq_false_iff_not]; intro e; apply hl; rw [← HA.out, ← HB.out, e])
    have e1 : ((la : Int) != (lb : Int)) = true := by simp; omega
    have e2 : ((la : Int) == (lb : Int)) = false := by simp; omega
    clear pc pc' pa pa' hl
    go_enter Try.func13, Try.ntmps13
    go_wp2
    go_ret
    exact ⟨ret_bool HN.out.symm, Below.refl _ _⟩
theorem same8_self (a b : Option Addr) (la ca lb cb : Nat) (r : List Bd) (w : World) (hlen : la ≤ 1048576) (ha : BindsAt w (· < w.heap.size) a la r) (hb : BindsAt w (· < w.heap.size) b lb r) :
    Calls Try.prog 13 #[.slice a la ca, .slice b lb cb] w fun e w' => e = .returned (.bool true) ∧ Below w.heap.size w w' :=
  (same8_any a b la ca lb cb r r w hlen ha hb).mono fun e w' ⟨h1, h2⟩ => ⟨h1.trans (by simp), h2⟩
end Go.Proofs.Ytbbogkmibiealaa
