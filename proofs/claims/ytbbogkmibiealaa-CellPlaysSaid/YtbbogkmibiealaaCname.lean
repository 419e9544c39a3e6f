/-
  Names: the document's own test.
-/
import Derived.Deep.DeepCutAuto
import Derived.Laws.Cover1
import Derived.Test.YtbbogkmibiealaaCn
import Derived.Test.YtbbogkmibiealaaHeldG
namespace Go.Proofs.Ytbbogkmibiealaa
open Go.RowKit Gm

theorem name_long {s : Bs} (h : ¬ (1 ≤ s.length ∧ s.length ≤ 12)) : nameB s = false := by
  unfold nameB
  by_cases h1 : 1 ≤ s.length
  · have h2 : ¬ s.length ≤ 12 := fun e => h ⟨h1, e⟩
    rw [decide_eq_false h2]; simp
  · rw [decide_eq_false h1]; simp
theorem name_all {s : Bs} (h : 1 ≤ s.length ∧ s.length ≤ 12) : nameB s = s.all chB := by
  unfold nameB
  rw [decide_eq_true h.1, decide_eq_true h.2]; rfl
theorem name_no {s : Bs} {i : Nat} (hi : i < s.length) (h : chB s[i] = false) : nameB s = false := by
  unfold nameB
  have : s.all chB = false := by
    rw [List.all_eq_false]
    exact ⟨s[i], List.getElem_mem hi, by rw [h]; decide⟩
  rw [this, Bool.and_false]
theorem name_yes {s : Bs} (h : 1 ≤ s.length ∧ s.length ≤ 12) (ha : ∀ i (h : i < s.length), chB s[i] = true) : nameB s = true := by
  rw [name_all h, List.all_eq_true]
  intro x hx
  obtain ⟨i, hi, rfl⟩ := List.getElem_of_mem hx
  exact ha i hi
theorem next_ok {s : Bs} {i : Nat} {x : UInt8} {hi : i < s.length} (h : ∀ j (h : j < s.length), j < i → chB s[j] = true) (hx : s[i] = x) (hc : chB x = true) : ∀ j (h : j < s.length), j < i + 1 → chB s[j] = true := fun j hj h1 => by
  rcases Nat.lt_or_ge j i with h2 | h2
  · exact h j hj h2
  · obtain rfl : j = i := by omega
    rw [hx]; exact hc
/-- A byte, by the four comparisons. -/
theorem ch_cases (x : UInt8) :
    (chB x = true ∧ decide ((97 : Int) ≤ (x.toNat : Int)) = true ∧ decide ((x.toNat : Int) ≤ 122) = true ∧ decide ((48 : Int) ≤ (x.toNat : Int)) = true ∧ decide ((x.toNat : Int) ≤ 57) = false) ∨
    (chB x = true ∧ decide ((97 : Int) ≤ (x.toNat : Int)) = false ∧ decide ((x.toNat : Int) ≤ 122) = true ∧ decide ((48 : Int) ≤ (x.toNat : Int)) = true ∧ decide ((x.toNat : Int) ≤ 57) = true) ∨
    (chB x = false ∧ decide ((97 : Int) ≤ (x.toNat : Int)) = false ∧ decide ((x.toNat : Int) ≤ 122) = true ∧ decide ((48 : Int) ≤ (x.toNat : Int)) = false ∧ decide ((x.toNat : Int) ≤ 57) = true) ∨
    (chB x = false ∧ decide ((97 : Int) ≤ (x.toNat : Int)) = false ∧ decide ((x.toNat : Int) ≤ 122) = true ∧ decide ((48 : Int) ≤ (x.toNat : Int)) = true ∧ decide ((x.toNat : Int) ≤ 57) = false) ∨
    (chB x = false ∧ decide ((97 : Int) ≤ (x.toNat : Int)) = true ∧ decide ((x.toNat : Int) ≤ 122) = false ∧ decide ((48 : Int) ≤ (x.toNat : Int)) = true ∧ decide ((x.toNat : Int) ≤ 57) = false) := by
  unfold chB
  generalize x.toNat = n
  by_cases h1 : 97 ≤ n <;> by_cases h2 : n ≤ 122 <;> by_cases h3 : 48 ≤ n <;> by_cases h4 : n ≤ 57 <;> first | (exfalso; omega) | (simp [h1, h2, h3, h4, show ((97 : Int) ≤ (n : Int)) ↔ 97 ≤ n by omega, show ((n : Int) ≤ 122) ↔ n ≤ 122 by omega, show ((48 : Int) ≤ (n : Int)) ↔ 48 ≤ n by omega, show ((n : Int) ≤ 57) ↔ n ≤ 57 by omega])
set_option maxRecDepth 100000 in
set_option maxHeartbeats 2000000 in
theorem qname_any (s : Bs) (w : World) : Calls Try.prog 33 #[.string (S s)] w fun e w' => e = .returned (.bool (nameB s)) ∧ w = w' := by
  have hsz := S_size s
  obtain ⟨n, hn⟩ : ∃ n, s.length = n := ⟨_, rfl⟩
  rw [hn] at hsz
  by_cases h1 : n < 1
  · rw [name_long (by omega)]
    have d1 : decide ((n : Int) < 1) = true := decide_eq_true (by omega)
    clear h1
    go_enter Try.func33, Try.ntmps33
    go_wp2
    go_ret
    exact ⟨rfl, rfl⟩
  · have d1 : decide ((n : Int) < 1) = false := decide_eq_false (by omega)
    by_cases h2 : 12 < n
    · rw [name_long (by omega)]
      have d2 : decide ((12 : Int) < (n : Int)) = true := decide_eq_true (by omega)
      clear h1 h2
      go_enter Try.func33, Try.ntmps33
      go_wp2
      go_ret
      exact ⟨rfl, rfl⟩
    · have d2 : decide ((12 : Int) < (n : Int)) = false := decide_eq_false (by omega)
      have HL : Hid (1 ≤ s.length ∧ s.length ≤ 12) := Lib.hid (by omega)
      have HN := Lib.hid hn
      clear hn
      go_enter Try.func33, Try.ntmps33
      go_wp2
      go_loopw [3] (fun iv wr => ∃ i : Nat, i ≤ n ∧ iv = .int .i64 (i : Int) ∧ w = wr ∧ ∀ j (h : j < s.length), j < i → chB s[j] = true) (fun iv _ => n - (intOf iv).toNat)
      case atStart => exact ⟨0, Nat.zero_le _, rfl, rfl, fun j _ h => by omega⟩
      case round =>
        obtain ⟨i, hi, rfl, rfl, hall⟩ := hrel
        have HALL := Lib.hid hall
        clear hall
        by_cases hlt : i < n
        · have hil : i < s.length := by rw [HN.out]; exact hlt
          obtain ⟨x, hx⟩ : ∃ x, s[i] = x := ⟨_, rfl⟩
          have HX := Lib.hid hx
          have hx' : (S s)[i]'(by rw [hsz]; exact hlt) = x := hx
          have HU : Hid (i + 1 ≤ n) := Lib.hid hlt
          have HM : Hid (n - (i + 1) < n - i) := Lib.hid (by omega)
          have hi0 : (0 : Int) ≤ (i : Int) := by omega
          have hi1 : (i : Int) < (n : Int) := by omega
          rcases ch_cases x with ⟨hch, e1, e2, e3, e4⟩ | ⟨hch, e1, e2, e3, e4⟩ | ⟨hch, e1, e2, e3, e4⟩ | ⟨hch, e1, e2, e3, e4⟩ | ⟨hch, e1, e2, e3, e4⟩
          · have HC : Hid (∀ j (h : j < s.length), j < i + 1 → chB s[j] = true) := Lib.hid (next_ok HALL.out HX.out hch)
            clear hx hch
            go_wp2
            go_roundw
            case rel => exact ⟨i + 1, HU.out, by go_num, by first | trivial | rfl, HC.out⟩
            case measure => simp [intOf]; omega
          · have HC : Hid (∀ j (h : j < s.length), j < i + 1 → chB s[j] = true) := Lib.hid (next_ok HALL.out HX.out hch)
            clear hx hch
            go_wp2
            go_roundw
            case rel => exact ⟨i + 1, HU.out, by go_num, by first | trivial | rfl, HC.out⟩
            case measure => simp [intOf]; omega
          · have HE : Hid (nameB s = false) := Lib.hid (name_no hil (by rw [HX.out]; exact hch))
            clear hx hch
            go_wp2
            go_ret
            exact ⟨ret_bool HE.out.symm, rfl⟩
          · have HE : Hid (nameB s = false) := Lib.hid (name_no hil (by rw [HX.out]; exact hch))
            clear hx hch
            go_wp2
            go_ret
            exact ⟨ret_bool HE.out.symm, rfl⟩
          · have HE : Hid (nameB s = false) := Lib.hid (name_no hil (by rw [HX.out]; exact hch))
            clear hx hch
            go_wp2
            go_ret
            exact ⟨ret_bool HE.out.symm, rfl⟩
        · obtain rfl : i = n := by omega
          have HE : Hid (nameB s = true) := Lib.hid (name_yes HL.out fun j h => HALL.out j h (by rw [← HN.out]; exact h))
          clear hlt
          go_wp2
          go_ret
          exact ⟨ret_bool HE.out.symm, rfl⟩
end Go.Proofs.Ytbbogkmibiealaa
