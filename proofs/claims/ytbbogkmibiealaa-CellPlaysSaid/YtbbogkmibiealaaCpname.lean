/-
  Names: the program's test.
-/
import Derived.Test.YtbbogkmibiealaaCname
import Derived.Test.YtbbogkmibiealaaBytes
namespace Go.Proofs.Ytbbogkmibiealaa
open Go.RowKit Gm

/-- A byte, by the program's comparisons. -/
theorem ch_cases2 (x : UInt8) :
    (chB x = true ∧ decide ((x.toNat : Int) < 97) = false ∧ decide ((122 : Int) < (x.toNat : Int)) = false ∧ decide ((x.toNat : Int) < 48) = false ∧ decide ((57 : Int) < (x.toNat : Int)) = true) ∨
    (chB x = true ∧ decide ((x.toNat : Int) < 97) = true ∧ decide ((122 : Int) < (x.toNat : Int)) = false ∧ decide ((x.toNat : Int) < 48) = false ∧ decide ((57 : Int) < (x.toNat : Int)) = false) ∨
    (chB x = false ∧ decide ((x.toNat : Int) < 97) = true ∧ decide ((122 : Int) < (x.toNat : Int)) = false ∧ decide ((x.toNat : Int) < 48) = true ∧ decide ((57 : Int) < (x.toNat : Int)) = false) ∨
    (chB x = false ∧ decide ((x.toNat : Int) < 97) = true ∧ decide ((122 : Int) < (x.toNat : Int)) = false ∧ decide ((x.toNat : Int) < 48) = false ∧ decide ((57 : Int) < (x.toNat : Int)) = true) ∨
    (chB x = false ∧ decide ((x.toNat : Int) < 97) = false ∧ decide ((122 : Int) < (x.toNat : Int)) = true ∧ decide ((x.toNat : Int) < 48) = false ∧ decide ((57 : Int) < (x.toNat : Int)) = true) := by
  unfold chB
  generalize x.toNat = n
  by_cases h1 : 97 ≤ n <;> by_cases h2 : n ≤ 122 <;> by_cases h3 : 48 ≤ n <;> by_cases h4 : n ≤ 57 <;> first | (exfalso; omega) | (simp [h1, h2, h3, h4, show ((n : Int) < 97) ↔ ¬ 97 ≤ n by omega, show ((122 : Int) < (n : Int)) ↔ ¬ n ≤ 122 by omega, show ((n : Int) < 48) ↔ ¬ 48 ≤ n by omega, show ((57 : Int) < (n : Int)) ↔ ¬ n ≤ 57 by omega])
set_option maxRecDepth 100000 in
set_option maxHeartbeats 2000000 in
theorem name_any (s : Bs) (w : World) : Calls Try.prog 47 #[.string (S s)] w fun e w' => e = .returned (.bool (nameB s)) ∧ Below w.heap.size w w' := by
  have hsz := S_size s
  obtain ⟨cap, w1, hcv, hb1, hs1, hcap, hcl, _⟩ := bytes_of s w
  obtain ⟨n, hn⟩ : ∃ n, s.length = n := ⟨_, rfl⟩
  rw [hn] at hsz hcv
  by_cases h1 : n < 1
  · rw [name_long (by omega)]
    have d1 : decide ((n : Int) < 1) = true := decide_eq_true (by omega)
    clear h1 hcv hb1 hs1 hcap hcl
    go_enter Try.func47, Try.ntmps47
    go_wp2
    go_ret
    exact ⟨rfl, Below.refl _ _⟩
  · have d1 : decide ((n : Int) < 1) = false := decide_eq_false (by omega)
    by_cases h2 : 12 < n
    · rw [name_long (by omega)]
      have d2 : decide ((12 : Int) < (n : Int)) = true := decide_eq_true (by omega)
      clear h1 h2 hcv hb1 hs1 hcap hcl
      go_enter Try.func47, Try.ntmps47
      go_wp2
      go_ret
      exact ⟨rfl, Below.refl _ _⟩
    · have d2 : decide ((12 : Int) < (n : Int)) = false := decide_eq_false (by omega)
      have HL : Hid (1 ≤ s.length ∧ s.length ≤ 12) := Lib.hid (by omega)
      have HN := Lib.hid hn
      have HB1 := Lib.hid hb1
      have HCL := Lib.hid hcl
      have hg : w.heap.size < w1.heap.size := by omega
      clear hn hb1 hcl hs1 hcap
      go_enter Try.func47, Try.ntmps47
      go_wp2
      go_loopw [16] (fun iv wr => ∃ i : Nat, i ≤ n ∧ iv = .int .i64 (i : Int) ∧ w1 = wr ∧ ∀ j (h : j < s.length), j < i → chB s[j] = true) (fun iv _ => n - (intOf iv).toNat)
      case atStart => exact ⟨0, Nat.zero_le _, rfl, rfl, fun j _ h => by omega⟩
      case round =>
        obtain ⟨i, hi, rfl, rfl, hall⟩ := hrel
        have HALL := Lib.hid hall
        clear hall
        by_cases hlt : i < n
        · have hil : i < s.length := by rw [HN.out]; exact hlt
          obtain ⟨x, hx⟩ : ∃ x, s[i] = x := ⟨_, rfl⟩
          have HX := Lib.hid hx
          have c0 := HCL.out i hil
          rw [hx] at c0
          have HU : Hid (i + 1 ≤ n) := Lib.hid hlt
          have hi0 : (0 : Int) ≤ (i : Int) := by omega
          have hi1 : (i : Int) < (n : Int) := by omega
          rcases ch_cases2 x with ⟨hch, e1, e2, e3, e4⟩ | ⟨hch, e1, e2, e3, e4⟩ | ⟨hch, e1, e2, e3, e4⟩ | ⟨hch, e1, e2, e3, e4⟩ | ⟨hch, e1, e2, e3, e4⟩
          · have HC : Hid (∀ j (h : j < s.length), j < i + 1 → chB s[j] = true) := Lib.hid (next_ok HALL.out HX.out hch)
            clear hx hch
            go_wp2
            go_roundw
            case rel => exact ⟨i + 1, HU.out, by go_num, by first | trivial | rfl, HC.out⟩
            case measure => simp [intOf]; omega
          · have HC : Hid (∀ j (h : j < s.length), j < i + 1 → chB s[j] = true) := Lib.hid (next_ok HALL.out HX.out hch)
            clear hx hch
            go_wp2
            go_roundw
            case rel => exact ⟨i + 1, HU.out, by go_num, by first | trivial | rfl, HC.out⟩
            case measure => simp [intOf]; omega
          · have HE : Hid (nameB s = false) := Lib.hid (name_no hil (by rw [HX.out]; exact hch))
            clear hx hch
            go_wp2
            go_ret
            exact ⟨ret_bool HE.out.symm, HB1.out⟩
          · have HE : Hid (nameB s = false) := Lib.hid (name_no hil (by rw [HX.out]; exact hch))
            clear hx hch
            go_wp2
            go_ret
            exact ⟨ret_bool HE.out.symm, HB1.out⟩
          · have HE : Hid (nameB s = false) := Lib.hid (name_no hil (by rw [HX.out]; exact hch))
            clear hx hch
            go_wp2
            go_ret
            exact ⟨ret_bool HE.out.symm, HB1.out⟩
        · obtain rfl : i = n := by omega
          have HE : Hid (nameB s = true) := Lib.hid (name_yes HL.out fun j h => HALL.out j h (by rw [← HN.out]; exact h))
          clear hlt
          go_wp2
          go_ret
          exact ⟨ret_bool HE.out.symm, HB1.out⟩
end Go.Proofs.Ytbbogkmibiealaa
