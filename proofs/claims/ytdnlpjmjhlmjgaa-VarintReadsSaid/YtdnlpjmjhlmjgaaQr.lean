/-
  The document's own reader: Num and Text.
-/
import Derived.Test.YtdnlpjmjhlmjgaaValue
namespace Go.Proofs.Ytdnlpjmjhlmjgaa
open Go.RowKit Go.Shelf
set_option linter.unusedVariables false

theorem lead_end : ∀ l : List UInt8, ∃ m, m ≤ l.length ∧ (∀ j (h : j < l.length), j < m → ¬ (l[j]).toNat < 128) ∧ (∀ h : m < l.length, (l[m]).toNat < 128)
  | [] => ⟨0, Nat.le_refl _, fun _ h => by simp at h, fun h => by simp at h⟩
  | b :: t => by
    by_cases hb : b.toNat < 128
    · exact ⟨0, by simp, fun j _ hj => by omega, fun _ => hb⟩
    · obtain ⟨m, h0, h1, h2⟩ := lead_end t
      refine ⟨m + 1, by simp; omega, fun j hj hjm => ?_, fun h => by simpa using h2 (by simpa using h)⟩
      cases j with
      | zero => simpa using hb
      | succ j => simpa using h1 j (by simpa using hj) (by omega)

set_option maxRecDepth 100000 in
set_option maxHeartbeats 2000000 in
theorem qr_long (b : Nat) (s : ByteArray) (hs : s.size ≤ 4611686018427387904) (m : Nat) (w : World) (h : RdAt 51 w b s false) (hm : m ≤ s.data.toList.length)
    (h1 : ∀ j (h : j < s.data.toList.length), j < m → ¬ (s.data.toList[j]).toNat < 128) (h2 : ∀ h : m < s.data.toList.length, (s.data.toList[m]).toNat < 128) (h10 : 10 ≤ m) :
    Calls Try.prog 21 #[.pointer (some ⟨b, 0, none⟩)] w fun e w' => e = .returned (.int .i64 0) ∧ RdAt 51 w' b s true ∧ w.grownBy w' (some b) := by
  have hll : s.data.toList.length = s.size := (Lib.size_eq s).symm
  have hms : m ≤ s.size := by omega
  have H1 := Lib.hid h1
  have H2 := Lib.hid h2
  have HL := Lib.hid hll
  have c0 := h.cell0
  have c1 := h.cell1
  have f0 := h.fr 0
  have f1 := h.fr 1
  clear h1 h2 hll hm
  go_enter Try.func21, Try.ntmps21
  go_wp2_with fail
  go_loop [3] (fun i => ∃ k : Nat, k ≤ m ∧ i = .int .i64 k) (fun i => m - (intOf i).toNat)
  case atStart => exact ⟨0, Nat.zero_le _, rfl⟩
  case round =>
    obtain ⟨k, hk, rfl⟩ := hrel
    by_cases hlt : k < m
    · have hks : k < s.size := by omega
      have hb : ¬ ((s[k]).toNat : Int) < 128 := by have h := H1.out k (by rw [HL.out]; exact hks) hlt; rw [byteAt s k hks] at h; omega
      go_wp2
      go_round
      case rel => exact ⟨k + 1, by omega, by go_num⟩
      case measure => simp [intOf]; omega
    · obtain rfl : k = m := by omega
      rcases Nat.lt_or_ge k s.size with hks | hks
      · have hb : ((s[k]).toNat : Int) < 128 := by have h := H2.out (by rw [HL.out]; exact hks); rw [byteAt s k hks] at h; omega
        go_wp2
        go_ret
        exact ⟨rfl, h.set1 true, gb_set w b 1 _⟩
      · go_wp2
        go_ret
        exact ⟨rfl, h.set1 true, gb_set w b 1 _⟩

set_option maxRecDepth 100000 in
set_option maxHeartbeats 2000000 in
theorem qr_end (b : Nat) (s : ByteArray) (hs : s.size ≤ 4611686018427387904) (m : Nat) (w : World) (h : RdAt 51 w b s false) (hm : m ≤ s.data.toList.length)
    (h1 : ∀ j (h : j < s.data.toList.length), j < m → ¬ (s.data.toList[j]).toNat < 128) (h2 : ∀ h : m < s.data.toList.length, (s.data.toList[m]).toNat < 128) (h10 : m < 10) (he : m = s.size) :
    Calls Try.prog 21 #[.pointer (some ⟨b, 0, none⟩)] w fun e w' => e = .returned (.int .i64 0) ∧ RdAt 51 w' b s true ∧ w.grownBy w' (some b) := by
  have hll : s.data.toList.length = s.size := (Lib.size_eq s).symm
  have hms : m ≤ s.size := by omega
  have heq : ((m : Int) == (s.size : Int)) = true := by rw [beq_iff_eq]; omega
  have H1 := Lib.hid h1
  have H2 := Lib.hid h2
  have HL := Lib.hid hll
  have c0 := h.cell0
  have c1 := h.cell1
  have f0 := h.fr 0
  have f1 := h.fr 1
  clear h1 h2 hll hm
  go_enter Try.func21, Try.ntmps21
  go_wp2_with fail
  go_loop [3] (fun i => ∃ k : Nat, k ≤ m ∧ i = .int .i64 k) (fun i => m - (intOf i).toNat)
  case atStart => exact ⟨0, Nat.zero_le _, rfl⟩
  case round =>
    obtain ⟨k, hk, rfl⟩ := hrel
    by_cases hlt : k < m
    · have hks : k < s.size := by omega
      have hb : ¬ ((s[k]).toNat : Int) < 128 := by have h := H1.out k (by rw [HL.out]; exact hks) hlt; rw [byteAt s k hks] at h; omega
      go_wp2
      go_round
      case rel => exact ⟨k + 1, by omega, by go_num⟩
      case measure => simp [intOf]; omega
    · obtain rfl : k = m := by omega
      go_wp2
      go_ret
      exact ⟨rfl, h.set1 true, gb_set w b 1 _⟩

set_option maxRecDepth 100000 in
set_option maxHeartbeats 2000000 in
theorem qr_zero (b : Nat) (s : ByteArray) (hs : s.size ≤ 4611686018427387904) (m : Nat) (w : World) (h : RdAt 51 w b s false) (hm : m ≤ s.data.toList.length)
    (h1 : ∀ j (h : j < s.data.toList.length), j < m → ¬ (s.data.toList[j]).toNat < 128) (h2 : ∀ h : m < s.data.toList.length, (s.data.toList[m]).toNat < 128) (h10 : m < 10) (hlm : m < s.data.toList.length) (h0 : 0 < m) (hz : (s.data.toList[m]).toNat = 0) :
    Calls Try.prog 21 #[.pointer (some ⟨b, 0, none⟩)] w fun e w' => e = .returned (.int .i64 0) ∧ RdAt 51 w' b s true ∧ w.grownBy w' (some b) := by
  have hll : s.data.toList.length = s.size := (Lib.size_eq s).symm
  have hms : m ≤ s.size := by omega
  have hks : m < s.size := by omega
  have hne : ((m : Int) == (s.size : Int)) = false := by rw [beq_eq_false_iff_ne]; omega
  have hz' : (((s[m]).toNat : Int) == 0) = true := by rw [byteAt s m hks] at hz; rw [hz]; rfl
  have hb : ((s[m]).toNat : Int) < 128 := by rw [byteAt s m hks] at hz; omega
  clear hz hlm
  have H1 := Lib.hid h1
  have H2 := Lib.hid h2
  have HL := Lib.hid hll
  have c0 := h.cell0
  have c1 := h.cell1
  have f0 := h.fr 0
  have f1 := h.fr 1
  clear h1 h2 hll hm
  go_enter Try.func21, Try.ntmps21
  go_wp2_with fail
  go_loop [3] (fun i => ∃ k : Nat, k ≤ m ∧ i = .int .i64 k) (fun i => m - (intOf i).toNat)
  case atStart => exact ⟨0, Nat.zero_le _, rfl⟩
  case round =>
    obtain ⟨k, hk, rfl⟩ := hrel
    by_cases hlt : k < m
    · have hks : k < s.size := by omega
      have hb : ¬ ((s[k]).toNat : Int) < 128 := by have h := H1.out k (by rw [HL.out]; exact hks) hlt; rw [byteAt s k hks] at h; omega
      go_wp2
      go_round
      case rel => exact ⟨k + 1, by omega, by go_num⟩
      case measure => simp [intOf]; omega
    · obtain rfl : k = m := by omega
      go_wp2
      go_ret
      exact ⟨rfl, h.set1 true, gb_set w b 1 _⟩

set_option maxRecDepth 100000 in
set_option maxHeartbeats 2000000 in
theorem qr_big (b : Nat) (s : ByteArray) (hs : s.size ≤ 4611686018427387904) (m : Nat) (w : World) (h : RdAt 51 w b s false) (hm : m ≤ s.data.toList.length)
    (h1 : ∀ j (h : j < s.data.toList.length), j < m → ¬ (s.data.toList[j]).toNat < 128) (h2 : ∀ h : m < s.data.toList.length, (s.data.toList[m]).toNat < 128) (h9 : m = 9) (hlm : m < s.data.toList.length) (hz : m = 0 ∨ (s.data.toList[m]).toNat ≠ 0) (hbig : ¬ (s.data.toList[m]).toNat < 2) :
    Calls Try.prog 21 #[.pointer (some ⟨b, 0, none⟩)] w fun e w' => e = .returned (.int .i64 0) ∧ RdAt 51 w' b s true ∧ w.grownBy w' (some b) := by
  have hll : s.data.toList.length = s.size := (Lib.size_eq s).symm
  have hms : m ≤ s.size := by omega
  have hks : m < s.size := by omega
  have hne : ((m : Int) == (s.size : Int)) = false := by rw [beq_eq_false_iff_ne]; omega
  have hb : ((s[m]).toNat : Int) < 128 := by have h := h2 hlm; rw [byteAt s m hks] at h; omega
  have hz' : m = 0 ∨ (((s[m]).toNat : Int) == 0) = false := by
    rcases hz with h | h
    · exact .inl h
    · right; rw [byteAt s m hks] at h; rw [beq_eq_false_iff_ne]; omega
  have s1 : ∀ w, (Instr.slice 9 (.string s) none (some (.int .i64 ((m : Int) + 1))) none).run Try.prog w = .ok (.string (S (s.data.toList.take (m + 1)))) w := fun w => by
    have := slice_to s (m + 1) (by omega) w
    rw [← this]; congr 6
  have s2 : ∀ w, (Instr.slice 9 (.string s) (some (.int .i64 ((m : Int) + 1))) none none).run Try.prog w = .ok (.string (S (s.data.toList.drop (m + 1)))) w := fun w => by
    have := slice_from s (m + 1) (by omega) w
    rw [← this]; congr 6
  have t1 : (S (s.data.toList.take (m + 1))).size = m + 1 := by rw [S_size, List.length_take]; omega
  have HF : (false = true ↔ fits10 (S (s.data.toList.take (m + 1)))) := (by
    constructor
    · intro h; cases h
    · intro h
      have := h (by omega)
      subst h9
      rw [S_list, List.getElem?_take_of_lt (by omega), List.getElem?_eq_getElem hlm] at this
      have h := h2 hlm
      simp only [Option.getD_some] at this
      omega)
  have HVV : (false = true → (0 : Int) = Vm.unzig (Vm.sumB (S (s.data.toList.take (m + 1))).data.toList)) := (fun h => by cases h)
  have HV0 : (false = false → (0 : Int) = 0) := (fun _ => rfl)
  have HZB : (false = true → Vm.sumB (S (s.data.toList.take (m + 1))).data.toList < 18446744073709551616) := (fun h => by cases h)
  have HT1 : (1 ≤ (S (s.data.toList.take (m + 1))).size) := (by omega)
  have HT10 : ((S (s.data.toList.take (m + 1))).size ≤ 10) := (by omega)
  have h10 : m < 10 := by omega
  have HVAL : Hid (∀ w, Calls Try.prog 34 #[.string (S (s.data.toList.take (m + 1)))] w fun e w' => e = .returned (.tuple #[.int .i64 0, .bool false]) ∧ w = w') := Lib.hid (fun w => value_any _ HT1 HT10 false HF 0 HVV HV0 HZB w)
  have hm0 : 0 < m := by omega
  have hzz : (((s[m]).toNat : Int) == 0) = false := by rcases hz' with h | h; omega; exact h
  clear hz hbig hlm t1 h9 HF HVV HV0 HZB HT1 HT10 hz'
  have H1 := Lib.hid h1
  have H2 := Lib.hid h2
  have HL := Lib.hid hll
  have c0 := h.cell0
  have c1 := h.cell1
  have f0 := h.fr 0
  have f1 := h.fr 1
  clear h1 h2 hll hm
  go_enter Try.func21, Try.ntmps21
  go_wp2_with fail
  go_loop [3] (fun i => ∃ k : Nat, k ≤ m ∧ i = .int .i64 k) (fun i => m - (intOf i).toNat)
  case atStart => exact ⟨0, Nat.zero_le _, rfl⟩
  case round =>
    obtain ⟨k, hk, rfl⟩ := hrel
    by_cases hlt : k < m
    · have hks : k < s.size := by omega
      have hb : ¬ ((s[k]).toNat : Int) < 128 := by have h := H1.out k (by rw [HL.out]; exact hks) hlt; rw [byteAt s k hks] at h; omega
      go_wp2
      go_round
      case rel => exact ⟨k + 1, by omega, by go_num⟩
      case measure => simp [intOf]; omega
    · obtain rfl : k = m := by omega
      all_goals
        go_wp2_with fail
        refine (HVAL.out _).mono ?_
        rintro e w1 ⟨rfl, rfl⟩
        go_wp2
        go_ret
        exact ⟨rfl, h.set1 true, gb_set w b 1 _⟩

set_option maxRecDepth 100000 in
set_option maxHeartbeats 2000000 in
theorem qr_ok (b : Nat) (s : ByteArray) (hs : s.size ≤ 4611686018427387904) (m : Nat) (w : World) (h : RdAt 51 w b s false) (hm : m ≤ s.data.toList.length)
    (h1 : ∀ j (h : j < s.data.toList.length), j < m → ¬ (s.data.toList[j]).toNat < 128) (h2 : ∀ h : m < s.data.toList.length, (s.data.toList[m]).toNat < 128) (h9 : m ≤ 9) (hlm : m < s.data.toList.length) (hz : m = 0 ∨ (s.data.toList[m]).toNat ≠ 0) (hfit : m = 9 → (s.data.toList[m]).toNat < 2) (n : Int) (r : List UInt8) (hrd : Vm.rd s.data.toList = some (n, r)) :
    Calls Try.prog 21 #[.pointer (some ⟨b, 0, none⟩)] w fun e w' => e = .returned (.int .i64 n) ∧ RdAt 51 w' b (S r) false ∧ w.grownBy w' (some b) := by
  have hll : s.data.toList.length = s.size := (Lib.size_eq s).symm
  have hms : m ≤ s.size := by omega
  have hks : m < s.size := by omega
  have hne : ((m : Int) == (s.size : Int)) = false := by rw [beq_eq_false_iff_ne]; omega
  have hb : ((s[m]).toNat : Int) < 128 := by have h := h2 hlm; rw [byteAt s m hks] at h; omega
  have hz' : m = 0 ∨ (((s[m]).toNat : Int) == 0) = false := by
    rcases hz with h | h
    · exact .inl h
    · right; rw [byteAt s m hks] at h; rw [beq_eq_false_iff_ne]; omega
  have s1 : ∀ w, (Instr.slice 9 (.string s) none (some (.int .i64 ((m : Int) + 1))) none).run Try.prog w = .ok (.string (S (s.data.toList.take (m + 1)))) w := fun w => by
    have := slice_to s (m + 1) (by omega) w
    rw [← this]; congr 6
  have s2 : ∀ w, (Instr.slice 9 (.string s) (some (.int .i64 ((m : Int) + 1))) none none).run Try.prog w = .ok (.string (S (s.data.toList.drop (m + 1)))) w := fun w => by
    have := slice_from s (m + 1) (by omega) w
    rw [← this]; congr 6
  have t1 : (S (s.data.toList.take (m + 1))).size = m + 1 := by rw [S_size, List.length_take]; omega
  have hy := Vm.rd_yes hlm h1 (h2 hlm) hz h9 hfit
  have hrr := hrd.symm.trans hy.1
  simp only [Option.some.injEq, Prod.mk.injEq] at hrr
  have HF : (true = true ↔ fits10 (S (s.data.toList.take (m + 1)))) := (by
    constructor
    · intro _ h
      have h9' : m = 9 := by omega
      subst h9'
      rw [S_list, List.getElem?_take_of_lt (by omega), List.getElem?_eq_getElem hlm]
      have := hfit rfl
      simp only [Option.getD_some]
      omega
    · intro _; rfl)
  have HVV : (true = true → n = Vm.unzig (Vm.sumB (S (s.data.toList.take (m + 1))).data.toList)) := (fun _ => by rw [S_list]; exact hrr.1)
  have HV0 : (true = false → n = 0) := (fun h => by cases h)
  have HZB : (true = true → Vm.sumB (S (s.data.toList.take (m + 1))).data.toList < 18446744073709551616) := (fun _ => by rw [S_list]; have := hy.2; omega)
  have HT1 : (1 ≤ (S (s.data.toList.take (m + 1))).size) := (by omega)
  have HT10 : ((S (s.data.toList.take (m + 1))).size ≤ 10) := (by omega)
  have HR : Hid (S (s.data.toList.drop (m + 1)) = S r) := Lib.hid (by rw [hrr.2])
  have h10 : m < 10 := by omega
  have HVAL : Hid (∀ w, Calls Try.prog 34 #[.string (S (s.data.toList.take (m + 1)))] w fun e w' => e = .returned (.tuple #[.int .i64 n, .bool true]) ∧ w = w') := Lib.hid (fun w => value_any _ HT1 HT10 true HF n HVV HV0 HZB w)
  have hcs : (¬ 0 < m) ∨ 0 < m ∧ (((s[m]).toNat : Int) == 0) = false := by
    rcases hz' with h | h
    · exact .inl (by omega)
    · rcases Nat.eq_zero_or_pos m with h0 | h0
      · exact .inl (by omega)
      · exact .inr ⟨h0, h⟩
  clear hz hfit hlm t1 hy hrr hrd HF HVV HV0 HZB HT1 HT10 hz'
  have H1 := Lib.hid h1
  have H2 := Lib.hid h2
  have HL := Lib.hid hll
  have c0 := h.cell0
  have c1 := h.cell1
  have f0 := h.fr 0
  have f1 := h.fr 1
  clear h1 h2 hll hm
  go_enter Try.func21, Try.ntmps21
  go_wp2_with fail
  go_loop [3] (fun i => ∃ k : Nat, k ≤ m ∧ i = .int .i64 k) (fun i => m - (intOf i).toNat)
  case atStart => exact ⟨0, Nat.zero_le _, rfl⟩
  case round =>
    obtain ⟨k, hk, rfl⟩ := hrel
    by_cases hlt : k < m
    · have hks : k < s.size := by omega
      have hb : ¬ ((s[k]).toNat : Int) < 128 := by have h := H1.out k (by rw [HL.out]; exact hks) hlt; rw [byteAt s k hks] at h; omega
      go_wp2
      go_round
      case rel => exact ⟨k + 1, by omega, by go_num⟩
      case measure => simp [intOf]; omega
    · obtain rfl : k = m := by omega
      rcases hcs with hm0 | ⟨hm0, hzz⟩
      all_goals
        go_wp2_with fail
        refine (HVAL.out _).mono ?_
        rintro e w1 ⟨rfl, rfl⟩
        go_wp2
        go_ret
        exact ⟨rfl, by rw [← HR.out]; exact h.set0 _, gb_set w b 0 _⟩

end Go.Proofs.Ytdnlpjmjhlmjgaa
