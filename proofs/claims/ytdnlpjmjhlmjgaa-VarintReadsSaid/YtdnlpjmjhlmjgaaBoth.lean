/-
  The reader and the document's reader, step by step: one answer from one state.
-/
import Derived.Test.YtdnlpjmjhlmjgaaQr
namespace Go.Proofs.Ytdnlpjmjhlmjgaa
open Go.RowKit Go.Shelf
set_option linter.unusedVariables false

theorem qrnum_bad (b : Nat) (s : ByteArray) (w : World) (h : RdAt 51 w b s true) :
    Calls Try.prog 21 #[.pointer (some ⟨b, 0, none⟩)] w fun e w' => e = .returned (.int .i64 0) ∧ RdAt 51 w' b s true ∧ w.grownBy w' (some b) := by
  have h1 := h.cell1
  go_enter Try.func21, Try.ntmps21
  go_wp2
  go_ret
  exact ⟨rfl, h, World.grownBy.refl _ _⟩
theorem qrnum_ok (b : Nat) (s : ByteArray) (hs : s.size ≤ 4611686018427387904) (n : Int) (r : List UInt8) (w : World) (h : RdAt 51 w b s false) (hr : Vm.rd s.data.toList = some (n, r)) :
    Calls Try.prog 21 #[.pointer (some ⟨b, 0, none⟩)] w fun e w' => e = .returned (.int .i64 n) ∧ RdAt 51 w' b (S r) false ∧ w.grownBy w' (some b) := by
  obtain ⟨m, hm, h1, h2, h3, h4, h5⟩ := Vm.rd_no (l := s.data.toList) (by rw [hr]; simp)
  exact qr_ok b s hs m w h (by omega) h1 (fun _ => h2) h4 hm h3 h5 n r hr
theorem qrnum_no (b : Nat) (s : ByteArray) (hs : s.size ≤ 4611686018427387904) (w : World) (h : RdAt 51 w b s false) (hr : Vm.rd s.data.toList = none) :
    Calls Try.prog 21 #[.pointer (some ⟨b, 0, none⟩)] w fun e w' => e = .returned (.int .i64 0) ∧ RdAt 51 w' b s true ∧ w.grownBy w' (some b) := by
  obtain ⟨m, hm, h1, h2⟩ := lead_end s.data.toList
  by_cases h10 : 10 ≤ m
  · exact qr_long b s hs m w h hm h1 h2 h10
  by_cases he : m = s.size
  · exact qr_end b s hs m w h hm h1 h2 (by omega) he
  have hlm : m < s.data.toList.length := by rw [← Lib.size_eq]; rw [← Lib.size_eq] at hm; omega
  by_cases hz : 0 < m ∧ (s.data.toList[m]).toNat = 0
  · exact qr_zero b s hs m w h hm h1 h2 (by omega) hlm hz.1 hz.2
  have hz' : m = 0 ∨ (s.data.toList[m]).toNat ≠ 0 := by omega
  by_cases h9 : m = 9 ∧ ¬ (s.data.toList[m]).toNat < 2
  · exact qr_big b s hs m w h hm h1 h2 h9.1 hlm hz' h9.2
  · have := (Vm.rd_yes hlm h1 (h2 hlm) hz' (by omega) (fun e => by omega)).1
    rw [hr] at this
    cases this

/-- What a reader answers to Num, and what it holds then. -/
def numS (s : ByteArray) (x : Bool) : Int × ByteArray × Bool :=
  if x then (0, s, true) else match Vm.rd s.data.toList with
    | none => (0, s, true)
    | some (n, r) => (n, S r, false)
/-- What a reader answers to Text, and what it holds then. -/
def textS (most : Int) (s : ByteArray) (x : Bool) : ByteArray × ByteArray × Bool :=
  if x then (⟨#[]⟩, s, true) else match Vm.rd s.data.toList with
    | none => (⟨#[]⟩, s, true)
    | some (n, r) => if n < 0 ∨ most < n ∨ (r.length : Int) < n then (⟨#[]⟩, S r, true) else (S (r.take n.toNat), S (r.drop n.toNat), false)
def endS (s : ByteArray) (x : Bool) : Bool := !x && decide (s.size = 0)

theorem numS_size {s s' : ByteArray} {x x' : Bool} {v : Int} (h : numS s x = (v, s', x')) : s'.size ≤ s.size := by
  unfold numS at h
  split at h
  · cases h; exact Nat.le_refl _
  · split at h
    · cases h; exact Nat.le_refl _
    · rename_i n r hr
      cases h
      have := Vm.rd_length hr
      rw [S_size, Lib.size_eq s]; omega
theorem textS_size {s s' v : ByteArray} {x x' : Bool} {most : Int} (h : textS most s x = (v, s', x')) : s'.size ≤ s.size := by
  unfold textS at h
  split at h
  · cases h; exact Nat.le_refl _
  · split at h
    · cases h; exact Nat.le_refl _
    · rename_i n r hr
      have := Vm.rd_length hr
      split at h
      · cases h; rw [S_size, Lib.size_eq s]; omega
      · cases h; rw [S_size, List.length_drop, Lib.size_eq s]; omega

theorem rnum_step (b : Nat) (s s' : ByteArray) (x x' : Bool) (v : Int) (hs : s.size ≤ 140737488351232) (w : World) (h : RdAt 49 w b s x) (hv : numS s x = (v, s', x')) :
    Calls Try.prog 20 #[.pointer (some ⟨b, 0, none⟩)] w fun e w' => e = .returned (.int .i64 v) ∧ RdAt 49 w' b s' x' ∧ w.grownBy w' (some b) := by
  cases x with
  | true =>
    simp [numS] at hv
    obtain ⟨rfl, rfl, rfl⟩ := hv
    exact (rnum_bad b s w h).mono fun e w' ⟨he, hw⟩ => by subst hw; exact ⟨he, h, World.grownBy.refl _ _⟩
  | false =>
    match hr : Vm.rd s.data.toList with
    | none =>
      simp [numS, hr] at hv
      obtain ⟨rfl, rfl, rfl⟩ := hv
      exact rnum_no b s (by omega) w h hr
    | some (n, r) =>
      simp [numS, hr] at hv
      obtain ⟨rfl, rfl, rfl⟩ := hv
      exact rnum_ok b s (by omega) n r w h hr
theorem qnum_step (b : Nat) (s s' : ByteArray) (x x' : Bool) (v : Int) (hs : s.size ≤ 140737488351232) (w : World) (h : RdAt 51 w b s x) (hv : numS s x = (v, s', x')) :
    Calls Try.prog 21 #[.pointer (some ⟨b, 0, none⟩)] w fun e w' => e = .returned (.int .i64 v) ∧ RdAt 51 w' b s' x' ∧ w.grownBy w' (some b) := by
  cases x with
  | true =>
    simp [numS] at hv
    obtain ⟨rfl, rfl, rfl⟩ := hv
    exact qrnum_bad b s w h
  | false =>
    match hr : Vm.rd s.data.toList with
    | none =>
      simp [numS, hr] at hv
      obtain ⟨rfl, rfl, rfl⟩ := hv
      exact qrnum_no b s (by omega) w h hr
    | some (n, r) =>
      simp [numS, hr] at hv
      obtain ⟨rfl, rfl, rfl⟩ := hv
      exact qrnum_ok b s (by omega) n r w h hr

set_option maxHeartbeats 1000000 in
theorem qrtext_bad (b : Nat) (s : ByteArray) (most : Int) (w : World) (h : RdAt 51 w b s true) :
    Calls Try.prog 23 #[.pointer (some ⟨b, 0, none⟩), .int .i64 most] w fun e w' => e = .returned (.string ⟨#[]⟩) ∧ RdAt 51 w' b s true ∧ w.grownBy w' (some b) := by
  go_enter Try.func23, Try.ntmps23
  go_wp2_with fail
  refine (qrnum_bad b s _ h).mono ?_
  rintro e w1 ⟨rfl, r1, g1⟩
  have c1 := r1.cell1
  have f1 := r1.fr 1
  go_wp2
  go_ret
  exact ⟨rfl, r1.set1 true, gb_trans g1 (gb_set w1 b 1 _)⟩
set_option maxHeartbeats 1000000 in
theorem qrtext_none (b : Nat) (s : ByteArray) (hs : s.size ≤ 4611686018427387904) (most : Int) (w : World) (h : RdAt 51 w b s false) (hr : Vm.rd s.data.toList = none) :
    Calls Try.prog 23 #[.pointer (some ⟨b, 0, none⟩), .int .i64 most] w fun e w' => e = .returned (.string ⟨#[]⟩) ∧ RdAt 51 w' b s true ∧ w.grownBy w' (some b) := by
  have HR := Lib.hid hr
  clear hr
  go_enter Try.func23, Try.ntmps23
  go_wp2_with fail
  refine (qrnum_no b s hs _ h HR.out).mono ?_
  rintro e w1 ⟨rfl, r1, g1⟩
  have c1 := r1.cell1
  have f1 := r1.fr 1
  go_wp2
  go_ret
  exact ⟨rfl, r1.set1 true, gb_trans g1 (gb_set w1 b 1 _)⟩
set_option maxHeartbeats 1000000 in
theorem qrtext_no (b : Nat) (s : ByteArray) (hs : s.size ≤ 4611686018427387904) (most n : Int) (r : List UInt8) (w : World) (h : RdAt 51 w b s false) (hr : Vm.rd s.data.toList = some (n, r)) (hn : n < 0 ∨ most < n ∨ (r.length : Int) < n) :
    Calls Try.prog 23 #[.pointer (some ⟨b, 0, none⟩), .int .i64 most] w fun e w' => e = .returned (.string ⟨#[]⟩) ∧ RdAt 51 w' b (S r) true ∧ w.grownBy w' (some b) := by
  have HR := Lib.hid hr
  clear hr
  have hrs : ((S r).size : Int) = (r.length : Int) := by rw [S_size]
  rcases (show n < 0 ∨ 0 ≤ n ∧ most < n ∨ 0 ≤ n ∧ n ≤ most ∧ ((S r).size : Int) < n by omega) with h1 | ⟨h1, h2⟩ | ⟨h1, h2, h3⟩
  all_goals
    clear hn hrs
    go_enter Try.func23, Try.ntmps23
    go_wp2_with fail
    refine (qrnum_ok b s hs n r _ h HR.out).mono ?_
    rintro e w1 ⟨rfl, r1, g1⟩
    have c0 := r1.cell0
    have c1 := r1.cell1
    have f1 := r1.fr 1
    go_wp2
    go_ret
    exact ⟨rfl, r1.set1 true, gb_trans g1 (gb_set w1 b 1 _)⟩
set_option maxHeartbeats 1000000 in
theorem qrtext_ok (b : Nat) (s : ByteArray) (hs : s.size ≤ 4611686018427387904) (most : Int) (n : Nat) (r : List UInt8) (w : World) (h : RdAt 51 w b s false) (hr : Vm.rd s.data.toList = some ((n : Int), r)) (h1 : (n : Int) ≤ most) (h2 : n ≤ r.length) :
    Calls Try.prog 23 #[.pointer (some ⟨b, 0, none⟩), .int .i64 most] w fun e w' => e = .returned (.string (S (r.take n))) ∧ RdAt 51 w' b (S (r.drop n)) false ∧ w.grownBy w' (some b) := by
  have HR := Lib.hid hr
  clear hr
  have hrs : (n : Int) ≤ ((S r).size : Int) := by rw [S_size]; omega
  have s1 := slice_to (S r) n (by rw [S_size]; exact h2)
  have s2 := slice_from (S r) n (by rw [S_size]; exact h2)
  rw [S_list] at s1 s2
  clear h2
  go_enter Try.func23, Try.ntmps23
  go_wp2_with fail
  refine (qrnum_ok b s hs n r _ h HR.out).mono ?_
  rintro e w1 ⟨rfl, r1, g1⟩
  have c0 := r1.cell0
  have c1 := r1.cell1
  have f0 := r1.fr 0
  go_wp2
  go_ret
  exact ⟨rfl, r1.set0 _, gb_trans g1 (gb_set w1 b 0 _)⟩

theorem rtext_step (b : Nat) (s s' v : ByteArray) (x x' : Bool) (most : Int) (hs : s.size ≤ 140737488351232) (w : World) (h : RdAt 49 w b s x) (hv : textS most s x = (v, s', x')) :
    Calls Try.prog 22 #[.pointer (some ⟨b, 0, none⟩), .int .i64 most] w fun e w' => e = .returned (.string v) ∧ RdAt 49 w' b s' x' ∧ w.grownBy w' (some b) := by
  cases x with
  | true =>
    simp [textS] at hv
    obtain ⟨rfl, rfl, rfl⟩ := hv
    exact rtext_bad b s most w h
  | false =>
    match hr : Vm.rd s.data.toList with
    | none =>
      simp [textS, hr] at hv
      obtain ⟨rfl, rfl, rfl⟩ := hv
      exact rtext_none b s (by omega) most w h hr
    | some (n, r) =>
      by_cases hn : n < 0 ∨ most < n ∨ (r.length : Int) < n
      · simp [textS, hr, hn] at hv
        obtain ⟨rfl, rfl, rfl⟩ := hv
        exact rtext_no b s (by omega) most n r w h hr hn
      · simp [textS, hr, hn] at hv
        obtain ⟨rfl, rfl, rfl⟩ := hv
        obtain ⟨k, rfl⟩ := Int.eq_ofNat_of_zero_le (show 0 ≤ n by omega)
        have hl := Vm.rd_length hr
        rw [← Lib.size_eq] at hl
        exact rtext_ok b s (by omega) most k r w h hr (by omega) (by omega) (by omega)
theorem qtext_step (b : Nat) (s s' v : ByteArray) (x x' : Bool) (most : Int) (hs : s.size ≤ 140737488351232) (w : World) (h : RdAt 51 w b s x) (hv : textS most s x = (v, s', x')) :
    Calls Try.prog 23 #[.pointer (some ⟨b, 0, none⟩), .int .i64 most] w fun e w' => e = .returned (.string v) ∧ RdAt 51 w' b s' x' ∧ w.grownBy w' (some b) := by
  cases x with
  | true =>
    simp [textS] at hv
    obtain ⟨rfl, rfl, rfl⟩ := hv
    exact qrtext_bad b s most w h
  | false =>
    match hr : Vm.rd s.data.toList with
    | none =>
      simp [textS, hr] at hv
      obtain ⟨rfl, rfl, rfl⟩ := hv
      exact qrtext_none b s (by omega) most w h hr
    | some (n, r) =>
      by_cases hn : n < 0 ∨ most < n ∨ (r.length : Int) < n
      · simp [textS, hr, hn] at hv
        obtain ⟨rfl, rfl, rfl⟩ := hv
        exact qrtext_no b s (by omega) most n r w h hr hn
      · simp [textS, hr, hn] at hv
        obtain ⟨rfl, rfl, rfl⟩ := hv
        obtain ⟨k, rfl⟩ := Int.eq_ofNat_of_zero_le (show 0 ≤ n by omega)
        exact qrtext_ok b s (by omega) most k r w h hr (by omega) (by omega)

theorem ends_step (b : Nat) (s : ByteArray) (x : Bool) (w : World) (h : RdAt 49 w b s x) :
    Calls Try.prog 28 #[.pointer (some ⟨b, 0, none⟩)] w fun e w' => e = .returned (.bool (endS s x)) ∧ w = w' := by
  cases x with
  | true => exact ends_bad b w h.cell1
  | false => exact (ends_good b s w h.cell1 h.cell0).mono fun e w' ⟨he, hw⟩ => ⟨by rw [he]; simp [endS], hw⟩
theorem qends_step (b : Nat) (s : ByteArray) (x : Bool) (w : World) (h : RdAt 51 w b s x) :
    Calls Try.prog 29 #[.pointer (some ⟨b, 0, none⟩)] w fun e w' => e = .returned (.bool (endS s x)) ∧ w = w' := by
  cases x with
  | true => exact qends_bad b w h.cell1
  | false => exact (qends_good b s w h.cell1 h.cell0).mono fun e w' ⟨he, hw⟩ => ⟨by rw [he]; simp [endS], hw⟩
end Go.Proofs.Ytdnlpjmjhlmjgaa
