/-
  The program's Share: limit, roomOf, Share.
-/
import Derived.Deep.QuietTactic
import Derived.Deep.DeepCutAuto
import Derived.BigQuiet
import Derived.Laws.OwnMore
import Derived.OwnWalk
import Derived.Test.YtjkfiilnogacnaaQsn
import Derived.Test.YtjkfiilnogacnaaQtn
import Derived.Test.YtjkfiilnogacnaaSrow
import Derived.Test.YtjkfiilnogacnaaMix
namespace Go.Proofs.Ytjkfiilnogacnaa
open Go.RowKit Gm

namespace Gm
theorem room_none {want : Int} {held : List Int} {i : Nat} (h : i < held.length) (hx : held[i] < 0) : roomN want held = 0 := by
  unfold roomN
  rw [if_neg]
  unfold knownB
  intro hk
  have := List.all_eq_true.1 hk held[i] (List.getElem_mem h)
  simp at this
  omega
theorem grant_min {r h t : Int} (hr : 0 ≤ r) (hu : h < 0 → r = 0) : grantN r h t = min (numC t) (numC h) + min (max (numC t - numC h) 0) r ∧ usedN r h t = min (max (numC t - numC h) 0) r := by
  have h1 := numC_bd t
  have h2 := numC_bd h
  unfold grantN usedN
  by_cases hh : h < 0
  · have := hu hh
    have e : numC h = 0 := by unfold numC; omega
    rw [if_pos hh, if_pos hh, e]
    omega
  · rw [if_neg hh, if_neg hh]
    split <;> omega
/-- Who is unknown leaves no room. -/
theorem room_held (want : Int) {held : List Int} {i : Nat} (h : i < held.length) (hx : held[i] < 0) {r : Int} (hr : 0 ≤ r ∧ r ≤ roomN want held) : r = 0 := by
  rw [room_none h hx] at hr
  omega
end Gm
theorem limit_any (n : Int) (w : World) : Calls Try.prog 22 #[.int .i64 n] w fun e w' => e = .returned (.int .i64 (numC n)) ∧ w = w' := by
  have m1 := max2 n 0
  obtain ⟨m, hm⟩ : ∃ m, max n 0 = m := ⟨_, rfl⟩
  have m2 := min2 m 1000
  obtain ⟨k, hk⟩ : ∃ k, min m 1000 = k := ⟨_, rfl⟩
  have HE : Hid (numC n = k) := Lib.hid (by unfold numC; rw [hm, hk])
  rw [hm] at m1
  rw [hk] at m2
  clear hm hk
  rw [HE.out]
  go_enter Try.func22, Try.ntmps22
  go_wp2
  go_ret
  exact ⟨rfl, rfl⟩
set_option maxRecDepth 100000 in
set_option maxHeartbeats 4000000 in
theorem roomOf_any (want : Int) (ha : Option Addr) (hl hc : Nat) (held : List Int) (w : World) (h : KeepB w.heap.size w ha hl held) (h16 : hl ≤ 16) :
    Calls Try.prog 21 #[.int .i64 want, .slice ha hl hc] w fun e w' => e = .returned (.int .i64 (roomN want held)) ∧ w = w' := by
  have HH := Lib.hid h
  have HHl : Hid (held.length = hl) := Lib.hid h.1
  have nb := numC_bd want
  obtain ⟨nw, hnw⟩ : ∃ x, numC want = x := ⟨_, rfl⟩
  rw [hnw] at nb
  have HNW := Lib.hid hnw
  obtain ⟨R, hR⟩ : ∃ x, roomN want held = x := ⟨_, rfl⟩
  have HR := Lib.hid hR
  rw [hR]
  clear h hnw hR
  go_enter Try.func21, Try.ntmps21
  go_wp2_with (go_at_call 22; (have hc' := limit_any want w; rw [HNW.out] at hc'; with_reducible refine hc'.mono ?_); rintro e w1 ⟨rfl, rfl⟩)
  go_loopw [5, 12] (fun rv iv wr => ∃ i : Nat, i ≤ hl ∧ iv = .int .i64 (i : Int) ∧ rv = .int .i64 (nw - sumK (held.take i)) ∧ knownB (held.take i) = true ∧ wr = w) (fun _ iv _ => hl - (intOf iv).toNat)
  case atStart => exact ⟨0, Nat.zero_le _, rfl, by simp [sumK], rfl, by first | trivial | rfl⟩
  case round =>
    obtain ⟨i, hi, rfl, rfl, hk, rfl⟩ := hrel
    have HK := Lib.hid hk
    have bs := sumK_bd (held.take i)
    rw [List.length_take] at bs
    clear hk
    by_cases hlt : i < hl
    · have hil : i < held.length := by rw [HHl.out]; exact hlt
      obtain ⟨b, off, hha, hbl, hcell⟩ := keep_cell HH.out (by omega)
      subst hha
      have c1 := hcell i hil
      have HS1 := Lib.hid (sumK_snoc hil)
      have HS2 := Lib.hid (known_snoc hil)
      have HN := Lib.hid (room_none (want := want) hil)
      obtain ⟨x, hx⟩ : ∃ x, held[i] = x := ⟨_, rfl⟩
      obtain ⟨s, hs⟩ : ∃ x, sumK (held.take i) = x := ⟨_, rfl⟩
      rw [hx] at c1 HS1 HS2 HN
      rw [hs] at bs HS1 ⊢
      have nx := numC_bd x
      obtain ⟨nx', hnx⟩ : ∃ m, numC x = m := ⟨_, rfl⟩
      rw [hnx] at nx HS1
      have HNX := Lib.hid hnx
      obtain ⟨rm, hrm⟩ : ∃ m, nw - s = m := ⟨_, rfl⟩
      have w1 : IntKind.i64.wrap (rm - nx') = rm - nx' := IntWalk.i64_in _ ⟨by omega, by omega⟩
      have HS3 : Hid (rm - nx' = nw - sumK (held.take (i + 1))) := Lib.hid (by rw [HS1.out]; omega)
      rw [hrm]
      have hi0 : (0 : Int) ≤ (i : Int) := by omega
      have hi1 : (i : Int) < (hl : Int) := by omega
      clear hx hs hnx hrm bs nx hcell
      by_cases h0 : x < 0
      · have d1 : decide (x < 0) = true := decide_eq_true h0
        have HE : Hid (R = 0) := Lib.hid (by rw [← HR.out]; exact HN.out h0)
        clear h0 w1
        go_wp2
        go_ret
        exact ⟨ret_int HE.out.symm, rfl⟩
      · have d1 : decide (x < 0) = false := decide_eq_false h0
        have HS4 : Hid (knownB (held.take (i + 1)) = true) := Lib.hid (by rw [HS2.out, HK.out]; simp; omega)
        clear h0
        go_wp2_with (go_at_call 22; (have hc' := limit_any x wr; rw [HNX.out] at hc'; with_reducible refine hc'.mono ?_); rintro e w1 ⟨rfl, rfl⟩)
        go_roundw
        case rel => exact ⟨i + 1, by omega, by go_num, by rw [HS3.out], HS4.out, by first | trivial | rfl⟩
        case measure => simp [intOf]; omega
    · have hie : i = hl := by omega
      have hin : ¬ (i : Int) < (hl : Int) := by omega
      have hm := max2 (nw - sumK (held.take i)) 0
      have HE : Hid (max (nw - sumK (held.take i)) 0 = R) := Lib.hid (by
        have e : held.take i = held := List.take_of_length_le (by rw [HHl.out]; omega)
        have hk := HK.out
        rw [e] at hk ⊢
        rw [← HR.out, ← HNW.out]
        unfold roomN leftN sumK
        rw [if_pos hk])
      obtain ⟨s, hs⟩ : ∃ s, nw - sumK (held.take i) = s := ⟨_, rfl⟩
      rw [hs] at HE hm ⊢
      rw [HE.out] at hm
      clear hie hlt bs hs
      go_wp2
      go_ret
      exact ⟨rfl, rfl⟩
end Go.Proofs.Ytjkfiilnogacnaa
