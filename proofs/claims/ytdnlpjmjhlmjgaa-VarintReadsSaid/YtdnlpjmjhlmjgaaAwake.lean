/-
  varint.Text; the fixed calls that each statement makes first.
-/
import Derived.Test.YtdnlpjmjhlmjgaaReader
namespace Go.Proofs.Ytdnlpjmjhlmjgaa
open Go.RowKit Go.Shelf

theorem S_append (a : List UInt8) (s : ByteArray) : S a ++ s = S (a ++ s.data.toList) := by
  apply ByteArray.ext
  apply Array.toList_inj.1
  rw [S_list]
  simp [S]

theorem In_size {k : Nat} (h : k ≤ 4611686018427387904) : Vm.In (k : Int) := ⟨by omega, by omega⟩

theorem text_any (s : ByteArray) (hs : s.size ≤ 4611686018427387904) (w : World) :
    Calls Try.prog 16 #[.string s] w fun e w' => e = .returned (.string (S (Vm.enc s.size ++ s.data.toList))) ∧ Below w.heap.size w w' := by
  have hl : (S (Vm.enc s.size)).size ≤ 10 := by rw [S_size]; exact (Vm.enc_length _).2
  have HE : Hid (S (Vm.enc s.size) ++ s = S (Vm.enc s.size ++ s.data.toList)) := Lib.hid (S_append _ _)
  have hin := In_size hs
  go_enter Try.func16, Try.ntmps16
  go_wp2_with (go_at_call 14; refine (num_any _ hin _).mono ?_; rintro e w1 ⟨rfl, hb1⟩)
  go_ret
  exact ⟨ret_str HE.out, hb1⟩

theorem enc0 : S (Vm.enc 0) = ⟨#[0]⟩ := by decide +kernel
theorem encm1 : S (Vm.enc (-1)) = ⟨#[1]⟩ := by decide +kernel
theorem enc64 : S (Vm.enc 64) = ⟨#[128, 1]⟩ := by decide +kernel
theorem rd8000 : Vm.rd [128, 0] = none := by decide +kernel
theorem encab : S (Vm.enc 2 ++ [97, 98]) = ⟨#[4, 97, 98]⟩ := by decide +kernel

set_option maxRecDepth 100000 in
set_option maxHeartbeats 1000000 in
theorem awake_any (w : World) :
    Calls Try.prog 13 #[] w fun e w' => e = .returned (.bool true) ∧ Below w.heap.size w w' := by
  go_enter Try.func13, Try.ntmps13
  go_wp2_with fail
  refine (new_any _ _).mono ?_
  rintro e w1 ⟨rfl, rfl⟩
  go_wp2_with fail
  have r0 := RdAt.new 49 w ⟨#[128, 0]⟩ false
  refine (rnum_no w.heap.size ⟨#[128, 0]⟩ (by decide) _ r0 rd8000).mono ?_
  rintro e w2 ⟨rfl, r2, g2⟩
  have b2 : Below w.heap.size w w2 := ((Below.refl _ w).alloc (Nat.le_refl _) _).grown g2 (by simp) (fun k e => by cases e; exact Nat.le_refl _)
  go_wp2_with fail
  refine (num_any 0 ⟨by decide, by decide⟩ _).mono ?_
  rintro e w3 ⟨rfl, b3⟩
  rw [enc0]
  go_wp2_with fail
  refine (num_any (-1) ⟨by decide, by decide⟩ _).mono ?_
  rintro e w4 ⟨rfl, b4⟩
  rw [encm1]
  go_wp2_with fail
  refine (num_any 64 ⟨by decide, by decide⟩ _).mono ?_
  rintro e w5 ⟨rfl, b5⟩
  rw [enc64]
  go_wp2_with fail
  refine (text_any ⟨#[97, 98]⟩ (by decide) _).mono ?_
  rintro e w6 ⟨rfl, b6⟩
  rw [show S (Vm.enc ((⟨#[97, 98]⟩ : ByteArray).size : Nat) ++ (⟨#[97, 98]⟩ : ByteArray).data.toList) = ⟨#[4, 97, 98]⟩ from encab]
  have b26 : Below w2.heap.size w2 w6 := b3.trans ((b4.mono b3.size).trans ((b5.mono (Nat.le_trans b3.size b4.size)).trans (b6.mono (Nat.le_trans b3.size (Nat.le_trans b4.size b5.size)))))
  have r6 := r2.below b26 r2.lt
  have c6 := r6.cell1
  go_wp2_with fail
  refine (bad_any _ true _ c6).mono ?_
  rintro e w7 ⟨rfl, rfl⟩
  go_wp2
  go_ret
  exact ⟨rfl, b2.trans (b26.mono b2.size)⟩
end Go.Proofs.Ytdnlpjmjhlmjgaa
