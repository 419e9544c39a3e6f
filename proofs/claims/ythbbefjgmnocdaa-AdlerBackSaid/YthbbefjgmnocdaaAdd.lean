/-
  Add and Sum of both packages.
-/
import Derived.Test.YthbbefjgmnocdaaMix
namespace Go.Proofs.Ythbbefjgmnocdaa
open Go.RowKit

/-- What the reference has behind k bytes. -/
theorem lo_next (s : ByteArray) (a : Int) (k : Nat) (h : k < s.size) : (Am.lo a (s.data.toList.take k) % 65521 + (s[k].toNat : Int)) % 65521 = Am.lo a (s.data.toList.take (k + 1)) % 65521 := by
  rw [take_snoc s k h, Am.lo_snoc]; omega
theorem hi_next (s : ByteArray) (a b : Int) (k : Nat) (h : k < s.size) : (Am.hi a b (s.data.toList.take k) % 65521 + Am.lo a (s.data.toList.take (k + 1)) % 65521) % 65521 = Am.hi a b (s.data.toList.take (k + 1)) % 65521 := by
  rw [take_snoc s k h, Am.hi_snoc]; omega

theorem qadd_any (a : Int) (s : ByteArray) (w : World) (ha : U32 a) (hs : s.size ≤ 4611686018427387904) :
    Calls Try.prog 14 #[.int .u32 a, .string s] w fun e w' => e = .returned (.int .u32 (Am.add a s.data.toList)) ∧ w = w' := by
  have l1 := low_bd a
  have h1 := high_bd a
  have E0 : Hid (Am.lo (Am.lowOf a) (s.data.toList.take 0) = Am.lowOf a ∧ Am.hi (Am.lowOf a) (Am.highOf a) (s.data.toList.take 0) = Am.highOf a) := Lib.hid ⟨rfl, rfl⟩
  go_enter Try.func14, Try.ntmps14
  go_wp2_with fail
  refine (qhalves_any _ _ ha).mono ?_; rintro e w' ⟨rfl, rfl⟩
  go_wp2
  go_loop [5, 6, 7] (fun l h i => ∃ k : Nat, k ≤ s.size ∧ i = .int .i64 k ∧ l = .int .i64 (Am.lo (Am.lowOf a) (s.data.toList.take k) % 65521) ∧ h = .int .i64 (Am.hi (Am.lowOf a) (Am.highOf a) (s.data.toList.take k) % 65521)) (fun _ _ i => s.size - (intOf i).toNat)
  case atStart => exact ⟨0, Nat.zero_le _, rfl, by rw [E0.out.1, Int.emod_eq_of_lt (by omega) (by omega)], by rw [E0.out.2, Int.emod_eq_of_lt (by omega) (by omega)]⟩
  case round =>
    obtain ⟨k, hk, rfl, rfl, rfl⟩ := hrel
    by_cases hlt : k < s.size
    · have H1 := Lib.hid (lo_next s (Am.lowOf a) k hlt)
      have H2 := Lib.hid (hi_next s (Am.lowOf a) (Am.highOf a) k hlt)
      have u := s[k].toNat_lt
      go_wp2
      go_round
      case rel => exact ⟨k + 1, by omega, by go_num, by rw [← H1.out], by congr 1; have := H1.out; have := H2.out; omega⟩
      case measure => simp [intOf]; omega
    · go_wp2_with fail
      refine (made_any _ _ _ ⟨by omega, by omega⟩ ⟨by omega, by omega⟩).mono ?_; rintro e w' ⟨rfl, rfl⟩
      go_wp2
      go_ret
      exact ⟨ret_int (by unfold Am.add; rw [Am.pack_mod, List.take_of_length_le (by rw [size_list]; omega)]), rfl⟩
theorem qsum_any (s : ByteArray) (w : World) (hs : s.size ≤ 4611686018427387904) :
    Calls Try.prog 12 #[.string s] w fun e w' => e = .returned (.int .u32 (Am.sum s.data.toList)) ∧ w = w' := by
  go_enter Try.func12, Try.ntmps12
  go_wp2_with (go_at_call 14; refine (qadd_any _ _ _ ⟨by omega, by omega⟩ hs).mono ?_; rintro e w' ⟨rfl, rfl⟩)
  go_ret
  exact ⟨ret_int (Am.sum_add _), rfl⟩

theorem add_any (a : Int) (l : List UInt8) (w : World) (ha : U32 a) (hs : l.length ≤ 4611686018427387904) :
    Calls Try.prog 13 #[.int .u32 a, .string (S l)] w fun e w' => e = .returned (.int .u32 (Am.add a l)) ∧ Below w.heap.size w w' := by
  have l1 := low_bd a
  have h1 := high_bd a
  have E0 : Hid (Am.lo (Am.lowOf a) (l.take 0) = Am.lowOf a ∧ Am.hi (Am.lowOf a) (Am.highOf a) (l.take 0) = Am.highOf a) := Lib.hid ⟨rfl, rfl⟩
  go_enter Try.func13, Try.ntmps13
  go_wp2_with fail
  refine (halves_any _ _ ha).mono ?_; rintro e w' ⟨rfl, rfl⟩
  go_wp2
  go_loopw [1, 5, 6] (fun r p q wr => ∃ k : Nat, k ≤ l.length ∧ r = .string (S (l.drop k)) ∧ p = .int .i64 (Am.lo (Am.lowOf a) (l.take k) % 65521) ∧ q = .int .i64 (Am.hi (Am.lowOf a) (Am.highOf a) (l.take k) % 65521) ∧ Below w.heap.size w wr) (fun r _ _ _ => match r with | .string s => s.size | _ => 0)
  case atStart => exact ⟨0, Nat.zero_le _, rfl, by rw [E0.out.1, Int.emod_eq_of_lt (by omega) (by omega)], by rw [E0.out.2, Int.emod_eq_of_lt (by omega) (by omega)], Below.refl _ _⟩
  case round =>
    obtain ⟨k, hk, rfl, rfl, rfl, hb⟩ := hrel
    have hsz : (S (l.drop k)).size = l.length - k := by rw [S_size, List.length_drop]
    by_cases hlt : k < l.length
    · obtain ⟨m, hm⟩ : ∃ m, min (l.length - k) 65536 = m := ⟨_, rfl⟩
      have hmin : ∀ ts ty w, (Builtin.min_ ts ty #[.int .i64 ((l.length - k : Nat) : Int), .int .i64 65536]).run Try.prog w = .ok (.int .i64 ((min (l.length - k) 65536 : Nat) : Int)) w := min_at _ 65536
      rw [hm] at hmin
      have hsl := fun w => slice_to (l.drop k) m (by rw [List.length_drop]; omega) w
      have hsf := fun w => slice_from (l.drop k) m (by rw [List.length_drop]; omega) w
      obtain ⟨cap, w1, hcv, hb1, hz1, hcap, hc1, hf1⟩ := bytes_of ((l.drop k).take m) wr
      have hln : ((l.drop k).take m).length = m := by rw [List.length_take, List.length_drop]; omega
      rw [hln] at hcv
      have HC1 := Lib.hid hc1
      have HLN := Lib.hid hln
      have HB1 := Lib.hid hb1
      clear hc1 hln hb1 hz1 hcap hf1
      go_wp2
      have b0 : 0 ≤ Am.lo (Am.lowOf a) (l.take k) % 65521 ∧ Am.lo (Am.lowOf a) (l.take k) % 65521 < 65521 := by omega
      have b1 : 0 ≤ Am.hi (Am.lowOf a) (Am.highOf a) (l.take k) % 65521 ∧ Am.hi (Am.lowOf a) (Am.highOf a) (l.take k) % 65521 < 65521 := by omega
      obtain ⟨p, hp⟩ : ∃ p, Am.lo (Am.lowOf a) (l.take k) % 65521 = p := ⟨_, rfl⟩
      obtain ⟨q, hq⟩ : ∃ q, Am.hi (Am.lowOf a) (Am.highOf a) (l.take k) % 65521 = q := ⟨_, rfl⟩
      rw [hp] at b0 ⊢
      rw [hq] at b1 ⊢
      have HP := Lib.hid hp
      have HQ := Lib.hid hq
      clear hp hq hcv hmin
      go_loop [5, 6, 26] (fun x y i => ∃ j : Nat, j ≤ m ∧ i = .int .i64 j ∧ x = .int .i64 (Am.lo p (((l.drop k).take m).take j)) ∧ y = .int .i64 (Am.hi p q (((l.drop k).take m).take j))) (fun _ _ i => m - (intOf i).toNat)
      case atStart => exact ⟨0, Nat.zero_le _, rfl, rfl, rfl⟩
      case round =>
        obtain ⟨j, hj, rfl, rfl, rfl⟩ := hrel
        have hd1 : (((l.drop k).take m).take j).length = j := by have := HLN.out; rw [List.length_take]; omega
        have lb := Am.lo_bd (((l.drop k).take m).take j) p (by omega)
        have hbd := Am.hi_bd (((l.drop k).take m).take j) p q 16777201 (by omega) (by omega) (by omega)
        rw [hd1] at lb hbd
        obtain ⟨lb1, lb2⟩ := lb
        obtain ⟨hb1', hb2'⟩ := hbd
        have hm65 : m ≤ 65536 := by omega
        by_cases hjl : j < m
        · have hjl' : j < ((l.drop k).take m).length := by have := HLN.out; omega
          have hc := HC1.out j hjl'
          have u := (((l.drop k).take m)[j]).toNat_lt
          have hsn : Hid (((l.drop k).take m).take (j + 1) = ((l.drop k).take m).take j ++ [((l.drop k).take m)[j]]) := Lib.hid (List.take_succ_eq_append_getElem hjl')
          obtain ⟨b, hbv⟩ : ∃ b, ((l.drop k).take m)[j] = b := ⟨_, rfl⟩
          rw [hbv] at hc u hsn
          clear hd1 hbv
          go_wp2
          go_round
          case rel => exact ⟨j + 1, by omega, by go_num, by rw [hsn.out, Am.lo_snoc], by rw [hsn.out, Am.hi_snoc, Am.lo_snoc]⟩
          case measure => simp [intOf]; omega
        · obtain rfl : j = m := by omega
          have hall : Hid (((l.drop k).take j).take j = (l.drop k).take j) := Lib.hid (List.take_of_length_le (by have := HLN.out; omega))
          clear hd1
          rw [hall.out] at lb1 lb2 hb1' hb2' ⊢
          have e1 : Hid (Am.lo p ((l.drop k).take j) % 65521 = Am.lo (Am.lowOf a) (l.take (k + j)) % 65521) := Lib.hid (by
            rw [← HP.out, Am.lo_mod, ← Am.lo_app, List.take_add])
          have e2 : Hid (Am.hi p q ((l.drop k).take j) % 65521 = Am.hi (Am.lowOf a) (Am.highOf a) (l.take (k + j)) % 65521) := Lib.hid (by
            rw [← HP.out, ← HQ.out, Am.hi_mod, ← Am.hi_app, List.take_add])
          go_wp2_with fail
          refine (reduce_any _ _ ⟨by omega, by omega⟩).mono ?_; rintro e w' ⟨rfl, rfl⟩
          go_wp2_with fail
          refine (reduce_any _ _ ⟨by omega, by omega⟩).mono ?_; rintro e w' ⟨rfl, rfl⟩
          go_wp2
          go_roundw
          case rel => exact ⟨k + j, by omega, rfl, by rw [e1.out], by rw [e2.out], bt hb HB1.out⟩
          case measure => simp [S_size]; omega
    · have hk' : k = l.length := by omega
      have E1 : Hid (l.take k = l) := Lib.hid (by rw [hk', List.take_length])
      clear hk'
      go_wp2_with fail
      refine (checksum_any _ _ _ ⟨by omega, by omega⟩ ⟨by omega, by omega⟩).mono ?_; rintro e w' ⟨rfl, rfl⟩
      go_wp2
      go_ret
      exact ⟨ret_int (by unfold Am.add; rw [Am.pack_mod, E1.out]), hb⟩
theorem sum_u32 (l : List UInt8) : U32 (Am.sum l) := Am.pack_bd _ _
theorem sum_any (l : List UInt8) (w : World) (hs : l.length ≤ 4611686018427387904) :
    Calls Try.prog 11 #[.string (S l)] w fun e w' => e = .returned (.int .u32 (Am.sum l)) ∧ Below w.heap.size w w' := by
  go_enter Try.func11, Try.ntmps11
  go_wp2_with (go_at_call 13; refine (add_any _ _ _ ⟨by omega, by omega⟩ hs).mono ?_; rintro e w1 ⟨rfl, hb⟩)
  go_ret
  exact ⟨ret_int (Am.sum_add _), hb⟩
end Go.Proofs.Ythbbefjgmnocdaa
