/-
  A placement's counts (a law's own function).
-/
import Derived.Deep.QuietTactic
import Derived.Test.YtjkfiilnogacnaaOncen
namespace Go.Proofs.Ytjkfiilnogacnaa
open Go.RowKit Gm

set_option maxHeartbeats 1000000 in
theorem count_any (a : Option Addr) (len cap : Nat) (l : List Bd) (k n : Bs) (w : World) (h : BindsAt w (· < w.heap.size) a len l) (hlen : len ≤ 1048576) (hs : SmallC l) :
    Calls Try.prog 20 #[.slice a len cap, .string (S k), .string (S n)] w fun e w' => e = .returned (.int .i64 (countN l k n)) ∧ Below w.heap.size w w' := by
  obtain ⟨h1, p, o, pa, pc⟩ := h
  have HA := Lib.hid h1
  have HPA := Lib.hid pa
  have HPC := Lib.hid pc
  have HS := Lib.hid hs
  clear h1 pa pc hs
  go_enter Try.func20, Try.ntmps20
  go_wp2
  go_loopw [7, 8] (fun nv iv wr => ∃ i : Nat, i ≤ len ∧ iv = .int .i64 (i : Int) ∧ nv = .int .i64 (countN (l.take i) k n) ∧ Below w.heap.size w wr) (fun _ iv _ => len - (intOf iv).toNat)
  case atStart => exact ⟨0, Nat.zero_le _, rfl, rfl, Below.refl _ _⟩
  case round =>
    obtain ⟨i, hi, rfl, rfl, hw⟩ := hrel
    have HW := Lib.hid hw
    have hsz := hw.size
    clear hw
    by_cases hlt : i < len
    · obtain ⟨rfl, l1⟩ : a = some ⟨p, o, none⟩ ∧ p < w.heap.size := by
        rcases HPA.out with h | h
        · omega
        · exact h
      have hil : i < l.length := by rw [HA.out]; exact hlt
      obtain ⟨c1, d1, f1⟩ := HPC.out i hil
      replace c1 := (HW.out.cell (p := ⟨p, o + i * 3, none⟩) l1).trans c1
      replace d1 := (HW.out.cell (p := ⟨p, o + i * 3 + 1, none⟩) l1).trans d1
      replace f1 := (HW.out.cell (p := ⟨p, o + i * 3 + 2, none⟩) l1).trans f1
      have HN := Lib.hid (countN_snoc hil k n)
      have bx := HS.out _ (List.getElem_mem hil)
      have bc := countN_bd (HS.out.take i) k n
      rw [List.length_take] at bc
      obtain ⟨x, hx⟩ : ∃ x, l[i] = x := ⟨_, rfl⟩
      obtain ⟨c, hc⟩ : ∃ c, countN (l.take i) k n = c := ⟨_, rfl⟩
      rw [hx] at c1 d1 f1 HN bx
      rw [hc] at bc HN ⊢
      have hi0 : (0 : Int) ≤ (i : Int) := by omega
      have hi1 : (i : Int) < (len : Int) := by omega
      have l1' := Nat.lt_of_lt_of_le l1 hsz
      have wr1 : IntKind.i64.wrap (c + x.cnt) = c + x.cnt := IntWalk.i64_in _ ⟨by omega, by omega⟩
      clear hx hc bx bc
      by_cases g1 : x.work = k
      · have e1 : ((S x.work).toList == (S k).toList) = true := by rw [S_beq]; simpa using g1
        by_cases g2 : n = []
        · have e2' : (S n).toList = [] := by rw [S_toList]; exact g2
          have e2 : (S n).toList.isEmpty = true := by rw [e2']; rfl
          have HN2 : Hid (countN (l.take (i + 1)) k n = c + x.cnt) := Lib.hid (by rw [HN.out]; unfold hitN; rw [if_pos ⟨g1, .inl g2⟩])
          clear g1 g2
          go_wp2
          go_roundw
          case rel => exact ⟨i + 1, by omega, by go_num, by rw [HN2.out], HW.out⟩
          case measure => simp [intOf]; omega
        · have e2' : ¬ (S n).toList = [] := by rw [S_toList]; exact g2
          have e2 : (S n).toList.isEmpty = false := by rw [S_toList]; simpa using g2
          by_cases g3 : x.node = n
          · have e3 : ((S x.node).toList == (S n).toList) = true := by rw [S_beq]; simpa using g3
            have HN2 : Hid (countN (l.take (i + 1)) k n = c + x.cnt) := Lib.hid (by rw [HN.out]; unfold hitN; rw [if_pos ⟨g1, .inr g3⟩])
            clear g1 g2 g3
            go_wp2
            go_roundw
            case rel => exact ⟨i + 1, by omega, by go_num, by rw [HN2.out], HW.out⟩
            case measure => simp [intOf]; omega
          · have e3 : ((S x.node).toList == (S n).toList) = false := by rw [S_beq]; simpa using g3
            have HN2 : Hid (countN (l.take (i + 1)) k n = c) := Lib.hid (by rw [HN.out]; unfold hitN; rw [if_neg (fun h => h.2.elim g2 g3), Int.add_zero])
            clear g1 g2 g3
            go_wp2
            go_roundw
            case rel => exact ⟨i + 1, by omega, by go_num, by rw [HN2.out], HW.out⟩
            case measure => simp [intOf]; omega
      · have e1 : ((S x.work).toList == (S k).toList) = false := by rw [S_beq]; simpa using g1
        have HN2 : Hid (countN (l.take (i + 1)) k n = c) := Lib.hid (by rw [HN.out]; unfold hitN; rw [if_neg (fun h => g1 h.1), Int.add_zero])
        clear g1
        go_wp2
        go_roundw
        case rel => exact ⟨i + 1, by omega, by go_num, by rw [HN2.out], HW.out⟩
        case measure => simp [intOf]; omega
    · obtain rfl : i = len := by omega
      have HE : Hid (countN (l.take i) k n = countN l k n) := Lib.hid (by rw [List.take_of_length_le (by rw [HA.out]; omega)])
      clear hlt
      rw [HE.out]
      go_wp2
      go_ret
      exact ⟨rfl, HW.out⟩
end Go.Proofs.Ytjkfiilnogacnaa
