/-
  The statement VarintLists is proved for every two lists of numbers: unlike lists are laid unlike, none's bytes begin another one's, but where the one list begins the other one. No condition.
-/
import Derived.Deep.QuietTactic
import Derived.BigQuiet
import Derived.Test.YtdnlpjmjhlmjgaaMath3
import Derived.Test.YtdnlpjmjhlmjgaaSlices
import Derived.Test.YtdnlpjmjhlmjgaaText
import Derived.Test.YtdnlpjmjhlmjgaaRows
namespace Go.Proofs.Ytdnlpjmjhlmjgaa.lawLists
open Go.ChangeShapes Go.WideShapes Go.ChangeAt Go.RowKit
open Go.ChangeMaps (open_string shut_string)

theorem slice_ints (a : Option Addr) (len cap m : Nat) (h : m ≤ cap) (w : World) : (Instr.slice 35 (.slice a len cap) none (some (.int .i64 (m : Int))) none).run Try.prog w = .ok (.slice a m cap) w := by
  have hu : Try.prog.underlying 35 = some (.slice (Try.prog.elem 35)) := by kernel_rfl
  have hs : ∀ w, (sizeOf (Try.prog.elem 35)).run Try.prog w = .ok 1 w := fun w => by kernel_rfl
  rw [run_slice_h w 35 a len cap hu .i64 (m : Int) (by omega) (by omega), hs]
  cases a <;> simp [sliced, Result.andThen, Addr.add]
theorem min30 (len : Nat) (ts : Array TypeId) (ty : TypeId) (w : World) : (Builtin.min_ ts ty #[.int .i64 (len : Int), .int .i64 30]).run Try.prog w = .ok (.int .i64 ((min len 30 : Nat) : Int)) w := by
  have e : (if (30 : Int) < (len : Int) then (30 : Int) else (len : Int)) = ((min len 30 : Nat) : Int) := by split <;> omega
  rw [run_min_int2, e]

/-- Do the two lists agree in their first k places? -/
def sameTo (a b : List Int) (k : Nat) : Bool := decide (a.take k = b.take k)
theorem sameTo_zero (a b : List Int) : sameTo a b 0 = true := by simp [sameTo]
theorem sameTo_yes {a b : List Int} {k : Nat} (h : sameTo a b k = true) (ha : k < a.length) (hb : k < b.length) : sameTo a b (k + 1) = (a[k]?.getD 0 == b[k]?.getD 0) := by
  unfold sameTo at h ⊢
  have h' := of_decide_eq_true h
  rw [List.take_succ_eq_append_getElem ha, List.take_succ_eq_append_getElem hb, h', List.getElem?_eq_getElem ha, List.getElem?_eq_getElem hb]
  rw [Bool.eq_iff_iff, decide_eq_true_iff, beq_iff_eq, List.append_cancel_left_eq]
  simp
theorem sameTo_no {a b : List Int} {k : Nat} (h : sameTo a b k = false) : sameTo a b (k + 1) = false := by
  unfold sameTo at h ⊢
  rw [decide_eq_false_iff_not] at h ⊢
  intro e
  apply h
  have := congrArg (List.take k) e
  rwa [List.take_take, List.take_take, Nat.min_eq_left (by omega)] at this
theorem same_end {a b : List Int} {p q : Nat} (ha : ∀ x ∈ a, Vm.In x) (hb : ∀ x ∈ b, Vm.In x) (hp : p ≤ a.length) (hq : q ≤ b.length) {A B : List UInt8} (hA : Vm.encs (a.take p) = A) (hB : Vm.encs (b.take q) = B) :
    (((S (A.take (min A.length B.length))).toList == (S (B.take (min A.length B.length))).toList) == sameTo a b (min p q)) = true := by
  have h := Vm.encs_part (a.take p) (b.take q) (fun x hx => ha x (List.mem_of_mem_take hx)) (fun x hx => hb x (List.mem_of_mem_take hx))
  rw [hA, hB, List.length_take, List.length_take, Nat.min_eq_left hp, Nat.min_eq_left hq, List.take_take, List.take_take, Nat.min_eq_left (Nat.min_le_left p q), Nat.min_eq_left (Nat.min_le_right p q)] at h
  rw [Lib.toList_data, Lib.toList_data, S_list, S_list]
  unfold sameTo
  rw [beq_iff_eq, Bool.eq_iff_iff, beq_iff_eq, decide_eq_true_iff]
  exact h
theorem minN (p q : Nat) (ts : Array TypeId) (ty : TypeId) (w : World) : (Builtin.min_ ts ty #[.int .i64 (p : Int), .int .i64 (q : Int)]).run Try.prog w = .ok (.int .i64 ((min p q : Nat) : Int)) w := by
  have e : (if (q : Int) < (p : Int) then (q : Int) else (p : Int)) = ((min p q : Nat) : Int) := by split <;> omega
  rw [run_min_int2, e]

set_option maxRecDepth 100000 in
set_option maxHeartbeats 4000000 in
theorem walk (a0 : Option Addr) (len0 cap0 : Nat) (z0 : List Int) (a1 : Option Addr) (len1 cap1 : Nat) (z1 : List Int) (w : World) (h0 : IntsAt w a0 len0 cap0 z0) (h1 : IntsAt w a1 len1 cap1 z1) :
    Calls Try.prog 9 #[.slice a0 len0 cap0, .slice a1 len1 cap1] w fun e w' => e = .returned (.bool true) ∧ Below w.heap.size w w' := by
  obtain ⟨hz0, hc0, hl0, hi0, b0, o0, hn0, hcell0⟩ := h0
  obtain ⟨hz1, hc1, hl1, hi1, b1, o1, hn1, hcell1⟩ := h1
  have m0 := min30 len0
  have m1 := min30 len1
  obtain ⟨k0, hk0⟩ : ∃ k, min len0 30 = k := ⟨_, rfl⟩
  obtain ⟨k1, hk1⟩ : ∃ k, min len1 30 = k := ⟨_, rfl⟩
  rw [hk0] at m0
  rw [hk1] at m1
  have s0 := slice_ints a0 len0 cap0 k0 (by omega)
  have s1 := slice_ints a1 len1 cap1 k1 (by omega)
  have hb0 : k0 ≤ 30 := by omega
  have hb1 : k1 ≤ 30 := by omega
  have hle0 : k0 ≤ len0 := by omega
  have hle1 : k1 ≤ len1 := by omega
  have HC0 := Lib.hid hcell0
  have HC1 := Lib.hid hcell1
  have HI0 := Lib.hid hi0
  have HI1 := Lib.hid hi1
  have HZ0 := Lib.hid hz0
  have HZ1 := Lib.hid hz1
  clear hcell0 hcell1 hi0 hi1 hz0 hz1 hk0 hk1
  have HN0 := Lib.hid hn0
  have HN1 := Lib.hid hn1
  clear hn0 hn1
  all_goals
    go_enter Try.func9, Try.ntmps9
    go_wp2_with (go_at_call 13; refine (awake_any _).mono ?_; rintro e w1 ⟨rfl, hw1⟩)
    go_loopw [6, 9] (fun s i wr => ∃ k : Nat, k ≤ k0 ∧ i = .int .i64 k ∧ s = .string (S (Vm.encs (z0.take k))) ∧ Below w.heap.size w wr) (fun _ i _ => k0 - (intOf i).toNat)
    case atStart => exact ⟨0, Nat.zero_le _, rfl, rfl, hw1⟩
    case round =>
      obtain ⟨k, hk, rfl, rfl, hB⟩ := hrel
      have hsz : (S (Vm.encs (z0.take k))).size ≤ 300 := by
        rw [S_size]; have := (Vm.encs_length (z0.take k)).2; rw [List.length_take] at this; omega
      by_cases hlt : k < k0
      · all_goals
          obtain rfl : a0 = some ⟨b0, o0, none⟩ := by
            rcases HN0.out with h | h
            · omega
            · exact h
          have hx := HC0.out k (by omega)
          have hcx : wr.cell? ⟨b0, o0 + k, none⟩ = some (.int .i64 (z0[k]?.getD 0)) := (hB.cell (p := ⟨b0, o0 + k, none⟩) hx.1).trans hx.2
          have hkz : k < z0.length := by rw [HZ0.out]; omega
          have hin : Vm.In (z0[k]?.getD 0) := by rw [List.getElem?_eq_getElem hkz]; exact HI0.out _ (List.getElem_mem hkz)
          have HS : Hid (S (Vm.encs (z0.take k)) ++ S (Vm.enc (z0[k]?.getD 0)) = S (Vm.encs (z0.take (k + 1)))) := Lib.hid (by
            rw [S_append, S_list, List.take_succ_eq_append_getElem hkz, Vm.encs_snoc, List.getElem?_eq_getElem hkz]; rfl)
          have hl2 : (S (Vm.enc (z0[k]?.getD 0))).size ≤ 10 := by rw [S_size]; exact (Vm.enc_length _).2
          clear hx hkz
          go_wp2_with fail
          refine (num_any _ hin _).mono ?_
          rintro e w2 ⟨rfl, hb2⟩
          go_wp2
          go_roundw
          case rel => exact ⟨k + 1, by omega, by go_num, by rw [HS.out], hB.trans (hb2.mono hB.size)⟩
          case measure => simp [intOf]; omega
      · obtain rfl : k = k0 := by omega
        have HK := Lib.hid hk
        clear hsz hlt hk
        obtain ⟨A, hA⟩ : ∃ A, Vm.encs (z0.take k) = A := ⟨_, rfl⟩
        rw [hA]
        have HA := Lib.hid hA
        clear hA
        go_wp2
        go_loopw [7, 10] (fun s i wr => ∃ k : Nat, k ≤ k1 ∧ i = .int .i64 k ∧ s = .string (S (Vm.encs (z1.take k))) ∧ Below w.heap.size w wr) (fun _ i _ => k1 - (intOf i).toNat)
        case atStart => exact ⟨0, Nat.zero_le _, rfl, rfl, hB⟩
        case round =>
          clear hB
          obtain ⟨j, hj, rfl, rfl, hB2⟩ := hrel
          have hsz : (S (Vm.encs (z1.take j))).size ≤ 300 := by
            rw [S_size]; have := (Vm.encs_length (z1.take j)).2; rw [List.length_take] at this; omega
          by_cases hlt : j < k1
          · all_goals
              obtain rfl : a1 = some ⟨b1, o1, none⟩ := by
                rcases HN1.out with h | h
                · omega
                · exact h
              have hx := HC1.out j (by omega)
              have hcx : wr.cell? ⟨b1, o1 + j, none⟩ = some (.int .i64 (z1[j]?.getD 0)) := (hB2.cell (p := ⟨b1, o1 + j, none⟩) hx.1).trans hx.2
              have hkz : j < z1.length := by rw [HZ1.out]; omega
              have hin : Vm.In (z1[j]?.getD 0) := by rw [List.getElem?_eq_getElem hkz]; exact HI1.out _ (List.getElem_mem hkz)
              have HS : Hid (S (Vm.encs (z1.take j)) ++ S (Vm.enc (z1[j]?.getD 0)) = S (Vm.encs (z1.take (j + 1)))) := Lib.hid (by
                rw [S_append, S_list, List.take_succ_eq_append_getElem hkz, Vm.encs_snoc, List.getElem?_eq_getElem hkz]; rfl)
              have hl2 : (S (Vm.enc (z1[j]?.getD 0))).size ≤ 10 := by rw [S_size]; exact (Vm.enc_length _).2
              clear hx hkz
              go_wp2_with fail
              refine (num_any _ hin _).mono ?_
              rintro e w2 ⟨rfl, hb2⟩
              go_wp2
              go_roundw
              case rel => exact ⟨j + 1, by omega, by go_num, by rw [HS.out], hB2.trans (hb2.mono hB2.size)⟩
              case measure => simp [intOf]; omega
          · obtain rfl : j = k1 := by omega
            have HJ := Lib.hid hj
            clear hsz hlt hj
            obtain ⟨B, hB⟩ : ∃ B, Vm.encs (z1.take j) = B := ⟨_, rfl⟩
            rw [hB]
            have HB := Lib.hid hB
            clear hB
            go_wp2
            go_loopw [8, 11] (fun s i wr => ∃ q : Nat, q ≤ k ∧ q ≤ j ∧ i = .int .i64 q ∧ s = .bool (sameTo z0 z1 q) ∧ Below w.heap.size w wr) (fun _ i _ => k - (intOf i).toNat)
            case atStart => exact ⟨0, Nat.zero_le _, Nat.zero_le _, rfl, by rw [sameTo_zero], hB2⟩
            case round =>
              clear hB2
              obtain ⟨q, hq0, hq1, rfl, rfl, hB3⟩ := hrel
              by_cases hlt : q < k ∧ q < j
              · obtain ⟨hlt0, hlt1⟩ := hlt
                all_goals
                  obtain rfl : a0 = some ⟨b0, o0, none⟩ := by
                    rcases HN0.out with h | h
                    · omega
                    · exact h
                  obtain rfl : a1 = some ⟨b1, o1, none⟩ := by
                    rcases HN1.out with h | h
                    · omega
                    · exact h
                  have hx0 := HC0.out q (by omega)
                  have hx1 := HC1.out q (by omega)
                  have hcx0 : wr.cell? ⟨b0, o0 + q, none⟩ = some (.int .i64 (z0[q]?.getD 0)) := (hB3.cell (p := ⟨b0, o0 + q, none⟩) hx0.1).trans hx0.2
                  have hcx1 : wr.cell? ⟨b1, o1 + q, none⟩ = some (.int .i64 (z1[q]?.getD 0)) := (hB3.cell (p := ⟨b1, o1 + q, none⟩) hx1.1).trans hx1.2
                  have hq0z : q < z0.length := by rw [HZ0.out]; omega
                  have hq1z : q < z1.length := by rw [HZ1.out]; omega
                  have hqi0 : (q : Int) < (k : Int) := by omega
                  have hqi1 : (q : Int) < (j : Int) := by omega
                  have hqi2 : (0 : Int) ≤ (q : Int) := by omega
                  clear hx0 hx1
                  by_cases hsm : sameTo z0 z1 q = true
                  · have HN : Hid (sameTo z0 z1 (q + 1) = (z0[q]?.getD 0 == z1[q]?.getD 0)) := Lib.hid (sameTo_yes hsm hq0z hq1z)
                    clear hq0z hq1z
                    go_wp2
                    go_quiet (fail)
                    go_wp2
                    go_roundw
                    case rel => exact ⟨q + 1, by omega, by omega, by go_num, by rw [HN.out], below_drewN hB3 _⟩
                    case measure => simp [intOf]; omega
                  · have hsm' : sameTo z0 z1 q = false := by simpa using hsm
                    clear hsm
                    have HN : Hid (sameTo z0 z1 (q + 1) = false) := Lib.hid (sameTo_no hsm')
                    clear hq0z hq1z
                    go_wp2
                    go_quiet (fail)
                    go_wp2
                    go_roundw
                    case rel => exact ⟨q + 1, by omega, by omega, by go_num, by rw [HN.out], below_drewN hB3 _⟩
                    case measure => simp [intOf]; omega
              · have hsm := same_end HI0.out HI1.out (by rw [HZ0.out]; omega) (by rw [HZ1.out]; omega) HA.out HB.out
                obtain rfl : q = min k j := by omega
                obtain ⟨sm, hsm2⟩ : ∃ sm, sameTo z0 z1 (min k j) = sm := ⟨_, rfl⟩
                rw [hsm2] at hsm
                rw [hsm2]
                have hlA := (Vm.encs_length (z0.take k))
                rw [HA.out, List.length_take, HZ0.out, Nat.min_eq_left hle0] at hlA
                have hlB := (Vm.encs_length (z1.take j))
                rw [HB.out, List.length_take, HZ1.out, Nat.min_eq_left hle1] at hlB
                have hm := minN A.length B.length
                have hp0 := slice_to (S A) (min A.length B.length) (by rw [S_size]; exact Nat.min_le_left _ _)
                have hp1 := slice_to (S B) (min A.length B.length) (by rw [S_size]; exact Nat.min_le_right _ _)
                rw [S_list] at hp0 hp1
                rw [← S_size A, ← S_size B] at hm hp0 hp1 hsm
                rw [← S_size A] at hlA
                generalize min (S A).size (S B).size = n at *
                generalize S (A.take n) = P at *
                generalize S (B.take n) = Q at *
                have hlen : (k : Int) ≤ ((S A).size : Int) := by omega
                have hnlt : ¬ (((min k j : Nat) : Int) < (k : Int)) ∨ ¬ (((min k j : Nat) : Int) < (j : Int)) := by omega
                clear hsm2 hlB hlA hlt hq0 hq1 s0 s1 m0 m1
                rcases Nat.lt_or_ge (min k j) k with hk1 | hk1
                all_goals
                  go_wp2
                  go_quiet (fail)
                  go_wp2
                  go_ret
                  exact ⟨rfl, below_drewN hB3 _⟩

theorem own : ownKnob Try.prog.godebug = none := by kernel_rfl
theorem laidOut : laidOutB Try.prog = true := by kernel_rfl

set_option maxRecDepth 100000 in
theorem lifted (os : Os) (started : os.Started) (H : Type) (enc : TypeId × Value → H) :
    ReturnsInHanded {} Try.checked os 9 .any (Rows.varintListsSpec.pre6 enc Try.prog Try.f9 Rows.varintListsRow.domain false) (Rows.varintListsSpec.post enc Try.prog Try.f9 false true false false) := by
  refine returnsInHanded_of_change_sized (C := Try.checked) own started (by kernel_rfl) Try.func9
    (ChangeSpec.witness6 (enc := enc) (C := Try.checked) false ⟨#[], #[.slice none 0 0, .slice none 0 0], []⟩ 8 (by kernel_rfl) (by kernel_rfl) (by kernel_rfl) (by kernel_rfl)) ?_
  intro W base args ds gs before hval0 hW _ hsz0 _
  have hsz : (DataW.weightsEach Try.prog (Try.f9.params.toList ++ Rows.varintListsSpec.plain.varTypes Try.prog) (ds ++ gs)).all (· ≤ reachBytes) = true := hsz0
  have hval : ∀ (j : Nat) t v, Try.f9.params[j]? = some t → args[j]? = some v → Value.okWide Try.prog W .any base t v := hval0
  have hW' := hW
  obtain ⟨p, q, hA0, hV, rfl, hfz, hnd⟩ := hW
  have hA : DataW.TrodAll enc Try.prog W 0 (fun _ => true) true Try.f9.params.toList args.toList ds p := hA0
  rw [Try.params9] at hA hval hsz
  obtain ⟨v0, vs0, d0, ds0, p0, q0, hargs, rfl, rfl, h0, r0⟩ := trodAll_cons hA
  obtain ⟨v1, vs1, d1, ds1, p1, q1, rfl, rfl, rfl, h1, r1⟩ := trodAll_cons r0
  obtain ⟨rfl, rfl, rfl⟩ := trodAll_nil r1
  obtain rfl : args = #[v0, v1] := by cases args; simp_all
  obtain ⟨rfl, rfl⟩ := trodVars_none hV
  have k0 := h0
  have lt0 : ∀ x ∈ p0, x.block < W.heap.size := by obtain ⟨m, hm⟩ := k0; exact DataW.trod_lt m _ _ _ hm
  have k1 := h1
  have lt1 : ∀ x ∈ p1, x.block < W.heap.size := by obtain ⟨m, hm⟩ := k1; exact DataW.trod_lt m _ _ _ hm
  obtain ⟨a0, len0, cap0, rfl⟩ := okWide_slice Try.underlying35 (hval 0 35 v0 rfl rfl)
  obtain ⟨z0, b0⟩ := ints_of k0 lt0 (fun el sp hd => sized_slice hsz (j := 0) (t := 35) rfl (by simpa using hd) Try.underlying35)
  obtain ⟨a1, len1, cap1, rfl⟩ := okWide_slice Try.underlying35 (hval 1 35 v1 rfl rfl)
  obtain ⟨z1, b1⟩ := ints_of k1 lt1 (fun el sp hd => sized_slice hsz (j := 1) (t := 35) rfl (by simpa using hd) Try.underlying35)
  clear hA0 hval0 hsz0 hsz
  refine (walk a0 len0 cap0 z0 a1 len1 cap1 z1 W b0 b1).mono fun e W' ⟨he, bel⟩ => ?_
  subst he
  exact ⟨_, rfl, _, _, _, [], _, [], hW', trodAll_mk1 (shut_bool Try.underlying4 _), (trodAll_cons_mk (Below.trod laidOut (by kernel_rfl) (of_decide_eq_true (by kernel_rfl)) k0 bel lt0) (trodAll_cons_mk (Below.trod laidOut (by kernel_rfl) (of_decide_eq_true (by kernel_rfl)) k1 bel lt1) trodAll_mk0)), rfl, bel.frame _, fun h => by cases h⟩

theorem over : Rows.varintListsRow.holds Try.pinned (OpenSpec.ofChange Rows.varintListsSpec) :=
  OpenClaim.holds_of_wide 9 Try.f9 rfl rfl rfl rfl rfl rfl rfl ⟨rfl, rfl, rfl, rfl, rfl⟩ rfl rfl rfl rfl rfl (by kernel_rfl) Try.func9 (by kernel_rfl)
    (of_decide_eq_true (by kernel_rfl)) (by unfold Func.isWrapper; first | (rw [if_pos (by decide +kernel)]; kernel_rfl) | (rw [if_neg (by decide +kernel)]; exact ⟨rfl, rfl⟩))
    (fun os started H enc _ => lifted os started H enc)

theorem proved : Rows.VarintListsSaid := over
end Go.Proofs.Ytdnlpjmjhlmjgaa.lawLists
