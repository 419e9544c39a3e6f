/-
  The statement AdlerRolls is proved for every text and any window: Roll is the sum of the window one byte on, all along the text's first 3000 bytes. No condition.
-/
import Derived.Test.YthbbefjgmnocdaaAwake
import Derived.Test.YthbbefjgmnocdaaOpen
import Derived.Test.YthbbefjgmnocdaaRows
namespace Go.Proofs.Ythbbefjgmnocdaa.lawRolls
open Go.ChangeShapes Go.WideShapes Go.ChangeAt Go.RowKit
open Go.ChangeMaps (open_string shut_string)

theorem roll_b (s n : Int) (o i : UInt8) (w : World) (hs : U32 s) (hn : I64 n) :
    Calls Try.prog 17 #[.int .u32 s, .int .u8 (o.toNat : Int), .int .u8 (i.toNat : Int), .int .i64 n] w fun e w' => e = .returned (.int .u32 (Am.roll s (o.toNat : Int) (i.toNat : Int) n)) ∧ w = w' := by
  have h1 := o.toNat_lt
  have h2 := i.toNat_lt
  exact roll_any s n _ _ w hs ⟨by omega, by omega⟩ ⟨by omega, by omega⟩ hn

set_option maxHeartbeats 1000000 in
theorem walk (s : ByteArray) (c : Int) (w : World) (_hs : s.size ≤ 140737488351232) (hc : I64 c) :
    Calls Try.prog 5 #[.string s, .int .i64 c] w fun e w' => e = .returned (.bool true) ∧ Below w.heap.size w w' := by
  have m1 : ∀ ts ty w, (Builtin.min_ ts ty #[.int .i64 (s.size : Int), .int .i64 3000]).run Try.prog w = .ok (.int .i64 ((min s.size 3000 : Nat) : Int)) w := min_at _ 3000
  obtain ⟨l, hl, s1⟩ : ∃ l : List UInt8, l.length = min s.size 3000 ∧ ∀ w, (Instr.slice 9 (.string s) none (some (.int .i64 ((min s.size 3000 : Nat) : Int))) none).run Try.prog w = .ok (.string (S l)) w := by
    refine ⟨s.data.toList.take (min s.size 3000), by rw [List.length_take, size_list]; omega, fun w => ?_⟩
    have e := slice_to s.data.toList (min s.size 3000) (by rw [size_list]; omega) w
    rw [S_eq] at e
    exact e
  have hl3 : l.length ≤ 3000 := by omega
  have hsz := S_size l
  clear hl
  by_cases h2 : l.length < 2
  · go_enter Try.func5, Try.ntmps5
    go_wp2_with (go_at_call 10; refine (awake_any _).mono ?_; rintro e w1 ⟨rfl, hb1⟩)
    go_ret
    exact ⟨rfl, hb1⟩
  · have hp := Am.pick_bd c ((l.length : Int) - 1) (by omega)
    obtain ⟨n, hn⟩ : ∃ n : Nat, Am.pick c ((l.length : Int) - 1) = (n : Int) := ⟨(Am.pick c ((l.length : Int) - 1)).toNat, by omega⟩
    rw [hn] at hp
    obtain ⟨hp1, hp2⟩ := hp
    have HN := Lib.hid hn
    have HC := Lib.hid hc
    have E0 : Hid (l.take (n + 1) = (l.drop 0).take (n + 1)) := Lib.hid rfl
    have e1 : (1 : Int) + (n : Int) = ((n + 1 : Nat) : Int) := by omega
    clear hc hn
    go_enter Try.func5, Try.ntmps5
    go_wp2_with fail
    refine (awake_any _).mono ?_; rintro e w1 ⟨rfl, hb1⟩
    go_wp2_with fail
    refine (pick_any _ _ _ HC.out ⟨by omega, by omega⟩).mono ?_; rintro e w2 ⟨rfl, rfl⟩
    rw [HN.out]
    go_wp2_with fail
    rw [ext_to]
    refine (sum_any _ _ (by rw [List.length_take]; omega)).mono ?_; rintro e w2 ⟨rfl, hb2⟩
    have hB := bt hb1 hb2
    clear hb1 hb2 e1
    go_wp2
    go_loopw [7, 8] (fun q i wr => ∃ k : Nat, k + (n + 1) ≤ l.length ∧ i = .int .i64 k ∧ q = .int .u32 (Am.sum ((l.drop k).take (n + 1))) ∧ Below w.heap.size w wr) (fun _ i _ => l.length - (intOf i).toNat)
    case atStart => exact ⟨0, by omega, rfl, rfl, hB⟩
    case round =>
      obtain ⟨k, hk, rfl, rfl, hb⟩ := hrel
      by_cases hlt : k + (n + 1) < l.length
      · have e1 := Am.roll_window l k n hlt
        rw [show ((n + 1 : Nat) : Int) = (n : Int) + 1 by omega] at e1
        have HE : Hid (Am.roll (Am.sum ((l.drop k).take (n + 1))) (((S l)[k]'(by omega)).toNat : Int) (((S l)[k + (n + 1)]'(by omega)).toNat : Int) ((n : Int) + 1) = Am.sum ((l.drop (k + 1)).take (n + 1))) := Lib.hid e1
        clear e1
        have su := sum_u32 ((l.drop k).take (n + 1))
        have HU := Lib.hid su
        clear su
        go_wp2
        have q1 : IntKind.i64.wrap ((k : Int) + ((n : Int) + 1)) = (k : Int) + ((n : Int) + 1) := IntWalk.i64_in _ (by omega)
        have q2 : (0 : Int) ≤ (k : Int) + ((n : Int) + 1) := by omega
        have q3 : ((k : Int) + ((n : Int) + 1)).toNat = k + (n + 1) := by omega
        have q4 : (k : Int) + ((n : Int) + 1) < (l.length : Int) := by omega
        have q5 : (0 : Int) ≤ (k : Int) := by omega
        have q6 : (k : Int) < (l.length : Int) := by omega
        go_quiet ((go_at_call 17; exact quiet_same (roll_b _ _ _ _ _ HU.out ⟨by omega, by omega⟩)))
        rw [HE.out]
        clear q1
        have HB := Lib.hid hb
        clear hb
        by_cases h7 : ((k : Int) % 7 == 0) = true
        · go_wp2_with fail
          rw [ext_mid, show k + 1 + (n + 1) - (k + 1) = n + 1 by omega]
          refine (sum_any _ _ (by rw [List.length_take]; omega)).mono ?_; rintro e w5 ⟨rfl, hb5⟩
          go_wp2
          go_roundw
          case rel => exact ⟨k + 1, by omega, by go_num, rfl, bt (below_drewN HB.out _) hb5⟩
          case measure => simp [intOf]; omega
        · have h7' : ((k : Int) % 7 == 0) = false := by simpa using h7
          clear h7
          go_wp2
          go_roundw
          case rel => exact ⟨k + 1, by omega, by go_num, rfl, below_drewN HB.out _⟩
          case measure => simp [intOf]; omega
      · have hkn : k + (n + 1) = l.length := by omega
        have HL : Hid ((l.drop k).take (n + 1) = l.drop k) := Lib.hid (List.take_of_length_le (by rw [List.length_drop]; omega))
        rw [HL.out]
        go_wp2_with fail
        rw [show l.length - (n + 1) = k by omega, ext_from l k _ (Nat.le_refl _)]
        refine (sum_any _ _ (by rw [List.length_drop]; omega)).mono ?_; rintro e w5 ⟨rfl, hb5⟩
        go_wp2
        go_ret
        exact ⟨rfl, bt hb hb5⟩

theorem own : ownKnob Try.prog.godebug = none := by kernel_rfl
theorem laidOut : laidOutB Try.prog = true := by kernel_rfl

set_option maxRecDepth 100000 in
theorem lifted (os : Os) (started : os.Started) (H : Type) (enc : TypeId × Value → H) :
    ReturnsInHanded {} Try.checked os 5 .any (Rows.adlerRollsSpec.pre6 enc Try.prog Try.f5 Rows.adlerRollsRow.domain false) (Rows.adlerRollsSpec.post enc Try.prog Try.f5 false true false false) := by
  refine returnsInHanded_of_change_sized (C := Try.checked) own started (by kernel_rfl) Try.func5
    (ChangeSpec.witness6 (enc := enc) (C := Try.checked) false ⟨#[], #[.string ByteArray.empty, .int .i64 0], []⟩ 8 (by kernel_rfl) (by kernel_rfl) (by kernel_rfl) (by kernel_rfl)) ?_
  intro W base args ds gs before hval0 hW _ hsz0 _
  have hsz : (DataW.weightsEach Try.prog (Try.f5.params.toList ++ Rows.adlerRollsSpec.plain.varTypes Try.prog) (ds ++ gs)).all (· ≤ reachBytes) = true := hsz0
  have hval : ∀ (j : Nat) t v, Try.f5.params[j]? = some t → args[j]? = some v → Value.okWide Try.prog W .any base t v := hval0
  have hW' := hW
  obtain ⟨p, q, hA0, hV, rfl, hfz, hnd⟩ := hW
  have hA : DataW.TrodAll enc Try.prog W 0 (fun _ => true) true Try.f5.params.toList args.toList ds p := hA0
  rw [Try.params5] at hA hval hsz
  obtain ⟨v0, vs0, d0, ds0, p0, q0, hargs, rfl, rfl, h0, r0⟩ := trodAll_cons hA
  obtain ⟨v1, vs1, d1, ds1, p1, q1, rfl, rfl, rfl, h1, r1⟩ := trodAll_cons r0
  obtain ⟨rfl, rfl, rfl⟩ := trodAll_nil r1
  obtain rfl : args = #[v0, v1] := by cases args; simp_all
  obtain ⟨rfl, rfl⟩ := trodVars_none hV
  have k0 := h0
  have lt0 : ∀ x ∈ p0, x.block < W.heap.size := by obtain ⟨m, hm⟩ := k0; exact DataW.trod_lt m _ _ _ hm
  have k1 := h1
  have lt1 : ∀ x ∈ p1, x.block < W.heap.size := by obtain ⟨m, hm⟩ := k1; exact DataW.trod_lt m _ _ _ hm
  obtain ⟨a0, rfl, rfl, rfl, w0⟩ := open_string Try.underlying9 (hval 0 9 v0 rfl rfl) h0
  have b0 := sized_of (sized_string hsz (j := 0) (t := 9) rfl rfl)
  obtain ⟨a1, rfl, rfl, rfl, w1⟩ := open_int Try.underlying3 (hval 1 3 v1 rfl rfl) h1
  have b1 := in_of_wf w1
  clear hA0 hval0 hsz0 hsz
  refine (walk a0 a1 W b0 b1).mono fun e W' ⟨he, bel⟩ => ?_
  subst he
  exact ⟨_, rfl, _, _, _, [], _, [], hW', trodAll_mk1 (shut_bool Try.underlying4 _), (trodAll_cons_mk (Below.trod laidOut (by kernel_rfl) (of_decide_eq_true (by kernel_rfl)) k0 bel lt0) (trodAll_cons_mk (Below.trod laidOut (by kernel_rfl) (of_decide_eq_true (by kernel_rfl)) k1 bel lt1) trodAll_mk0)), rfl, bel.frame _, fun h => by cases h⟩

theorem over : Rows.adlerRollsRow.holds Try.pinned (OpenSpec.ofChange Rows.adlerRollsSpec) :=
  OpenClaim.holds_of_wide 5 Try.f5 rfl rfl rfl rfl rfl rfl rfl ⟨rfl, rfl, rfl, rfl, rfl⟩ rfl rfl rfl rfl rfl (by kernel_rfl) Try.func5 (by kernel_rfl)
    (of_decide_eq_true (by kernel_rfl)) (by unfold Func.isWrapper; first | (rw [if_pos (by decide +kernel)]; kernel_rfl) | (rw [if_neg (by decide +kernel)]; exact ⟨rfl, rfl⟩))
    (fun os started H enc _ => lifted os started H enc)

theorem proved : Rows.AdlerRollsSaid := over
end Go.Proofs.Ythbbefjgmnocdaa.lawRolls
