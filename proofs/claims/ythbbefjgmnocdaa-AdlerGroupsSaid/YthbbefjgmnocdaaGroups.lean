/-
  The statement AdlerGroups is proved for any three texts: three sums may be joined in either order. No condition.
-/
import Derived.Test.YthbbefjgmnocdaaAwake
import Derived.Test.YthbbefjgmnocdaaOpen
import Derived.Test.YthbbefjgmnocdaaRows
namespace Go.Proofs.Ythbbefjgmnocdaa.lawGroups
open Go.ChangeShapes Go.WideShapes Go.ChangeAt Go.RowKit
open Go.ChangeMaps (open_string shut_string)

theorem cutGB (s : ByteArray) : ∃ l : List UInt8, l.length = min s.size 1073741824 ∧ l.length ≤ 1073741824
    ∧ (∀ w, (Instr.slice 9 (.string s) none (some (.int .i64 ((min s.size 1073741824 : Nat) : Int))) none).run Try.prog w = .ok (.string (S l)) w) := by
  refine ⟨s.data.toList.take (min s.size 1073741824), by rw [List.length_take, size_list]; omega, by rw [List.length_take]; omega, fun w => ?_⟩
  have e := slice_to s.data.toList (min s.size 1073741824) (by rw [size_list]; omega) w
  rw [S_eq] at e
  exact e

theorem join1 (l : List UInt8) : Am.join 1 (Am.sum l) (l.length : Int) = Am.sum l := Am.join_sum [] l
theorem join0 (l : List UInt8) : Am.join (Am.sum l) 1 0 = Am.sum l := by
  have := Am.join_sum l []
  rw [List.append_nil] at this
  exact this

theorem walk (a b c : ByteArray) (w : World) (_ha : a.size ≤ 140737488351232) (_hb : b.size ≤ 140737488351232) (_hc : c.size ≤ 140737488351232) :
    Calls Try.prog 8 #[.string a, .string b, .string c] w fun e w' => e = .returned (.bool true) ∧ Below w.heap.size w w' := by
  have m1 : ∀ ts ty w, (Builtin.min_ ts ty #[.int .i64 (a.size : Int), .int .i64 1073741824]).run Try.prog w = .ok (.int .i64 ((min a.size 1073741824 : Nat) : Int)) w := min_at _ 1073741824
  have m2 : ∀ ts ty w, (Builtin.min_ ts ty #[.int .i64 (b.size : Int), .int .i64 1073741824]).run Try.prog w = .ok (.int .i64 ((min b.size 1073741824 : Nat) : Int)) w := min_at _ 1073741824
  have m3 : ∀ ts ty w, (Builtin.min_ ts ty #[.int .i64 (c.size : Int), .int .i64 1073741824]).run Try.prog w = .ok (.int .i64 ((min c.size 1073741824 : Nat) : Int)) w := min_at _ 1073741824
  obtain ⟨p, hp, hp', sp⟩ := cutGB a
  obtain ⟨q, hq, hq', sq⟩ := cutGB b
  obtain ⟨r, hr, hr', sr⟩ := cutGB c
  have HP := Lib.hid hp'
  have HQ := Lib.hid hq'
  have HR := Lib.hid hr'
  have SQ := Lib.hid (S_size q)
  have SR := Lib.hid (S_size r)
  have SP := Lib.hid (S_size p)
  have E1 : Hid (S p ++ S q = S (p ++ q)) := Lib.hid (S_app p q)
  have E2 : Hid (S (p ++ q) ++ S r = S (p ++ q ++ r)) := Lib.hid (S_app _ r)
  have L1 : Hid ((p ++ q ++ r).length ≤ 4611686018427387904) := Lib.hid (by simp only [List.length_append]; omega)
  have c1 : (S p).size + (S q).size ≤ 281474976710656 := by rw [S_size, S_size]; omega
  have c2 : (S (p ++ q)).size + (S r).size ≤ 281474976710656 := by rw [S_size, S_size, List.length_append]; omega
  have n1 : (q.length : Int) ≤ 1073741824 := by omega
  have n2 : (r.length : Int) ≤ 1073741824 := by omega
  have E3 : Hid ((q.length : Int) + (r.length : Int) = ((q ++ r).length : Int)) := Lib.hid (by rw [List.length_append]; omega)
  clear hp hq hr hp' hq' hr'
  go_enter Try.func8, Try.ntmps8
  go_wp2_with fail
  refine (awake_any _).mono ?_; rintro e w1 ⟨rfl, hb1⟩
  go_wp2_with fail
  refine (sum_any p _ (by have := HP.out; omega)).mono ?_; rintro e w2 ⟨rfl, hb2⟩
  go_wp2_with fail
  refine (sum_any q _ (by have := HQ.out; omega)).mono ?_; rintro e w3 ⟨rfl, hb3⟩
  go_wp2_with fail
  refine (sum_any r _ (by have := HR.out; omega)).mono ?_; rintro e w4 ⟨rfl, hb4⟩
  go_wp2_with fail
  rw [SQ.out]
  refine (join_any (Am.sum p) (Am.sum q) _ _ (sum_u32 p) (sum_u32 q) ⟨by omega, by have := HQ.out; omega⟩).mono ?_; rintro e w5 ⟨rfl, rfl⟩
  rw [Am.join_sum]
  go_wp2_with fail
  rw [SR.out]
  refine (join_any (Am.sum (p ++ q)) (Am.sum r) _ _ (sum_u32 _) (sum_u32 r) ⟨by omega, by have := HR.out; omega⟩).mono ?_; rintro e w5 ⟨rfl, rfl⟩
  rw [Am.join_sum]
  go_wp2_with fail
  rw [SR.out]
  refine (join_any (Am.sum q) (Am.sum r) _ _ (sum_u32 _) (sum_u32 r) ⟨by omega, by have := HR.out; omega⟩).mono ?_; rintro e w5 ⟨rfl, rfl⟩
  rw [Am.join_sum]
  go_wp2_with fail
  rw [SR.out, SQ.out]
  go_wp2_with fail
  rw [E3.out]
  refine (join_any (Am.sum p) (Am.sum (q ++ r)) _ _ (sum_u32 _) (sum_u32 _) ⟨by omega, by have := HR.out; have := HQ.out; rw [List.length_append]; omega⟩).mono ?_; rintro e w5 ⟨rfl, rfl⟩
  rw [Am.join_sum, ← List.append_assoc]
  go_wp2_with fail
  rw [E1.out]
  go_wp2_with fail
  rw [E2.out]
  refine (sum_any (p ++ q ++ r) _ L1.out).mono ?_; rintro e w5 ⟨rfl, hb5⟩
  go_wp2_with fail
  rw [SP.out]
  refine (join_any 1 (Am.sum p) _ _ ⟨by decide, by decide⟩ (sum_u32 p) ⟨by omega, by have := HP.out; omega⟩).mono ?_; rintro e w6 ⟨rfl, rfl⟩
  rw [join1]
  go_wp2_with fail
  refine (join_any (Am.sum p) 1 0 _ (sum_u32 p) ⟨by decide, by decide⟩ ⟨by decide, by decide⟩).mono ?_; rintro e w6 ⟨rfl, rfl⟩
  rw [join0]
  go_wp2
  go_ret
  exact ⟨rfl, bt (bt (bt (bt hb1 hb2) hb3) hb4) hb5⟩

theorem own : ownKnob Try.prog.godebug = none := by kernel_rfl
theorem laidOut : laidOutB Try.prog = true := by kernel_rfl

set_option maxRecDepth 100000 in
theorem lifted (os : Os) (started : os.Started) (H : Type) (enc : TypeId × Value → H) :
    ReturnsInHanded {} Try.checked os 8 .any (Rows.adlerGroupsSpec.pre6 enc Try.prog Try.f8 Rows.adlerGroupsRow.domain false) (Rows.adlerGroupsSpec.post enc Try.prog Try.f8 false true false false) := by
  refine returnsInHanded_of_change_sized (C := Try.checked) own started (by kernel_rfl) Try.func8
    (ChangeSpec.witness6 (enc := enc) (C := Try.checked) false ⟨#[], #[.string ByteArray.empty, .string ByteArray.empty, .string ByteArray.empty], []⟩ 8 (by kernel_rfl) (by kernel_rfl) (by kernel_rfl) (by kernel_rfl)) ?_
  intro W base args ds gs before hval0 hW _ hsz0 _
  have hsz : (DataW.weightsEach Try.prog (Try.f8.params.toList ++ Rows.adlerGroupsSpec.plain.varTypes Try.prog) (ds ++ gs)).all (· ≤ reachBytes) = true := hsz0
  have hval : ∀ (j : Nat) t v, Try.f8.params[j]? = some t → args[j]? = some v → Value.okWide Try.prog W .any base t v := hval0
  have hW' := hW
  obtain ⟨p, q, hA0, hV, rfl, hfz, hnd⟩ := hW
  have hA : DataW.TrodAll enc Try.prog W 0 (fun _ => true) true Try.f8.params.toList args.toList ds p := hA0
  rw [Try.params8] at hA hval hsz
  obtain ⟨v0, vs0, d0, ds0, p0, q0, hargs, rfl, rfl, h0, r0⟩ := trodAll_cons hA
  obtain ⟨v1, vs1, d1, ds1, p1, q1, rfl, rfl, rfl, h1, r1⟩ := trodAll_cons r0
  obtain ⟨v2, vs2, d2, ds2, p2, q2, rfl, rfl, rfl, h2, r2⟩ := trodAll_cons r1
  obtain ⟨rfl, rfl, rfl⟩ := trodAll_nil r2
  obtain rfl : args = #[v0, v1, v2] := by cases args; simp_all
  obtain ⟨rfl, rfl⟩ := trodVars_none hV
  have k0 := h0
  have lt0 : ∀ x ∈ p0, x.block < W.heap.size := by obtain ⟨m, hm⟩ := k0; exact DataW.trod_lt m _ _ _ hm
  have k1 := h1
  have lt1 : ∀ x ∈ p1, x.block < W.heap.size := by obtain ⟨m, hm⟩ := k1; exact DataW.trod_lt m _ _ _ hm
  have k2 := h2
  have lt2 : ∀ x ∈ p2, x.block < W.heap.size := by obtain ⟨m, hm⟩ := k2; exact DataW.trod_lt m _ _ _ hm
  obtain ⟨a0, rfl, rfl, rfl, w0⟩ := open_string Try.underlying9 (hval 0 9 v0 rfl rfl) h0
  have b0 := sized_of (sized_string hsz (j := 0) (t := 9) rfl rfl)
  obtain ⟨a1, rfl, rfl, rfl, w1⟩ := open_string Try.underlying9 (hval 1 9 v1 rfl rfl) h1
  have b1 := sized_of (sized_string hsz (j := 1) (t := 9) rfl rfl)
  obtain ⟨a2, rfl, rfl, rfl, w2⟩ := open_string Try.underlying9 (hval 2 9 v2 rfl rfl) h2
  have b2 := sized_of (sized_string hsz (j := 2) (t := 9) rfl rfl)
  clear hA0 hval0 hsz0 hsz
  refine (walk a0 a1 a2 W b0 b1 b2).mono fun e W' ⟨he, bel⟩ => ?_
  subst he
  exact ⟨_, rfl, _, _, _, [], _, [], hW', trodAll_mk1 (shut_bool Try.underlying4 _), (trodAll_cons_mk (Below.trod laidOut (by kernel_rfl) (of_decide_eq_true (by kernel_rfl)) k0 bel lt0) (trodAll_cons_mk (Below.trod laidOut (by kernel_rfl) (of_decide_eq_true (by kernel_rfl)) k1 bel lt1) (trodAll_cons_mk (Below.trod laidOut (by kernel_rfl) (of_decide_eq_true (by kernel_rfl)) k2 bel lt2) trodAll_mk0))), rfl, bel.frame _, fun h => by cases h⟩

theorem over : Rows.adlerGroupsRow.holds Try.pinned (OpenSpec.ofChange Rows.adlerGroupsSpec) :=
  OpenClaim.holds_of_wide 8 Try.f8 rfl rfl rfl rfl rfl rfl rfl ⟨rfl, rfl, rfl, rfl, rfl⟩ rfl rfl rfl rfl rfl (by kernel_rfl) Try.func8 (by kernel_rfl)
    (of_decide_eq_true (by kernel_rfl)) (by unfold Func.isWrapper; first | (rw [if_pos (by decide +kernel)]; kernel_rfl) | (rw [if_neg (by decide +kernel)]; exact ⟨rfl, rfl⟩))
    (fun os started H enc _ => lifted os started H enc)

theorem proved : Rows.AdlerGroupsSaid := over
end Go.Proofs.Ythbbefjgmnocdaa.lawGroups
