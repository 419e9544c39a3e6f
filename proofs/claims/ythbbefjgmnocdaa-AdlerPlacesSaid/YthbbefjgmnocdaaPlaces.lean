/-
  The statement AdlerPlaces is proved for every text and any place: two unlike bytes that stand side by side and changed places are told. No condition.
-/
import Derived.Deep.RegionHeld3
import Derived.Test.YthbbefjgmnocdaaAwake
import Derived.Test.YthbbefjgmnocdaaOpen
import Derived.Test.YthbbefjgmnocdaaRows
namespace Go.Proofs.Ythbbefjgmnocdaa.lawPlaces
open Go.ChangeShapes Go.WideShapes Go.ChangeAt Go.RowKit
open Go.ChangeMaps (open_string shut_string)

set_option maxHeartbeats 1000000 in
theorem walk (s : ByteArray) (c : Int) (w : World) (_hs : s.size ≤ 140737488351232) (hc : I64 c) :
    Calls Try.prog 7 #[.string s, .int .i64 c] w fun e w' => e = .returned (.bool true) ∧ Below w.heap.size w w' := by
  have m1 : ∀ ts ty w, (Builtin.min_ ts ty #[.int .i64 (s.size : Int), .int .i64 65520]).run Try.prog w = .ok (.int .i64 ((min s.size 65520 : Nat) : Int)) w := min_at _ 65520
  obtain ⟨l, hl, s1⟩ : ∃ l : List UInt8, l.length = min s.size 65520 ∧ ∀ w, (Instr.slice 9 (.string s) none (some (.int .i64 ((min s.size 65520 : Nat) : Int))) none).run Try.prog w = .ok (.string (S l)) w := by
    refine ⟨s.data.toList.take (min s.size 65520), by rw [List.length_take, size_list]; omega, fun w => ?_⟩
    have e := slice_to s.data.toList (min s.size 65520) (by rw [size_list]; omega) w
    rw [S_eq] at e
    exact e
  have hl3 : l.length ≤ 65520 := by omega
  have hsz := S_size l
  clear hl
  by_cases h2 : l.length < 2
  · go_enter Try.func7, Try.ntmps7
    go_wp2_with (go_at_call 10; refine (awake_any _).mono ?_; rintro e w1 ⟨rfl, hb1⟩)
    go_ret
    exact ⟨rfl, hb1⟩
  · have hp := Am.pick_bd c ((l.length : Int) - 1) (by omega)
    obtain ⟨n, hn⟩ : ∃ n : Nat, Am.pick c ((l.length : Int) - 1) = (n : Int) := ⟨(Am.pick c ((l.length : Int) - 1)).toNat, by omega⟩
    rw [hn] at hp
    obtain ⟨hp1, hp2⟩ := hp
    have HN := Lib.hid hn
    have HC := Lib.hid hc
    clear hc hn
    go_enter Try.func7, Try.ntmps7
    go_wp2_with fail
    refine (awake_any _).mono ?_; rintro e w1 ⟨rfl, hb1⟩
    obtain ⟨cap, w2, hcv, hb2, hz2, hcap, hc2, hf2⟩ := bytes_of l w1
    go_wp2_with fail
    refine (pick_any _ _ _ HC.out ⟨by omega, by omega⟩).mono ?_; rintro e w3 ⟨rfl, rfl⟩
    rw [HN.out]
    have hx := hc2 n (by omega)
    have hy := hc2 (n + 1) (by omega)
    have hfx := hf2 n (by omega)
    have hfy := hf2 (n + 1) (by omega)
    clear hcv
    go_wp2
    have hw4 : BytesAt ((w2.setCell ⟨w1.heap.size, n, none⟩ (.int .u8 (l[n + 1].toNat : Int))).setCell ⟨w1.heap.size, n + 1, none⟩ (.int .u8 (l[n].toNat : Int))) w1.heap.size ((l.set n l[n + 1]).set (n + 1) l[n]) :=
      (BytesAt.set hc2 n (by omega) l[n + 1]).set (n + 1) (by rw [List.length_set]; omega) l[n]
    have hB4 : Below w.heap.size w ((w2.setCell ⟨w1.heap.size, n, none⟩ (.int .u8 (l[n + 1].toNat : Int))).setCell ⟨w1.heap.size, n + 1, none⟩ (.int .u8 (l[n].toNat : Int))) :=
      ((bt hb1 hb2).setCell (p := ⟨w1.heap.size, n, none⟩) hb1.size _).setCell (p := ⟨w1.heap.size, n + 1, none⟩) hb1.size _
    have hlt4 : w1.heap.size < ((w2.setCell ⟨w1.heap.size, n, none⟩ (.int .u8 (l[n + 1].toNat : Int))).setCell ⟨w1.heap.size, n + 1, none⟩ (.int .u8 (l[n].toNat : Int))).heap.size := by simp; omega
    generalize ((w2.setCell ⟨w1.heap.size, n, none⟩ (.int .u8 (l[n + 1].toNat : Int))).setCell ⟨w1.heap.size, n + 1, none⟩ (.int .u8 (l[n].toNat : Int))) = w4 at *
    obtain ⟨L, hL⟩ : ∃ L, (l.set n l[n + 1]).set (n + 1) l[n] = L := ⟨_, rfl⟩
    have hLn : L.length = l.length := by rw [← hL, List.length_set, List.length_set]
    have hsum := Am.sum_swap l n (by omega)
    rw [hL] at hsum hw4
    have g1 : l[n + 1] = L[n]'(by omega) := by subst hL; rw [List.getElem_set_ne (by omega), List.getElem_set_self]
    have g2 : l[n] = L[n + 1]'(by omega) := by subst hL; rw [List.getElem_set_self]
    rw [g1, g2] at hsum
    have HS : Hid (∀ w', Below w4.heap.size w4 w' → (w'.cell? ⟨w1.heap.size, n, none⟩ = some (.int .u8 ((L[n]'(by omega)).toNat : Int)) ∧ w'.cell? ⟨w1.heap.size, n + 1, none⟩ = some (.int .u8 ((L[n + 1]'(by omega)).toNat : Int)) ∧ BytesAt w' w1.heap.size L)) :=
      Lib.hid fun w' h => ⟨(hw4.below h hlt4) n (by omega), (hw4.below h hlt4) (n + 1) (by omega), hw4.below h hlt4⟩
    have HT : Hid ((Am.sum L == Am.sum l) = (((L[n]'(by omega)).toNat : Int) == ((L[n + 1]'(by omega)).toNat : Int))) := Lib.hid (by
      rw [Bool.eq_iff_iff, beq_iff_eq, beq_iff_eq, hsum, Int.ofNat_inj, UInt8.toNat_inj])
    have HL := Lib.hid hLn
    have hcv : ∀ w', BytesAt w' w1.heap.size L → (convert 32 9 (.slice (some ⟨w1.heap.size, 0, none⟩) l.length cap)).run Try.prog w' = .ok (.string (S L)) w' := fun w' h => by
      have e := str_of h cap
      rwa [hLn] at e
    have d0 := HS.out w4.drew (Below.refl _ _).drew
    clear hL hsum g1 g2 hw4 hx hy hfx hfy hc2 hf2 hb2 hb1 m1 s1 hz2
    have hb0 : Below w4.heap.size w4 w4.drew := (Below.refl _ _).drew
    have i1 : (0 : Int) ≤ (n : Int) := by omega
    have i2 : (n : Int) < (l.length : Int) := by omega
    have i3 : (0 : Int) ≤ (n : Int) + 1 := by omega
    have i4 : (n : Int) + 1 < (l.length : Int) := by omega
    have i5 : IntKind.i64.wrap ((n : Int) + 1) = (n : Int) + 1 := IntWalk.i64_in _ (by omega)
    have i6 : ((n : Int) + 1).toNat = n + 1 := by omega
    go_region_held3 (fun w' => w'.cell? ⟨w1.heap.size, n, none⟩ = some (.int .u8 ((L[n]'(by have := HL.out; omega)).toNat : Int)) ∧ w'.cell? ⟨w1.heap.size, n + 1, none⟩ = some (.int .u8 ((L[n + 1]'(by have := HL.out; omega)).toNat : Int)) ∧ BytesAt w' w1.heap.size L) (exact d0)
      (first | (go_at_call 11; refine (sum_any _ _ (by first | omega | (have := HL.out; omega))).mono ?_; rintro e w5 ⟨rfl, hb5⟩; have q5 := bt (show Below w4.heap.size w4 _ by assumption) hb5; have d0 := HS.out _ q5))
    all_goals
      rw [HT.out, beq_self_eq_true]
      go_wp2
      go_ret
      exact ⟨rfl, bt hB4 (by assumption)⟩

theorem own : ownKnob Try.prog.godebug = none := by kernel_rfl
theorem laidOut : laidOutB Try.prog = true := by kernel_rfl

set_option maxRecDepth 100000 in
theorem lifted (os : Os) (started : os.Started) (H : Type) (enc : TypeId × Value → H) :
    ReturnsInHanded {} Try.checked os 7 .any (Rows.adlerPlacesSpec.pre6 enc Try.prog Try.f7 Rows.adlerPlacesRow.domain false) (Rows.adlerPlacesSpec.post enc Try.prog Try.f7 false true false false) := by
  refine returnsInHanded_of_change_sized (C := Try.checked) own started (by kernel_rfl) Try.func7
    (ChangeSpec.witness6 (enc := enc) (C := Try.checked) false ⟨#[], #[.string ByteArray.empty, .int .i64 0], []⟩ 8 (by kernel_rfl) (by kernel_rfl) (by kernel_rfl) (by kernel_rfl)) ?_
  intro W base args ds gs before hval0 hW _ hsz0 _
  have hsz : (DataW.weightsEach Try.prog (Try.f7.params.toList ++ Rows.adlerPlacesSpec.plain.varTypes Try.prog) (ds ++ gs)).all (· ≤ reachBytes) = true := hsz0
  have hval : ∀ (j : Nat) t v, Try.f7.params[j]? = some t → args[j]? = some v → Value.okWide Try.prog W .any base t v := hval0
  have hW' := hW
  obtain ⟨p, q, hA0, hV, rfl, hfz, hnd⟩ := hW
  have hA : DataW.TrodAll enc Try.prog W 0 (fun _ => true) true Try.f7.params.toList args.toList ds p := hA0
  rw [Try.params7] at hA hval hsz
  obtain ⟨v0, vs0, d0, ds0, p0, q0, hargs, rfl, rfl, h0, r0⟩ := trodAll_cons hA
  obtain ⟨v1, vs1, d1, ds1, p1, q1, rfl, rfl, rfl, h1, r1⟩ := trodAll_cons r0
  obtain ⟨rfl, rfl, rfl⟩ := trodAll_nil r1
  obtain rfl : args = #[v0, v1] := by cases args; simp_all
  obtain ⟨rfl, rfl⟩ := trodVars_none hV
  have k0 := h0
  have lt0 : ∀ x ∈ p0, x.block < W.heap.size := by obtain ⟨m, hm⟩ := k0; exact DataW.trod_lt m _ _ _ hm
  have k1 := h1
  have lt1 : ∀ x ∈ p1, x.block < W.heap.size := by obtain ⟨m, hm⟩ := k1; exact DataW.trod_lt m _ _ _ hm
  obtain ⟨a0, rfl, rfl, rfl, w0⟩ := open_string Try.underlying9 (hval 0 9 v0 rfl rfl) h0
  have b0 := sized_of (sized_string hsz (j := 0) (t := 9) rfl rfl)
  obtain ⟨a1, rfl, rfl, rfl, w1⟩ := open_int Try.underlying3 (hval 1 3 v1 rfl rfl) h1
  have b1 := in_of_wf w1
  clear hA0 hval0 hsz0 hsz
  refine (walk a0 a1 W b0 b1).mono fun e W' ⟨he, bel⟩ => ?_
  subst he
  exact ⟨_, rfl, _, _, _, [], _, [], hW', trodAll_mk1 (shut_bool Try.underlying4 _), (trodAll_cons_mk (Below.trod laidOut (by kernel_rfl) (of_decide_eq_true (by kernel_rfl)) k0 bel lt0) (trodAll_cons_mk (Below.trod laidOut (by kernel_rfl) (of_decide_eq_true (by kernel_rfl)) k1 bel lt1) trodAll_mk0)), rfl, bel.frame _, fun h => by cases h⟩

theorem over : Rows.adlerPlacesRow.holds Try.pinned (OpenSpec.ofChange Rows.adlerPlacesSpec) :=
  OpenClaim.holds_of_wide 7 Try.f7 rfl rfl rfl rfl rfl rfl rfl ⟨rfl, rfl, rfl, rfl, rfl⟩ rfl rfl rfl rfl rfl (by kernel_rfl) Try.func7 (by kernel_rfl)
    (of_decide_eq_true (by kernel_rfl)) (by unfold Func.isWrapper; first | (rw [if_pos (by decide +kernel)]; kernel_rfl) | (rw [if_neg (by decide +kernel)]; exact ⟨rfl, rfl⟩))
    (fun os started H enc _ => lifted os started H enc)

theorem proved : Rows.AdlerPlacesSaid := over
end Go.Proofs.Ythbbefjgmnocdaa.lawPlaces
