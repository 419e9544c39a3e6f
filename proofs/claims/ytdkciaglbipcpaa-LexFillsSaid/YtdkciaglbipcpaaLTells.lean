/-
  The statement LexTells is proved for every network, every two numbers, every list of numbers and all lists of ways: sources are filled as the document says. No condition.
-/
import Derived.Deep.DeepCutAuto
import Derived.Test.YtdkciaglbipcpaaFirst7
import Derived.Test.YtdkciaglbipcpaaOpen7
import Derived.Test.YtdkciaglbipcpaaRows
namespace Go.Proofs.Ytdkciaglbipcpaa.lawLTells
open Go.ChangeShapes Go.WideShapes Go.ChangeAt Go.RowKit Gm

set_option maxRecDepth 100000 in
set_option maxHeartbeats 4000000 in
theorem tells (v : Int) (a : Option Addr) (len cap : Nat) (es : List E) (s t : Int) (oa : Option Addr) (ol oc : Nat) (order : List Int) (wa : Option Addr) (wl wc : Nat) (wss : List (List WayE)) (w : World) (hE : NetAt w.heap.size w a len es) (hO : FlowAt w.heap.size w oa ol order) (hoc : ol ≤ oc) (hWW : WayssAt w.heap.size w wa wl wss) :
    Calls Try.prog 3 #[netV v a len cap, .int .i64 s, .int .i64 t, .slice oa ol oc, .slice wa wl wc] w fun e w' => e = .returned (.bool true) ∧ Below w.heap.size w w' := by
  obtain ⟨W0, hW0⟩ : ∃ W0, w.alloc (.cells #[.int .i64 v, .slice a len cap] 24) = W0 := ⟨_, rfl⟩
  have hB0 : Below w.heap.size w W0 := by rw [← hW0]; exact (Below.refl _ w).alloc (Nat.le_refl _) _
  have bN : Blk W0 w.heap.size 24 #[.int .i64 v, .slice a len cap] := by rw [← hW0]; exact Blk.new w _ _
  have HW0 := Lib.hid hW0
  have HE := Lib.hid hE
  have HO := Lib.hid hO
  have HWW := Lib.hid hWW
  have hz0 := hB0.size
  clear hW0 hE hO hWW
  have hsp : (300 < len) ∨ (¬ 300 < len ∧ 300 < ol) ∨ (¬ 300 < len ∧ ¬ 300 < ol ∧ 300 < wl) ∨ (len ≤ 300 ∧ ol ≤ 300 ∧ wl ≤ 300) := by omega
  rcases hsp with h | ⟨h, h2⟩ | ⟨h, h2, h3⟩ | ⟨h, h2, h3⟩
  · have h' : (300 : Int) < (len : Int) := by omega
    go_enter Try.func3, Try.ntmps3
    go_wp2_with (go_at_call 10; rw [HW0.out]; (with_reducible refine (awake7_any _).mono ?_); rintro e w1 ⟨rfl, hb1⟩
                 obtain ⟨lN1, n0, n1⟩ := (bN.below hb1 bN.lt).two)
    go_ret
    exact ⟨rfl, hB0.trans (hb1.mono hz0)⟩
  · have h' : ¬ (300 : Int) < (len : Int) := by omega
    have h2' : (300 : Int) < (ol : Int) := by omega
    go_enter Try.func3, Try.ntmps3
    go_wp2_with (go_at_call 10; rw [HW0.out]; (with_reducible refine (awake7_any _).mono ?_); rintro e w1 ⟨rfl, hb1⟩
                 obtain ⟨lN1, n0, n1⟩ := (bN.below hb1 bN.lt).two)
    go_ret
    exact ⟨rfl, hB0.trans (hb1.mono hz0)⟩
  · have h' : ¬ (300 : Int) < (len : Int) := by omega
    have h2' : ¬ (300 : Int) < (ol : Int) := by omega
    have h3' : (300 : Int) < (wl : Int) := by omega
    go_enter Try.func3, Try.ntmps3
    go_wp2_with (go_at_call 10; rw [HW0.out]; (with_reducible refine (awake7_any _).mono ?_); rintro e w1 ⟨rfl, hb1⟩
                 obtain ⟨lN1, n0, n1⟩ := (bN.below hb1 bN.lt).two)
    go_ret
    exact ⟨rfl, hB0.trans (hb1.mono hz0)⟩
  · have h' : ¬ (300 : Int) < (len : Int) := by omega
    have h2' : ¬ (300 : Int) < (ol : Int) := by omega
    have h3' : ¬ (300 : Int) < (wl : Int) := by omega
    obtain ⟨X, Y, z, hR⟩ : ∃ X Y z, fillF v es s t order wss = (X, Y, z) := ⟨_, _, _, rfl⟩
    have HR := Lib.hid hR
    have tz : (z == z) = true := by simp
    clear hR
    go_enter Try.func3, Try.ntmps3
    go_upto_region 4 with (go_at_call 10; rw [HW0.out]; (with_reducible refine (awake7_any _).mono ?_); rintro e w1 ⟨rfl, hb1⟩
                           have bN1 := bN.below hb1 bN.lt
                           obtain ⟨lN1, n0, n1⟩ := bN1.two
                           have hB1 : Below w.heap.size w w1 := hB0.trans (hb1.mono hz0)
                           have hz1 := hB1.size)
    obtain ⟨v', w2, hr, hown, hg2⟩ := append_nil_ints (cap := oc) ((HO.out.below hB1).more hz1) (by omega) 25 w1.heap.size (Nat.le_refl _)
    have hB2 : Below w.heap.size w w2 := hB1.grown hg2 hz1 (fun k e => by cases e)
    have bN2 := bN1.kept hg2 (by simp)
    obtain ⟨na, nc, rfl⟩ := own_form hown
    obtain ⟨lN2, n20, n21⟩ := bN2.two
    have HN2 : Hid (FlowAt w2.heap.size w2 na ol order) := Lib.hid (by
      have hl := HO.out.1
      rw [← hl] at hown
      have := (ints_own (a := na) (len := ol) (cap := nc) (by rw [hl] at hown ⊢; exact hown) (by omega)).2
      exact this)
    have hz2 := hB2.size
    have HE2 := Lib.hid ((HE.out.below hB2).more hz2)
    have HO2 := Lib.hid ((HO.out.below hB2).more hz2)
    have HWW2 := Lib.hid ((HWW.out.below hB2).more hz2)
    clear hown hg2 n0 n1 hb1
    go_wp2_with (first
      | (at_builtin
         refine wpList_append_run (by rfl) (.const (.slice none 0 0)) (.tmp 35) 25 25 (by rfl) (by rfl) (by rfl) hr ?_
         clear hr)
      | (go_at_call 11; (with_reducible refine (fill_any _ _ _ _ es s t _ _ _ order _ _ _ wss _ HE2.out HN2.out HWW2.out).mono ?_); rw [HR.out]; rintro e w3 ⟨pa, pl, pc, ga, gl, gc, he, hP3, hG3, _, hb3⟩
         dsimp only at he hP3 hG3
         subst he
         have bN3 := bN2.below hb3 lN2
         obtain ⟨lN3, n30, n31⟩ := bN3.two
         have HE3 := Lib.hid (net_on HE2.out hb3)
         have HO3 := Lib.hid (flow_on HO2.out hb3)
         have HN3 := Lib.hid (flow_on HN2.out hb3)
         have HWW3 := Lib.hid (wayss_on HWW2.out hb3)
         have HP3 := Lib.hid hP3
         have HG3 := Lib.hid hG3
         have hB3 := hB2.trans (hb3.mono hz2)
         have hz3 := hB3.size
         clear hP3 hG3 hb3)
      | (go_at_call 12; (with_reducible refine (qfill_any _ _ _ _ es s t _ _ _ order _ _ _ wss _ HE3.out HO3.out hoc HWW3.out).mono ?_); rw [HR.out]; rintro e w4 ⟨qa, ql, qc, ra, rl, rc, he, hP4, hG4, _, hb4⟩
         dsimp only at he hP4 hG4
         subst he
         have HO4 := Lib.hid (flow_on HO3.out hb4)
         have HN4 := Lib.hid (flow_on HN3.out hb4)
         have HP34 := Lib.hid (flow_on HP3.out hb4)
         have HG34 := Lib.hid (flow_on HG3.out hb4)
         have HP4 := Lib.hid hP4
         have HG4 := Lib.hid hG4
         have hB4 := hB3.trans (hb4.mono hz3)
         have hz4 := hB4.size
         clear hP4 hG4 hb4)
      | (go_at_call 13; (with_reducible refine (intsame_yes _ _ _ _ _ _ X _ HP34.out HP4.out).mono ?_); rintro e w5 ⟨rfl, hd5⟩
         have HO5 := Lib.hid (flow_on HO4.out (hd5.low _))
         have HN5 := Lib.hid (flow_on HN4.out (hd5.low _))
         have HG35 := Lib.hid (flow_on HG34.out (hd5.low _))
         have HG5 := Lib.hid (flow_on HG4.out (hd5.low _))
         have hB5 := hB4.trans (hd5.low _)
         have hz5 := hB5.size
         clear hd5)
      | (go_at_call 13; (with_reducible refine (intsame_yes _ _ _ _ _ _ Y _ HG35.out HG5.out).mono ?_); rintro e w6 ⟨rfl, hd6⟩
         have HO6 := Lib.hid (flow_on HO5.out (hd6.low _))
         have HN6 := Lib.hid (flow_on HN5.out (hd6.low _))
         have hB6 := hB5.trans (hd6.low _)
         clear hd6)
      | (go_at_call 13; (with_reducible refine (intsame_yes _ _ _ _ _ _ order _ HN6.out HO6.out).mono ?_); rintro e w7 ⟨rfl, hd7⟩))
    go_ret
    exact ⟨rfl, hB6.trans (hd7.low _)⟩

theorem walk (v : Int) (a : Option Addr) (len cap : Nat) (es : List E) (s t : Int) (oa : Option Addr) (ol oc : Nat) (order : List Int) (wa : Option Addr) (wl wc : Nat) (wss : List (List WayE)) (w : World) (h0 : I64 v ∧ NetAt w.heap.size w a len es ∧ Wide es) (_hs : I64 s) (_ht : I64 t) (h3 : (FlowAt w.heap.size w oa ol order ∧ ∀ x ∈ order, I64 x) ∧ ol ≤ oc) (hWW : WayssAt w.heap.size w wa wl wss) :
    Calls Try.prog 3 #[netV v a len cap, .int .i64 s, .int .i64 t, .slice oa ol oc, .slice wa wl wc] w fun e w' => e = .returned (.bool true) ∧ Below w.heap.size w w' :=
  tells v a len cap es s t oa ol oc order wa wl wc wss w h0.2.1 h3.1.1 h3.2 hWW

theorem own : ownKnob Try.prog.godebug = none := by kernel_rfl
theorem laidOut : laidOutB Try.prog = true := by kernel_rfl

set_option maxRecDepth 100000 in
theorem lifted (os : Os) (started : os.Started) (H : Type) (enc : TypeId × Value → H) :
    ReturnsInHanded {} Try.checked os 3 .any (Rows.lexTellsSpec.pre6 enc Try.prog Try.f3 Rows.lexTellsRow.domain false) (Rows.lexTellsSpec.post enc Try.prog Try.f3 false true false false) := by
  refine returnsInHanded_of_change_sized (C := Try.checked) own started (by kernel_rfl) Try.func3
    (ChangeSpec.witness6 (enc := enc) (C := Try.checked) false ⟨#[], #[.agg #[.int .i64 0, .slice none 0 0], .int .i64 0, .int .i64 0, .slice none 0 0, .slice none 0 0], []⟩ 8 (by kernel_rfl) (by kernel_rfl) (by kernel_rfl) (by kernel_rfl)) ?_
  intro W base args ds gs before hval0 hW _ hsz0 _
  have hsz : (DataW.weightsEach Try.prog (Try.f3.params.toList ++ Rows.lexTellsSpec.plain.varTypes Try.prog) (ds ++ gs)).all (· ≤ reachBytes) = true := hsz0
  have hval : ∀ (j : Nat) t v, Try.f3.params[j]? = some t → args[j]? = some v → Value.okWide Try.prog W .any base t v := hval0
  have hW' := hW
  obtain ⟨p, q, hA0, hV, rfl, hfz, hnd⟩ := hW
  have hA : DataW.TrodAll enc Try.prog W 0 (fun _ => true) true Try.f3.params.toList args.toList ds p := hA0
  rw [Try.params3] at hA hval hsz
  obtain ⟨v0, vs0, d0, ds0, p0, q0, hargs, rfl, rfl, h0, r0⟩ := trodAll_cons hA
  obtain ⟨v1, vs1, d1, ds1, p1, q1, rfl, rfl, rfl, h1, r1⟩ := trodAll_cons r0
  obtain ⟨v2, vs2, d2, ds2, p2, q2, rfl, rfl, rfl, h2, r2⟩ := trodAll_cons r1
  obtain ⟨v3, vs3, d3, ds3, p3, q3, rfl, rfl, rfl, h3, r3⟩ := trodAll_cons r2
  obtain ⟨v4, vs4, d4, ds4, p4, q4, rfl, rfl, rfl, h4, r4⟩ := trodAll_cons r3
  obtain ⟨rfl, rfl, rfl⟩ := trodAll_nil r4
  obtain rfl : args = #[v0, v1, v2, v3, v4] := by cases args; simp_all
  obtain ⟨rfl, rfl⟩ := trodVars_none hV
  have k0 := h0
  have lt0 : ∀ x ∈ p0, x.block < W.heap.size := by obtain ⟨m, hm⟩ := k0; exact DataW.trod_lt m _ _ _ hm
  have k1 := h1
  have lt1 : ∀ x ∈ p1, x.block < W.heap.size := by obtain ⟨m, hm⟩ := k1; exact DataW.trod_lt m _ _ _ hm
  have k2 := h2
  have lt2 : ∀ x ∈ p2, x.block < W.heap.size := by obtain ⟨m, hm⟩ := k2; exact DataW.trod_lt m _ _ _ hm
  have k3 := h3
  have lt3 : ∀ x ∈ p3, x.block < W.heap.size := by obtain ⟨m, hm⟩ := k3; exact DataW.trod_lt m _ _ _ hm
  have k4 := h4
  have lt4 : ∀ x ∈ p4, x.block < W.heap.size := by obtain ⟨m, hm⟩ := k4; exact DataW.trod_lt m _ _ _ hm
  obtain ⟨n0, a0, len0, cap0, es0, rfl, b0⟩ := net_of (hval 0 24 v0 rfl rfl) k0 (weights_at hsz (j := 0) (t := 24) rfl rfl)
  obtain ⟨a1, rfl, rfl, rfl, w1⟩ := open_int Try.underlying3 (hval 1 3 v1 rfl rfl) h1
  have b1 := in_of_wf w1
  obtain ⟨a2, rfl, rfl, rfl, w2⟩ := open_int Try.underlying3 (hval 2 3 v2 rfl rfl) h2
  have b2 := in_of_wf w2
  obtain ⟨a3, len3, cap3, rfl⟩ := okWide_slice Try.underlying25 (hval 3 25 v3 rfl rfl)
  have m3 := ints_cap k3
  obtain ⟨z3, b3⟩ := ints_of k3 (weights_at hsz (j := 3) (t := 25) rfl rfl)
  obtain ⟨a4, len4, cap4, rfl⟩ := okWide_slice Try.underlying26 (hval 4 26 v4 rfl rfl)
  obtain ⟨z4, b4⟩ := wayss_of k4 (weights_at hsz (j := 4) (t := 26) rfl rfl)
  clear hA0 hval0 hsz0 hsz
  refine (walk n0 a0 len0 cap0 es0 a1 a2 a3 len3 cap3 z3 a4 len4 cap4 z4 W b0 b1 b2 ⟨b3, m3⟩ b4).mono fun e W' ⟨he, bel⟩ => ?_
  subst he
  exact ⟨_, rfl, _, _, _, [], _, [], hW', trodAll_mk1 (shut_bool Try.underlying4 _), (trodAll_cons_mk (Below.trod laidOut (by kernel_rfl) (of_decide_eq_true (by kernel_rfl)) k0 bel lt0) (trodAll_cons_mk (Below.trod laidOut (by kernel_rfl) (of_decide_eq_true (by kernel_rfl)) k1 bel lt1) (trodAll_cons_mk (Below.trod laidOut (by kernel_rfl) (of_decide_eq_true (by kernel_rfl)) k2 bel lt2) (trodAll_cons_mk (Below.trod laidOut (by kernel_rfl) (of_decide_eq_true (by kernel_rfl)) k3 bel lt3) (trodAll_cons_mk (Below.trod laidOut (by kernel_rfl) (of_decide_eq_true (by kernel_rfl)) k4 bel lt4) trodAll_mk0))))), rfl, bel.frame _, fun h => by cases h⟩

theorem over : Rows.lexTellsRow.holds Try.pinned (OpenSpec.ofChange Rows.lexTellsSpec) :=
  OpenClaim.holds_of_wide 3 Try.f3 rfl rfl rfl rfl rfl rfl rfl ⟨rfl, rfl, rfl, rfl, rfl⟩ rfl rfl rfl rfl rfl (by kernel_rfl) Try.func3 (by kernel_rfl)
    (of_decide_eq_true (by kernel_rfl)) (by unfold Func.isWrapper; first | (rw [if_pos (by decide +kernel)]; kernel_rfl) | (rw [if_neg (by decide +kernel)]; exact ⟨rfl, rfl⟩))
    (fun os started H enc _ => lifted os started H enc)

theorem proved : Rows.LexTellsSaid := over
end Go.Proofs.Ytdkciaglbipcpaa.lawLTells
