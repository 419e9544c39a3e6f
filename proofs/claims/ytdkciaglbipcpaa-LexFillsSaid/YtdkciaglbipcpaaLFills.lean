/-
  The statement LexFills is proved for every network, every list of numbers and all lists of lists of numbers: sources are filled as the document says, with the orders and ways that these make. No condition.
-/
import Derived.Deep.DeepCutAuto
import Derived.Test.YtdkciaglbipcpaaFirst7
import Derived.Test.YtdkciaglbipcpaaLTells
import Derived.Test.YtdkciaglbipcpaaWays7
import Derived.Test.YtdkciaglbipcpaaOpen7
import Derived.Test.YtdkciaglbipcpaaFit
import Derived.Test.YtdkciaglbipcpaaOpen
import Derived.Test.YtdkciaglbipcpaaRows
namespace Go.Proofs.Ytdkciaglbipcpaa.lawLFills
open Go.ChangeShapes Go.WideShapes Go.ChangeAt Go.RowKit Gm

set_option maxRecDepth 100000 in
set_option maxHeartbeats 8000000 in
theorem walk (v : Int) (a : Option Addr) (len cap : Nat) (es : List E) (ra : Option Addr) (rlen rcap : Nat) (raw : List Int) (ya : Option Addr) (yl yc : Nat) (yss : List (List Int)) (w : World) (h0 : I64 v ∧ NetAt w.heap.size w a len es ∧ Wide es) (h1 : FlowAt w.heap.size w ra rlen raw ∧ ∀ x ∈ raw, I64 x) (h2 : IntssAt w.heap.size w ya yl yss) :
    Calls Try.prog 4 #[netV v a len cap, .slice ra rlen rcap, .slice ya yl yc] w fun e w' => e = .returned (.bool true) ∧ Below w.heap.size w w' := by
  obtain ⟨hv, hE, hW⟩ := h0
  obtain ⟨hR, hraw⟩ := h1
  obtain ⟨W0, hW0⟩ : ∃ W0, w.alloc (.cells #[.int .i64 v, .slice a len cap] 24) = W0 := ⟨_, rfl⟩
  have hB0 : Below w.heap.size w W0 := by rw [← hW0]; exact (Below.refl _ w).alloc (Nat.le_refl _) _
  have bN : Blk W0 w.heap.size 24 #[.int .i64 v, .slice a len cap] := by rw [← hW0]; exact Blk.new w _ _
  have HW0 := Lib.hid hW0
  have HV := Lib.hid hv
  have HE := Lib.hid hE
  have HWI := Lib.hid hW
  have HR := Lib.hid hR
  have HRAW := Lib.hid hraw
  have hN := fitN_bd v
  obtain ⟨n, hn⟩ : ∃ n : Nat, fitN v = n := ⟨(fitN v).toNat, by omega⟩
  rw [hn] at hN
  have HRT := Lib.hid (fit_right v es)
  rw [hn] at HRT
  have HNN := Lib.hid hn
  have HY := Lib.hid h2
  have hz0 := hB0.size
  clear h2 hW0 hv hE hW hR hraw hn
  go_enter Try.func4, Try.ntmps4
  go_upto_region 2 with (go_at_call 14; rw [HW0.out]; (with_reducible refine (fit_any _ _ _ _ es _ ((HE.out.below hB0).more hB0.size) HV.out HWI.out).mono ?_); rintro e w2 ⟨a2, cap2, rfl, hE2, hb2⟩
                         rw [HNN.out] at hE2 ⊢
                         have hB2 : Below w.heap.size w w2 := hB0.trans (hb2.mono hB0.size)
                         have lN2 : w2.heap.size < w2.heap.size + 1 := by omega)
  obtain ⟨F, hF⟩ : ∃ F, fitEs n es = F := ⟨_, rfl⟩
  rw [hF] at hE2 HRT ⊢
  obtain ⟨fl, hfl⟩ : ∃ fl, F.length = fl := ⟨_, rfl⟩
  rw [hfl] at hE2 ⊢
  have HFL := Lib.hid hfl
  have hflb : fl ≤ 256 := by rw [← hfl]; exact fes_len HRT.out
  obtain ⟨w3, hw3⟩ : ∃ W, w2.alloc (.cells #[.int .i64 (n : Int), .slice a2 fl cap2] 24) = W := ⟨_, rfl⟩
  have bM : Blk w3 w2.heap.size 24 #[.int .i64 (n : Int), .slice a2 fl cap2] := hw3 ▸ Blk.new w2 _ _
  have hB3 : Below w.heap.size w w3 := hw3 ▸ hB2.alloc hB2.size _
  have HE3 : Hid (NetAt w3.heap.size w3 a2 fl F) := Lib.hid (net_on hE2 (hw3 ▸ (Below.refl _ w2).alloc (Nat.le_refl _) _))
  have hz3 := hB3.size
  have HR3 := Lib.hid ((HR.out.below hB3).more hz3)
  have HY3 := Lib.hid ((HY.out.below hB3).more hz3)
  rw [hw3]
  obtain ⟨lM, m0, m1⟩ := bM.two
  clear hF hfl hw3 hE2 hb2 bN hB0 hB2 lN2 hz0
  go_wp2_with (first
    | (go_at_call 15; (with_reducible refine (order_any n _ _ _ F _ _ _ raw _ HE3.out HR3.out HRAW.out (by omega)).mono ?_); rintro e w4 ⟨oa, oc, o, rfl, hO4, hoc, hperm, hb4⟩
       have bM4 := bM.below hb4 bM.lt
       obtain ⟨lM4, m40, m41⟩ := bM4.two
       have HE4 := Lib.hid (net_on HE3.out hb4)
       have HO4 := Lib.hid hO4
       have HY4 := Lib.hid ((HY3.out.below hb4).more hb4.size)
       have hB4 := hB3.trans (hb4.mono hz3)
       have hz4 := hB4.size
       have HPERM := Lib.hid hperm
       have hol : o.length ≤ 256 := by have := order_len hperm; rw [HFL.out] at this; omega
       have HSRC := Lib.hid (order_src hperm)
       clear hO4 hb4 hperm m0 m1)
    | (go_at_call 16; (with_reducible refine (ways_any n _ _ _ F _ _ _ o _ _ _ yss _ HE4.out HO4.out HY4.out HRT.out HSRC.out hol).mono ?_); rintro e w5 ⟨wa, wc, wss, rfl, hWW, hwl, hwok, hb5⟩
       have bM5 := bM4.below hb5 lM4
       obtain ⟨lM5, m50, m51⟩ := bM5.two
       have HE5 := Lib.hid (net_on HE4.out hb5)
       have HO5 := Lib.hid (flow_on HO4.out hb5)
       have HWW5 := Lib.hid hWW
       have hB5 := hB4.trans (hb5.mono hz4)
       have hz5 := hB5.size
       have HFO := Lib.hid (made_form HRT.out HPERM.out hwl (fun i hi => (hwok i hi).1))
       have HR1 := Lib.hid (fillF_form HFO.out)
       clear hb5 hWW hwl hwok m40 m41)
    | (go_at_call 12; (with_reducible refine (qfill_any _ _ _ _ F 0 1 _ _ _ o _ _ _ wss _ HE5.out HO5.out hoc HWW5.out).mono ?_); rw [HR1.out]; rintro e w6 ⟨pa, pl, pc, ga, gl, gc, he, hP6, hG6, hgc6, hb6⟩
       dsimp only at he hP6 hG6
       subst he
       have bM6 := bM5.below hb6 lM5
       obtain ⟨lM6, m60, m61⟩ := bM6.two
       have HE6 := Lib.hid (net_on HE5.out hb6)
       have HO6 := Lib.hid (flow_on HO5.out hb6)
       have HWW6 := Lib.hid (wayss_on HWW5.out hb6)
       have hB6 := hB5.trans (hb6.mono hz5)
       have hz6 := hB6.size
       clear hb6 hP6 hG6 hgc6 m50 m51)
    | (go_at_call 3; (with_reducible refine (lawLTells.tells _ _ _ _ F 0 1 _ _ _ o _ _ _ wss _ HE6.out HO6.out hoc HWW6.out).mono ?_); rintro e w7 ⟨rfl, hb7⟩))
  go_ret
  exact ⟨rfl, hB6.trans (hb7.mono hz6)⟩

theorem own : ownKnob Try.prog.godebug = none := by kernel_rfl
theorem laidOut : laidOutB Try.prog = true := by kernel_rfl

set_option maxRecDepth 100000 in
theorem lifted (os : Os) (started : os.Started) (H : Type) (enc : TypeId × Value → H) :
    ReturnsInHanded {} Try.checked os 4 .any (Rows.lexFillsSpec.pre6 enc Try.prog Try.f4 Rows.lexFillsRow.domain false) (Rows.lexFillsSpec.post enc Try.prog Try.f4 false true false false) := by
  refine returnsInHanded_of_change_sized (C := Try.checked) own started (by kernel_rfl) Try.func4
    (ChangeSpec.witness6 (enc := enc) (C := Try.checked) false ⟨#[], #[.agg #[.int .i64 0, .slice none 0 0], .slice none 0 0, .slice none 0 0], []⟩ 8 (by kernel_rfl) (by kernel_rfl) (by kernel_rfl) (by kernel_rfl)) ?_
  intro W base args ds gs before hval0 hW _ hsz0 _
  have hsz : (DataW.weightsEach Try.prog (Try.f4.params.toList ++ Rows.lexFillsSpec.plain.varTypes Try.prog) (ds ++ gs)).all (· ≤ reachBytes) = true := hsz0
  have hval : ∀ (j : Nat) t v, Try.f4.params[j]? = some t → args[j]? = some v → Value.okWide Try.prog W .any base t v := hval0
  have hW' := hW
  obtain ⟨p, q, hA0, hV, rfl, hfz, hnd⟩ := hW
  have hA : DataW.TrodAll enc Try.prog W 0 (fun _ => true) true Try.f4.params.toList args.toList ds p := hA0
  rw [Try.params4] at hA hval hsz
  obtain ⟨v0, vs0, d0, ds0, p0, q0, hargs, rfl, rfl, h0, r0⟩ := trodAll_cons hA
  obtain ⟨v1, vs1, d1, ds1, p1, q1, rfl, rfl, rfl, h1, r1⟩ := trodAll_cons r0
  obtain ⟨v2, vs2, d2, ds2, p2, q2, rfl, rfl, rfl, h2, r2⟩ := trodAll_cons r1
  obtain ⟨rfl, rfl, rfl⟩ := trodAll_nil r2
  obtain rfl : args = #[v0, v1, v2] := by cases args; simp_all
  obtain ⟨rfl, rfl⟩ := trodVars_none hV
  have k0 := h0
  have lt0 : ∀ x ∈ p0, x.block < W.heap.size := by obtain ⟨m, hm⟩ := k0; exact DataW.trod_lt m _ _ _ hm
  have k1 := h1
  have lt1 : ∀ x ∈ p1, x.block < W.heap.size := by obtain ⟨m, hm⟩ := k1; exact DataW.trod_lt m _ _ _ hm
  have k2 := h2
  have lt2 : ∀ x ∈ p2, x.block < W.heap.size := by obtain ⟨m, hm⟩ := k2; exact DataW.trod_lt m _ _ _ hm
  obtain ⟨n0, a0, len0, cap0, es0, rfl, b0⟩ := net_of (hval 0 24 v0 rfl rfl) k0 (weights_at hsz (j := 0) (t := 24) rfl rfl)
  obtain ⟨a1, len1, cap1, rfl⟩ := okWide_slice Try.underlying25 (hval 1 25 v1 rfl rfl)
  obtain ⟨z1, b1⟩ := ints_of k1 (weights_at hsz (j := 1) (t := 25) rfl rfl)
  obtain ⟨a2, len2, cap2, rfl⟩ := okWide_slice Try.underlying33 (hval 2 33 v2 rfl rfl)
  obtain ⟨z2, b2⟩ := intss_of k2 (weights_at hsz (j := 2) (t := 33) rfl rfl)
  clear hA0 hval0 hsz0 hsz
  refine (walk n0 a0 len0 cap0 es0 a1 len1 cap1 z1 a2 len2 cap2 z2 W b0 b1 b2).mono fun e W' ⟨he, bel⟩ => ?_
  subst he
  exact ⟨_, rfl, _, _, _, [], _, [], hW', trodAll_mk1 (shut_bool Try.underlying4 _), (trodAll_cons_mk (Below.trod laidOut (by kernel_rfl) (of_decide_eq_true (by kernel_rfl)) k0 bel lt0) (trodAll_cons_mk (Below.trod laidOut (by kernel_rfl) (of_decide_eq_true (by kernel_rfl)) k1 bel lt1) (trodAll_cons_mk (Below.trod laidOut (by kernel_rfl) (of_decide_eq_true (by kernel_rfl)) k2 bel lt2) trodAll_mk0))), rfl, bel.frame _, fun h => by cases h⟩

theorem over : Rows.lexFillsRow.holds Try.pinned (OpenSpec.ofChange Rows.lexFillsSpec) :=
  OpenClaim.holds_of_wide 4 Try.f4 rfl rfl rfl rfl rfl rfl rfl ⟨rfl, rfl, rfl, rfl, rfl⟩ rfl rfl rfl rfl rfl (by kernel_rfl) Try.func4 (by kernel_rfl)
    (of_decide_eq_true (by kernel_rfl)) (by unfold Func.isWrapper; first | (rw [if_pos (by decide +kernel)]; kernel_rfl) | (rw [if_neg (by decide +kernel)]; exact ⟨rfl, rfl⟩))
    (fun os started H enc _ => lifted os started H enc)

theorem proved : Rows.LexFillsSaid := over
end Go.Proofs.Ytdkciaglbipcpaa.lawLFills
