/-
  The statement GraphAdds is proved for every network and every list of numbers: of the flow that they make no vertex but 0 and 1 lets more out than comes in, and all together neither win nor lose. No condition.
-/
import Derived.Test.YthaioeebnpjajaaAwake
import Derived.Test.YthaioeebnpjajaaFlow
import Derived.Test.YthaioeebnpjajaaOpen
import Derived.Test.YthaioeebnpjajaaRows
namespace Go.Proofs.Ythaioeebnpjajaa.lawAdds
open Go.ChangeShapes Go.WideShapes Go.ChangeAt Go.RowKit Gm

theorem value_at {n : Nat} {es : List E} {fl : List Int} (h : GoodF n es fl) {s : Int} (h0 : 0 ≤ s) (h1 : s < n) : value n es fl s = gain (es.zip fl) s := by
  unfold value
  rw [h.fits]
  have : vtx n s = true := by simp [vtx, h0, h1]
  rw [this]; rfl
theorem flow_bd {n : Nat} {es : List E} {fl : List Int} (h : GoodF n es fl) : 0 ≤ gain (es.zip fl) 0 ∧ gain (es.zip fl) 0 ≤ 256000 := by
  refine ⟨h.pos, ?_⟩
  have h1 := gain_bd (es.zip fl) 0 (fun p hp => by
    have a := h.fit p hp
    have b := okE_iff.1 (h.ok p hp)
    omega)
  have h2 : (es.zip fl).length ≤ 256 := by
    have := (right_iff.1 h.net).2.2.1
    rw [List.length_zip]; omega
  omega

set_option maxRecDepth 100000 in
set_option maxHeartbeats 4000000 in
theorem walk (v : Int) (a : Option Addr) (len cap : Nat) (es : List E) (ra : Option Addr) (rlen rcap : Nat) (raw : List Int) (w : World) (h0 : I64 v ∧ NetAt w.heap.size w a len es ∧ Wide es) (h1 : FlowAt w.heap.size w ra rlen raw ∧ ∀ x ∈ raw, I64 x) :
    Calls Try.prog 8 #[netV v a len cap, .slice ra rlen rcap] w fun e w' => e = .returned (.bool true) ∧ Below w.heap.size w w' := by
  obtain ⟨hv, hE, hW⟩ := h0
  obtain ⟨hR, hraw⟩ := h1
  obtain ⟨W0, hW0⟩ : ∃ W0, w.alloc (.cells #[.int .i64 v, .slice a len cap] 24) = W0 := ⟨_, rfl⟩
  have hB0 : Below w.heap.size w W0 := by rw [← hW0]; exact (Below.refl _ w).alloc (Nat.le_refl _) _
  have bN : Blk W0 w.heap.size 24 #[.int .i64 v, .slice a len cap] := by rw [← hW0]; exact Blk.new w _ _
  have HW0 := Lib.hid hW0
  have HV := Lib.hid hv
  have HE := Lib.hid hE
  have HWI := Lib.hid hW
  have HR := Lib.hid hR
  have HRAW := Lib.hid hraw
  have hN := fitN_bd v
  obtain ⟨n, hn⟩ : ∃ n : Nat, fitN v = n := ⟨(fitN v).toNat, by omega⟩
  rw [hn] at hN
  have HRT := Lib.hid (fit_right v es)
  rw [hn] at HRT
  have HNN := Lib.hid hn
  have hz0 := hB0.size
  clear hW0 hv hE hW hR hraw hn
  go_enter Try.func8, Try.ntmps8
  go_wp2_with (first
    | (go_at_call 10; rw [HW0.out]; (with_reducible refine (awake_any _).mono ?_); rintro e w1 ⟨rfl, hb1⟩
       have bN1 := bN.below hb1 bN.lt
       have hB1 : Below w.heap.size w w1 := hB0.trans (hb1.mono hz0)
       obtain ⟨lN1, n0, n1⟩ := bN1.two)
    | (go_at_call 22; (with_reducible refine (fit_any _ _ _ _ es _ ((HE.out.below hB1).more hB1.size) HV.out HWI.out).mono ?_); rintro e w2 ⟨a2, cap2, rfl, hE2, hb2⟩
       rw [HNN.out] at hE2 ⊢
       have hB2 : Below w.heap.size w w2 := hB1.trans (hb2.mono hB1.size)
       have lN2 : w2.heap.size < w2.heap.size + 1 := by omega)
    | (go_at_call 23; (with_reducible refine (flow_any n _ _ _ (fitEs n es) _ _ _ raw _ (by simpa using (hE2.below ((Below.refl _ w2).alloc (Nat.le_refl _) _)).more (Nat.le_succ _)) (by simpa using (HR.out.below (hB2.alloc hB2.size _)).more (by have := hB2.size; omega)) HRAW.out HRT.out).mono ?_); rintro e w3 ⟨g, fl, rfl, hG, hF3, hb3⟩))
  have bM := (Blk.new w2 24 #[.int .i64 (n : Int), .slice a2 (fitEs n es).length cap2]).below hb3 (by simp)
  have hEa := (hE2.below ((Below.refl _ w2).alloc (Nat.le_refl _) (.cells #[.int .i64 (n : Int), .slice a2 (fitEs n es).length cap2] 24))).more (Nat.le_succ _)
  have hE3 : NetAt w3.heap.size w3 a2 (fitEs n es).length (fitEs n es) := by
    have h : NetAt (w2.heap.size + 1) w3 a2 (fitEs n es).length (fitEs n es) := hEa.below (by simpa using hb3)
    exact h.more (by have := hb3.size; simpa using this)
  have hB3 : Below w.heap.size w w3 := (hB2.alloc hB2.size _).trans (hb3.mono (by have := hB2.size; simp; omega))
  have hB3s := hB3.size
  have HG := Lib.hid hG
  have HE3 := Lib.hid hE3
  have HF3 := Lib.hid hF3
  obtain ⟨p0, hp0⟩ : ∃ p, gain ((fitEs n es).zip fl) 0 = p := ⟨_, rfl⟩
  have hpb := flow_bd hG
  rw [hp0] at hpb
  have HP0 := Lib.hid hp0
  have hb3s := hb3.size
  clear hE2 hEa hE3 hF3 hG hp0 hb1 hb2 hb3 bN bN1 lN1 n0 n1 hB0 hB1 hB2 lN2 hz0
  go_loopw [8, 9] (fun sv vv wr => ∃ k : Nat, k ≤ n ∧ vv = .int .i64 k ∧ sv = .int .i64 (if k = 1 then p0 else 0) ∧ Below w3.heap.size w3 wr) (fun _ vv _ => n - (intOf vv).toNat)
  case atStart => exact ⟨0, Nat.zero_le _, rfl, rfl, Below.refl _ _⟩
  case round =>
    obtain ⟨k, hk, rfl, rfl, hbw⟩ := hrel
    have bMr := bM.below hbw bM.lt
    obtain ⟨lM, m0, m1⟩ := bMr.two
    have hbz := hbw.size
    by_cases hlt : k < n
    · have hva := value_at HG.out (s := (k : Int)) (by omega) (by omega)
      obtain ⟨x, hx⟩ : ∃ x, value n (fitEs n es) fl k = x := ⟨_, rfl⟩
      obtain ⟨s, hs⟩ : ∃ s, (if k = 1 then p0 else 0) = s := ⟨_, rfl⟩
      have HX := Lib.hid hx
      have hsum : -256000 ≤ s + x ∧ s + x ≤ 256000 ∧ s + x = (if k + 1 = 1 then p0 else 0) ∧ (2 ≤ k → x = 0) := by
        rw [hx] at hva
        have harr := HG.out.arrives
        rw [HP0.out] at harr
        rcases (show k = 0 ∨ k = 1 ∨ 2 ≤ k by omega) with rfl | rfl | hk2
        · have : gain ((fitEs n es).zip fl) ((0 : Nat) : Int) = p0 := HP0.out
          rw [this] at hva
          simp at hs ⊢; omega
        · have : gain ((fitEs n es).zip fl) ((1 : Nat) : Int) = -p0 := harr
          rw [this] at hva
          simp at hs ⊢; omega
        · rw [HG.out.flat _ (by omega) (by omega)] at hva
          rw [if_neg (by omega)] at hs
          rw [if_neg (by omega)]
          omega
      obtain ⟨q0, q1, q2, q3⟩ := hsum
      have HQ := Lib.hid q2
      rw [hs]
      clear hx hs hva q2
      by_cases hk2 : 2 ≤ k
      · have t1 : decide ((1 : Int) < (k : Int)) = true := by simp; omega
        have t2 : (x != 0) = false := by rw [q3 hk2]; rfl
        have t3 : (x == 0) = true := by rw [q3 hk2]; rfl
        clear q3
        go_wp2_with (go_at_call 17; (with_reducible refine (value_any _ _ _ _ (fitEs n es) _ _ _ fl _ _ ((HE3.out.below hbw).more hbz) ((HF3.out.below hbw).more hbz)).mono ?_); rw [HX.out]; rintro e w5 ⟨rfl, hb5⟩)
        go_roundw
        case rel => exact ⟨k + 1, by omega, by go_num, by rw [HQ.out], hbw.trans (hb5.mono hbz)⟩
        case measure => simp [intOf]; omega
      · have t1 : decide ((1 : Int) < (k : Int)) = false := by simp; omega
        clear q3
        go_wp2_with (go_at_call 17; (with_reducible refine (value_any _ _ _ _ (fitEs n es) _ _ _ fl _ _ ((HE3.out.below hbw).more hbz) ((HF3.out.below hbw).more hbz)).mono ?_); rw [HX.out]; rintro e w5 ⟨rfl, hb5⟩)
        go_roundw
        case rel => exact ⟨k + 1, by omega, by go_num, by rw [HQ.out], hbw.trans (hb5.mono hbz)⟩
        case measure => simp [intOf]; omega
    · obtain rfl : k = n := by omega
      have hne : (if k = 1 then p0 else 0) = 0 := by rw [if_neg (by omega)]
      rw [hne]
      go_wp2
      go_ret
      exact ⟨rfl, hB3.trans (hbw.mono hB3s)⟩
theorem own : ownKnob Try.prog.godebug = none := by kernel_rfl
theorem laidOut : laidOutB Try.prog = true := by kernel_rfl

set_option maxRecDepth 100000 in
theorem lifted (os : Os) (started : os.Started) (H : Type) (enc : TypeId × Value → H) :
    ReturnsInHanded {} Try.checked os 8 .any (Rows.graphAddsSpec.pre6 enc Try.prog Try.f8 Rows.graphAddsRow.domain false) (Rows.graphAddsSpec.post enc Try.prog Try.f8 false true false false) := by
  refine returnsInHanded_of_change_sized (C := Try.checked) own started (by kernel_rfl) Try.func8
    (ChangeSpec.witness6 (enc := enc) (C := Try.checked) false ⟨#[], #[.agg #[.int .i64 0, .slice none 0 0], .slice none 0 0], []⟩ 8 (by kernel_rfl) (by kernel_rfl) (by kernel_rfl) (by kernel_rfl)) ?_
  intro W base args ds gs before hval0 hW _ hsz0 _
  have hsz : (DataW.weightsEach Try.prog (Try.f8.params.toList ++ Rows.graphAddsSpec.plain.varTypes Try.prog) (ds ++ gs)).all (· ≤ reachBytes) = true := hsz0
  have hval : ∀ (j : Nat) t v, Try.f8.params[j]? = some t → args[j]? = some v → Value.okWide Try.prog W .any base t v := hval0
  have hW' := hW
  obtain ⟨p, q, hA0, hV, rfl, hfz, hnd⟩ := hW
  have hA : DataW.TrodAll enc Try.prog W 0 (fun _ => true) true Try.f8.params.toList args.toList ds p := hA0
  rw [Try.params8] at hA hval hsz
  obtain ⟨v0, vs0, d0, ds0, p0, q0, hargs, rfl, rfl, h0, r0⟩ := trodAll_cons hA
  obtain ⟨v1, vs1, d1, ds1, p1, q1, rfl, rfl, rfl, h1, r1⟩ := trodAll_cons r0
  obtain ⟨rfl, rfl, rfl⟩ := trodAll_nil r1
  obtain rfl : args = #[v0, v1] := by cases args; simp_all
  obtain ⟨rfl, rfl⟩ := trodVars_none hV
  have k0 := h0
  have lt0 : ∀ x ∈ p0, x.block < W.heap.size := by obtain ⟨m, hm⟩ := k0; exact DataW.trod_lt m _ _ _ hm
  have k1 := h1
  have lt1 : ∀ x ∈ p1, x.block < W.heap.size := by obtain ⟨m, hm⟩ := k1; exact DataW.trod_lt m _ _ _ hm
  obtain ⟨n0, a0, len0, cap0, es0, rfl, b0⟩ := net_of (hval 0 24 v0 rfl rfl) k0 (weights_at hsz (j := 0) (t := 24) rfl rfl)
  obtain ⟨a1, len1, cap1, rfl⟩ := okWide_slice Try.underlying25 (hval 1 25 v1 rfl rfl)
  obtain ⟨z1, b1⟩ := ints_of k1 (weights_at hsz (j := 1) (t := 25) rfl rfl)
  clear hA0 hval0 hsz0 hsz
  refine (walk n0 a0 len0 cap0 es0 a1 len1 cap1 z1 W b0 b1).mono fun e W' ⟨he, bel⟩ => ?_
  subst he
  exact ⟨_, rfl, _, _, _, [], _, [], hW', trodAll_mk1 (shut_bool Try.underlying4 _), (trodAll_cons_mk (Below.trod laidOut (by kernel_rfl) (of_decide_eq_true (by kernel_rfl)) k0 bel lt0) (trodAll_cons_mk (Below.trod laidOut (by kernel_rfl) (of_decide_eq_true (by kernel_rfl)) k1 bel lt1) trodAll_mk0)), rfl, bel.frame _, fun h => by cases h⟩

theorem over : Rows.graphAddsRow.holds Try.pinned (OpenSpec.ofChange Rows.graphAddsSpec) :=
  OpenClaim.holds_of_wide 8 Try.f8 rfl rfl rfl rfl rfl rfl rfl ⟨rfl, rfl, rfl, rfl, rfl⟩ rfl rfl rfl rfl rfl (by kernel_rfl) Try.func8 (by kernel_rfl)
    (of_decide_eq_true (by kernel_rfl)) (by unfold Func.isWrapper; first | (rw [if_pos (by decide +kernel)]; kernel_rfl) | (rw [if_neg (by decide +kernel)]; exact ⟨rfl, rfl⟩))
    (fun os started H enc _ => lifted os started H enc)

theorem proved : Rows.GraphAddsSaid := over
end Go.Proofs.Ythaioeebnpjajaa.lawAdds
