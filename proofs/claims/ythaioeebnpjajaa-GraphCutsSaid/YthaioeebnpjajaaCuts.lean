/-
  The statement GraphCuts is proved for every network, every list of numbers and every side: of the flow that they make as much leaves 0 as comes to 1, and no cut between them is less. No condition.
-/
import Derived.Test.YthaioeebnpjajaaShare
namespace Go.Proofs.Ythaioeebnpjajaa.lawCuts
open Go.ChangeShapes Go.WideShapes Go.ChangeAt Go.RowKit Gm

def OwnRel (n O : Nat) (w3 : World) (wr : World) : Prop := ∃ r : List Bool, r.length = n ∧ Blk wr O 4 (boolsA r) ∧ Below w3.heap.size w3 wr

set_option maxRecDepth 100000 in
set_option maxHeartbeats 4000000 in
theorem walk (v : Int) (a : Option Addr) (len cap : Nat) (es : List E) (ra : Option Addr) (rlen rcap : Nat) (raw : List Int) (sa : Option Addr) (slen scap : Nat) (side : List Bool) (w : World) (h0 : I64 v ∧ NetAt w.heap.size w a len es ∧ Wide es) (h1 : FlowAt w.heap.size w ra rlen raw ∧ ∀ x ∈ raw, I64 x) (h2 : SideAt w.heap.size w sa slen side) :
    Calls Try.prog 5 #[netV v a len cap, .slice ra rlen rcap, .slice sa slen scap] w fun e w' => e = .returned (.bool true) ∧ Below w.heap.size w w' := by
  obtain ⟨hv, hE, hW⟩ := h0
  obtain ⟨hR, hraw⟩ := h1
  obtain ⟨W0, hW0⟩ : ∃ W0, w.alloc (.cells #[.int .i64 v, .slice a len cap] 24) = W0 := ⟨_, rfl⟩
  have hB0 : Below w.heap.size w W0 := by rw [← hW0]; exact (Below.refl _ w).alloc (Nat.le_refl _) _
  have bN : Blk W0 w.heap.size 24 #[.int .i64 v, .slice a len cap] := by rw [← hW0]; exact Blk.new w _ _
  have HW0 := Lib.hid hW0
  have HS := Lib.hid h2
  have hlS := h2.1
  have HlS := Lib.hid hlS
  clear hlS
  have HV := Lib.hid hv
  have HE := Lib.hid hE
  have HWI := Lib.hid hW
  have HR := Lib.hid hR
  have HRAW := Lib.hid hraw
  have hN := fitN_bd v
  obtain ⟨n, hn⟩ : ∃ n : Nat, fitN v = n := ⟨(fitN v).toNat, by omega⟩
  rw [hn] at hN
  have HRT := Lib.hid (fit_right v es)
  rw [hn] at HRT
  have HNN := Lib.hid hn
  have hz0 := hB0.size
  clear hW0 hv hE hW hR hraw hn
  have hmb := make_bools n (by omega)
  clear h2
  go_enter Try.func5, Try.ntmps5
  go_wp2_with (first
    | (go_at_call 10; rw [HW0.out]; (with_reducible refine (awake_any _).mono ?_); rintro e w1 ⟨rfl, hb1⟩
       have bN1 := bN.below hb1 bN.lt
       have hB1 : Below w.heap.size w w1 := hB0.trans (hb1.mono hz0)
       obtain ⟨lN1, n0, n1⟩ := bN1.two)
    | (go_at_call 22; (with_reducible refine (fit_any _ _ _ _ es _ ((HE.out.below hB1).more hB1.size) HV.out HWI.out).mono ?_); rintro e w2 ⟨a2, cap2, rfl, hE2, hb2⟩
       rw [HNN.out] at hE2 ⊢
       have hB2 : Below w.heap.size w w2 := hB1.trans (hb2.mono hB1.size)
       have lN2 : w2.heap.size < w2.heap.size + 1 := by omega)
    | (go_at_call 23; (with_reducible refine (flow_any n _ _ _ (fitEs n es) _ _ _ raw _ (by simpa using (hE2.below ((Below.refl _ w2).alloc (Nat.le_refl _) _)).more (Nat.le_succ _)) (by simpa using (HR.out.below (hB2.alloc hB2.size _)).more (by have := hB2.size; omega)) HRAW.out HRT.out).mono ?_); rintro e w3 ⟨g, fl, rfl, hG, hF3, hb3⟩
       have bM := (Blk.new w2 24 #[.int .i64 (n : Int), .slice a2 (fitEs n es).length cap2]).below hb3 (by simp)
       have hEa := (hE2.below ((Below.refl _ w2).alloc (Nat.le_refl _) (.cells #[.int .i64 (n : Int), .slice a2 (fitEs n es).length cap2] 24))).more (Nat.le_succ _)
       have hE3 : NetAt w3.heap.size w3 a2 (fitEs n es).length (fitEs n es) := by
         have h : NetAt (w2.heap.size + 1) w3 a2 (fitEs n es).length (fitEs n es) := hEa.below (by simpa using hb3)
         exact h.more (by have := hb3.size; simpa using this)
       have hB3 : Below w.heap.size w w3 := (hB2.alloc hB2.size _).trans (hb3.mono (by have := hB2.size; simp; omega))
       have hB3s := hB3.size
       obtain ⟨lM, m0, m1⟩ := bM.two
       have hb3s := hb3.size))
  have HG := Lib.hid hG
  have HE3 := Lib.hid hE3
  have HF3 := Lib.hid hF3
  clear hE2 hEa hE3 hF3 hG hb1 hb2 hb3 bN bN1 lN1 n0 n1 hB0 hB1 hB2 lN2 hz0 hmb
  have hfb := flow_bd HG.out
  have harr := HG.out.arrives
  have hv0 := value_at HG.out (s := 0) (by omega) (by omega)
  have hv1 := value_at HG.out (s := 1) (by omega) (by omega)
  obtain ⟨p, hp⟩ : ∃ p, gain ((fitEs n es).zip fl) 0 = p := ⟨_, rfl⟩
  rw [hp] at hfb harr hv0
  rw [harr] at hv1
  have HP := Lib.hid hp
  have HV0 := Lib.hid hv0
  have HV1 := Lib.hid hv1
  clear harr hv0 hv1 hp
  obtain ⟨hf0, hf1⟩ := hfb
  go_loopw [11] (fun i wr => ∃ k : Nat, k ≤ n ∧ i = .int .i64 k ∧ OwnRel n w3.heap.size w3 wr) (fun i _ => n - (intOf i).toNat)
  case atStart => exact ⟨0, Nat.zero_le _, rfl, List.replicate n false, by simp, by rw [boolsA_rep]; exact Blk.new w3 _ _, (Below.refl _ _).alloc (Nat.le_refl _) _⟩
  case round =>
    obtain ⟨k, hk, rfl, r, hrl, bO, hbw⟩ := hrel
    obtain ⟨w4, rfl⟩ : ∃ w', w' = wr := ⟨_, rfl⟩
    have bM4 := bM.below hbw bM.lt
    clear lM m0 m1
    obtain ⟨lM, m0, m1⟩ := bM4.two
    have HRL := Lib.hid hrl
    have lO := bO.lt
    have hbz := hbw.size
    clear hrl
    by_cases hlt : k < n ∧ k < slen
    · obtain ⟨h1, h2⟩ := hlt
      have ck := bO.cell k
      rw [boolsA_at _ _ (by rw [HRL.out]; exact h1)] at ck
      have cf := bO.frozen k
      obtain ⟨sb, so, hsa, hsc⟩ := (HS.out.below (hB3.trans (hbw.mono hB3s))).2.2.bool
      obtain ⟨hsb, sc⟩ := hsc k (by rw [HlS.out]; exact h2)
      obtain rfl : sa = some ⟨sb, so, none⟩ := by
        rcases hsa with h | h
        · rw [HlS.out] at h; omega
        · exact h
      obtain ⟨y, hy⟩ : ∃ y, side[k]?.getD false = y := ⟨_, rfl⟩
      rw [hy] at sc
      obtain ⟨z, hz⟩ : ∃ z, r[k]?.getD false = z := ⟨_, rfl⟩
      rw [hz] at ck
      have hki : (k : Int) < (n : Int) := by omega
      have hks : (k : Int) < (slen : Int) := by omega
      clear hsa hsc hy hz
      go_wp2
      go_roundw
      case rel => exact ⟨k + 1, by omega, by go_num, r.set k y, by rw [List.length_set, HRL.out], by rw [← boolsA_set]; exact bO.set k _, hbw.setCell (p := ⟨w3.heap.size, k, none⟩) (Nat.le_refl _) _⟩
      case measure => simp [intOf]; omega
    · have hex : ¬ k < n ∨ (k < n ∧ ¬ k < slen) := by omega
      have ck0 := bO.cell 0
      rw [boolsA_at _ _ (by rw [HRL.out]; omega)] at ck0
      have cf0 := bO.frozen 0
      have ck1 := bO.cell 1
      rw [boolsA_at _ _ (by rw [HRL.out]; omega)] at ck1
      have cf1 := bO.frozen 1
      generalize r[0]?.getD false = z0 at ck0
      generalize r[1]?.getD false = z1 at ck1
      have hn1 : (1 : Int) < (n : Int) := by omega
      have hn0 : (0 : Int) < (n : Int) := by omega
      have hn0' : 0 < n := by omega
      have hn1' : 1 < n := by omega
      have hR0 : Hid (has ((r.set 0 true).set 1 false) 0 = true) := Lib.hid (by
        rw [has_set_any _ 1 (by rw [List.length_set, HRL.out]; omega) _ _ (by omega), if_neg (by omega), has_set_any _ 0 (by rw [HRL.out]; omega) _ _ (by omega), if_pos (by omega)])
      have hR1 : Hid (has ((r.set 0 true).set 1 false) 1 = false) := Lib.hid (by
        rw [has_set_any _ 1 (by rw [List.length_set, HRL.out]; omega) _ _ (by omega), if_pos (by omega)])
      have hRL : Hid (((r.set 0 true).set 1 false).length = n) := Lib.hid (by rw [List.length_set, List.length_set, HRL.out])
      have hcut := cut_ge HG.out hRL.out hR0.out hR1.out
      rw [HP.out] at hcut
      have bO2 : Blk ((w4.setCell ⟨w3.heap.size, 0, none⟩ (.bool true)).setCell ⟨w3.heap.size, 1, none⟩ (.bool false)) w3.heap.size 4 (boolsA ((r.set 0 true).set 1 false)) := by
        rw [← boolsA_set, ← boolsA_set]; exact (bO.set 0 _).set 1 _
      have hb5 := (hbw.setCell (p := ⟨w3.heap.size, 0, none⟩) (Nat.le_refl _) (.bool true)).setCell (p := ⟨w3.heap.size, 1, none⟩) (Nat.le_refl _) (.bool false)
      have bM5 := bM.below hb5 bM.lt
      obtain ⟨c, hc⟩ : ∃ c, cut n (fitEs n es) ((r.set 0 true).set 1 false) = c := ⟨_, rfl⟩
      rw [hc] at hcut
      have HC := Lib.hid hc
      have HB5 := Lib.hid hb5
      have hz5 := hb5.size
      clear hc
      obtain ⟨lM5, t0, t1⟩ := bM5.two
      have hne1 : ¬ w2.heap.size = w3.heap.size := by have := bM.lt; omega
      have hne2 : ¬ w3.heap.size = w2.heap.size := by have := bM.lt; omega
      rcases hex with hex | ⟨hex, hex'⟩
      all_goals
        go_wp2_with (first
          | (go_at_call 17; (with_reducible refine (value_any _ _ _ _ (fitEs n es) _ _ _ fl 0 _ ((HE3.out.below HB5.out).more hz5) ((HF3.out.below HB5.out).more hz5)).mono ?_); rw [HV0.out]; rintro e w6 ⟨rfl, hb6⟩
             have hB6 := HB5.out.trans (hb6.mono hz5)
             have bM6 := bM.below hB6 bM.lt
             have bO6 := bO2.below hb6 bO2.lt
             obtain ⟨lM6, s0, s1⟩ := bM6.two
             have hz6 := hB6.size)
          | (go_at_call 17; (with_reducible refine (value_any _ _ _ _ (fitEs n es) _ _ _ fl 1 _ ((HE3.out.below hB6).more hz6) ((HF3.out.below hB6).more hz6)).mono ?_); rw [HV1.out]; rintro e w7 ⟨rfl, hb7⟩
             have hB7 := hB6.trans (hb7.mono hz6)
             have bM7 := bM.below hB7 bM.lt
             have bO7 := bO6.below hb7 bO6.lt
             obtain ⟨lM7, u0, u1⟩ := bM7.two
             have hz7 := hB7.size)
          | (go_at_call 20; (with_reducible refine (cut_any _ _ _ _ (fitEs n es) _ _ _ ((r.set 0 true).set 1 false) _ ((HE3.out.below hB7).more hz7) (side_blk bO7 hRL.out (by omega))).mono ?_); rw [HC.out]; rintro e w8 ⟨rfl, hb8⟩))
        go_ret
        exact ⟨rfl, (hB3.trans (hB7.mono hB3s)).trans (hb8.mono (by omega))⟩
theorem own : ownKnob Try.prog.godebug = none := by kernel_rfl
theorem laidOut : laidOutB Try.prog = true := by kernel_rfl

set_option maxRecDepth 100000 in
theorem lifted (os : Os) (started : os.Started) (H : Type) (enc : TypeId × Value → H) :
    ReturnsInHanded {} Try.checked os 5 .any (Rows.graphCutsSpec.pre6 enc Try.prog Try.f5 Rows.graphCutsRow.domain false) (Rows.graphCutsSpec.post enc Try.prog Try.f5 false true false false) := by
  refine returnsInHanded_of_change_sized (C := Try.checked) own started (by kernel_rfl) Try.func5
    (ChangeSpec.witness6 (enc := enc) (C := Try.checked) false ⟨#[], #[.agg #[.int .i64 0, .slice none 0 0], .slice none 0 0, .slice none 0 0], []⟩ 8 (by kernel_rfl) (by kernel_rfl) (by kernel_rfl) (by kernel_rfl)) ?_
  intro W base args ds gs before hval0 hW _ hsz0 _
  have hsz : (DataW.weightsEach Try.prog (Try.f5.params.toList ++ Rows.graphCutsSpec.plain.varTypes Try.prog) (ds ++ gs)).all (· ≤ reachBytes) = true := hsz0
  have hval : ∀ (j : Nat) t v, Try.f5.params[j]? = some t → args[j]? = some v → Value.okWide Try.prog W .any base t v := hval0
  have hW' := hW
  obtain ⟨p, q, hA0, hV, rfl, hfz, hnd⟩ := hW
  have hA : DataW.TrodAll enc Try.prog W 0 (fun _ => true) true Try.f5.params.toList args.toList ds p := hA0
  rw [Try.params5] at hA hval hsz
  obtain ⟨v0, vs0, d0, ds0, p0, q0, hargs, rfl, rfl, h0, r0⟩ := trodAll_cons hA
  obtain ⟨v1, vs1, d1, ds1, p1, q1, rfl, rfl, rfl, h1, r1⟩ := trodAll_cons r0
  obtain ⟨v2, vs2, d2, ds2, p2, q2, rfl, rfl, rfl, h2, r2⟩ := trodAll_cons r1
  obtain ⟨rfl, rfl, rfl⟩ := trodAll_nil r2
  obtain rfl : args = #[v0, v1, v2] := by cases args; simp_all
  obtain ⟨rfl, rfl⟩ := trodVars_none hV
  have k0 := h0
  have lt0 : ∀ x ∈ p0, x.block < W.heap.size := by obtain ⟨m, hm⟩ := k0; exact DataW.trod_lt m _ _ _ hm
  have k1 := h1
  have lt1 : ∀ x ∈ p1, x.block < W.heap.size := by obtain ⟨m, hm⟩ := k1; exact DataW.trod_lt m _ _ _ hm
  have k2 := h2
  have lt2 : ∀ x ∈ p2, x.block < W.heap.size := by obtain ⟨m, hm⟩ := k2; exact DataW.trod_lt m _ _ _ hm
  obtain ⟨n0, a0, len0, cap0, es0, rfl, b0⟩ := net_of (hval 0 24 v0 rfl rfl) k0 (weights_at hsz (j := 0) (t := 24) rfl rfl)
  obtain ⟨a1, len1, cap1, rfl⟩ := okWide_slice Try.underlying25 (hval 1 25 v1 rfl rfl)
  obtain ⟨z1, b1⟩ := ints_of k1 (weights_at hsz (j := 1) (t := 25) rfl rfl)
  obtain ⟨a2, len2, cap2, rfl⟩ := okWide_slice Try.underlying26 (hval 2 26 v2 rfl rfl)
  obtain ⟨z2, b2⟩ := bools_of k2 (weights_at hsz (j := 2) (t := 26) rfl rfl)
  clear hA0 hval0 hsz0 hsz
  refine (walk n0 a0 len0 cap0 es0 a1 len1 cap1 z1 a2 len2 cap2 z2 W b0 b1 b2).mono fun e W' ⟨he, bel⟩ => ?_
  subst he
  exact ⟨_, rfl, _, _, _, [], _, [], hW', trodAll_mk1 (shut_bool Try.underlying4 _), (trodAll_cons_mk (Below.trod laidOut (by kernel_rfl) (of_decide_eq_true (by kernel_rfl)) k0 bel lt0) (trodAll_cons_mk (Below.trod laidOut (by kernel_rfl) (of_decide_eq_true (by kernel_rfl)) k1 bel lt1) (trodAll_cons_mk (Below.trod laidOut (by kernel_rfl) (of_decide_eq_true (by kernel_rfl)) k2 bel lt2) trodAll_mk0))), rfl, bel.frame _, fun h => by cases h⟩

theorem over : Rows.graphCutsRow.holds Try.pinned (OpenSpec.ofChange Rows.graphCutsSpec) :=
  OpenClaim.holds_of_wide 5 Try.f5 rfl rfl rfl rfl rfl rfl rfl ⟨rfl, rfl, rfl, rfl, rfl⟩ rfl rfl rfl rfl rfl (by kernel_rfl) Try.func5 (by kernel_rfl)
    (of_decide_eq_true (by kernel_rfl)) (by unfold Func.isWrapper; first | (rw [if_pos (by decide +kernel)]; kernel_rfl) | (rw [if_neg (by decide +kernel)]; exact ⟨rfl, rfl⟩))
    (fun os started H enc _ => lifted os started H enc)

theorem proved : Rows.GraphCutsSaid := over
end Go.Proofs.Ythaioeebnpjajaa.lawCuts
