/-
  The statement GraphMirror is proved for every network, every list of numbers and every side: in the network whose edges all lead the other way the same flow is good the other way round, with the same Value, and a Cut is that of the other side. No condition.
-/
import Derived.Test.YthaioeebnpjajaaMirrored
import Derived.Test.YthaioeebnpjajaaCalm
namespace Go.Proofs.Ythaioeebnpjajaa.lawMirror
open Go.ChangeShapes Go.WideShapes Go.ChangeAt Go.RowKit Gm

theorem nots_set {r q : List Bool} {k : Nat} (hr : k < r.length) (hq : k < q.length) (h : ∀ j, j < k → q[j]?.getD false = !(r[j]?.getD false)) (y : Bool) : ∀ j, j < k + 1 → (q.set k (!y))[j]?.getD false = !((r.set k y)[j]?.getD false) := by
  intro j hj
  rw [List.getElem?_set, List.getElem?_set]
  by_cases e : k = j
  · subst e; simp [hr, hq]
  · simp only [e, if_false]
    exact h j (by omega)
theorem nots_all {r q : List Bool} {n : Nat} (hr : r.length = n) (hq : q.length = n) (h : ∀ j, j < n → q[j]?.getD false = !(r[j]?.getD false)) : q = r.map not := by
  apply List.ext_getElem
  · simp [hr, hq]
  · intro i h1 h2
    have := h i (by omega)
    rw [List.getElem?_eq_getElem h1, List.getElem?_eq_getElem (by omega)] at this
    simpa using this
def MirRel (n : Nat) (mv : Array Value) (k : Nat) (w4 wr : World) : Prop :=
  Blk wr w4.heap.size 24 mv ∧ (∃ r q : List Bool, r.length = n ∧ q.length = n ∧ (∀ j, j < k → q[j]?.getD false = !(r[j]?.getD false)) ∧ Blk wr (w4.heap.size + 1) 4 (boolsA r) ∧ Blk wr (w4.heap.size + 1 + 1) 4 (boolsA q)) ∧ Below w4.heap.size w4 wr

set_option maxRecDepth 100000 in
set_option maxHeartbeats 4000000 in
theorem walk (v : Int) (a : Option Addr) (len cap : Nat) (es : List E) (ra : Option Addr) (rlen rcap : Nat) (raw : List Int) (sa : Option Addr) (slen scap : Nat) (side : List Bool) (w : World) (h0 : I64 v ∧ NetAt w.heap.size w a len es ∧ Wide es) (h1 : FlowAt w.heap.size w ra rlen raw ∧ ∀ x ∈ raw, I64 x) (h2 : SideAt w.heap.size w sa slen side) :
    Calls Try.prog 7 #[netV v a len cap, .slice ra rlen rcap, .slice sa slen scap] w fun e w' => e = .returned (.bool true) ∧ Below w.heap.size w w' := by
  obtain ⟨hv, hE, hW⟩ := h0
  obtain ⟨hR, hraw⟩ := h1
  obtain ⟨W0, hW0⟩ : ∃ W0, w.alloc (.cells #[.int .i64 v, .slice a len cap] 24) = W0 := ⟨_, rfl⟩
  have hB0 : Below w.heap.size w W0 := by rw [← hW0]; exact (Below.refl _ w).alloc (Nat.le_refl _) _
  have bN : Blk W0 w.heap.size 24 #[.int .i64 v, .slice a len cap] := by rw [← hW0]; exact Blk.new w _ _
  have HW0 := Lib.hid hW0
  have HS := Lib.hid h2
  have hlS := h2.1
  have HlS := Lib.hid hlS
  clear hlS
  have HV := Lib.hid hv
  have HE := Lib.hid hE
  have HWI := Lib.hid hW
  have HR := Lib.hid hR
  have HRAW := Lib.hid hraw
  have hN := fitN_bd v
  obtain ⟨n, hn⟩ : ∃ n : Nat, fitN v = n := ⟨(fitN v).toNat, by omega⟩
  rw [hn] at hN
  have HRT := Lib.hid (fit_right v es)
  rw [hn] at HRT
  have HNN := Lib.hid hn
  have hz0 := hB0.size
  clear hW0 hv hE hW hR hraw hn
  have hmb := make_bools n (by omega)
  have h40 : (fitEs n es).length ≤ 300 := by have : (fitEs n es).length ≤ 40 := by (rw [fitEs_length]; omega)
                                             omega
  clear h2
  go_enter Try.func7, Try.ntmps7
  go_wp2_with (first
    | (go_at_call 10; rw [HW0.out]; (with_reducible refine (awake_any _).mono ?_); rintro e w1 ⟨rfl, hb1⟩
       have bN1 := bN.below hb1 bN.lt
       have hB1 : Below w.heap.size w w1 := hB0.trans (hb1.mono hz0)
       obtain ⟨lN1, n0, n1⟩ := bN1.two)
    | (go_at_call 22; (with_reducible refine (fit_any _ _ _ _ es _ ((HE.out.below hB1).more hB1.size) HV.out HWI.out).mono ?_); rintro e w2 ⟨a2, cap2, rfl, hE2, hb2⟩
       rw [HNN.out] at hE2 ⊢
       have hB2 : Below w.heap.size w w2 := hB1.trans (hb2.mono hB1.size)
       have lN2 : w2.heap.size < w2.heap.size + 1 := by omega)
    | (go_at_call 23; (with_reducible refine (flow_any n _ _ _ (fitEs n es) _ _ _ raw _ (by simpa using (hE2.below ((Below.refl _ w2).alloc (Nat.le_refl _) _)).more (Nat.le_succ _)) (by simpa using (HR.out.below (hB2.alloc hB2.size _)).more (by have := hB2.size; omega)) HRAW.out HRT.out).mono ?_); rintro e w3 ⟨g, fl, rfl, hG, hF3, hb3⟩
       have bM := (Blk.new w2 24 #[.int .i64 (n : Int), .slice a2 (fitEs n es).length cap2]).below hb3 (by simp)
       have hEa := (hE2.below ((Below.refl _ w2).alloc (Nat.le_refl _) (.cells #[.int .i64 (n : Int), .slice a2 (fitEs n es).length cap2] 24))).more (Nat.le_succ _)
       have hE3 : NetAt w3.heap.size w3 a2 (fitEs n es).length (fitEs n es) := by
         have h : NetAt (w2.heap.size + 1) w3 a2 (fitEs n es).length (fitEs n es) := hEa.below (by simpa using hb3)
         exact h.more (by have := hb3.size; simpa using this)
       have hB3 : Below w.heap.size w w3 := (hB2.alloc hB2.size _).trans (hb3.mono (by have := hB2.size; simp; omega))
       have hB3s := hB3.size
       obtain ⟨lM, m0, m1⟩ := bM.two
       have hb3s := hb3.size
       have HG := Lib.hid hG
       have HE3 := Lib.hid hE3
       have HF3 := Lib.hid hF3
       clear hE2 hEa hE3 hF3 hG)
    | (go_at_call 25; (with_reducible refine (mir_any _ _ _ _ (fitEs n es) _ HE3.out h40).mono ?_); rintro e w4 ⟨a4, cap4, rfl, hE4, hb4⟩
       have bM4 := bM.below hb4 bM.lt
       have hB4 : Below w.heap.size w w4 := hB3.trans (hb4.mono hB3s)
       have hB4s := hB4.size
       have HE4 := Lib.hid hE4
       have hb4s := hb4.size
       obtain ⟨lM4, p0, p1⟩ := bM4.two
       clear hE4))
  have HB4 := Lib.hid hB4
  have HE4n := Lib.hid (net_on HE3.out hb4)
  have HF4 := Lib.hid (flow_on HF3.out hb4)
  clear hb1 hb2 hb3 bN bN1 lN1 n0 n1 hB0 hB1 hB2 lN2 hz0 hmb lM m0 m1 p0 p1
  go_loopw [13] (fun i wr => ∃ k : Nat, k ≤ n ∧ i = .int .i64 k ∧ MirRel n #[.int .i64 (n : Int), .slice a4 (fitEs n es).length cap4] k w4 wr) (fun i _ => n - (intOf i).toNat)
  case atStart =>
    refine ⟨0, Nat.zero_le _, rfl, ((Blk.new w4 _ _).alloc _).alloc _, ⟨List.replicate n false, List.replicate n false, by simp, by simp, by simp, ?_, ?_⟩, (((Below.refl _ w4).alloc (Nat.le_refl _) _).alloc (by simp) _).alloc (by simp; omega) _⟩
    · rw [boolsA_rep]
      have := (Blk.new (w4.alloc (.cells #[.int .i64 (n : Int), .slice a4 (fitEs n es).length cap4] 24)) 4 (Array.replicate n (.bool false))).alloc (.cells (Array.replicate n (.bool false)) 4)
      simpa using this
    · rw [boolsA_rep]
      have := Blk.new ((w4.alloc (.cells #[.int .i64 (n : Int), .slice a4 (fitEs n es).length cap4] 24)).alloc (.cells (Array.replicate n (.bool false)) 4)) 4 (Array.replicate n (.bool false))
      simpa using this
  case round =>
    obtain ⟨k, hk, rfl, bT, ⟨r, q, hrl, hql, hrq, bO, bQ⟩, hbw⟩ := hrel
    obtain ⟨w5, rfl⟩ : ∃ w', w' = wr := ⟨_, rfl⟩
    have bM5 := bM4.below hbw bM4.lt
    obtain ⟨lM, m0, m1⟩ := bM5.two
    have HRL := Lib.hid hrl
    have HQL := Lib.hid hql
    have HRQ := Lib.hid hrq
    have lO := bO.lt
    have lQ := bQ.lt
    have hbz := hbw.size
    clear hrl hql hrq
    by_cases hlt : k < n
    · have ck := bO.cell k
      rw [boolsA_at _ _ (by rw [HRL.out]; exact hlt)] at ck
      have cf := bO.frozen k
      have dk := bQ.cell k
      rw [boolsA_at _ _ (by rw [HQL.out]; exact hlt)] at dk
      have df := bQ.frozen k
      generalize r[k]?.getD false = z at ck
      generalize q[k]?.getD false = z' at dk
      have hki : (k : Int) < (n : Int) := by omega
      have hne1 : w4.heap.size + 1 ≠ w4.heap.size + 1 + 1 := by omega
      by_cases h2 : k < slen
      · obtain ⟨sb, so, hsa, hsc⟩ := (HS.out.below (HB4.out.trans (hbw.mono hB4s))).2.2.bool
        obtain ⟨hsb, sc⟩ := hsc k (by rw [HlS.out]; exact h2)
        obtain rfl : sa = some ⟨sb, so, none⟩ := by
          rcases hsa with h | h
          · rw [HlS.out] at h; omega
          · exact h
        obtain ⟨y, hy⟩ : ∃ y, side[k]?.getD false = y := ⟨_, rfl⟩
        rw [hy] at sc
        have hks : (k : Int) < (slen : Int) := by omega
        clear hsa hsc hy
        go_wp2
        go_roundw
        case rel =>
          refine ⟨k + 1, by omega, by go_num, (bT.far (p := ⟨w4.heap.size + 1, k, none⟩) (by simp) _).far (p := ⟨w4.heap.size + 1 + 1, k, none⟩) (by simp; omega) _, ⟨r.set k y, q.set k (!y), by rw [List.length_set, HRL.out], by rw [List.length_set, HQL.out], nots_set (by rw [HRL.out]; exact hlt) (by rw [HQL.out]; exact hlt) HRQ.out y, ?_, ?_⟩, (hbw.setCell (p := ⟨w4.heap.size + 1, k, none⟩) (by simp) _).setCell (p := ⟨w4.heap.size + 1 + 1, k, none⟩) (by simp; omega) _⟩
          · rw [← boolsA_set]; exact (bO.set k _).far (p := ⟨w4.heap.size + 1 + 1, k, none⟩) (by simp) _
          · rw [← boolsA_set]; exact (bQ.far (p := ⟨w4.heap.size + 1, k, none⟩) (by simp) _).set k _
        case measure => simp [intOf]; omega
      · have hks : ¬ (k : Int) < (slen : Int) := by omega
        go_wp2
        go_roundw
        case rel =>
          refine ⟨k + 1, by omega, by go_num, (bT.far (p := ⟨w4.heap.size + 1, k, none⟩) (by simp) _).far (p := ⟨w4.heap.size + 1 + 1, k, none⟩) (by simp; omega) _, ⟨r.set k false, q.set k (!false), by rw [List.length_set, HRL.out], by rw [List.length_set, HQL.out], nots_set (by rw [HRL.out]; exact hlt) (by rw [HQL.out]; exact hlt) HRQ.out false, ?_, ?_⟩, (hbw.setCell (p := ⟨w4.heap.size + 1, k, none⟩) (by simp) _).setCell (p := ⟨w4.heap.size + 1 + 1, k, none⟩) (by simp; omega) _⟩
          · rw [← boolsA_set]; exact (bO.set k _).far (p := ⟨w4.heap.size + 1 + 1, k, none⟩) (by simp) _
          · rw [← boolsA_set]; exact (bQ.far (p := ⟨w4.heap.size + 1, k, none⟩) (by simp) _).set k _
        case measure => simp [intOf]; omega
    · obtain rfl : k = n := by omega
      obtain rfl : q = r.map not := nots_all HRL.out HQL.out HRQ.out
      obtain ⟨lT, t0, t1⟩ := bT.two
      have hcells : ∀ W, Below w5.heap.size w5 W → W.cell? ⟨w2.heap.size, 0, none⟩ = some (.int .i64 (k : Int)) ∧ W.cell? ⟨w2.heap.size, 1, none⟩ = some (.slice a2 (fitEs k es).length cap2) ∧ W.cell? ⟨w4.heap.size, 0, none⟩ = some (.int .i64 (k : Int)) ∧ W.cell? ⟨w4.heap.size, 1, none⟩ = some (.slice a4 (fitEs k es).length cap4) := fun W h =>
        ⟨(bM5.below h bM5.lt).two.2.1, (bM5.below h bM5.lt).two.2.2, (bT.below h bT.lt).two.2.1, (bT.below h bT.lt).two.2.2⟩
      have HCE := Lib.hid hcells
      have HE5 := Lib.hid (net_on HE4n.out hbw)
      have HX5 := Lib.hid (net_on HE4.out hbw)
      have HF5 := Lib.hid (flow_on HF4.out hbw)
      have HO5 := Lib.hid (side_blk bO HRL.out (by omega))
      have HQ5 := Lib.hid (side_blk bQ HQL.out (by omega))
      have hr1 : right k ((fitEs k es).map flip) = true := by rw [right_flip]; exact HRT.out
      have HR1 := Lib.hid hr1
      have HG1 := Lib.hid (good_flip HG.out)
      obtain ⟨p, hp⟩ : ∃ p, value k (fitEs k es) fl 0 = p := ⟨_, rfl⟩
      have hp' := value_flip HG.out
      rw [hp] at hp'
      have HP := Lib.hid hp
      have HP' := Lib.hid hp'
      obtain ⟨c, hc⟩ : ∃ c, cut k (fitEs k es) r = c := ⟨_, rfl⟩
      have hc' := cut_flip HRT.out HRL.out
      rw [hc] at hc'
      have HC := Lib.hid hc
      have HC' := Lib.hid hc'
      have hlen : ((fitEs k es).map flip).length = (fitEs k es).length := by simp
      have HLEN := Lib.hid hlen
      have hbd := (Below.refl w5.heap.size w5).drew
      clear hcells hr1 hp hp' hc hc' hlen bO bQ bT t0 t1 lO lQ lT bM5
      go_wp2
      clear lM m0 m1
      (refine region_calm (fun W => Below w5.heap.size w5 W) (by kernel_rfl) (by kernel_rfl) (hbd) ?_
       repeat (
         refine wpQuiet_step (fun K hK => ?_)
         first
           | (refine calm_neg ?_ ?_
              focus (go_simp; done)
              go_simp
              refine hK _ ?_
              clear hK K)
           | (apply calm_pos
              focus (go_simp; done)
              focus (
                intro W hW
                (obtain ⟨d0, d1, d2, d3⟩ := HCE.out W hW)
                go_simp
                first
                  | done
                  | exact rfl
                  | (first
                      | (go_at_call 11; (with_reducible refine (right_any _ _ _ _ ((fitEs k es).map flip) _ (net_on HX5.out hW)).mono ?_); rw [HR1.out]; rintro e w6 ⟨rfl, hb6⟩; exact ⟨rfl, on_below hW hb6⟩)
                      | (go_at_call 15; (with_reducible refine (good_any _ _ _ _ ((fitEs k es).map flip) _ _ _ fl 1 0 _ (net_on HX5.out hW) (flow_on HF5.out hW)).mono ?_); rw [HG1.out]; rintro e w6 ⟨rfl, hb6⟩; exact ⟨rfl, on_below hW hb6⟩)
                      | (go_at_call 17; (with_reducible refine (value_any _ _ _ _ ((fitEs k es).map flip) _ _ _ fl 1 _ (net_on HX5.out hW) (flow_on HF5.out hW)).mono ?_); rw [HP'.out]; rintro e w6 ⟨rfl, hb6⟩; exact ⟨rfl, on_below hW hb6⟩)
                      | (go_at_call 17; (with_reducible refine (value_any _ _ _ _ (fitEs k es) _ _ _ fl 0 _ (net_on HE5.out hW) (flow_on HF5.out hW)).mono ?_); rw [HP.out]; rintro e w6 ⟨rfl, hb6⟩; exact ⟨rfl, on_below hW hb6⟩)
                      | (go_at_call 20; (with_reducible refine (cut_any _ _ _ _ ((fitEs k es).map flip) _ _ _ (r.map not) _ (net_on HX5.out hW) (side_on HQ5.out hW)).mono ?_); rw [HC'.out]; rintro e w6 ⟨rfl, hb6⟩; exact ⟨rfl, on_below hW hb6⟩)
                      | (go_at_call 20; (with_reducible refine (cut_any _ _ _ _ (fitEs k es) _ _ _ r _ (net_on HE5.out hW) (side_on HO5.out hW)).mono ?_); rw [HC.out]; rintro e w6 ⟨rfl, hb6⟩; exact ⟨rfl, on_below hW hb6⟩)))
              go_simp
              refine hK _ ?_
              clear hK K))
       refine wpQuiet_nil ?_)
      intro w6 hb6
      go_wp2
      go_ret
      exact ⟨rfl, (HB4.out.trans (hbw.mono hB4s)).trans (hb6.mono (by omega))⟩
theorem own : ownKnob Try.prog.godebug = none := by kernel_rfl
theorem laidOut : laidOutB Try.prog = true := by kernel_rfl

set_option maxRecDepth 100000 in
theorem lifted (os : Os) (started : os.Started) (H : Type) (enc : TypeId × Value → H) :
    ReturnsInHanded {} Try.checked os 7 .any (Rows.graphMirrorSpec.pre6 enc Try.prog Try.f7 Rows.graphMirrorRow.domain false) (Rows.graphMirrorSpec.post enc Try.prog Try.f7 false true false false) := by
  refine returnsInHanded_of_change_sized (C := Try.checked) own started (by kernel_rfl) Try.func7
    (ChangeSpec.witness6 (enc := enc) (C := Try.checked) false ⟨#[], #[.agg #[.int .i64 0, .slice none 0 0], .slice none 0 0, .slice none 0 0], []⟩ 8 (by kernel_rfl) (by kernel_rfl) (by kernel_rfl) (by kernel_rfl)) ?_
  intro W base args ds gs before hval0 hW _ hsz0 _
  have hsz : (DataW.weightsEach Try.prog (Try.f7.params.toList ++ Rows.graphMirrorSpec.plain.varTypes Try.prog) (ds ++ gs)).all (· ≤ reachBytes) = true := hsz0
  have hval : ∀ (j : Nat) t v, Try.f7.params[j]? = some t → args[j]? = some v → Value.okWide Try.prog W .any base t v := hval0
  have hW' := hW
  obtain ⟨p, q, hA0, hV, rfl, hfz, hnd⟩ := hW
  have hA : DataW.TrodAll enc Try.prog W 0 (fun _ => true) true Try.f7.params.toList args.toList ds p := hA0
  rw [Try.params7] at hA hval hsz
  obtain ⟨v0, vs0, d0, ds0, p0, q0, hargs, rfl, rfl, h0, r0⟩ := trodAll_cons hA
  obtain ⟨v1, vs1, d1, ds1, p1, q1, rfl, rfl, rfl, h1, r1⟩ := trodAll_cons r0
  obtain ⟨v2, vs2, d2, ds2, p2, q2, rfl, rfl, rfl, h2, r2⟩ := trodAll_cons r1
  obtain ⟨rfl, rfl, rfl⟩ := trodAll_nil r2
  obtain rfl : args = #[v0, v1, v2] := by cases args; simp_all
  obtain ⟨rfl, rfl⟩ := trodVars_none hV
  have k0 := h0
  have lt0 : ∀ x ∈ p0, x.block < W.heap.size := by obtain ⟨m, hm⟩ := k0; exact DataW.trod_lt m _ _ _ hm
  have k1 := h1
  have lt1 : ∀ x ∈ p1, x.block < W.heap.size := by obtain ⟨m, hm⟩ := k1; exact DataW.trod_lt m _ _ _ hm
  have k2 := h2
  have lt2 : ∀ x ∈ p2, x.block < W.heap.size := by obtain ⟨m, hm⟩ := k2; exact DataW.trod_lt m _ _ _ hm
  obtain ⟨n0, a0, len0, cap0, es0, rfl, b0⟩ := net_of (hval 0 24 v0 rfl rfl) k0 (weights_at hsz (j := 0) (t := 24) rfl rfl)
  obtain ⟨a1, len1, cap1, rfl⟩ := okWide_slice Try.underlying25 (hval 1 25 v1 rfl rfl)
  obtain ⟨z1, b1⟩ := ints_of k1 (weights_at hsz (j := 1) (t := 25) rfl rfl)
  obtain ⟨a2, len2, cap2, rfl⟩ := okWide_slice Try.underlying26 (hval 2 26 v2 rfl rfl)
  obtain ⟨z2, b2⟩ := bools_of k2 (weights_at hsz (j := 2) (t := 26) rfl rfl)
  clear hA0 hval0 hsz0 hsz
  refine (walk n0 a0 len0 cap0 es0 a1 len1 cap1 z1 a2 len2 cap2 z2 W b0 b1 b2).mono fun e W' ⟨he, bel⟩ => ?_
  subst he
  exact ⟨_, rfl, _, _, _, [], _, [], hW', trodAll_mk1 (shut_bool Try.underlying4 _), (trodAll_cons_mk (Below.trod laidOut (by kernel_rfl) (of_decide_eq_true (by kernel_rfl)) k0 bel lt0) (trodAll_cons_mk (Below.trod laidOut (by kernel_rfl) (of_decide_eq_true (by kernel_rfl)) k1 bel lt1) (trodAll_cons_mk (Below.trod laidOut (by kernel_rfl) (of_decide_eq_true (by kernel_rfl)) k2 bel lt2) trodAll_mk0))), rfl, bel.frame _, fun h => by cases h⟩

theorem over : Rows.graphMirrorRow.holds Try.pinned (OpenSpec.ofChange Rows.graphMirrorSpec) :=
  OpenClaim.holds_of_wide 7 Try.f7 rfl rfl rfl rfl rfl rfl rfl ⟨rfl, rfl, rfl, rfl, rfl⟩ rfl rfl rfl rfl rfl (by kernel_rfl) Try.func7 (by kernel_rfl)
    (of_decide_eq_true (by kernel_rfl)) (by unfold Func.isWrapper; first | (rw [if_pos (by decide +kernel)]; kernel_rfl) | (rw [if_neg (by decide +kernel)]; exact ⟨rfl, rfl⟩))
    (fun os started H enc _ => lifted os started H enc)

theorem proved : Rows.GraphMirrorSaid := over
end Go.Proofs.Ythaioeebnpjajaa.lawMirror
