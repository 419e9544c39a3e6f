/-
  The statement FlowMirror is proved for every network: as much flows the other way where all edges lead the other way, and the same flow is good there. No condition.
-/
import Derived.Test.YtcbfgdiddhhhcaaTold6
import Derived.Test.YtcbfgdiddhhhcaaCmp6
import Derived.Test.YtcbfgdiddhhhcaaValue
import Derived.Test.YtcbfgdiddhhhcaaMix
import Derived.Deep.AppendLies
import Derived.Deep.RegionLaw
import Derived.RegionTactic
import Derived.Test.YtcbfgdiddhhhcaaRows
namespace Go.Proofs.Ytcbfgdiddhhhcaa.lawMirrorL
open Go.ChangeShapes Go.WideShapes Go.ChangeAt Go.RowKit Gm

def TurnedAt (w3 : World) (N : Int) (es : List E) (k : Nat) (wr : World) : Prop :=
  (∃ sl, Blk wr w3.heap.size 24 #[.int .i64 N, sl] ∧ wr.ownsRow w3.heap.size 44 3 sl k (flat ((es.take k).map flip))) ∧ Below w3.heap.size w3 wr

set_option maxRecDepth 100000 in
set_option maxHeartbeats 4000000 in
theorem walk (v : Int) (a : Option Addr) (len cap : Nat) (raw : List E) (w : World) (h0 : I64 v ∧ NetAt w.heap.size w a len raw ∧ Wide raw) :
    Calls Try.prog 9 #[netV v a len cap] w fun e w' => e = .returned (.bool true) ∧ Below w.heap.size w w' := by
  obtain ⟨hv, hE, hW⟩ := h0
  obtain ⟨W0, hW0⟩ : ∃ W0, w.alloc (.cells #[.int .i64 v, .slice a len cap] 24) = W0 := ⟨_, rfl⟩
  have hB0 : Below w.heap.size w W0 := by rw [← hW0]; exact (Below.refl _ w).alloc (Nat.le_refl _) _
  have bN : Blk W0 w.heap.size 24 #[.int .i64 v, .slice a len cap] := by rw [← hW0]; exact Blk.new w _ _
  have HW0 := Lib.hid hW0
  have HV := Lib.hid hv
  have HE := Lib.hid hE
  have HWI := Lib.hid hW
  have hN := fitN_bd v
  obtain ⟨n, hn⟩ : ∃ n : Nat, fitN v = n := ⟨(fitN v).toNat, by omega⟩
  rw [hn] at hN
  have hrt := fit_right v raw
  rw [hn] at hrt
  have HNN := Lib.hid hn
  obtain ⟨es, hes⟩ : ∃ es, fitEs n raw = es := ⟨_, rfl⟩
  rw [hes] at hrt
  have HES := Lib.hid hes
  have h40 : es.length ≤ 40 := by rw [← hes, fitEs_length]; omega
  have HRT := Lib.hid hrt
  have hz0 := hB0.size
  obtain ⟨i0, hi0, hz0', hz1, hz2⟩ := info_parts infoEdge
  clear hW0 hv hE hW hn hes hrt
  go_enter Try.func9, Try.ntmps9
  go_wp2_with (first
    | (go_at_call 11; rw [HW0.out]; (with_reducible refine (awake6_any _).mono ?_); rintro e w1 ⟨rfl, hb1⟩
       have bN1 := bN.below hb1 bN.lt
       have hB1 : Below w.heap.size w w1 := hB0.trans (hb1.mono hz0)
       obtain ⟨lN1, n0, n1⟩ := bN1.two)
    | (go_at_call 17; (with_reducible refine (fit_any _ _ _ _ raw _ ((HE.out.below hB1).more hB1.size) HV.out HWI.out).mono ?_); rintro e w2 ⟨a2, cap2, rfl, hE2, hb2⟩
       rw [HNN.out, HES.out] at hE2 ⊢
       have hB2 : Below w.heap.size w w2 := hB1.trans (hb2.mono hB1.size)
       have lN2 : w2.heap.size < w2.heap.size + 1 := by omega))
  obtain ⟨w3, hw3e⟩ : ∃ W, w2.alloc (.cells #[.int .i64 (n : Int), .slice a2 es.length cap2] 24) = W := ⟨_, rfl⟩
  have bM : Blk w3 w2.heap.size 24 #[.int .i64 (n : Int), .slice a2 es.length cap2] := hw3e ▸ Blk.new w2 _ _
  have hB3 : Below w.heap.size w w3 := hw3e ▸ hB2.alloc hB2.size _
  have HE3 : Hid (NetAt w3.heap.size w3 a2 es.length es) := Lib.hid (net_on hE2 (hw3e ▸ (Below.refl _ w2).alloc (Nat.le_refl _) _))
  have hz3 : w3.heap.size = w2.heap.size + 1 := by rw [← hw3e]; simp
  have hB3s := hB3.size
  rw [hw3e, ← hz3]
  have lM := bM.lt
  clear hw3e hE2 hb1 hb2 bN bN1 lN1 n0 n1 hB0 hB1 hB2 lN2 hz0 hz3
  go_loopw [6] (fun i wr => ∃ k : Nat, k ≤ es.length ∧ i = .int .i64 k ∧ TurnedAt w3 n es k wr) (fun i _ => es.length - (intOf i).toNat)
  case atStart =>
    refine ⟨0, Nat.zero_le _, rfl, ⟨.slice none 0 0, Blk.new w3 _ _, by simp [flat], .inl ⟨rfl, rfl⟩⟩, (Below.refl _ w3).alloc (Nat.le_refl _) _⟩
  case round =>
    obtain ⟨k, hk, rfl, ⟨sl, bT, hown⟩, hB⟩ := hrel
    have bN := bM.below hB lM
    obtain ⟨lN, n0, n1⟩ := bN.two
    obtain ⟨lT, m0, m1⟩ := bT.two
    have mf := bT.frozen 1
    by_cases hlt : k < es.length
    · obtain ⟨b, off, ha, hc⟩ := (HE3.out.below hB).2.2
      obtain ⟨hb, c0, c1, c2⟩ := hc k hlt
      obtain rfl : a2 = some ⟨b, off, none⟩ := by
        rcases ha with h | h
        · omega
        · exact h
      clear ha hc
      obtain ⟨x, hx⟩ : ∃ x, es[k] = x := ⟨_, rfl⟩
      rw [hx] at c0 c1 c2
      have HT : Hid ((es.take (k + 1)).map flip = (es.take k).map flip ++ [flip x]) := Lib.hid (by
        rw [List.take_succ_eq_append_getElem hlt, hx, List.map_append]; rfl)
      have hki : (k : Int) < (es.length : Int) := by omega
      clear hx
      go_wp2
      have hwr := hB.size
      have bT1 := (bT.alloc (.cells #[.int .i64 x.2.1, .int .i64 x.1, .int .i64 x.2.2] 44)).drew
      have hB1 := below_drew (hB.alloc hB.size (.cells #[.int .i64 x.2.1, .int .i64 x.1, .int .i64 x.2.2] 44))
      have hown1 := (hown.alloc (.cells #[.int .i64 x.2.1, .int .i64 x.1, .int .i64 x.2.2] 44)).drew
      have cuts := cells_three wr (.int .i64 x.2.1) (.int .i64 x.1) (.int .i64 x.2.2) 44
      refine region_mix (fun W => (W.cell? ⟨w2.heap.size, 1, none⟩ = some (.slice (some ⟨b, off, none⟩) es.length cap2) ∧ W.cell? ⟨w3.heap.size, 1, none⟩ = some sl ∧ W.cell? ⟨b, off + k * 3, none⟩ = some (.int .i64 x.1) ∧ W.cell? ⟨b, off + k * 3 + 1, none⟩ = some (.int .i64 x.2.1) ∧ W.cell? ⟨b, off + k * 3 + 2, none⟩ = some (.int .i64 x.2.2))) (22) (.reads [0, 1, 2, 3, 4, 5, 6, 7, 8, 9, 10, 11, 12, 13, 14, 15, 16, 17, 18, 19, 20] (.only 21 (.only 22 (.only 23 (.only 24 (.stop)))))) (by kernel_rfl) (by kernel_rfl) (⟨n1, m1, c0, c1, c2⟩) ?_
      repeat (
        refine plan_read rfl (fun K hK => ?_)
        first
          | (refine plan_neg ?_ ?_
             focus (go_simp; done)
             go_simp
             refine hK _ ?_
             clear hK K)
          | (apply plan_pos
             focus (go_simp; done)
             focus (
               intro W hW
               (obtain ⟨d0, d1, d2, d3, d4⟩ := hW)
               go_simp
               first
                 | done
                 | exact rfl)
             go_simp
             refine hK _ ?_
             clear hK K))
      refine plan_only rfl (fun Q hQ => ?_)
      go_wp2
      have hcl : ∀ g i v, g < wr.heap.size → wr.cell? ⟨g, i, none⟩ = some v → ((wr.alloc (.cells #[.int .i64 x.2.1, .int .i64 x.1, .int .i64 x.2.2] 44)).drew).cell? ⟨g, i, none⟩ = some v := fun g i v h1 h2 => by
        rw [show ((wr.alloc (.cells #[.int .i64 x.2.1, .int .i64 x.1, .int .i64 x.2.2] 44)).drew).cell? ⟨g, i, none⟩ = (wr.alloc (.cells #[.int .i64 x.2.1, .int .i64 x.1, .int .i64 x.2.2] 44)).cell? ⟨g, i, none⟩ from rfl, World.cell?_alloc_lt wr _ ⟨g, i, none⟩ h1]; exact h2
      have cuts2 : ∀ j u, [Value.int .i64 x.2.1, .int .i64 x.1, .int .i64 x.2.2][j]? = some u → ((wr.alloc (.cells #[.int .i64 x.2.1, .int .i64 x.1, .int .i64 x.2.2] 44)).drew).cell? ((⟨wr.heap.size, 0, none⟩ : Addr).add j) = some u := cuts
      have hbw : b < wr.heap.size := by omega
      have hz2' : ((wr.alloc (.cells #[.int .i64 x.2.1, .int .i64 x.1, .int .i64 x.2.2] 44)).drew).heap.size = wr.heap.size + 1 := by simp
      refine hQ _ _ (fun _ => ⟨hcl _ _ _ lN n1, hcl _ _ _ lT m1, hcl _ _ _ hbw c0, hcl _ _ _ hbw c1, hcl _ _ _ hbw c2⟩) ?_
      clear hQ Q
      generalize (wr.alloc (.cells #[.int .i64 x.2.1, .int .i64 x.1, .int .i64 x.2.2] 44)).drew = w5 at *
      refine plan_only rfl (fun Q hQ => ?_)
      refine wpList_append_lies _ (by rfl) (.tmp 27) (.tmp 47) 22 (by rfl) w3.heap.size 44 i0 _ 3 24 Try.underlying22 hi0 hz0' hz1 hz2 rfl (by decide) sl k (flat ((es.take k).map flip)) (by rfl) hown1 ⟨wr.heap.size, 0, none⟩ 1 1 [.int .i64 x.2.1, .int .i64 x.1, .int .i64 x.2.2] (by rfl) (by rfl) cuts2 (by simp [Value.oneCell']) (by omega) (by simp [maxLen]; omega) (by omega) (by omega) w5.heap.size rfl ?_
      intro gg cap' w6 hown' hgrow hat hlt'
      have bT6 := bT1.kept hgrow (own_blk_ne hown1 bT1 (by decide)).symm
      have hB6 := hB1.grown hgrow (by have := hB1.size; omega) (fun j e => (hown1.lt j e).1)
      obtain ⟨lT6, q0, q1⟩ := bT6.two
      have qf := bT6.frozen 1
      clear hcl n0 n1 m0 m1 c0 c1 c2 hown hown1 cuts2 bT bN bT1 hat lN lT mf
      go_wp2
      refine hQ _ _ (fun h => absurd h (by omega)) ?_
      clear hQ Q
      refine plan_only rfl (fun Q hQ => ?_)
      go_wp2
      refine hQ _ _ (fun h => absurd h (by omega)) ?_
      clear hQ Q
      refine plan_only rfl (fun Q hQ => ?_)
      go_wp2
      refine hQ _ _ (fun h => absurd h (by omega)) ?_
      clear hQ Q
      unfold Plan.wp
      go_wp2
      go_roundw
      case rel =>
        refine ⟨k + 1, by omega, by go_num, ⟨_, bT6.set 1 _, ?_⟩, hB6.setCell (p := ⟨w3.heap.size, 1, none⟩) (by simp) _⟩
        rw [HT.out, flat_snoc]
        exact ownsRow_setCell_other hown' (own_blk_ne hown' bT6 (by decide)) _
      case measure => simp [intOf]; omega
    · obtain rfl : k = es.length := by omega
      have HFE : Hid (flat ((es.take es.length).map flip) = flat (es.map flip)) := Lib.hid (by rw [List.take_length])
      rw [HFE.out] at hown
      obtain ⟨sa, sc, rfl⟩ := own_form hown
      have hEF := (edges_own (es := es.map flip) (by simpa using hown) (by simp; omega)).2
      have HF : Hid (NetAt wr.heap.size wr sa es.length (es.map flip)) := Lib.hid hEF
      have HEW := Lib.hid (net_on HE3.out hB)
      obtain ⟨R, hR, hG, hgain, hmost, _, hR0, _⟩ := maxF_good (n := n) (es := es) (s := 0) (t := 1) HRT.out (by omega) (by omega) (by omega) (by omega) (by omega)
      obtain ⟨R', hR', _, _, hmost', _, hR0', _⟩ := maxF_good (n := n) (es := es.map flip) (s := 1) (t := 0) (by rw [right_flip]; exact HRT.out) (by omega) (by omega) (by omega) (by omega) (by omega)
      obtain ⟨f, m⟩ := R
      obtain ⟨f', m'⟩ := R'
      dsimp only at hR hG hgain hmost hR0 hR' hmost'
      obtain rfl : m = m' := most_flip hmost hmost'
      have HGF : Hid (good n (es.map flip) f 1 0 = true) := Lib.hid (good_flip ⟨hG.net, hG.len, hG.fit, hG.flat, by omega⟩)
      have HM := Lib.hid hR
      have HM' := Lib.hid hR'
      have hBw := hB3.trans (hB.mono hB3s)
      have hzw := hBw.size
      clear hR hG hgain hmost hR0 hR' hmost' hR0' hown hEF
      go_wp2_with (first
        | (go_at_call 14; (with_reducible refine (max_any _ _ _ _ es 0 1 _ HEW.out).mono ?_); rw [HM.out]; rintro e w7 ⟨a7, l7, c7, he, hF7, hb7⟩
           dsimp only at he hF7
           subst he
           have bT7 := bT.below hb7 lT
           obtain ⟨lT7, m70, m71⟩ := bT7.two
           have HF7 := Lib.hid hF7
           have HE7 := Lib.hid (net_on HF.out hb7)
           have hB7 := hBw.trans (hb7.mono hzw)
           have hz7 := hB7.size
           clear hF7 hb7)
        | (go_at_call 14; (with_reducible refine (max_any _ _ _ _ (es.map flip) 1 0 _ HE7.out).mono ?_); rw [HM'.out]; rintro e w8 ⟨a8, l8, c8, he, hF8, hb8⟩
           dsimp only at he hF8
           subst he
           have bT8 := bT7.below hb8 lT7
           obtain ⟨lT8, m80, m81⟩ := bT8.two
           have HF8 := Lib.hid (flow_on HF7.out hb8)
           have HE8 := Lib.hid (net_on HE7.out hb8)
           have hB8 := hB7.trans (hb8.mono hz7)
           have hz8 := hB8.size
           clear hF8 hb8)
        | (go_at_call 25; (with_reducible refine (good_any _ _ _ _ (es.map flip) _ _ _ f 1 0 _ HE8.out HF8.out).mono ?_); rw [HGF.out]; rintro e w9 ⟨rfl, hb9⟩))
      go_ret
      exact ⟨rfl, hB8.trans (hb9.mono hz8)⟩

theorem own : ownKnob Try.prog.godebug = none := by kernel_rfl
theorem laidOut : laidOutB Try.prog = true := by kernel_rfl

set_option maxRecDepth 100000 in
theorem lifted (os : Os) (started : os.Started) (H : Type) (enc : TypeId × Value → H) :
    ReturnsInHanded {} Try.checked os 9 .any (Rows.flowMirrorSpec.pre6 enc Try.prog Try.f9 Rows.flowMirrorRow.domain false) (Rows.flowMirrorSpec.post enc Try.prog Try.f9 false true false false) := by
  refine returnsInHanded_of_change_sized (C := Try.checked) own started (by kernel_rfl) Try.func9
    (ChangeSpec.witness6 (enc := enc) (C := Try.checked) false ⟨#[], #[.agg #[.int .i64 0, .slice none 0 0]], []⟩ 8 (by kernel_rfl) (by kernel_rfl) (by kernel_rfl) (by kernel_rfl)) ?_
  intro W base args ds gs before hval0 hW _ hsz0 _
  have hsz : (DataW.weightsEach Try.prog (Try.f9.params.toList ++ Rows.flowMirrorSpec.plain.varTypes Try.prog) (ds ++ gs)).all (· ≤ reachBytes) = true := hsz0
  have hval : ∀ (j : Nat) t v, Try.f9.params[j]? = some t → args[j]? = some v → Value.okWide Try.prog W .any base t v := hval0
  have hW' := hW
  obtain ⟨p, q, hA0, hV, rfl, hfz, hnd⟩ := hW
  have hA : DataW.TrodAll enc Try.prog W 0 (fun _ => true) true Try.f9.params.toList args.toList ds p := hA0
  rw [Try.params9] at hA hval hsz
  obtain ⟨v0, vs0, d0, ds0, p0, q0, hargs, rfl, rfl, h0, r0⟩ := trodAll_cons hA
  obtain ⟨rfl, rfl, rfl⟩ := trodAll_nil r0
  obtain rfl : args = #[v0] := by cases args; simp_all
  obtain ⟨rfl, rfl⟩ := trodVars_none hV
  have k0 := h0
  have lt0 : ∀ x ∈ p0, x.block < W.heap.size := by obtain ⟨m, hm⟩ := k0; exact DataW.trod_lt m _ _ _ hm
  obtain ⟨n0, a0, len0, cap0, es0, rfl, b0⟩ := net_of (hval 0 24 v0 rfl rfl) k0 (weights_at hsz (j := 0) (t := 24) rfl rfl)
  clear hA0 hval0 hsz0 hsz
  refine (walk n0 a0 len0 cap0 es0 W b0).mono fun e W' ⟨he, bel⟩ => ?_
  subst he
  exact ⟨_, rfl, _, _, _, [], _, [], hW', trodAll_mk1 (shut_bool Try.underlying4 _), (trodAll_cons_mk (Below.trod laidOut (by kernel_rfl) (of_decide_eq_true (by kernel_rfl)) k0 bel lt0) trodAll_mk0), rfl, bel.frame _, fun h => by cases h⟩

theorem over : Rows.flowMirrorRow.holds Try.pinned (OpenSpec.ofChange Rows.flowMirrorSpec) :=
  OpenClaim.holds_of_wide 9 Try.f9 rfl rfl rfl rfl rfl rfl rfl ⟨rfl, rfl, rfl, rfl, rfl⟩ rfl rfl rfl rfl rfl (by kernel_rfl) Try.func9 (by kernel_rfl)
    (of_decide_eq_true (by kernel_rfl)) (by unfold Func.isWrapper; first | (rw [if_pos (by decide +kernel)]; kernel_rfl) | (rw [if_neg (by decide +kernel)]; exact ⟨rfl, rfl⟩))
    (fun os started H enc _ => lifted os started H enc)

theorem proved : Rows.FlowMirrorSaid := over
end Go.Proofs.Ytcbfgdiddhhhcaa.lawMirrorL
