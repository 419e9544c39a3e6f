/-
  What GraphTells says, for whatever network, flow and side lie in memory.
-/
import Derived.Test.YthaioeebnpjajaaPlus
import Derived.Test.YthaioeebnpjajaaRef3
import Derived.Test.YthaioeebnpjajaaRef4
namespace Go.Proofs.Ythaioeebnpjajaa
open Go.RowKit Gm

theorem append_nil_ints {W : World} {a : Option Addr} {len cap : Nat} {fl : List Int} {B : Nat} (hF : FlowAt B W a len fl) (h300 : len ≤ 300) (ty : TypeId) (base : Nat) (hbase : base ≤ W.heap.size) :
    ∃ v' w', (Builtin.append_ #[25, 25] ty #[.slice none 0 0, .slice a len cap]).run Try.prog W = .ok v' w' ∧ w'.ownsRow base 3 1 v' len (ints fl) ∧ W.grownBy w' none := by
  obtain ⟨i0, hi0, hz0, hz1, hz2⟩ := info_parts infoInt
  have hl := hF.1
  obtain ⟨b, off, ha, hcell⟩ := hF.2.2
  by_cases h0 : len = 0
  · subst h0
    have : fl = [] := List.eq_nil_of_length_eq_zero hl
    subst this
    refine ⟨.slice none 0 0, W, ?_, ⟨by simp, .inl ⟨rfl, rfl⟩⟩, ⟨rfl, rfl, rfl, Nat.le_refl _, fun _ _ _ => rfl⟩⟩
    cases a <;> simp [Builtin.append_, run_underlying Try.underlying25, sizeOf, typeInfo, hi0, Builtin.lenOf, Builtin.firstCells, loadCells, loadCellsFrom]
  · have hll : (ints fl).length = len := by rw [List.length_map]; exact hl
    obtain rfl : a = some ⟨b, off, none⟩ := by
      rcases ha with h | h
      · omega
      · exact h
    obtain ⟨v', w', hr, h2, h3, _, _⟩ := run_append_own_at (P := Try.prog) W base 25 ty 3 i0 _ 1 8 Try.underlying25 hi0 hz0 hz1 hz2 rfl (by decide) (.slice none 0 0) 0 [] (World.ownsRow_nil W base _ _) ⟨b, off, none⟩ len cap (ints fl) (by omega) (fun j u hu => by
      have hj : j < (ints fl).length := (List.getElem?_eq_some_iff.1 hu).1
      have hadd : (⟨b, off, none⟩ : Addr).add j = ⟨b, off + j, none⟩ := by unfold Addr.add; split <;> simp_all
      rw [hadd, (hcell j hj).2, ← hu, List.getElem?_eq_getElem hj]) (ints_one fl) (by simp [maxLen]; omega) (by omega) hbase
    exact ⟨v', w', hr, by simpa using h2, h3⟩
theorem ints_own {W : World} {base : Nat} {a : Option Addr} {len cap : Nat} {fl : List Int} (h : W.ownsRow base 3 1 (.slice a len cap) fl.length (ints fl)) (hl : fl.length ≤ 17592186044416) : len = fl.length ∧ FlowAt W.heap.size W a len fl := by
  rcases h.2 with ⟨h1, h2⟩ | ⟨g, cap', cur, hv, hb, hg, hle, hm, hs, ht⟩
  · injection h1 with e1 e2 e3
    subst e1 e2
    exact ⟨by omega, by omega, by omega, 0, 0, .inl (by simpa using h2), fun i hi => by simp at hi; omega⟩
  · injection hv with e1 e2 e3
    subst e1 e2
    refine ⟨rfl, rfl, hl, g, 0, .inr rfl, fun i hi => ?_⟩
    have hlt : g < W.heap.size := (Array.getElem?_eq_some_iff.1 hg).1
    refine ⟨hlt, ?_⟩
    have hi' : i < fl.length * 1 := by simpa using hi
    rw [Nat.zero_add, cell_of_row W g i cur 3 (0, 0) hg, ← Array.getElem?_toList, ← List.getElem?_take_of_lt hi', ht, List.getElem?_eq_getElem hi]

/-- Whoever is reached, where there is such a question. -/
def reachL (v : Int) (es : List E) (fl : List Int) (s : Int) : List Bool := if fits v es fl && vtx v s then reach v (es.zip fl) s else []
def ReachAny (v : Int) (es : List E) (fl : List Int) (s : Int) (w : World) (e : Ending) (w' : World) : Prop :=
  ∃ ra rlen rcap, e = .returned (.slice ra rlen rcap) ∧ SideAt w'.heap.size w' ra rlen (reachL v es fl s) ∧ Below w.heap.size w w'
theorem ReachAny.of_no {v : Int} {es : List E} {fl : List Int} {s : Int} {w : World} {e : Ending} {w' : World} (hno : (fits v es fl && vtx v s) = false) (h : e = .returned (.slice none 0 0) ∧ Below w.heap.size w w') : ReachAny v es fl s w e w' := by
  have hr : reachL v es fl s = [] := by unfold reachL; rw [hno]; rfl
  exact ⟨none, 0, 0, h.1, by rw [hr]; exact ⟨rfl, by omega, 0, 0, .inl rfl, fun i hi => by simp at hi⟩, h.2⟩
theorem ReachAny.of_yes {n : Nat} {es : List E} {fl : List Int} {s : Int} {w : World} {e : Ending} {w' : World} (hy : (fits n es fl && vtx n s) = true) (hn : n ≤ 64) (h : ReachPost n (reach n (es.zip fl) s) w e w') : ReachAny n es fl s w e w' := by
  obtain ⟨g, h1, _, h3, h4⟩ := h
  have hr : reachL n es fl s = reach n (es.zip fl) s := by unfold reachL; rw [hy]; rfl
  exact ⟨_, n, n, h1, by rw [hr]; exact side_blk h3 (by rw [reach_length]; simp) (by omega), h4⟩
theorem reach_any (v : Int) (a : Option Addr) (len cap : Nat) (es : List E) (fa : Option Addr) (flen fcap : Nat) (fl : List Int) (s : Int) (w : World) (hE : NetAt w.heap.size w a len es) (hF : FlowAt w.heap.size w fa flen fl) :
    Calls Try.prog 12 #[netV v a len cap, .slice fa flen fcap, .int .i64 s] w (ReachAny v es fl s w) := by
  rcases h : (fits v es fl && vtx v s) with _ | _
  · exact (reach_no v a len cap es fa flen fcap fl s w hE hF h).mono fun _ _ h' => .of_no h h'
  · have h2 := h
    rw [Bool.and_eq_true] at h2
    have hv := right_iff.1 (fits_iff.1 h2.1).1
    obtain ⟨n, rfl⟩ : ∃ n : Nat, v = n := ⟨v.toNat, by omega⟩
    exact (reach_yes n a len cap es fa flen fcap fl s w hE hF h2.1 h2.2).mono fun _ _ h' => .of_yes h (by omega) h'
theorem qreach_any (v : Int) (a : Option Addr) (len cap : Nat) (es : List E) (fa : Option Addr) (flen fcap : Nat) (fl : List Int) (s : Int) (w : World) (hE : NetAt w.heap.size w a len es) (hF : FlowAt w.heap.size w fa flen fl) :
    Calls Try.prog 13 #[netV v a len cap, .slice fa flen fcap, .int .i64 s] w (ReachAny v es fl s w) := by
  rcases h : (fits v es fl && vtx v s) with _ | _
  · exact (qreach_no v a len cap es fa flen fcap fl s w hE hF h).mono fun _ _ h' => .of_no h h'
  · have h2 := h
    rw [Bool.and_eq_true] at h2
    have hv := right_iff.1 (fits_iff.1 h2.1).1
    obtain ⟨n, rfl⟩ : ∃ n : Nat, v = n := ⟨v.toNat, by omega⟩
    exact (qreach_yes n a len cap es fa flen fcap fl s w hE hF h2.1 h2.2).mono fun _ _ h' => .of_yes h (by omega) h'

set_option maxRecDepth 100000 in
set_option maxHeartbeats 4000000 in
theorem tells_any (v : Int) (a : Option Addr) (len cap : Nat) (es : List E) (ra : Option Addr) (rlen rcap : Nat) (fl : List Int) (s t : Int) (sa : Option Addr) (slen scap : Nat) (side : List Bool) (w : World) (hE : NetAt w.heap.size w a len es) (hR : FlowAt w.heap.size w ra rlen fl) (hS : SideAt w.heap.size w sa slen side) :
    Calls Try.prog 3 #[netV v a len cap, .slice ra rlen rcap, .int .i64 s, .int .i64 t, .slice sa slen scap] w fun e w' => e = .returned (.bool true) ∧ Below w.heap.size w w' := by
  obtain ⟨W0, hW0⟩ : ∃ W0, w.alloc (.cells #[.int .i64 v, .slice a len cap] 24) = W0 := ⟨_, rfl⟩
  have hB0 : Below w.heap.size w W0 := by rw [← hW0]; exact (Below.refl _ w).alloc (Nat.le_refl _) _
  have bN : Blk W0 w.heap.size 24 #[.int .i64 v, .slice a len cap] := by rw [← hW0]; exact Blk.new w _ _
  have HW0 := Lib.hid hW0
  have hz0 := hB0.size
  have hle := hE.2.1
  have hlr := hR.2.1
  have HlE := Lib.hid hE.1
  have HlR := Lib.hid hR.1
  have HE := Lib.hid hE
  have HR := Lib.hid hR
  have HS := Lib.hid hS
  clear hW0 hE hR hS
  by_cases h1 : len ≤ 300
  · by_cases h2 : rlen ≤ 300
    · have g1 : ¬ 300 < len := by omega
      have g2 : ¬ 300 < rlen := by omega
      go_enter Try.func3, Try.ntmps3
      go_wp2_with (first
        | (go_at_call 10; rw [HW0.out]; (with_reducible refine (awake_any _).mono ?_); rintro e w1 ⟨rfl, hb1⟩
           have bN1 := bN.below hb1 bN.lt
           have hB1 : Below w.heap.size w w1 := hB0.trans (hb1.mono hz0)
           obtain ⟨lN1, n0, n1⟩ := bN1.two
           have hz1 := hB1.size
           have HR1 := Lib.hid ((HR.out.below hB1).more hz1)
           clear hb1)
        | (obtain ⟨v2, w2, hr2, h9, hg2⟩ := append_nil_ints (cap := rcap) HR1.out h2 25 w.heap.size hz1
           refine wpList_append_run (by rfl) (.const (.slice none 0 0)) (.tmp 39) 25 25 (by rfl) (by rfl) (by rfl) hr2 ?_
           obtain ⟨oa, oc, rfl⟩ := own_form h9
           have bN2 := bN1.kept hg2 (by simp)
           have hB2 := hB1.grown hg2 hz1 (fun j e => by cases e)
           obtain ⟨lN2, n20, n21⟩ := bN2.two
           have hz2 := hB2.size
           have HO2 : Hid (FlowAt w2.heap.size w2 oa rlen fl) := Lib.hid (by
             have h9' : w2.ownsRow w.heap.size 3 1 (.slice oa rlen oc) fl.length (ints fl) := by rw [HlR.out]; exact h9
             exact (ints_own h9' (by rw [HlR.out]; exact hlr)).2)
           clear h9 hr2 hg2)
        | (go_at_call 12; (with_reducible refine (reach_any _ _ _ _ es _ _ _ fl s _ ((HE.out.below hB2).more hz2) HO2.out).mono ?_); rintro e w3 ⟨pa, pl, pc, rfl, hP3, hb3⟩
           have bN3 := bN2.below hb3 bN2.lt
           have hB3 := hB2.trans (hb3.mono hz2)
           obtain ⟨lN3, n30, n31⟩ := bN3.two
           have hz3 := hB3.size
           have HP3 := Lib.hid hP3
           have HO3 := Lib.hid ((HO2.out.below hb3).more hb3.size)
           clear hP3 hb3)
        | (go_at_call 13; (with_reducible refine (qreach_any _ _ _ _ es _ _ _ fl s _ ((HE.out.below hB3).more hz3) ((HR.out.below hB3).more hz3)).mono ?_); rintro e w4 ⟨qa, ql, qc, rfl, hP4, hb4⟩
           have bN4 := bN3.below hb4 bN3.lt
           have hB4 := hB3.trans (hb4.mono hz3)
           have hz4 := hB4.size
           have HQ4 := Lib.hid hP4
           have HP4 := Lib.hid ((HP3.out.below hb4).more hb4.size)
           have HO4 := Lib.hid ((HO3.out.below hb4).more hb4.size)
           have HR4 := Lib.hid ((HR.out.below hB4).more hz4)
           have HE4 := Lib.hid ((HE.out.below hB4).more hz4)
           have HS4 := Lib.hid ((HS.out.below hB4).more hz4)
           have HB4 := Lib.hid hB4
           clear hP4 hb4 hB4))
      have hcells : ∀ W, Below w4.heap.size w4 W → W.cell? ⟨w.heap.size, 0, none⟩ = some (.int .i64 v) ∧ W.cell? ⟨w.heap.size, 1, none⟩ = some (.slice a len cap) := fun W h => (bN4.below h bN4.lt).two.2
      have HCE := Lib.hid hcells
      obtain ⟨rr, hrr⟩ : ∃ r, right v es = r := ⟨_, rfl⟩
      obtain ⟨gg, hgg⟩ : ∃ r, good v es fl s t = r := ⟨_, rfl⟩
      obtain ⟨vv, hvv⟩ : ∃ r, value v es fl s = r := ⟨_, rfl⟩
      obtain ⟨cc, hcc⟩ : ∃ r, cut v es side = r := ⟨_, rfl⟩
      obtain ⟨ll, hll⟩ : ∃ r, reachL v es fl s = r := ⟨_, rfl⟩
      have HRR := Lib.hid hrr
      have HGG := Lib.hid hgg
      have HVV := Lib.hid hvv
      have HCC := Lib.hid hcc
      rw [hll] at HQ4 HP4
      have hdl : decide (ll = ll) = true := by simp
      have HDL := Lib.hid hdl
      have hbd := (Below.refl w4.heap.size w4).drew
      clear hcells hrr hgg hvv hcc hll hdl hB0 bN bN1 bN2 bN3 hB1 hB2 hB3 n0 n1 n20 n21 n30 n31 lN1 lN2 lN3 HP3 HO3 HO2 HR1 hz0 hz1 hz2 hz3
      (refine region_calm (fun W => Below w4.heap.size w4 W) (by kernel_rfl) (by kernel_rfl) (hbd) ?_
       repeat (
         refine wpQuiet_step (fun K hK => ?_)
         first
           | (refine calm_neg ?_ ?_
              focus (go_simp; done)
              go_simp
              refine hK _ ?_
              clear hK K)
           | (apply calm_pos
              focus (go_simp; done)
              focus (
                intro W hW
                (obtain ⟨d0, d1⟩ := HCE.out W hW)
                go_simp
                first
                  | done
                  | exact rfl
                  | (first
                      | (go_at_call 11; (with_reducible refine (right_any _ _ _ _ es _ (net_on HE4.out hW)).mono ?_); rw [HRR.out]; rintro e w5 ⟨rfl, hb5⟩; exact ⟨rfl, on_below hW hb5⟩)
                      | (go_at_call 14; (with_reducible refine (qright_any _ _ _ _ es _ (net_on HE4.out hW)).mono ?_); rw [HRR.out]; rintro e w5 ⟨rfl, hb5⟩; exact ⟨rfl, on_below hW hb5⟩)
                      | (go_at_call 15; (with_reducible refine (good_any _ _ _ _ es _ _ _ fl s t _ (net_on HE4.out hW) (flow_on HO4.out hW)).mono ?_); rw [HGG.out]; rintro e w5 ⟨rfl, hb5⟩; exact ⟨rfl, on_below hW hb5⟩)
                      | (go_at_call 16; (with_reducible refine (qgood_any _ _ _ _ es _ _ _ fl s t _ (net_on HE4.out hW) (flow_on HR4.out hW)).mono ?_); rw [HGG.out]; rintro e w5 ⟨rfl, hb5⟩; exact ⟨rfl, on_below hW hb5⟩)
                      | (go_at_call 17; (with_reducible refine (value_any _ _ _ _ es _ _ _ fl s _ (net_on HE4.out hW) (flow_on HO4.out hW)).mono ?_); rw [HVV.out]; rintro e w5 ⟨rfl, hb5⟩; exact ⟨rfl, on_below hW hb5⟩)
                      | (go_at_call 18; (with_reducible refine (qvalue_any _ _ _ _ es _ _ _ fl s _ (net_on HE4.out hW) (flow_on HR4.out hW)).mono ?_); rw [HVV.out]; rintro e w5 ⟨rfl, hb5⟩; exact ⟨rfl, on_below hW hb5⟩)
                      | (go_at_call 19; (with_reducible refine (bools_any _ _ _ _ _ _ ll ll _ (side_on HP4.out hW) (side_on HQ4.out hW)).mono ?_); rw [HDL.out]; rintro e w5 ⟨rfl, hb5⟩; exact ⟨rfl, on_below hW (hb5.low _)⟩)
                      | (go_at_call 20; (with_reducible refine (cut_any _ _ _ _ es _ _ _ side _ (net_on HE4.out hW) (side_on HS4.out hW)).mono ?_); rw [HCC.out]; rintro e w5 ⟨rfl, hb5⟩; exact ⟨rfl, on_below hW hb5⟩)
                      | (go_at_call 21; (with_reducible refine (qcut_any _ _ _ _ es _ _ _ side _ (net_on HE4.out hW) (side_on HS4.out hW)).mono ?_); rw [HCC.out]; rintro e w5 ⟨rfl, hb5⟩; exact ⟨rfl, on_below hW hb5⟩)))
              go_simp
              refine hK _ ?_
              clear hK K))
       refine wpQuiet_nil ?_)
      intro w5 hb5
      have hB5 := HB4.out.trans (hb5.mono hz4)
      have HO5 := Lib.hid (flow_on HO4.out hb5)
      have HR5 := Lib.hid (flow_on HR4.out hb5)
      go_wp2
      go_loopw [16] (fun i wr => ∃ k : Nat, k ≤ rlen ∧ i = .int .i64 k ∧ Below w5.heap.size w5 wr) (fun i _ => rlen - (intOf i).toNat)
      case atStart => exact ⟨0, Nat.zero_le _, rfl, Below.refl _ _⟩
      case round =>
        obtain ⟨k, hk, rfl, hbw⟩ := hrel
        obtain ⟨w6, rfl⟩ : ∃ w', w' = wr := ⟨_, rfl⟩
        by_cases hlt : k < rlen
        · obtain ⟨gb, go, hga, hgc⟩ := (flow_on HR5.out hbw).2.2.int
          obtain ⟨hgb, cf⟩ := hgc k (by rw [HlR.out]; exact hlt)
          obtain rfl : ra = some ⟨gb, go, none⟩ := by
            rcases hga with h | h
            · rw [HlR.out] at h; omega
            · exact h
          obtain ⟨ob, oo, hoa, hoc⟩ := (flow_on HO5.out hbw).2.2.int
          obtain ⟨hob, co⟩ := hoc k (by rw [HlR.out]; exact hlt)
          obtain rfl : oa = some ⟨ob, oo, none⟩ := by
            rcases hoa with h | h
            · rw [HlR.out] at h; omega
            · exact h
          generalize fl[k]?.getD 0 = f at cf co
          have hki : (k : Int) < (rlen : Int) := by omega
          clear hga hgc hoa hoc
          go_wp2
          go_quiet (fail)
          go_wp2
          go_roundw
          case rel => exact ⟨k + 1, by omega, by go_num, below_drewN hbw _⟩
          case measure => simp [intOf]; omega
        · obtain rfl : k = rlen := by omega
          go_wp2
          go_ret
          exact ⟨rfl, hB5.trans (hbw.mono hB5.size)⟩
    · have g1 : ¬ 300 < len := by omega
      have g2 : 300 < rlen := by omega
      go_enter Try.func3, Try.ntmps3
      go_wp2_with (go_at_call 10; rw [HW0.out]; (with_reducible refine (awake_any _).mono ?_); rintro e w1 ⟨rfl, hb1⟩
                   have bN1 := bN.below hb1 bN.lt
                   have hB1 : Below w.heap.size w w1 := hB0.trans (hb1.mono hz0)
                   obtain ⟨lN1, n0, n1⟩ := bN1.two)
      go_ret
      exact ⟨rfl, hB1⟩
  · have g1 : 300 < len := by omega
    have HNO : Hid (right v es = false) := Lib.hid (by
      rcases h : right v es with _ | _
      · rfl
      · have := (right_iff.1 h).2.2.1; rw [HlE.out] at this; omega)
    go_enter Try.func3, Try.ntmps3
    go_wp2_with (first
      | (go_at_call 10; rw [HW0.out]; (with_reducible refine (awake_any _).mono ?_); rintro e w1 ⟨rfl, hb1⟩
         have bN1 := bN.below hb1 bN.lt
         have hB1 : Below w.heap.size w w1 := hB0.trans (hb1.mono hz0)
         have hz1 := hB1.size
         obtain ⟨lN1, n0, n1⟩ := bN1.two)
      | (go_at_call 11; (with_reducible refine (right_any _ _ _ _ es _ ((HE.out.below hB1).more hz1)).mono ?_); rw [HNO.out]; rintro e w2 ⟨rfl, hb2⟩))
    go_ret
    exact ⟨rfl, hB1.trans (hb2.mono hz1)⟩
end Go.Proofs.Ythaioeebnpjajaa
