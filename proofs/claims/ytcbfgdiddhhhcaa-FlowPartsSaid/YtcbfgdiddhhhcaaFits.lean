/-
  graph.fits.
-/
import Derived.Test.YtcbfgdiddhhhcaaRight
import Derived.Test.YtcbfgdiddhhhcaaSeen
namespace Go.Proofs.Ytcbfgdiddhhhcaa
open Go.RowKit Gm
attribute [local go_sem] Oper.semAt_some

theorem zip_at {es : List E} {fl : List Int} (h : fl.length = es.length) (x : AtOf es) : (x.1.2, flowAt fl x.1.1) ∈ es.zip fl := by
  have hl := x.lt
  refine List.mem_iff_getElem.2 ⟨x.1.1, by rw [List.length_zip]; omega, ?_⟩
  rw [List.getElem_zip]
  have := x.2
  rw [List.getElem?_eq_getElem hl] at this
  unfold flowAt
  rw [List.getElem?_eq_getElem (by omega)]
  simp at this ⊢; exact this
theorem of_bare {es : List E} {ys : List (AtOf es)} (hys : bare ys = placed es) {i : Nat} (hi : i < es.length) : ∃ y ∈ ys, y.1 = (i, es[i]) := by
  have hm : (i, es[i]) ∈ bare ys := by
    rw [hys]
    exact List.mem_iff_getElem.2 ⟨i, by rw [placed_length]; exact hi, by simp [placed]⟩
  obtain ⟨y, hy, e⟩ := List.mem_map.1 hm
  exact ⟨y, hy, e⟩
def fitB (fl : List Int) (x : At) : Bool := decide (0 ≤ flowAt fl x.1) && decide (flowAt fl x.1 ≤ x.2.2.2)
theorem fits_no {v : Int} {es : List E} {fl : List Int} (h : fl.length = es.length) {x : AtOf es} (hx : fitB fl x.1 = false) : fits v es fl = false := by
  rcases hf : fits v es fl with _ | _
  · rfl
  · have := (fits_iff.1 hf).2.2 _ (zip_at h x)
    simp [fitB] at hx
    have h2 := hx this.1
    have := this.2
    simp at this
    omega
theorem fits_yes {v : Int} {es : List E} {fl : List Int} (hr : right v es = true) (h : fl.length = es.length) {ys : List (AtOf es)} (hys : bare ys = placed es) (hx : ∀ x ∈ ys, fitB fl x.1 = true) : fits v es fl = true := by
  refine fits_iff.2 ⟨hr, h, fun p hp => ?_⟩
  obtain ⟨i, hi, rfl⟩ := zip_mem h hp
  obtain ⟨y, hy, e⟩ := of_bare hys hi
  have := hx y hy
  rw [e] at this
  simp [fitB] at this
  exact this

set_option maxRecDepth 100000 in
set_option maxHeartbeats 2000000 in
theorem fits_any (v : Int) (a : Option Addr) (len cap : Nat) (es : List E) (fa : Option Addr) (flen fcap : Nat) (fl : List Int) (w : World) (hE : NetAt w.heap.size w a len es) (hF : FlowAt w.heap.size w fa flen fl) :
    Calls Try.prog 36 #[netV v a len cap, .slice fa flen fcap] w fun e w' => e = .returned (.bool (fits v es fl)) ∧ Below w.heap.size w w' := by
  refine (callsIn_wide (n := 5)).1 ?_
  refine callsIn_of_wp_marks Try.func36 rfl trivial ?_ rfl
  simp only [Try.ntmps36, List.size_toArray, List.length_cons, List.length_nil, Nat.reduceAdd, Nat.reduceSub, Array.replicate_succ, Array.replicate_zero, List.push_toArray, List.append_toArray, List.nil_append, List.cons_append]
  obtain ⟨W0, hW0⟩ : ∃ W0, ((w.alloc (.cells #[.int .i64 v, .slice a len cap] 24)).alloc (.cells #[.slice fa flen fcap] 25)).alloc (.cells #[.bool false] 4) = W0 := ⟨_, rfl⟩
  have hz0 : w.heap.size + 1 + 1 < W0.heap.size := by rw [← hW0]; simp
  have hB0 : Below w.heap.size w W0 := by
    rw [← hW0]; exact (((Below.refl _ w).alloc (Nat.le_refl _) _).alloc (by simp) _).alloc (by simp; omega) _
  have bN : Blk W0 w.heap.size 24 #[.int .i64 v, .slice a len cap] := by rw [← hW0]; exact ((Blk.new w _ _).alloc _).alloc _
  have bF : Blk W0 (w.heap.size + 1) 25 #[.slice fa flen fcap] := by
    rw [← hW0]; have := (Blk.new (w.alloc (.cells #[.int .i64 v, .slice a len cap] 24)) 25 #[.slice fa flen fcap]).alloc (.cells #[.bool false] 4)
    rwa [World.size_alloc] at this
  have bR : Blk W0 (w.heap.size + 1 + 1) 4 #[.bool false] := by
    rw [← hW0]; have := Blk.new ((w.alloc (.cells #[.int .i64 v, .slice a len cap] 24)).alloc (.cells #[.slice fa flen fcap] 25)) 4 #[.bool false]
    simp only [World.size_alloc] at this; exact this
  have HW0 := Lib.hid hW0
  have HlE := Lib.hid hE.1
  have HlF := Lib.hid hF.1
  clear hW0
  have hend : ∀ (W : World), Blk W (w.heap.size + 1 + 1) 4 #[.bool false] → True := fun _ _ => trivial
  by_cases hr : right v es = true
  · by_cases hq : flen = len
    · have hql : fl.length = es.length := by rw [HlE.out, HlF.out]; exact hq
      have HQ := Lib.hid hql
      have hlen : len ≤ 256 := by have := (right_iff.1 hr).2.2.1; rw [HlE.out] at this; exact this
      have HR := Lib.hid hr
      subst hq
      clear hql hend
      gi_wp2_with (first
        | (refine ⟨trivial, ?_⟩; gi_at_call 31; rw [HW0.out]; refine (callsIn_wide.2 (right_any _ _ _ _ es _ ((hE.below hB0).more hB0.size))).mono ?_; rw [hr]; rintro e w1 ⟨rfl, hb1⟩
           obtain ⟨lN, n0, n1⟩ := (bN.below hb1 (by omega)).two
           obtain ⟨lF, f0, ff⟩ := (bF.below hb1 (by omega)).one)
        | (refine ⟨trivial, ?_⟩; gi_at_call 42; refine (edges_any _ _ _ _ _).mono ?_; rintro e w' ⟨rfl, rfl⟩)
        | refine ⟨trivial, ?_⟩)
      have hB1 : Below w.heap.size w w1 := hB0.trans (hb1.mono hB0.size)
      obtain ⟨W2, hW2⟩ : ∃ W2, (w1.alloc (.cells #[.int .i64 v, .slice a flen cap] 24)).alloc (.cells #[.slice a flen cap] 22) = W2 := ⟨_, rfl⟩
      have hB2 : Below w.heap.size w W2 := by rw [← hW2]; exact (hB1.alloc hB1.size _).alloc (by simp; have := hB1.size; omega) _
      have bS : Blk W2 (w1.heap.size + 1) 22 #[.slice a flen cap] := by
        rw [← hW2]; have := Blk.new (w1.alloc (.cells #[.int .i64 v, .slice a flen cap] 24)) 22 #[.slice a flen cap]
        rwa [World.size_alloc] at this
      have bF2 : Blk W2 (w.heap.size + 1) 25 #[.slice fa flen fcap] := by rw [← hW2]; exact ((bF.below hb1 (by omega)).alloc _).alloc _
      have bR2 : Blk W2 (w.heap.size + 1 + 1) 4 #[.bool false] := by rw [← hW2]; exact ((bR.below hb1 (by omega)).alloc _).alloc _
      have hz2 : w.heap.size ≤ W2.heap.size := hB2.size
      rw [hW2]
      clear hW2
      refine range_edges (s := 5) (q := 6) (by omega) (w1.heap.size + 1) w.heap.size a flen cap es rfl bS hB2.size (hE.below hB2)
        (fun pre W => ((Blk W (w.heap.size + 1) 25 #[.slice fa flen fcap] ∧ Blk W (w.heap.size + 1 + 1) 4 #[.bool false]) ∧ ∀ x ∈ pre, fitB fl x.1 = true) ∧ Below w.heap.size w W)
        (fun c pre W => (Blk W (w.heap.size + 1 + 1) 4 #[.bool false] ∧ (c = .ret ∧ fits v es fl = false)) ∧ Below w.heap.size w W)
        ?hI ?hIx ⟨⟨⟨bF2, bR2⟩, by simp⟩, hB2⟩ ?assign ?body ?done ?stop
      case hI => exact OwnFrom.and (((Own.from (blk_own _ _ _) _).and (Own.from (blk_own _ _ _) _)).and (ownFrom_pure _ _)) (ownFrom_below (Nat.le_refl _) hz2)
      case hIx => exact fun c => OwnFrom.and ((Own.from (blk_own _ _ _) _).and (ownFrom_pure _ _)) (ownFrom_below (Nat.le_refl _) hz2)
      case assign =>
        intro l x W K hK
        gi_wp2
        exact hK
      case body =>
        rintro l pre x W Bx hl hlr hbx hz hx ⟨⟨⟨bF, bR⟩, hok⟩, hB⟩ hlt
        obtain ⟨lx, c0, c1, c2⟩ := hx.three
        obtain ⟨lF, f0, ff⟩ := bF.one
        obtain ⟨lR, r0, rf⟩ := bR.one
        have hxl := x.lt
        obtain ⟨b, off, hfa, hcell⟩ := (hF.below hB).2.2.int
        obtain ⟨hbl, hcx⟩ := hcell x.1.1 (by rw [HQ.out]; exact hxl)
        obtain rfl : fa = some ⟨b, off, none⟩ := by
          rcases hfa with h | h
          · rw [HQ.out] at h; omega
          · exact h
        have hxf : x.1.1 < flen := by rw [← HlE.out]; exact hxl
        have hxi : (x.1.1 : Int) < (flen : Int) := by omega
        clear hcell hfa hxl
        have hmx : Try.prog.follows .mixedOrders = true := by kernel_rfl
        have hcase : (flowAt fl x.1.1 < 0 ∨ (0 ≤ flowAt fl x.1.1 ∧ x.1.2.2.2 < flowAt fl x.1.1)) ∨ (0 ≤ flowAt fl x.1.1 ∧ flowAt fl x.1.1 ≤ x.1.2.2.2) := by omega
        have hcx' : W.cell? ⟨b, off + x.1.1, none⟩ = some (.int .i64 (flowAt fl x.1.1)) := hcx
        clear hcx
        dsimp only [roundF]
        simp only [List.setIfInBounds_toArray, List.set_cons_zero, List.set_cons_succ]
        rcases hcase with hbad | ⟨h0, h1⟩
        · have hbad' : Hid (fits v es fl = false) := Lib.hid (fits_no HQ.out (x := x) (by simp [fitB]; omega))
          have hbad2 : (decide (flowAt fl x.1.1 < 0) = true ∧ flowAt fl x.1.1 < 0) ∨ (decide (flowAt fl x.1.1 < 0) = false ∧ decide (x.1.2.2.2 < flowAt fl x.1.1) = true) := by
            rcases hbad with h | h
            · exact .inl ⟨by simpa using h, h⟩
            · exact .inr ⟨by simp; omega, by simp; omega⟩
          rcases hbad2 with ⟨hd, _⟩ | ⟨hd, hd'⟩
          all_goals
            gi_wp2
            refine region_quiet_round (by kernel_rfl) (by kernel_rfl) (by kernel_rfl) (by rintro ⟨_, _, h⟩; exact h) ?_
            repeat (go_big_quiet_step (fail))
            refine wpQuiet_nil ?_
            intro _ hw'
            obtain ⟨nq, hw''⟩ := hw'
            subst hw''
            gi_wp2
            exact ⟨((ko_drewN W nq).trans (KeepsOthers.setCell _ _ _)).from _, ⟨(bR.drewN nq).set 0 (.bool false), rfl, hbad'.out⟩, (below_drewN hB nq).setCell (p := ⟨w.heap.size + 1 + 1, 0, none⟩) (by simp; omega) _⟩
        · have hok' : Hid (fitB fl x.1 = true) := Lib.hid (by simp [fitB]; omega)
          have hd : decide (flowAt fl x.1.1 < 0) = false := by simp; omega
          have hd' : decide (x.1.2.2.2 < flowAt fl x.1.1) = false := by simp; omega
          gi_wp2
          refine region_quiet_round (by kernel_rfl) (by kernel_rfl) (by kernel_rfl) (by rintro ⟨_, _, h⟩; exact h) ?_
          repeat (go_big_quiet_step (fail))
          refine wpQuiet_nil ?_
          intro _ hw'
          obtain ⟨nq, hw''⟩ := hw'
          subst hw''
          gi_wp2
          exact ⟨(ko_drewN W nq).from _, below_drewN (Below.refl _ _) nq, ⟨⟨bF.drewN nq, bR.drewN nq⟩, fun y hy => by
            rcases List.mem_append.1 hy with hy | hy
            · exact hok y hy
            · obtain rfl : y = x := by simpa using hy
              exact hok'.out⟩, below_drewN hB nq⟩
      case done =>
        rintro D ys W hD hys ⟨⟨⟨_, bR⟩, hok⟩, hB⟩ hK
        have hr : Hid (fits v es fl = true) := Lib.hid (fits_yes HR.out HQ.out hys hok)
        obtain ⟨lR, r0, rf⟩ := bR.one
        gi_wp2
        have hK' := (KeepsOthers.setCell W ⟨w.heap.size + 1 + 1, 0, none⟩ (.bool true)).same D _ hK rfl
        refine ⟨by simp, .inl ⟨_, _, rfl, run_takeDeferred hK', ?_⟩⟩
        obtain ⟨_, hc5, _⟩ := ((bR.set 0 (.bool true)).putObj (.deferred none) hK' rfl).one
        refine ⟨.bool true, ?_, by rw [hr.out], (hB.setCell (p := ⟨w.heap.size + 1 + 1, 0, none⟩) (by simp; omega) _).trans (belowK_b (w := w) (Nat.le_refl _) _ D _ _ (by omega) hK' rfl rfl)⟩
        simp [results, Try.f36, go_sem, hc5]
      case stop =>
        rintro D c pre W hD ⟨⟨bR, rfl, hr⟩, hB⟩ hK
        have hr := Lib.hid hr
        gi_wp2
        refine ⟨by simp, .inl ⟨_, _, rfl, run_takeDeferred hK, ?_⟩⟩
        obtain ⟨_, hc5, _⟩ := (bR.putObj (.deferred none) hK rfl).one
        refine ⟨.bool false, ?_, by rw [hr.out], hB.trans (belowK_b (w := w) (Nat.le_refl _) _ D _ _ (by omega) hK rfl rfl)⟩
        simp [results, Try.f36, go_sem, hc5]
    · have hf : Hid (fits v es fl = false) := Lib.hid (by
        rcases h : fits v es fl with _ | _
        · rfl
        · have := (fits_iff.1 h).2.1; rw [HlE.out, HlF.out] at this; omega)
      have hq1 : ((flen : Int) == (len : Int)) = false := by simp; omega
      have hq2 : ((flen : Int) != (len : Int)) = true := by simp; omega
      gi_wp2_with (first
        | (refine ⟨trivial, ?_⟩; gi_at_call 31; rw [HW0.out]; refine (callsIn_wide.2 (right_any _ _ _ _ es _ ((hE.below hB0).more hB0.size))).mono ?_; rw [hr]; rintro e w1 ⟨rfl, hb1⟩
           obtain ⟨lN, n0, n1⟩ := (bN.below hb1 (by omega)).two
           obtain ⟨lF, f0, ff⟩ := (bF.below hb1 (by omega)).one
           have bR1 := bR.below hb1 (by omega)
           obtain ⟨lR, r0, rf⟩ := bR1.one)
        | refine ⟨trivial, ?_⟩)
      refine ⟨.bool false, ?_, by rw [hf.out], (hB0.trans (hb1.mono hB0.size)).setCell (p := ⟨w.heap.size + 1 + 1, 0, none⟩) (by simp; omega) _⟩
      obtain ⟨_, r1, _⟩ := (bR1.set 0 (.bool false)).one
      simp [results, Try.f36, go_sem, r1]
  · have hr' : right v es = false := by simpa using hr
    have hf : Hid (fits v es fl = false) := Lib.hid (by
      rcases h : fits v es fl with _ | _
      · rfl
      · rw [(fits_iff.1 h).1] at hr'; cases hr')
    clear hr
    gi_wp2_with (first
      | (refine ⟨trivial, ?_⟩; gi_at_call 31; rw [HW0.out]; refine (callsIn_wide.2 (right_any _ _ _ _ es _ ((hE.below hB0).more hB0.size))).mono ?_; rw [hr']; rintro e w1 ⟨rfl, hb1⟩
         have bR1 := bR.below hb1 (by omega)
         obtain ⟨lR, r0, rf⟩ := bR1.one)
      | refine ⟨trivial, ?_⟩)
    refine ⟨.bool false, ?_, by rw [hf.out], (hB0.trans (hb1.mono hB0.size)).setCell (p := ⟨w.heap.size + 1 + 1, 0, none⟩) (by simp; omega) _⟩
    obtain ⟨_, r1, _⟩ := (bR1.set 0 (.bool false)).one
    simp [results, Try.f36, go_sem, r1]
end Go.Proofs.Ytcbfgdiddhhhcaa
