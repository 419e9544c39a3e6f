/-
  graph.isVertex, graph.Right.
  graph.fits.
  graph.gains.
  graph.Value, graph.Good.
-/
import Derived.Test.YthchlfoebkachaaRange
import Derived.Test.YthchlfoebkachaaSeen
namespace Go.Proofs.Ythchlfoebkachaa
open Go.RowKit Gm
attribute [local go_sem] Oper.semAt_some

theorem isv_any (v : Int) (a : Option Addr) (len cap : Nat) (x : Int) (w : World) :
    Calls Try.prog 47 #[netV v a len cap, .int .i64 x] w fun e w' => e = .returned (.bool (vtx v x)) ∧ w' = w.alloc (.cells #[.int .i64 v, .slice a len cap] 24) := by
  by_cases h0 : 0 ≤ x
  · by_cases h1 : x < v
    · go_enter Try.func47, Try.ntmps47
      go_wp2
      go_ret
      exact ⟨ret_bool (by simp [vtx, h0, h1]), rfl⟩
    · go_enter Try.func47, Try.ntmps47
      go_wp2
      go_ret
      exact ⟨ret_bool (by simp [vtx]; omega), rfl⟩
  · go_enter Try.func47, Try.ntmps47
    go_wp2
    go_ret
    exact ⟨ret_bool (by simp [vtx]; omega), rfl⟩

/-- The own blocks of a call that keeps a network's box and a result's. -/
theorem right_bad {v : Int} {es : List E} {x : AtOf es} (h : okE v x.1.2 = false) : right v es = false := by
  rcases hr : right v es with _ | _
  · rfl
  · rw [(right_iff.1 hr).2.2.2 _ x.mem] at h; cases h

set_option maxRecDepth 100000 in
set_option maxHeartbeats 2000000 in
theorem right_any (v : Int) (a : Option Addr) (len cap : Nat) (es : List E) (w : World) (hE : NetAt w.heap.size w a len es) :
    Calls Try.prog 32 #[netV v a len cap] w fun e w' => e = .returned (.bool (right v es)) ∧ Below w.heap.size w w' := by
  refine (callsIn_wide (n := 5)).1 ?_
  refine callsIn_of_wp_marks Try.func32 rfl trivial ?_ rfl
  simp only [Try.ntmps32, List.size_toArray, List.length_cons, List.length_nil, Nat.reduceAdd, Nat.reduceSub, Array.replicate_succ, Array.replicate_zero, List.push_toArray, List.append_toArray, List.nil_append, List.cons_append]
  by_cases hs : 2 ≤ v ∧ v ≤ 64 ∧ len ≤ 256
  · obtain ⟨h1, h2, h3⟩ := hs
    gi_wp2_with (refine ⟨trivial, ?_⟩; gi_at_call 46; refine (edges_any _ _ _ _ _).mono ?_; rintro e w' ⟨rfl, rfl⟩)
    have bN := Blk.new w 24 #[.int .i64 v, .slice a len cap]
    have bR := Blk.new (w.alloc (.cells #[.int .i64 v, .slice a len cap] 24)) 4 #[.bool false]
    rw [World.size_alloc] at bR
    have bS := Blk.new (((w.alloc (.cells #[.int .i64 v, .slice a len cap] 24)).alloc (.cells #[.bool false] 4)).alloc (.cells #[.int .i64 v, .slice a len cap] 24)) 22 #[.slice a len cap]
    simp only [World.size_alloc] at bS
    have hB : Below w.heap.size w ((((w.alloc (.cells #[.int .i64 v, .slice a len cap] 24)).alloc (.cells #[.bool false] 4)).alloc (.cells #[.int .i64 v, .slice a len cap] 24)).alloc (.cells #[.slice a len cap] 22)) :=
      ((((Below.refl _ w).alloc (Nat.le_refl _) _).alloc (by simp) _).alloc (by simp; omega) _).alloc (by simp; omega) _
    have bN := ((bN.alloc (.cells #[.bool false] 4)).alloc (.cells #[.int .i64 v, .slice a len cap] 24)).alloc (.cells #[.slice a len cap] 22)
    have bR := (bR.alloc (.cells #[.int .i64 v, .slice a len cap] 24)).alloc (.cells #[.slice a len cap] 22)
    refine range_edges (s := 21) (q := 4) (by omega) (w.heap.size + 1 + 1 + 1) w.heap.size a len cap es rfl bS hB.size (hE.below hB)
      (fun pre W => ((Blk W w.heap.size 24 #[.int .i64 v, .slice a len cap] ∧ Blk W (w.heap.size + 1) 4 #[.bool false]) ∧ ∀ x ∈ pre, okE v x.1.2 = true) ∧ Below w.heap.size w W)
      (fun c pre W => (Blk W (w.heap.size + 1) 4 #[.bool false] ∧ (c = .ret ∧ right v es = false)) ∧ Below w.heap.size w W)
      ?hI ?hIx ⟨⟨⟨bN, bR⟩, by simp⟩, hB⟩ ?assign ?body ?done ?stop
    case hI => exact OwnFrom.and (((Own.from (blk_own _ _ _) _).and (Own.from (blk_own _ _ _) _)).and (ownFrom_pure _ _)) (ownFrom_below (Nat.le_refl _) (by simp; omega))
    case hIx => exact fun c => OwnFrom.and ((Own.from (blk_own _ _ _) _).and (ownFrom_pure _ _)) (ownFrom_below (Nat.le_refl _) (by simp; omega))
    case assign =>
      intro l x W K hK
      gi_wp2
      exact hK
    case body =>
      rintro l pre x W Bx hl hr hbx hz hx ⟨⟨⟨bN, bR⟩, hok⟩, hB⟩ hlt
      have c0 := hx.cell 0
      have c1 := hx.cell 1
      have c2 := hx.cell 2
      simp at c0 c1 c2
      have n0 := bN.cell 0
      have n1 := bN.cell 1
      simp at n0 n1
      have r0 := bR.cell 0
      simp at r0
      have rf := bR.frozen 0
      dsimp only [roundF]
      have l0 := bN.lt
      have l1 := bR.lt
      have l2 := hx.lt
      have hcase : (vtx v x.1.2.1 = false ∨ (vtx v x.1.2.1 = true ∧ vtx v x.1.2.2.1 = false) ∨ (vtx v x.1.2.1 = true ∧ vtx v x.1.2.2.1 = true ∧ (x.1.2.1 == x.1.2.2.1) = true) ∨ (vtx v x.1.2.1 = true ∧ vtx v x.1.2.2.1 = true ∧ (x.1.2.1 == x.1.2.2.1) = false ∧ x.1.2.2.2 < 0) ∨ (vtx v x.1.2.1 = true ∧ vtx v x.1.2.2.1 = true ∧ (x.1.2.1 == x.1.2.2.1) = false ∧ 0 ≤ x.1.2.2.2 ∧ 1000 < x.1.2.2.2)) ∨
          (vtx v x.1.2.1 = true ∧ vtx v x.1.2.2.1 = true ∧ (x.1.2.1 == x.1.2.2.1) = false ∧ 0 ≤ x.1.2.2.2 ∧ x.1.2.2.2 ≤ 1000) := by
        rcases vtx v x.1.2.1 with _ | _ <;> rcases vtx v x.1.2.2.1 with _ | _ <;> rcases (x.1.2.1 == x.1.2.2.1) with _ | _ <;> simp <;> omega
      rcases hcase with hbad | ⟨hu, hw, he, hc0, hc1⟩
      · have hbad' : Hid (right v es = false) := Lib.hid (right_bad (x := x) (by
          unfold okE
          rcases hbad with h | ⟨_, h⟩ | ⟨_, _, h⟩ | ⟨_, _, _, h⟩ | ⟨_, _, _, _, h⟩
          · simp [h]
          · simp [h]
          · simp at h; simp [h]
          · have : ¬ 0 ≤ x.1.2.2.2 := by omega
            simp [this]
          · have : ¬ x.1.2.2.2 ≤ 1000 := by omega
            simp [this]))
        rcases hbad with hu | ⟨hu, hw⟩ | ⟨hu, hw, he⟩ | ⟨hu, hw, he, hc0⟩ | ⟨hu, hw, he, hc0, hc1⟩
        all_goals
          gi_wp2_with (first | (refine ⟨trivial, ?_⟩; gi_at_call 47; refine (CallsIn.inRound l (callsIn_wide.2 (isv_any _ _ _ _ _ _))).mono ?_; rintro e w' ⟨rfl, rfl⟩) | refine ⟨trivial, ?_⟩)
        all_goals
          refine ⟨KeepsOthers.from ?_ _, ⟨?_, rfl, hbad'.out⟩, ?_⟩
          · repeat (first | exact KeepsOthers.refl _ | refine KeepsOthers.trans ?_ (KeepsOthers.alloc _ _) | refine KeepsOthers.trans ?_ (KeepsOthers.setCell _ _ _))
          · repeat (first | exact bR | refine Blk.alloc ?_ _ | exact bR.set 0 _)
          · repeat (first | exact hB | refine Below.alloc ?_ (by first | omega | (simp; omega)) _ | refine Below.setCell ?_ (by simp) _)
      · have hok' : Hid (okE v x.1.2 = true) := Lib.hid (by simp at he; simp [okE, hu, hw, he, hc0, hc1])
        gi_wp2_with (first | (refine ⟨trivial, ?_⟩; gi_at_call 47; refine (CallsIn.inRound l (callsIn_wide.2 (isv_any _ _ _ _ _ _))).mono ?_; rintro e w' ⟨rfl, rfl⟩) | refine ⟨trivial, ?_⟩)
        refine ⟨KeepsOthers.from ?_ _, ?_, ⟨⟨?_, ?_⟩, fun y hy => ?_⟩, ?_⟩
        · repeat (first | exact KeepsOthers.refl _ | refine KeepsOthers.trans ?_ (KeepsOthers.alloc _ _) | refine KeepsOthers.trans ?_ (KeepsOthers.setCell _ _ _))
        · repeat (first | exact Below.refl _ _ | refine Below.alloc ?_ (by first | omega | (simp; omega)) _ | refine Below.setCell ?_ (by simp) _)
        · repeat (first | exact bN | refine Blk.alloc ?_ _)
        · repeat (first | exact bR | refine Blk.alloc ?_ _)
        · rcases List.mem_append.1 hy with hy | hy
          · exact hok y hy
          · obtain rfl : y = x := by simpa using hy
            exact hok'.out
        · repeat (first | exact hB | refine Below.alloc ?_ (by first | omega | (simp; omega)) _ | refine Below.setCell ?_ (by simp) _)
    case done =>
      rintro D ys W hD hys ⟨⟨⟨_, bR⟩, hok⟩, hB⟩ hK
      have hr : Hid (right v es = true) := Lib.hid (right_iff.2 ⟨h1, h2, by rw [hE.1]; exact h3, fun e he => by
        obtain ⟨i, hi, e'⟩ := List.getElem_of_mem he
        have hm : (i, e) ∈ bare ys := by
          rw [hys]; subst e'
          exact List.mem_iff_getElem.2 ⟨i, by rw [placed_length]; exact hi, by simp [placed]⟩
        obtain ⟨y, hy, e2⟩ := List.mem_map.1 hm
        have := hok y hy
        rw [e2] at this; exact this⟩)
      have r0 := bR.cell 0
      simp at r0
      have rf := bR.frozen 0
      gi_wp2
      have hK' := (KeepsOthers.setCell W ⟨w.heap.size + 1, 0, none⟩ (.bool true)).same D _ hK rfl
      refine ⟨by simp, .inl ⟨_, _, rfl, run_takeDeferred hK', ?_⟩⟩
      have hc5 := ((bR.set 0 (.bool true)).putObj (.deferred none) hK' rfl).cell 0
      simp at hc5
      refine ⟨.bool true, ?_, by rw [hr.out], (hB.setCell (p := ⟨w.heap.size + 1, 0, none⟩) (by simp) _).trans (belowK_b (w := w) (Nat.le_refl _) _ D _ _ (by simp at hD; omega) hK' rfl rfl)⟩
      simp [results, Try.f32, go_sem, hc5]
    case stop =>
      rintro D c pre W hD ⟨⟨bR, rfl, hr⟩, hB⟩ hK
      have hr := Lib.hid hr
      gi_wp2
      refine ⟨by simp, .inl ⟨_, _, rfl, run_takeDeferred hK, ?_⟩⟩
      have hc5 := (bR.putObj (.deferred none) hK rfl).cell 0
      simp at hc5
      refine ⟨.bool false, ?_, by rw [hr.out], hB.trans (belowK_b (w := w) (Nat.le_refl _) _ D _ _ (by simp at hD; omega) hK rfl rfl)⟩
      simp [results, Try.f32, go_sem, hc5]
  · have hr : Hid (right v es = false) := Lib.hid (by
      rcases h : right v es with _ | _
      · rfl
      · have := right_iff.1 h
        rw [hE.1] at this; omega)
    have hs' : v < 2 ∨ (2 ≤ v ∧ 64 < v) ∨ (2 ≤ v ∧ v ≤ 64 ∧ 256 < len) := by omega
    rcases hs' with h | ⟨h, h'⟩ | ⟨h, h', h''⟩
    all_goals
      gi_wp2
      refine ⟨.bool false, ?_, by rw [hr.out], ((Below.refl _ w).alloc (Nat.le_refl _) _).alloc (by simp) _⟩
      simp [results, Try.f32, go_sem]
end Go.Proofs.Ythchlfoebkachaa

namespace Go.Proofs.Ythchlfoebkachaa
open Go.RowKit Gm
attribute [local go_sem] Oper.semAt_some

theorem zip_at {es : List E} {fl : List Int} (h : fl.length = es.length) (x : AtOf es) : (x.1.2, flowAt fl x.1.1) ∈ es.zip fl := by
  have hl := x.lt
  refine List.mem_iff_getElem.2 ⟨x.1.1, by rw [List.length_zip]; omega, ?_⟩
  rw [List.getElem_zip]
  have := x.2
  rw [List.getElem?_eq_getElem hl] at this
  unfold flowAt
  rw [List.getElem?_eq_getElem (by omega)]
  simp at this ⊢; exact this
theorem of_bare {es : List E} {ys : List (AtOf es)} (hys : bare ys = placed es) {i : Nat} (hi : i < es.length) : ∃ y ∈ ys, y.1 = (i, es[i]) := by
  have hm : (i, es[i]) ∈ bare ys := by
    rw [hys]
    exact List.mem_iff_getElem.2 ⟨i, by rw [placed_length]; exact hi, by simp [placed]⟩
  obtain ⟨y, hy, e⟩ := List.mem_map.1 hm
  exact ⟨y, hy, e⟩
def fitB (fl : List Int) (x : At) : Bool := decide (0 ≤ flowAt fl x.1) && decide (flowAt fl x.1 ≤ x.2.2.2)
theorem fits_no {v : Int} {es : List E} {fl : List Int} (h : fl.length = es.length) {x : AtOf es} (hx : fitB fl x.1 = false) : fits v es fl = false := by
  rcases hf : fits v es fl with _ | _
  · rfl
  · have := (fits_iff.1 hf).2.2 _ (zip_at h x)
    simp [fitB] at hx
    have h2 := hx this.1
    have := this.2
    simp at this
    omega
theorem fits_yes {v : Int} {es : List E} {fl : List Int} (hr : right v es = true) (h : fl.length = es.length) {ys : List (AtOf es)} (hys : bare ys = placed es) (hx : ∀ x ∈ ys, fitB fl x.1 = true) : fits v es fl = true := by
  refine fits_iff.2 ⟨hr, h, fun p hp => ?_⟩
  obtain ⟨i, hi, rfl⟩ := zip_mem h hp
  obtain ⟨y, hy, e⟩ := of_bare hys hi
  have := hx y hy
  rw [e] at this
  simp [fitB] at this
  exact this

set_option maxRecDepth 100000 in
set_option maxHeartbeats 2000000 in
theorem fits_any (v : Int) (a : Option Addr) (len cap : Nat) (es : List E) (fa : Option Addr) (flen fcap : Nat) (fl : List Int) (w : World) (hE : NetAt w.heap.size w a len es) (hF : FlowAt w.heap.size w fa flen fl) :
    Calls Try.prog 48 #[netV v a len cap, .slice fa flen fcap] w fun e w' => e = .returned (.bool (fits v es fl)) ∧ Below w.heap.size w w' := by
  refine (callsIn_wide (n := 5)).1 ?_
  refine callsIn_of_wp_marks Try.func48 rfl trivial ?_ rfl
  simp only [Try.ntmps48, List.size_toArray, List.length_cons, List.length_nil, Nat.reduceAdd, Nat.reduceSub, Array.replicate_succ, Array.replicate_zero, List.push_toArray, List.append_toArray, List.nil_append, List.cons_append]
  obtain ⟨W0, hW0⟩ : ∃ W0, ((w.alloc (.cells #[.int .i64 v, .slice a len cap] 24)).alloc (.cells #[.slice fa flen fcap] 25)).alloc (.cells #[.bool false] 4) = W0 := ⟨_, rfl⟩
  have hz0 : w.heap.size + 1 + 1 < W0.heap.size := by rw [← hW0]; simp
  have hB0 : Below w.heap.size w W0 := by
    rw [← hW0]; exact (((Below.refl _ w).alloc (Nat.le_refl _) _).alloc (by simp) _).alloc (by simp; omega) _
  have bN : Blk W0 w.heap.size 24 #[.int .i64 v, .slice a len cap] := by rw [← hW0]; exact ((Blk.new w _ _).alloc _).alloc _
  have bF : Blk W0 (w.heap.size + 1) 25 #[.slice fa flen fcap] := by
    rw [← hW0]; have := (Blk.new (w.alloc (.cells #[.int .i64 v, .slice a len cap] 24)) 25 #[.slice fa flen fcap]).alloc (.cells #[.bool false] 4)
    rwa [World.size_alloc] at this
  have bR : Blk W0 (w.heap.size + 1 + 1) 4 #[.bool false] := by
    rw [← hW0]; have := Blk.new ((w.alloc (.cells #[.int .i64 v, .slice a len cap] 24)).alloc (.cells #[.slice fa flen fcap] 25)) 4 #[.bool false]
    simp only [World.size_alloc] at this; exact this
  have HW0 := Lib.hid hW0
  have HlE := Lib.hid hE.1
  have HlF := Lib.hid hF.1
  clear hW0
  have hend : ∀ (W : World), Blk W (w.heap.size + 1 + 1) 4 #[.bool false] → True := fun _ _ => trivial
  by_cases hr : right v es = true
  · by_cases hq : flen = len
    · have hql : fl.length = es.length := by rw [HlE.out, HlF.out]; exact hq
      have HQ := Lib.hid hql
      have hlen : len ≤ 256 := by have := (right_iff.1 hr).2.2.1; rw [HlE.out] at this; exact this
      have HR := Lib.hid hr
      subst hq
      clear hql hend
      gi_wp2_with (first
        | (refine ⟨trivial, ?_⟩; gi_at_call 32; rw [HW0.out]; refine (callsIn_wide.2 (right_any _ _ _ _ es _ ((hE.below hB0).more hB0.size))).mono ?_; rw [hr]; rintro e w1 ⟨rfl, hb1⟩
           obtain ⟨lN, n0, n1⟩ := (bN.below hb1 (by omega)).two
           obtain ⟨lF, f0, ff⟩ := (bF.below hb1 (by omega)).one)
        | (refine ⟨trivial, ?_⟩; gi_at_call 46; refine (edges_any _ _ _ _ _).mono ?_; rintro e w' ⟨rfl, rfl⟩)
        | refine ⟨trivial, ?_⟩)
      have hB1 : Below w.heap.size w w1 := hB0.trans (hb1.mono hB0.size)
      obtain ⟨W2, hW2⟩ : ∃ W2, (w1.alloc (.cells #[.int .i64 v, .slice a flen cap] 24)).alloc (.cells #[.slice a flen cap] 22) = W2 := ⟨_, rfl⟩
      have hB2 : Below w.heap.size w W2 := by rw [← hW2]; exact (hB1.alloc hB1.size _).alloc (by simp; have := hB1.size; omega) _
      have bS : Blk W2 (w1.heap.size + 1) 22 #[.slice a flen cap] := by
        rw [← hW2]; have := Blk.new (w1.alloc (.cells #[.int .i64 v, .slice a flen cap] 24)) 22 #[.slice a flen cap]
        rwa [World.size_alloc] at this
      have bF2 : Blk W2 (w.heap.size + 1) 25 #[.slice fa flen fcap] := by rw [← hW2]; exact ((bF.below hb1 (by omega)).alloc _).alloc _
      have bR2 : Blk W2 (w.heap.size + 1 + 1) 4 #[.bool false] := by rw [← hW2]; exact ((bR.below hb1 (by omega)).alloc _).alloc _
      have hz2 : w.heap.size ≤ W2.heap.size := hB2.size
      rw [hW2]
      clear hW2
      refine range_edges (s := 5) (q := 6) (by omega) (w1.heap.size + 1) w.heap.size a flen cap es rfl bS hB2.size (hE.below hB2)
        (fun pre W => ((Blk W (w.heap.size + 1) 25 #[.slice fa flen fcap] ∧ Blk W (w.heap.size + 1 + 1) 4 #[.bool false]) ∧ ∀ x ∈ pre, fitB fl x.1 = true) ∧ Below w.heap.size w W)
        (fun c pre W => (Blk W (w.heap.size + 1 + 1) 4 #[.bool false] ∧ (c = .ret ∧ fits v es fl = false)) ∧ Below w.heap.size w W)
        ?hI ?hIx ⟨⟨⟨bF2, bR2⟩, by simp⟩, hB2⟩ ?assign ?body ?done ?stop
      case hI => exact OwnFrom.and (((Own.from (blk_own _ _ _) _).and (Own.from (blk_own _ _ _) _)).and (ownFrom_pure _ _)) (ownFrom_below (Nat.le_refl _) hz2)
      case hIx => exact fun c => OwnFrom.and ((Own.from (blk_own _ _ _) _).and (ownFrom_pure _ _)) (ownFrom_below (Nat.le_refl _) hz2)
      case assign =>
        intro l x W K hK
        gi_wp2
        exact hK
      case body =>
        rintro l pre x W Bx hl hlr hbx hz hx ⟨⟨⟨bF, bR⟩, hok⟩, hB⟩ hlt
        obtain ⟨lx, c0, c1, c2⟩ := hx.three
        obtain ⟨lF, f0, ff⟩ := bF.one
        obtain ⟨lR, r0, rf⟩ := bR.one
        have hxl := x.lt
        obtain ⟨b, off, hfa, hcell⟩ := (hF.below hB).2.2.int
        obtain ⟨hbl, hcx⟩ := hcell x.1.1 (by rw [HQ.out]; exact hxl)
        obtain rfl : fa = some ⟨b, off, none⟩ := by
          rcases hfa with h | h
          · rw [HQ.out] at h; omega
          · exact h
        have hxf : x.1.1 < flen := by rw [← HlE.out]; exact hxl
        have hxi : (x.1.1 : Int) < (flen : Int) := by omega
        clear hcell hfa hxl
        have hmx : Try.prog.follows .mixedOrders = true := by kernel_rfl
        have hcase : (flowAt fl x.1.1 < 0 ∨ (0 ≤ flowAt fl x.1.1 ∧ x.1.2.2.2 < flowAt fl x.1.1)) ∨ (0 ≤ flowAt fl x.1.1 ∧ flowAt fl x.1.1 ≤ x.1.2.2.2) := by omega
        have hcx' : W.cell? ⟨b, off + x.1.1, none⟩ = some (.int .i64 (flowAt fl x.1.1)) := hcx
        clear hcx
        dsimp only [roundF]
        simp only [List.setIfInBounds_toArray, List.set_cons_zero, List.set_cons_succ]
        rcases hcase with hbad | ⟨h0, h1⟩
        · have hbad' : Hid (fits v es fl = false) := Lib.hid (fits_no HQ.out (x := x) (by simp [fitB]; omega))
          have hbad2 : (decide (flowAt fl x.1.1 < 0) = true ∧ flowAt fl x.1.1 < 0) ∨ (decide (flowAt fl x.1.1 < 0) = false ∧ decide (x.1.2.2.2 < flowAt fl x.1.1) = true) := by
            rcases hbad with h | h
            · exact .inl ⟨by simpa using h, h⟩
            · exact .inr ⟨by simp; omega, by simp; omega⟩
          rcases hbad2 with ⟨hd, _⟩ | ⟨hd, hd'⟩
          all_goals
            gi_wp2
            refine region_quiet_round (by kernel_rfl) (by kernel_rfl) (by kernel_rfl) (by rintro ⟨_, _, h⟩; exact h) ?_
            repeat (go_big_quiet_step (fail))
            refine wpQuiet_nil ?_
            intro _ hw'
            obtain ⟨nq, hw''⟩ := hw'
            subst hw''
            gi_wp2
            exact ⟨((ko_drewN W nq).trans (KeepsOthers.setCell _ _ _)).from _, ⟨(bR.drewN nq).set 0 (.bool false), rfl, hbad'.out⟩, (below_drewN hB nq).setCell (p := ⟨w.heap.size + 1 + 1, 0, none⟩) (by simp; omega) _⟩
        · have hok' : Hid (fitB fl x.1 = true) := Lib.hid (by simp [fitB]; omega)
          have hd : decide (flowAt fl x.1.1 < 0) = false := by simp; omega
          have hd' : decide (x.1.2.2.2 < flowAt fl x.1.1) = false := by simp; omega
          gi_wp2
          refine region_quiet_round (by kernel_rfl) (by kernel_rfl) (by kernel_rfl) (by rintro ⟨_, _, h⟩; exact h) ?_
          repeat (go_big_quiet_step (fail))
          refine wpQuiet_nil ?_
          intro _ hw'
          obtain ⟨nq, hw''⟩ := hw'
          subst hw''
          gi_wp2
          exact ⟨(ko_drewN W nq).from _, below_drewN (Below.refl _ _) nq, ⟨⟨bF.drewN nq, bR.drewN nq⟩, fun y hy => by
            rcases List.mem_append.1 hy with hy | hy
            · exact hok y hy
            · obtain rfl : y = x := by simpa using hy
              exact hok'.out⟩, below_drewN hB nq⟩
      case done =>
        rintro D ys W hD hys ⟨⟨⟨_, bR⟩, hok⟩, hB⟩ hK
        have hr : Hid (fits v es fl = true) := Lib.hid (fits_yes HR.out HQ.out hys hok)
        obtain ⟨lR, r0, rf⟩ := bR.one
        gi_wp2
        have hK' := (KeepsOthers.setCell W ⟨w.heap.size + 1 + 1, 0, none⟩ (.bool true)).same D _ hK rfl
        refine ⟨by simp, .inl ⟨_, _, rfl, run_takeDeferred hK', ?_⟩⟩
        obtain ⟨_, hc5, _⟩ := ((bR.set 0 (.bool true)).putObj (.deferred none) hK' rfl).one
        refine ⟨.bool true, ?_, by rw [hr.out], (hB.setCell (p := ⟨w.heap.size + 1 + 1, 0, none⟩) (by simp; omega) _).trans (belowK_b (w := w) (Nat.le_refl _) _ D _ _ (by omega) hK' rfl rfl)⟩
        simp [results, Try.f48, go_sem, hc5]
      case stop =>
        rintro D c pre W hD ⟨⟨bR, rfl, hr⟩, hB⟩ hK
        have hr := Lib.hid hr
        gi_wp2
        refine ⟨by simp, .inl ⟨_, _, rfl, run_takeDeferred hK, ?_⟩⟩
        obtain ⟨_, hc5, _⟩ := (bR.putObj (.deferred none) hK rfl).one
        refine ⟨.bool false, ?_, by rw [hr.out], hB.trans (belowK_b (w := w) (Nat.le_refl _) _ D _ _ (by omega) hK rfl rfl)⟩
        simp [results, Try.f48, go_sem, hc5]
    · have hf : Hid (fits v es fl = false) := Lib.hid (by
        rcases h : fits v es fl with _ | _
        · rfl
        · have := (fits_iff.1 h).2.1; rw [HlE.out, HlF.out] at this; omega)
      have hq1 : ((flen : Int) == (len : Int)) = false := by simp; omega
      have hq2 : ((flen : Int) != (len : Int)) = true := by simp; omega
      gi_wp2_with (first
        | (refine ⟨trivial, ?_⟩; gi_at_call 32; rw [HW0.out]; refine (callsIn_wide.2 (right_any _ _ _ _ es _ ((hE.below hB0).more hB0.size))).mono ?_; rw [hr]; rintro e w1 ⟨rfl, hb1⟩
           obtain ⟨lN, n0, n1⟩ := (bN.below hb1 (by omega)).two
           obtain ⟨lF, f0, ff⟩ := (bF.below hb1 (by omega)).one
           have bR1 := bR.below hb1 (by omega)
           obtain ⟨lR, r0, rf⟩ := bR1.one)
        | refine ⟨trivial, ?_⟩)
      refine ⟨.bool false, ?_, by rw [hf.out], (hB0.trans (hb1.mono hB0.size)).setCell (p := ⟨w.heap.size + 1 + 1, 0, none⟩) (by simp; omega) _⟩
      obtain ⟨_, r1, _⟩ := (bR1.set 0 (.bool false)).one
      simp [results, Try.f48, go_sem, r1]
  · have hr' : right v es = false := by simpa using hr
    have hf : Hid (fits v es fl = false) := Lib.hid (by
      rcases h : fits v es fl with _ | _
      · rfl
      · rw [(fits_iff.1 h).1] at hr'; cases hr')
    clear hr
    gi_wp2_with (first
      | (refine ⟨trivial, ?_⟩; gi_at_call 32; rw [HW0.out]; refine (callsIn_wide.2 (right_any _ _ _ _ es _ ((hE.below hB0).more hB0.size))).mono ?_; rw [hr']; rintro e w1 ⟨rfl, hb1⟩
         have bR1 := bR.below hb1 (by omega)
         obtain ⟨lR, r0, rf⟩ := bR1.one)
      | refine ⟨trivial, ?_⟩)
    refine ⟨.bool false, ?_, by rw [hf.out], (hB0.trans (hb1.mono hB0.size)).setCell (p := ⟨w.heap.size + 1 + 1, 0, none⟩) (by simp; omega) _⟩
    obtain ⟨_, r1, _⟩ := (bR1.set 0 (.bool false)).one
    simp [results, Try.f48, go_sem, r1]
end Go.Proofs.Ythchlfoebkachaa

namespace Go.Proofs.Ythchlfoebkachaa
open Go.RowKit Gm
attribute [local go_sem] Oper.semAt_some

/-- For each of n vertices what leaves it, less what comes in. -/
def gainV (n : Nat) (z : Z) : Array Value := ((List.range n).map fun x : Nat => Value.int .i64 (gain z x)).toArray
theorem gainV_size (n : Nat) (z : Z) : (gainV n z).size = n := by simp [gainV]
theorem gainV_at (n : Nat) (z : Z) (x : Nat) (h : x < n) : (gainV n z)[x]? = some (.int .i64 (gain z x)) := by simp [gainV, h]
theorem gainV_zero (n : Nat) : gainV n [] = Array.replicate n (.int .i64 0) := by
  apply Array.ext
  · simp [gainV]
  · intro i h1 h2; simp [gainV, gain]
def flowOf {es : List E} (fl : List Int) (l : List (AtOf es)) : Z := l.map fun x => (x.1.2, flowAt fl x.1.1)
theorem flowOf_snoc {es : List E} (fl : List Int) (l : List (AtOf es)) (x : AtOf es) : flowOf fl (l ++ [x]) = flowOf fl l ++ [(x.1.2, flowAt fl x.1.1)] := by simp [flowOf]
theorem flowOf_all {es : List E} {fl : List Int} (hl : fl.length = es.length) {ys : List (AtOf es)} (h : bare ys = placed es) : flowOf fl ys = es.zip fl := by
  have : (bare ys).map (fun x => (x.2, flowAt fl x.1)) = flowOf fl ys := by simp [bare, flowOf]
  rw [← this, h]
  apply List.ext_getElem
  · simp [placed]; omega
  · intro i h1 h2
    simp [placed] at h1
    simp [placed, flowAt]
    rw [List.getElem?_eq_getElem (by omega)]; rfl
/-- Behind both stores. -/
theorem gainV_step (n : Nat) (z : Z) (e : E) (f : Int) (hu : 0 ≤ e.1) (hv : 0 ≤ e.2.1) (hne : e.1 ≠ e.2.1) :
    ((gainV n z).setIfInBounds e.1.toNat (.int .i64 (gain z e.1 + f))).setIfInBounds e.2.1.toNat (.int .i64 (gain z e.2.1 - f)) = gainV n (z ++ [(e, f)]) := by
  apply Array.ext
  · simp [gainV]
  · intro i h1 h2
    simp [gainV] at h1
    rw [Array.getElem_setIfInBounds, Array.getElem_setIfInBounds]
    · by_cases e2 : e.2.1.toNat = i
      · have : e.2.1 = (i : Int) := by omega
        rw [if_pos e2]; simp [gainV, gain_snoc, this]
        have : ¬ e.1 = (i : Int) := by omega
        simp [this]
      · rw [if_neg e2]
        by_cases e1 : e.1.toNat = i
        · have : e.1 = (i : Int) := by omega
          rw [if_pos e1]; simp [gainV, gain_snoc, this]
          have : ¬ e.2.1 = (i : Int) := by omega
          simp [this]
        · have h3 : ¬ e.1 = (i : Int) := by omega
          have h4 : ¬ e.2.1 = (i : Int) := by omega
          rw [if_neg e1]; simp [gainV, gain_snoc, h3, h4]
    all_goals simp [gainV]; omega

def GainsPost (n : Nat) (z : Z) (w : World) (e : Ending) (w' : World) : Prop :=
  ∃ g, e = .returned (.slice (some ⟨g, 0, none⟩) n n) ∧ w.heap.size ≤ g ∧ Blk w' g 3 (gainV n z) ∧ Below w.heap.size w w'

set_option maxRecDepth 100000 in
set_option maxHeartbeats 2000000 in
theorem gains_any (n : Nat) (a : Option Addr) (len cap : Nat) (es : List E) (fa : Option Addr) (flen fcap : Nat) (fl : List Int) (w : World) (hE : NetAt w.heap.size w a len es) (hF : FlowAt w.heap.size w fa flen fl) (hf : fits (n : Int) es fl = true) :
    Calls Try.prog 49 #[netV (n : Int) a len cap, .slice fa flen fcap] w (GainsPost n (es.zip fl) w) := by
  refine (callsIn_wide (n := 5)).1 ?_
  refine callsIn_of_wp_marks Try.func49 rfl trivial ?_ rfl
  simp only [Try.ntmps49, List.size_toArray, List.length_cons, List.length_nil, Nat.reduceAdd, Nat.reduceSub, Array.replicate_succ, Array.replicate_zero, List.push_toArray, List.append_toArray, List.nil_append, List.cons_append]
  have hff := fits_iff.1 hf
  have hR := right_iff.1 hff.1
  have hn64 : n ≤ 64 := by omega
  have hn2 : 2 ≤ n := by omega
  have HlE := Lib.hid hE.1
  have HlF := Lib.hid hF.1
  have HQ := Lib.hid hff.2.1
  have HFF := Lib.hid hff.2.2
  have h256 : len ≤ 256 := by have := hR.2.2.1; rw [HlE.out] at this; exact this
  have hok : Hid (∀ e ∈ es, okE n e = true) := Lib.hid hR.2.2.2
  have hmk := make_ints n (by omega)
  clear hff hR hf
  gi_wp2_with (first
        | (refine ⟨trivial, ?_⟩; gi_at_call 46; refine (edges_any _ _ _ _ _).mono ?_; rintro e w' ⟨rfl, rfl⟩)
        | refine ⟨trivial, ?_⟩)
  obtain ⟨W2, hW2⟩ : ∃ W2, ((((((w.alloc (.cells #[.int .i64 (n : Int), .slice a len cap] 24)).alloc (.cells #[.slice fa flen fcap] 25)).alloc (.cells (Array.replicate n (.int .i64 0)) 3)).alloc (.cells #[.slice (some ⟨w.heap.size + 1 + 1, 0, none⟩) n n] 25)).alloc
    (.cells #[.int .i64 (n : Int), .slice a len cap] 24)).alloc (.cells #[.slice a len cap] 22)) = W2 := ⟨_, rfl⟩
  have hB2 : Below w.heap.size w W2 := by
    rw [← hW2]; exact ((((((Below.refl _ w).alloc (Nat.le_refl _) _).alloc (by simp) _).alloc (by simp; omega) _).alloc (by simp; omega) _).alloc (by simp; omega) _).alloc (by simp; omega) _
  have bF : Blk W2 (w.heap.size + 1) 25 #[.slice fa flen fcap] := by
    rw [← hW2]; have := ((((Blk.new (w.alloc (.cells #[.int .i64 (n : Int), .slice a len cap] 24)) 25 #[.slice fa flen fcap]).alloc (.cells (Array.replicate n (.int .i64 0)) 3)).alloc (.cells #[.slice (some ⟨w.heap.size + 1 + 1, 0, none⟩) n n] 25)).alloc (.cells #[.int .i64 (n : Int), .slice a len cap] 24)).alloc (.cells #[.slice a len cap] 22)
    simp only [World.size_alloc] at this; exact this
  have bA : Blk W2 (w.heap.size + 1 + 1) 3 (gainV n (flowOf fl ([] : List (AtOf es)))) := by
    rw [← hW2, show flowOf fl ([] : List (AtOf es)) = [] from rfl, gainV_zero]
    have := (((Blk.new ((w.alloc (.cells #[.int .i64 (n : Int), .slice a len cap] 24)).alloc (.cells #[.slice fa flen fcap] 25)) 3 (Array.replicate n (.int .i64 0))).alloc (.cells #[.slice (some ⟨w.heap.size + 1 + 1, 0, none⟩) n n] 25)).alloc (.cells #[.int .i64 (n : Int), .slice a len cap] 24)).alloc (.cells #[.slice a len cap] 22)
    simp only [World.size_alloc] at this; exact this
  have bT : Blk W2 (w.heap.size + 1 + 1 + 1) 25 #[.slice (some ⟨w.heap.size + 1 + 1, 0, none⟩) n n] := by
    rw [← hW2]; have := ((Blk.new (((w.alloc (.cells #[.int .i64 (n : Int), .slice a len cap] 24)).alloc (.cells #[.slice fa flen fcap] 25)).alloc (.cells (Array.replicate n (.int .i64 0)) 3)) 25 #[.slice (some ⟨w.heap.size + 1 + 1, 0, none⟩) n n]).alloc (.cells #[.int .i64 (n : Int), .slice a len cap] 24)).alloc (.cells #[.slice a len cap] 22)
    simp only [World.size_alloc] at this; exact this
  have bS : Blk W2 (w.heap.size + 1 + 1 + 1 + 1 + 1) 22 #[.slice a len cap] := by
    rw [← hW2]; have := Blk.new (((((w.alloc (.cells #[.int .i64 (n : Int), .slice a len cap] 24)).alloc (.cells #[.slice fa flen fcap] 25)).alloc (.cells (Array.replicate n (.int .i64 0)) 3)).alloc (.cells #[.slice (some ⟨w.heap.size + 1 + 1, 0, none⟩) n n] 25)).alloc (.cells #[.int .i64 (n : Int), .slice a len cap] 24)) 22 #[.slice a len cap]
    simp only [World.size_alloc] at this; exact this
  have hz2 : w.heap.size + 1 + 1 + 1 + 1 + 1 < W2.heap.size := bS.lt
  rw [hW2]
  clear hW2 hmk
  refine range_edges (s := 6) (q := 7) (by omega) (w.heap.size + 1 + 1 + 1 + 1 + 1) w.heap.size a len cap es rfl bS hB2.size (hE.below hB2)
    (fun pre W => (((Blk W (w.heap.size + 1) 25 #[.slice fa flen fcap] ∧ Blk W (w.heap.size + 1 + 1 + 1) 25 #[.slice (some ⟨w.heap.size + 1 + 1, 0, none⟩) n n]) ∧ Blk W (w.heap.size + 1 + 1) 3 (gainV n (flowOf fl pre))) ∧ pre.length ≤ len) ∧ Below w.heap.size w W)
    (fun c pre W => False)
    ?hI (fun c => ownFrom_pure _ _) ⟨⟨⟨⟨bF, bT⟩, bA⟩, by simp⟩, hB2⟩ ?assign ?body ?done ?stop
  case hI => exact OwnFrom.and ((((Own.from (blk_own _ _ _) _).and (Own.from (blk_own _ _ _) _)).and (Own.from (blk_own _ _ _) _)).and (ownFrom_pure _ _)) (ownFrom_below (Nat.le_refl _) hB2.size)
  case assign =>
    intro l x W K hK
    gi_wp2
    exact hK
  case body =>
    rintro l pre x W Bx hl hlr hbx hz hx ⟨⟨⟨⟨bF, bT⟩, bA⟩, hpl⟩, hB⟩ hlt
    obtain ⟨lx, c0, c1, c2⟩ := hx.three
    obtain ⟨lF, f0, ff⟩ := bF.one
    obtain ⟨lT, t0, tf⟩ := bT.one
    have hoe := okE_iff.1 (hok.out _ x.mem)
    obtain ⟨u0, u1, v0, v1, hne, e0, e1⟩ := hoe
    have hxl := x.lt
    obtain ⟨b, off, hfa, hcell⟩ := (hF.below hB).2.2.int
    obtain ⟨hbl, hcx⟩ := hcell x.1.1 (by rw [HQ.out]; exact hxl)
    obtain rfl : fa = some ⟨b, off, none⟩ := by
      rcases hfa with h | h
      · rw [HQ.out] at h; omega
      · exact h
    have hxi : (x.1.1 : Int) < (flen : Int) := by have := HlF.out; have := HQ.out; omega
    clear hcell hfa hxl
    have hcx' : W.cell? ⟨b, off + x.1.1, none⟩ = some (.int .i64 (flowAt fl x.1.1)) := hcx
    clear hcx
    obtain ⟨f, hfe⟩ : ∃ f, flowAt fl x.1.1 = f := ⟨_, rfl⟩
    have hfb := HFF.out _ (zip_at HQ.out x)
    rw [hfe] at hcx' hfb
    dsimp only at hfb
    obtain ⟨z, hze⟩ : ∃ z, flowOf fl pre = z := ⟨_, rfl⟩
    have hzb : ∀ p ∈ z, 0 ≤ p.2 ∧ p.2 ≤ 1000 := fun p hp => by
      rw [← hze] at hp
      obtain ⟨y, _, rfl⟩ := List.mem_map.1 hp
      have h1 := HFF.out _ (zip_at HQ.out y)
      have h2 := okE_iff.1 (hok.out _ y.mem)
      dsimp only at h1 ⊢
      omega
    have hzl : z.length ≤ 256 := by rw [← hze]; simp [flowOf]; omega
    have hgu := gain_bd z x.1.2.1 hzb
    have hgv := gain_bd z x.1.2.2.1 hzb
    have HN : Hid (flowOf fl (pre ++ [x]) = z ++ [(x.1.2, f)]) := Lib.hid (by rw [flowOf_snoc, hze, hfe])
    rw [hze] at bA
    obtain ⟨gu, hgue⟩ : ∃ g, gain z x.1.2.1 = g := ⟨_, rfl⟩
    obtain ⟨gv, hgve⟩ : ∃ g, gain z x.1.2.2.1 = g := ⟨_, rfl⟩
    have hsu : IntKind.i64.wrap (gu + f) = gu + f := IntWalk.i64_in _ (by omega)
    have hsv : IntKind.i64.wrap (gv - f) = gv - f := IntWalk.i64_in _ (by omega)
    have au := bA.cell x.1.2.1.toNat
    rw [gainV_at _ _ _ (by omega), show ((x.1.2.1.toNat : Nat) : Int) = x.1.2.1 by omega, hgue] at au
    have af := bA.frozen x.1.2.1.toNat
    have lA := bA.lt
    have HST := Lib.hid (gainV_step n z x.1.2 f u0 v0 hne)
    have HU := Lib.hid hgue
    have HV := Lib.hid hgve
    have HNE := Lib.hid hne
    clear hze hfe hzb hzl hfb hgue hgve hgu hgv hne
    have hu1' : x.1.2.1 < (n : Int) := u1
    dsimp only [roundF]
    simp only [List.setIfInBounds_toArray, List.set_cons_zero, List.set_cons_succ]
    gi_wp2
    refine region_tail_round 11 (by kernel_rfl) (by kernel_rfl) (by kernel_rfl) (by rintro ⟨_, _, h⟩; exact h) ?_
    simp only [List.take_succ_cons, List.take_zero, List.drop_succ_cons, List.drop_zero]
    repeat still_step
    refine wpStill_nil ?_
    go_wp2
    gi_wp2
    have hne1 : Bx ≠ w.heap.size + 1 + 1 := hx.ne bA (by decide)
    have bA1 := (bA.set x.1.2.1.toNat (.int .i64 (gu + f))).drew
    have bF1 := (bF.far (p := ⟨w.heap.size + 1 + 1, x.1.2.1.toNat, none⟩) (by simp) (.int .i64 (gu + f))).drew
    have bT1 := (bT.far (p := ⟨w.heap.size + 1 + 1, x.1.2.1.toNat, none⟩) (by simp) (.int .i64 (gu + f))).drew
    have hx1 := (hx.far (p := ⟨w.heap.size + 1 + 1, x.1.2.1.toNat, none⟩) hne1 (.int .i64 (gu + f))).drew
    have hB1 := below_drew (hB.setCell (p := ⟨w.heap.size + 1 + 1, x.1.2.1.toNat, none⟩) (by simp; omega) (.int .i64 (gu + f)))
    have hBb := below_drew ((Below.refl w.heap.size W).setCell (p := ⟨w.heap.size + 1 + 1, x.1.2.1.toNat, none⟩) (by simp; omega) (.int .i64 (gu + f)))
    have hKO := (KeepsOthers.setCell W ⟨w.heap.size + 1 + 1, x.1.2.1.toNat, none⟩ (.int .i64 (gu + f))).trans (KeepsOthers.drew _)
    have hcx1 := (hBb.cell (p := ⟨b, off + x.1.1, none⟩) hbl).trans hcx'
    generalize (W.setCell ⟨w.heap.size + 1 + 1, x.1.2.1.toNat, none⟩ (.int .i64 (gu + f))).drew = W1 at *
    clear c0 c1 c2 f0 ff t0 tf au af hcx' bA bF bT hx hB lx lF lT lA
    obtain ⟨lx, c0, c1, c2⟩ := hx1.three
    obtain ⟨lF, f0, ff⟩ := bF1.one
    obtain ⟨lT, t0, tf⟩ := bT1.one
    have lA := bA1.lt
    have av := bA1.cell x.1.2.2.1.toNat
    rw [Array.getElem?_setIfInBounds_ne (by have := HNE.out; omega), gainV_at _ _ _ (by omega), show ((x.1.2.2.1.toNat : Nat) : Int) = x.1.2.2.1 by omega, HV.out] at av
    have af := bA1.frozen x.1.2.2.1.toNat
    refine region_tail_round 11 (by kernel_rfl) (by kernel_rfl) (by kernel_rfl) (by rintro ⟨_, _, h⟩; exact h) ?_
    simp only [List.take_succ_cons, List.take_zero, List.drop_succ_cons, List.drop_zero]
    repeat still_step
    refine wpStill_nil ?_
    go_wp2
    gi_wp2
    refine ⟨(hKO.trans ((KeepsOthers.setCell _ _ _).trans (KeepsOthers.drew _))).from _, below_drew (hBb.setCell (p := ⟨w.heap.size + 1 + 1, x.1.2.2.1.toNat, none⟩) (by simp; omega) _), ⟨⟨⟨?_, ?_⟩, ?_⟩, by simp; omega⟩, below_drew (hB1.setCell (p := ⟨w.heap.size + 1 + 1, x.1.2.2.1.toNat, none⟩) (by simp; omega) _)⟩
    · exact (bF1.far (p := ⟨w.heap.size + 1 + 1, x.1.2.2.1.toNat, none⟩) (by simp) _).drew
    · exact (bT1.far (p := ⟨w.heap.size + 1 + 1, x.1.2.2.1.toNat, none⟩) (by simp) _).drew
    · rw [HN.out, ← HST.out, HU.out, HV.out]
      exact (bA1.set x.1.2.2.1.toNat _).drew
  case done =>
    rintro D ys W hD hys ⟨⟨⟨⟨_, bT⟩, bA⟩, _⟩, hB⟩ hK
    rw [flowOf_all HQ.out hys] at bA
    obtain ⟨lT, t0, tf⟩ := bT.one
    gi_wp2
    refine ⟨by simp, .inl ⟨_, _, rfl, run_takeDeferred hK, ?_⟩⟩
    exact ⟨_, results_tmp rfl _ _ _, _, rfl, by omega, bA.putObj _ hK rfl, hB.trans (belowK_b (w := w) (Nat.le_refl _) _ D _ _ (by omega) hK rfl rfl)⟩
  case stop =>
    rintro D c pre W hD h hK
    exact h.elim
end Go.Proofs.Ythchlfoebkachaa

namespace Go.Proofs.Ythchlfoebkachaa
open Go.RowKit Gm


set_option maxRecDepth 100000 in
set_option maxHeartbeats 2000000 in
theorem good_any (v : Int) (a : Option Addr) (len cap : Nat) (es : List E) (fa : Option Addr) (flen fcap : Nat) (fl : List Int) (s t : Int) (w : World) (hE : NetAt w.heap.size w a len es) (hF : FlowAt w.heap.size w fa flen fl) :
    Calls Try.prog 33 #[netV v a len cap, .slice fa flen fcap, .int .i64 s, .int .i64 t] w fun e w' => e = .returned (.bool (good v es fl s t)) ∧ Below w.heap.size w w' := by
  obtain ⟨W0, hW0⟩ : ∃ W0, w.alloc (.cells #[.int .i64 v, .slice a len cap] 24) = W0 := ⟨_, rfl⟩
  have hB0 : Below w.heap.size w W0 := by rw [← hW0]; exact (Below.refl _ w).alloc (Nat.le_refl _) _
  have bN : Blk W0 w.heap.size 24 #[.int .i64 v, .slice a len cap] := by rw [← hW0]; exact Blk.new w _ _
  have HW0 := Lib.hid hW0
  clear hW0
  have hE0 := (hE.below hB0).more hB0.size
  have hF0 := (hF.below hB0).more hB0.size
  have lN := bN.lt
  rcases hf : fits v es fl with _ | _
  · have HV : Hid (good v es fl s t = false) := Lib.hid (by simp [good, hf])
    go_enter Try.func33, Try.ntmps33
    go_wp2_with (go_at_call 48; rw [HW0.out]; refine (fits_any _ _ _ _ es _ _ _ fl _ hE0 hF0).mono ?_; rw [hf]; rintro e w1 ⟨rfl, hb1⟩)
    go_ret
    exact ⟨ret_bool HV.out.symm, hB0.trans (hb1.mono hB0.size)⟩
  · rcases hs : vtx v s with _ | _
    · have HV : Hid (good v es fl s t = false) := Lib.hid (by simp [good, hs])
      go_enter Try.func33, Try.ntmps33
      go_wp2_with (first
        | (go_at_call 48; rw [HW0.out]; refine (fits_any _ _ _ _ es _ _ _ fl _ hE0 hF0).mono ?_; rw [hf]; rintro e w1 ⟨rfl, hb1⟩
           obtain ⟨lN1, n0, n1⟩ := (bN.below hb1 lN).two)
        | (go_at_call 47; refine (isv_any _ _ _ _ _ _).mono ?_; rw [hs]; rintro e w2 ⟨rfl, rfl⟩))
      go_ret
      exact ⟨ret_bool HV.out.symm, (hB0.trans (hb1.mono hB0.size)).alloc (by have := hb1.size; omega) _⟩
    · rcases ht : vtx v t with _ | _
      · have HV : Hid (good v es fl s t = false) := Lib.hid (by simp [good, ht])
        go_enter Try.func33, Try.ntmps33
        go_wp2_with (first
          | (go_at_call 48; rw [HW0.out]; refine (fits_any _ _ _ _ es _ _ _ fl _ hE0 hF0).mono ?_; rw [hf]; rintro e w1 ⟨rfl, hb1⟩
             obtain ⟨lN1, n0, n1⟩ := (bN.below hb1 lN).two)
          | (go_at_call 47; (with_reducible refine (isv_any _ _ _ _ s _).mono ?_); rw [hs]; rintro e w2 ⟨rfl, rfl⟩)
          | (go_at_call 47; (with_reducible refine (isv_any _ _ _ _ t _).mono ?_); rw [ht]; rintro e w2 ⟨rfl, rfl⟩))
        go_ret
        exact ⟨ret_bool HV.out.symm, ((hB0.trans (hb1.mono hB0.size)).alloc (by have := hb1.size; omega) _).alloc (by have := hb1.size; simp; omega) _⟩
      · obtain ⟨n, rfl⟩ : ∃ n : Nat, v = n := ⟨v.toNat, by have := fits_n hf; omega⟩
        by_cases hst : s = t
        · have HV : Hid (good n es fl s t = false) := Lib.hid (by simp [good, hst])
          have h1 : (s == t) = true := by simpa using hst
          clear hst
          go_enter Try.func33, Try.ntmps33
          go_wp2_with (first
            | (go_at_call 48; rw [HW0.out]; refine (fits_any _ _ _ _ es _ _ _ fl _ hE0 hF0).mono ?_; rw [hf]; rintro e w1 ⟨rfl, hb1⟩
               obtain ⟨lN1, n0, n1⟩ := (bN.below hb1 lN).two)
            | (go_at_call 47; (with_reducible refine (isv_any _ _ _ _ s _).mono ?_); rw [hs]; rintro e w2 ⟨rfl, rfl⟩)
            | (go_at_call 47; (with_reducible refine (isv_any _ _ _ _ t _).mono ?_); rw [ht]; rintro e w2 ⟨rfl, rfl⟩))
          go_ret
          exact ⟨ret_bool HV.out.symm, ((hB0.trans (hb1.mono hB0.size)).alloc (by have := hb1.size; omega) _).alloc (by have := hb1.size; simp; omega) _⟩
        · have h1 : (s == t) = false := by simpa using hst
          have hn := fits_n hf
          have HG : Hid (good n es fl s t = true ↔ ∀ u : Nat, (u : Int) < n → gain (es.zip fl) u = 0 ∨ (u : Int) = s ∨ (u : Int) = t) := Lib.hid (by
            rw [good_iff]; simp [hf, hs, ht, hst])
          clear hst
          go_enter Try.func33, Try.ntmps33
          go_wp2_with (first
            | (go_at_call 48; rw [HW0.out]; refine (fits_any _ _ _ _ es _ _ _ fl _ hE0 hF0).mono ?_; rw [hf]; rintro e w1 ⟨rfl, hb1⟩
               obtain ⟨lN1, n0, n1⟩ := (bN.below hb1 lN).two
               have hB1 : Below w.heap.size w w1 := hB0.trans (hb1.mono hB0.size))
            | (go_at_call 47; (with_reducible refine (isv_any _ _ _ _ s _).mono ?_); rw [hs]; rintro e w2 ⟨rfl, hw2⟩
               have hB2 : Below w.heap.size w w2 := by rw [hw2]; exact hB1.alloc hB1.size _
               have bN2 : Blk w2 w.heap.size 24 #[.int .i64 (n : Int), .slice a len cap] := by rw [hw2]; exact (bN.below hb1 lN).alloc _
               obtain ⟨lN2, m0, m1⟩ := bN2.two
               clear hw2)
            | (go_at_call 47; (with_reducible refine (isv_any _ _ _ _ t _).mono ?_); rw [ht]; rintro e w3 ⟨rfl, hw3⟩
               have hB3 : Below w.heap.size w w3 := by rw [hw3]; exact hB2.alloc hB2.size _
               have bN3 : Blk w3 w.heap.size 24 #[.int .i64 (n : Int), .slice a len cap] := by rw [hw3]; exact bN2.alloc _
               obtain ⟨lN3, o0, o1⟩ := bN3.two
               clear hw3)
            | (go_at_call 49; refine (gains_any _ _ _ _ es _ _ _ fl _ ((hE.below hB3).more hB3.size) ((hF.below hB3).more hB3.size) hf).mono ?_; rintro e w4 ⟨g, rfl, hg, bG, hb4⟩
               have lG := bG.lt
               have hB4 : Below w.heap.size w w4 := hB3.trans (hb4.mono hB3.size)))
          go_loop [36] (fun i => ∃ k : Nat, k ≤ n ∧ i = .int .i64 k ∧ ∀ u : Nat, u < k → gain (es.zip fl) u = 0 ∨ (u : Int) = s ∨ (u : Int) = t) (fun i => n - (intOf i).toNat)
          case atStart => exact ⟨0, Nat.zero_le _, rfl, fun u hu => by omega⟩
          case round =>
            obtain ⟨k, hk, rfl, hall⟩ := hrel
            have HA := Lib.hid hall
            clear hall
            by_cases hlt : k < n
            · have gk := bG.cell k
              rw [gainV_at _ _ _ hlt] at gk
              obtain ⟨q, hq⟩ : ∃ q, gain (es.zip fl) k = q := ⟨_, rfl⟩
              rw [hq] at gk
              have HQ := Lib.hid hq
              clear hq
              by_cases hbad : q ≠ 0 ∧ (k : Int) ≠ s ∧ (k : Int) ≠ t
              · have HV : Hid (good n es fl s t = false) := Lib.hid (by
                  rcases h : good n es fl s t with _ | _
                  · rfl
                  · have := HG.out.1 h k (by omega)
                    rw [HQ.out] at this; omega)
                have b1 : (q != 0) = true := by simpa using hbad.1
                have b2 : ((k : Int) != s) = true := by simpa using hbad.2.1
                have b3 : ((k : Int) != t) = true := by simpa using hbad.2.2
                have c1 : (q == 0) = false := by simpa using hbad.1
                have c2 : ((k : Int) == s) = false := by simpa using hbad.2.1
                have c3 : ((k : Int) == t) = false := by simpa using hbad.2.2
                clear hbad
                go_wp2
                go_ret
                exact ⟨ret_bool HV.out.symm, hB4⟩
              · have hok : Hid (∀ u : Nat, u < k + 1 → gain (es.zip fl) u = 0 ∨ (u : Int) = s ∨ (u : Int) = t) := Lib.hid (fun u hu => by
                  rcases Nat.lt_or_ge u k with h | h
                  · exact HA.out u h
                  · obtain rfl : u = k := by omega
                    rw [HQ.out]; omega)
                have hc : ((q != 0) = false ∧ (q == 0) = true) ∨ (((q != 0) = true ∧ (q == 0) = false) ∧ ((k : Int) != s) = false ∧ ((k : Int) == s) = true) ∨ (((q != 0) = true ∧ (q == 0) = false) ∧ (((k : Int) != s) = true ∧ ((k : Int) == s) = false) ∧ ((k : Int) != t) = false ∧ ((k : Int) == t) = true) := by
                  by_cases x0 : q = 0
                  · left; simp [x0]
                  · by_cases x1 : (k : Int) = s
                    · right; left; simp [x0, x1]
                    · have x2 : (k : Int) = t := by omega
                      right; right; simp [x0, x2]
                      intro e; omega
                clear hbad
                rcases hc with ⟨b1, c1⟩ | ⟨⟨b1, c1⟩, b2, c2⟩ | ⟨⟨b1, c1⟩, ⟨b2, c2⟩, b3, c3⟩
                all_goals
                  go_wp2
                  go_round
                  case rel => exact ⟨k + 1, by omega, by go_num, hok.out⟩
                  case measure => simp [intOf]; omega
            · obtain rfl : k = n := by omega
              have HV : Hid (good k es fl s t = true) := Lib.hid (HG.out.2 fun u hu => HA.out u (by omega))
              go_wp2
              go_ret
              exact ⟨ret_bool HV.out.symm, hB4⟩
end Go.Proofs.Ythchlfoebkachaa
