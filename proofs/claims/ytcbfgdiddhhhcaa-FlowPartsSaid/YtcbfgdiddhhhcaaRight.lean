/-
  graph.isVertex, graph.Right.
-/
import Derived.Test.YtcbfgdiddhhhcaaRange
namespace Go.Proofs.Ytcbfgdiddhhhcaa
open Go.RowKit Gm
attribute [local go_sem] Oper.semAt_some

theorem isv_any (v : Int) (a : Option Addr) (len cap : Nat) (x : Int) (w : World) :
    Calls Try.prog 37 #[netV v a len cap, .int .i64 x] w fun e w' => e = .returned (.bool (vtx v x)) ∧ w' = w.alloc (.cells #[.int .i64 v, .slice a len cap] 24) := by
  by_cases h0 : 0 ≤ x
  · by_cases h1 : x < v
    · go_enter Try.func37, Try.ntmps37
      go_wp2
      go_ret
      exact ⟨ret_bool (by simp [vtx, h0, h1]), rfl⟩
    · go_enter Try.func37, Try.ntmps37
      go_wp2
      go_ret
      exact ⟨ret_bool (by simp [vtx]; omega), rfl⟩
  · go_enter Try.func37, Try.ntmps37
    go_wp2
    go_ret
    exact ⟨ret_bool (by simp [vtx]; omega), rfl⟩

/-- The own blocks of a call that keeps a network's box and a result's. -/
theorem right_bad {v : Int} {es : List E} {x : AtOf es} (h : okE v x.1.2 = false) : right v es = false := by
  rcases hr : right v es with _ | _
  · rfl
  · rw [(right_iff.1 hr).2.2.2 _ x.mem] at h; cases h

set_option maxRecDepth 100000 in
set_option maxHeartbeats 2000000 in
theorem right_any (v : Int) (a : Option Addr) (len cap : Nat) (es : List E) (w : World) (hE : NetAt w.heap.size w a len es) :
    Calls Try.prog 31 #[netV v a len cap] w fun e w' => e = .returned (.bool (right v es)) ∧ Below w.heap.size w w' := by
  refine (callsIn_wide (n := 5)).1 ?_
  refine callsIn_of_wp_marks Try.func31 rfl trivial ?_ rfl
  simp only [Try.ntmps31, List.size_toArray, List.length_cons, List.length_nil, Nat.reduceAdd, Nat.reduceSub, Array.replicate_succ, Array.replicate_zero, List.push_toArray, List.append_toArray, List.nil_append, List.cons_append]
  by_cases hs : 2 ≤ v ∧ v ≤ 64 ∧ len ≤ 256
  · obtain ⟨h1, h2, h3⟩ := hs
    gi_wp2_with (refine ⟨trivial, ?_⟩; gi_at_call 42; refine (edges_any _ _ _ _ _).mono ?_; rintro e w' ⟨rfl, rfl⟩)
    have bN := Blk.new w 24 #[.int .i64 v, .slice a len cap]
    have bR := Blk.new (w.alloc (.cells #[.int .i64 v, .slice a len cap] 24)) 4 #[.bool false]
    rw [World.size_alloc] at bR
    have bS := Blk.new (((w.alloc (.cells #[.int .i64 v, .slice a len cap] 24)).alloc (.cells #[.bool false] 4)).alloc (.cells #[.int .i64 v, .slice a len cap] 24)) 22 #[.slice a len cap]
    simp only [World.size_alloc] at bS
    have hB : Below w.heap.size w ((((w.alloc (.cells #[.int .i64 v, .slice a len cap] 24)).alloc (.cells #[.bool false] 4)).alloc (.cells #[.int .i64 v, .slice a len cap] 24)).alloc (.cells #[.slice a len cap] 22)) :=
      ((((Below.refl _ w).alloc (Nat.le_refl _) _).alloc (by simp) _).alloc (by simp; omega) _).alloc (by simp; omega) _
    have bN := ((bN.alloc (.cells #[.bool false] 4)).alloc (.cells #[.int .i64 v, .slice a len cap] 24)).alloc (.cells #[.slice a len cap] 22)
    have bR := (bR.alloc (.cells #[.int .i64 v, .slice a len cap] 24)).alloc (.cells #[.slice a len cap] 22)
    refine range_edges (s := 21) (q := 4) (by omega) (w.heap.size + 1 + 1 + 1) w.heap.size a len cap es rfl bS hB.size (hE.below hB)
      (fun pre W => ((Blk W w.heap.size 24 #[.int .i64 v, .slice a len cap] ∧ Blk W (w.heap.size + 1) 4 #[.bool false]) ∧ ∀ x ∈ pre, okE v x.1.2 = true) ∧ Below w.heap.size w W)
      (fun c pre W => (Blk W (w.heap.size + 1) 4 #[.bool false] ∧ (c = .ret ∧ right v es = false)) ∧ Below w.heap.size w W)
      ?hI ?hIx ⟨⟨⟨bN, bR⟩, by simp⟩, hB⟩ ?assign ?body ?done ?stop
    case hI => exact OwnFrom.and (((Own.from (blk_own _ _ _) _).and (Own.from (blk_own _ _ _) _)).and (ownFrom_pure _ _)) (ownFrom_below (Nat.le_refl _) (by simp; omega))
    case hIx => exact fun c => OwnFrom.and ((Own.from (blk_own _ _ _) _).and (ownFrom_pure _ _)) (ownFrom_below (Nat.le_refl _) (by simp; omega))
    case assign =>
      intro l x W K hK
      gi_wp2
      exact hK
    case body =>
      rintro l pre x W Bx hl hr hbx hz hx ⟨⟨⟨bN, bR⟩, hok⟩, hB⟩ hlt
      have c0 := hx.cell 0
      have c1 := hx.cell 1
      have c2 := hx.cell 2
      simp at c0 c1 c2
      have n0 := bN.cell 0
      have n1 := bN.cell 1
      simp at n0 n1
      have r0 := bR.cell 0
      simp at r0
      have rf := bR.frozen 0
      dsimp only [roundF]
      have l0 := bN.lt
      have l1 := bR.lt
      have l2 := hx.lt
      have hcase : (vtx v x.1.2.1 = false ∨ (vtx v x.1.2.1 = true ∧ vtx v x.1.2.2.1 = false) ∨ (vtx v x.1.2.1 = true ∧ vtx v x.1.2.2.1 = true ∧ (x.1.2.1 == x.1.2.2.1) = true) ∨ (vtx v x.1.2.1 = true ∧ vtx v x.1.2.2.1 = true ∧ (x.1.2.1 == x.1.2.2.1) = false ∧ x.1.2.2.2 < 0) ∨ (vtx v x.1.2.1 = true ∧ vtx v x.1.2.2.1 = true ∧ (x.1.2.1 == x.1.2.2.1) = false ∧ 0 ≤ x.1.2.2.2 ∧ 1000 < x.1.2.2.2)) ∨
          (vtx v x.1.2.1 = true ∧ vtx v x.1.2.2.1 = true ∧ (x.1.2.1 == x.1.2.2.1) = false ∧ 0 ≤ x.1.2.2.2 ∧ x.1.2.2.2 ≤ 1000) := by
        rcases vtx v x.1.2.1 with _ | _ <;> rcases vtx v x.1.2.2.1 with _ | _ <;> rcases (x.1.2.1 == x.1.2.2.1) with _ | _ <;> simp <;> omega
      rcases hcase with hbad | ⟨hu, hw, he, hc0, hc1⟩
      · have hbad' : Hid (right v es = false) := Lib.hid (right_bad (x := x) (by
          unfold okE
          rcases hbad with h | ⟨_, h⟩ | ⟨_, _, h⟩ | ⟨_, _, _, h⟩ | ⟨_, _, _, _, h⟩
          · simp [h]
          · simp [h]
          · simp at h; simp [h]
          · have : ¬ 0 ≤ x.1.2.2.2 := by omega
            simp [this]
          · have : ¬ x.1.2.2.2 ≤ 1000 := by omega
            simp [this]))
        rcases hbad with hu | ⟨hu, hw⟩ | ⟨hu, hw, he⟩ | ⟨hu, hw, he, hc0⟩ | ⟨hu, hw, he, hc0, hc1⟩
        all_goals
          gi_wp2_with (first | (refine ⟨trivial, ?_⟩; gi_at_call 37; refine (CallsIn.inRound l (callsIn_wide.2 (isv_any _ _ _ _ _ _))).mono ?_; rintro e w' ⟨rfl, rfl⟩) | refine ⟨trivial, ?_⟩)
        all_goals
          refine ⟨KeepsOthers.from ?_ _, ⟨?_, rfl, hbad'.out⟩, ?_⟩
          · repeat (first | exact KeepsOthers.refl _ | refine KeepsOthers.trans ?_ (KeepsOthers.alloc _ _) | refine KeepsOthers.trans ?_ (KeepsOthers.setCell _ _ _))
          · repeat (first | exact bR | refine Blk.alloc ?_ _ | exact bR.set 0 _)
          · repeat (first | exact hB | refine Below.alloc ?_ (by first | omega | (simp; omega)) _ | refine Below.setCell ?_ (by simp) _)
      · have hok' : Hid (okE v x.1.2 = true) := Lib.hid (by simp at he; simp [okE, hu, hw, he, hc0, hc1])
        gi_wp2_with (first | (refine ⟨trivial, ?_⟩; gi_at_call 37; refine (CallsIn.inRound l (callsIn_wide.2 (isv_any _ _ _ _ _ _))).mono ?_; rintro e w' ⟨rfl, rfl⟩) | refine ⟨trivial, ?_⟩)
        refine ⟨KeepsOthers.from ?_ _, ?_, ⟨⟨?_, ?_⟩, fun y hy => ?_⟩, ?_⟩
        · repeat (first | exact KeepsOthers.refl _ | refine KeepsOthers.trans ?_ (KeepsOthers.alloc _ _) | refine KeepsOthers.trans ?_ (KeepsOthers.setCell _ _ _))
        · repeat (first | exact Below.refl _ _ | refine Below.alloc ?_ (by first | omega | (simp; omega)) _ | refine Below.setCell ?_ (by simp) _)
        · repeat (first | exact bN | refine Blk.alloc ?_ _)
        · repeat (first | exact bR | refine Blk.alloc ?_ _)
        · rcases List.mem_append.1 hy with hy | hy
          · exact hok y hy
          · obtain rfl : y = x := by simpa using hy
            exact hok'.out
        · repeat (first | exact hB | refine Below.alloc ?_ (by first | omega | (simp; omega)) _ | refine Below.setCell ?_ (by simp) _)
    case done =>
      rintro D ys W hD hys ⟨⟨⟨_, bR⟩, hok⟩, hB⟩ hK
      have hr : Hid (right v es = true) := Lib.hid (right_iff.2 ⟨h1, h2, by rw [hE.1]; exact h3, fun e he => by
        obtain ⟨i, hi, e'⟩ := List.getElem_of_mem he
        have hm : (i, e) ∈ bare ys := by
          rw [hys]; subst e'
          exact List.mem_iff_getElem.2 ⟨i, by rw [placed_length]; exact hi, by simp [placed]⟩
        obtain ⟨y, hy, e2⟩ := List.mem_map.1 hm
        have := hok y hy
        rw [e2] at this; exact this⟩)
      have r0 := bR.cell 0
      simp at r0
      have rf := bR.frozen 0
      gi_wp2
      have hK' := (KeepsOthers.setCell W ⟨w.heap.size + 1, 0, none⟩ (.bool true)).same D _ hK rfl
      refine ⟨by simp, .inl ⟨_, _, rfl, run_takeDeferred hK', ?_⟩⟩
      have hc5 := ((bR.set 0 (.bool true)).putObj (.deferred none) hK' rfl).cell 0
      simp at hc5
      refine ⟨.bool true, ?_, by rw [hr.out], (hB.setCell (p := ⟨w.heap.size + 1, 0, none⟩) (by simp) _).trans (belowK_b (w := w) (Nat.le_refl _) _ D _ _ (by simp at hD; omega) hK' rfl rfl)⟩
      simp [results, Try.f31, go_sem, hc5]
    case stop =>
      rintro D c pre W hD ⟨⟨bR, rfl, hr⟩, hB⟩ hK
      have hr := Lib.hid hr
      gi_wp2
      refine ⟨by simp, .inl ⟨_, _, rfl, run_takeDeferred hK, ?_⟩⟩
      have hc5 := (bR.putObj (.deferred none) hK rfl).cell 0
      simp at hc5
      refine ⟨.bool false, ?_, by rw [hr.out], hB.trans (belowK_b (w := w) (Nat.le_refl _) _ D _ _ (by simp at hD; omega) hK rfl rfl)⟩
      simp [results, Try.f31, go_sem, hc5]
  · have hr : Hid (right v es = false) := Lib.hid (by
      rcases h : right v es with _ | _
      · rfl
      · have := right_iff.1 h
        rw [hE.1] at this; omega)
    have hs' : v < 2 ∨ (2 ≤ v ∧ 64 < v) ∨ (2 ≤ v ∧ v ≤ 64 ∧ 256 < len) := by omega
    rcases hs' with h | ⟨h, h'⟩ | ⟨h, h', h''⟩
    all_goals
      gi_wp2
      refine ⟨.bool false, ?_, by rw [hr.out], ((Below.refl _ w).alloc (Nat.le_refl _) _).alloc (by simp) _⟩
      simp [results, Try.f31, go_sem]
end Go.Proofs.Ytcbfgdiddhhhcaa
