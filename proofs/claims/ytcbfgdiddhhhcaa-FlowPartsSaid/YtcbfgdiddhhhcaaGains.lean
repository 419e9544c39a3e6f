/-
  graph.gains.
-/
import Derived.Test.YtcbfgdiddhhhcaaFits
namespace Go.Proofs.Ytcbfgdiddhhhcaa
open Go.RowKit Gm
attribute [local go_sem] Oper.semAt_some

/-- For each of n vertices what leaves it, less what comes in. -/
def gainV (n : Nat) (z : Z) : Array Value := ((List.range n).map fun x : Nat => Value.int .i64 (gain z x)).toArray
theorem gainV_size (n : Nat) (z : Z) : (gainV n z).size = n := by simp [gainV]
theorem gainV_at (n : Nat) (z : Z) (x : Nat) (h : x < n) : (gainV n z)[x]? = some (.int .i64 (gain z x)) := by simp [gainV, h]
theorem gainV_zero (n : Nat) : gainV n [] = Array.replicate n (.int .i64 0) := by
  apply Array.ext
  · simp [gainV]
  · intro i h1 h2; simp [gainV, gain]
def flowOf {es : List E} (fl : List Int) (l : List (AtOf es)) : Z := l.map fun x => (x.1.2, flowAt fl x.1.1)
theorem flowOf_snoc {es : List E} (fl : List Int) (l : List (AtOf es)) (x : AtOf es) : flowOf fl (l ++ [x]) = flowOf fl l ++ [(x.1.2, flowAt fl x.1.1)] := by simp [flowOf]
theorem flowOf_all {es : List E} {fl : List Int} (hl : fl.length = es.length) {ys : List (AtOf es)} (h : bare ys = placed es) : flowOf fl ys = es.zip fl := by
  have : (bare ys).map (fun x => (x.2, flowAt fl x.1)) = flowOf fl ys := by simp [bare, flowOf]
  rw [← this, h]
  apply List.ext_getElem
  · simp [placed]; omega
  · intro i h1 h2
    simp [placed] at h1
    simp [placed, flowAt]
    rw [List.getElem?_eq_getElem (by omega)]; rfl
/-- Behind both stores. -/
theorem gainV_step (n : Nat) (z : Z) (e : E) (f : Int) (hu : 0 ≤ e.1) (hv : 0 ≤ e.2.1) (hne : e.1 ≠ e.2.1) :
    ((gainV n z).setIfInBounds e.1.toNat (.int .i64 (gain z e.1 + f))).setIfInBounds e.2.1.toNat (.int .i64 (gain z e.2.1 - f)) = gainV n (z ++ [(e, f)]) := by
  apply Array.ext
  · simp [gainV]
  · intro i h1 h2
    simp [gainV] at h1
    rw [Array.getElem_setIfInBounds, Array.getElem_setIfInBounds]
    · by_cases e2 : e.2.1.toNat = i
      · have : e.2.1 = (i : Int) := by omega
        rw [if_pos e2]; simp [gainV, gain_snoc, this]
        have : ¬ e.1 = (i : Int) := by omega
        simp [this]
      · rw [if_neg e2]
        by_cases e1 : e.1.toNat = i
        · have : e.1 = (i : Int) := by omega
          rw [if_pos e1]; simp [gainV, gain_snoc, this]
          have : ¬ e.2.1 = (i : Int) := by omega
          simp [this]
        · have h3 : ¬ e.1 = (i : Int) := by omega
          have h4 : ¬ e.2.1 = (i : Int) := by omega
          rw [if_neg e1]; simp [gainV, gain_snoc, h3, h4]
    all_goals simp [gainV]; omega

def GainsPost (n : Nat) (z : Z) (w : World) (e : Ending) (w' : World) : Prop :=
  ∃ g, e = .returned (.slice (some ⟨g, 0, none⟩) n n) ∧ w.heap.size ≤ g ∧ Blk w' g 3 (gainV n z) ∧ Below w.heap.size w w'

set_option maxRecDepth 100000 in
set_option maxHeartbeats 2000000 in
theorem gains_any (n : Nat) (a : Option Addr) (len cap : Nat) (es : List E) (fa : Option Addr) (flen fcap : Nat) (fl : List Int) (w : World) (hE : NetAt w.heap.size w a len es) (hF : FlowAt w.heap.size w fa flen fl) (hf : fits (n : Int) es fl = true) :
    Calls Try.prog 38 #[netV (n : Int) a len cap, .slice fa flen fcap] w (GainsPost n (es.zip fl) w) := by
  refine (callsIn_wide (n := 5)).1 ?_
  refine callsIn_of_wp_marks Try.func38 rfl trivial ?_ rfl
  simp only [Try.ntmps38, List.size_toArray, List.length_cons, List.length_nil, Nat.reduceAdd, Nat.reduceSub, Array.replicate_succ, Array.replicate_zero, List.push_toArray, List.append_toArray, List.nil_append, List.cons_append]
  have hff := fits_iff.1 hf
  have hR := right_iff.1 hff.1
  have hn64 : n ≤ 64 := by omega
  have hn2 : 2 ≤ n := by omega
  have HlE := Lib.hid hE.1
  have HlF := Lib.hid hF.1
  have HQ := Lib.hid hff.2.1
  have HFF := Lib.hid hff.2.2
  have h256 : len ≤ 256 := by have := hR.2.2.1; rw [HlE.out] at this; exact this
  have hok : Hid (∀ e ∈ es, okE n e = true) := Lib.hid hR.2.2.2
  have hmk := make_ints n (by omega)
  clear hff hR hf
  gi_wp2_with (first
        | (refine ⟨trivial, ?_⟩; gi_at_call 42; refine (edges_any _ _ _ _ _).mono ?_; rintro e w' ⟨rfl, rfl⟩)
        | refine ⟨trivial, ?_⟩)
  obtain ⟨W2, hW2⟩ : ∃ W2, ((((((w.alloc (.cells #[.int .i64 (n : Int), .slice a len cap] 24)).alloc (.cells #[.slice fa flen fcap] 25)).alloc (.cells (Array.replicate n (.int .i64 0)) 3)).alloc (.cells #[.slice (some ⟨w.heap.size + 1 + 1, 0, none⟩) n n] 25)).alloc
    (.cells #[.int .i64 (n : Int), .slice a len cap] 24)).alloc (.cells #[.slice a len cap] 22)) = W2 := ⟨_, rfl⟩
  have hB2 : Below w.heap.size w W2 := by
    rw [← hW2]; exact ((((((Below.refl _ w).alloc (Nat.le_refl _) _).alloc (by simp) _).alloc (by simp; omega) _).alloc (by simp; omega) _).alloc (by simp; omega) _).alloc (by simp; omega) _
  have bF : Blk W2 (w.heap.size + 1) 25 #[.slice fa flen fcap] := by
    rw [← hW2]; have := ((((Blk.new (w.alloc (.cells #[.int .i64 (n : Int), .slice a len cap] 24)) 25 #[.slice fa flen fcap]).alloc (.cells (Array.replicate n (.int .i64 0)) 3)).alloc (.cells #[.slice (some ⟨w.heap.size + 1 + 1, 0, none⟩) n n] 25)).alloc (.cells #[.int .i64 (n : Int), .slice a len cap] 24)).alloc (.cells #[.slice a len cap] 22)
    simp only [World.size_alloc] at this; exact this
  have bA : Blk W2 (w.heap.size + 1 + 1) 3 (gainV n (flowOf fl ([] : List (AtOf es)))) := by
    rw [← hW2, show flowOf fl ([] : List (AtOf es)) = [] from rfl, gainV_zero]
    have := (((Blk.new ((w.alloc (.cells #[.int .i64 (n : Int), .slice a len cap] 24)).alloc (.cells #[.slice fa flen fcap] 25)) 3 (Array.replicate n (.int .i64 0))).alloc (.cells #[.slice (some ⟨w.heap.size + 1 + 1, 0, none⟩) n n] 25)).alloc (.cells #[.int .i64 (n : Int), .slice a len cap] 24)).alloc (.cells #[.slice a len cap] 22)
    simp only [World.size_alloc] at this; exact this
  have bT : Blk W2 (w.heap.size + 1 + 1 + 1) 25 #[.slice (some ⟨w.heap.size + 1 + 1, 0, none⟩) n n] := by
    rw [← hW2]; have := ((Blk.new (((w.alloc (.cells #[.int .i64 (n : Int), .slice a len cap] 24)).alloc (.cells #[.slice fa flen fcap] 25)).alloc (.cells (Array.replicate n (.int .i64 0)) 3)) 25 #[.slice (some ⟨w.heap.size + 1 + 1, 0, none⟩) n n]).alloc (.cells #[.int .i64 (n : Int), .slice a len cap] 24)).alloc (.cells #[.slice a len cap] 22)
    simp only [World.size_alloc] at this; exact this
  have bS : Blk W2 (w.heap.size + 1 + 1 + 1 + 1 + 1) 22 #[.slice a len cap] := by
    rw [← hW2]; have := Blk.new (((((w.alloc (.cells #[.int .i64 (n : Int), .slice a len cap] 24)).alloc (.cells #[.slice fa flen fcap] 25)).alloc (.cells (Array.replicate n (.int .i64 0)) 3)).alloc (.cells #[.slice (some ⟨w.heap.size + 1 + 1, 0, none⟩) n n] 25)).alloc (.cells #[.int .i64 (n : Int), .slice a len cap] 24)) 22 #[.slice a len cap]
    simp only [World.size_alloc] at this; exact this
  have hz2 : w.heap.size + 1 + 1 + 1 + 1 + 1 < W2.heap.size := bS.lt
  rw [hW2]
  clear hW2 hmk
  refine range_edges (s := 6) (q := 7) (by omega) (w.heap.size + 1 + 1 + 1 + 1 + 1) w.heap.size a len cap es rfl bS hB2.size (hE.below hB2)
    (fun pre W => (((Blk W (w.heap.size + 1) 25 #[.slice fa flen fcap] ∧ Blk W (w.heap.size + 1 + 1 + 1) 25 #[.slice (some ⟨w.heap.size + 1 + 1, 0, none⟩) n n]) ∧ Blk W (w.heap.size + 1 + 1) 3 (gainV n (flowOf fl pre))) ∧ pre.length ≤ len) ∧ Below w.heap.size w W)
    (fun c pre W => False)
    ?hI (fun c => ownFrom_pure _ _) ⟨⟨⟨⟨bF, bT⟩, bA⟩, by simp⟩, hB2⟩ ?assign ?body ?done ?stop
  case hI => exact OwnFrom.and ((((Own.from (blk_own _ _ _) _).and (Own.from (blk_own _ _ _) _)).and (Own.from (blk_own _ _ _) _)).and (ownFrom_pure _ _)) (ownFrom_below (Nat.le_refl _) hB2.size)
  case assign =>
    intro l x W K hK
    gi_wp2
    exact hK
  case body =>
    rintro l pre x W Bx hl hlr hbx hz hx ⟨⟨⟨⟨bF, bT⟩, bA⟩, hpl⟩, hB⟩ hlt
    obtain ⟨lx, c0, c1, c2⟩ := hx.three
    obtain ⟨lF, f0, ff⟩ := bF.one
    obtain ⟨lT, t0, tf⟩ := bT.one
    have hoe := okE_iff.1 (hok.out _ x.mem)
    obtain ⟨u0, u1, v0, v1, hne, e0, e1⟩ := hoe
    have hxl := x.lt
    obtain ⟨b, off, hfa, hcell⟩ := (hF.below hB).2.2.int
    obtain ⟨hbl, hcx⟩ := hcell x.1.1 (by rw [HQ.out]; exact hxl)
    obtain rfl : fa = some ⟨b, off, none⟩ := by
      rcases hfa with h | h
      · rw [HQ.out] at h; omega
      · exact h
    have hxi : (x.1.1 : Int) < (flen : Int) := by have := HlF.out; have := HQ.out; omega
    clear hcell hfa hxl
    have hcx' : W.cell? ⟨b, off + x.1.1, none⟩ = some (.int .i64 (flowAt fl x.1.1)) := hcx
    clear hcx
    obtain ⟨f, hfe⟩ : ∃ f, flowAt fl x.1.1 = f := ⟨_, rfl⟩
    have hfb := HFF.out _ (zip_at HQ.out x)
    rw [hfe] at hcx' hfb
    dsimp only at hfb
    obtain ⟨z, hze⟩ : ∃ z, flowOf fl pre = z := ⟨_, rfl⟩
    have hzb : ∀ p ∈ z, 0 ≤ p.2 ∧ p.2 ≤ 1000 := fun p hp => by
      rw [← hze] at hp
      obtain ⟨y, _, rfl⟩ := List.mem_map.1 hp
      have h1 := HFF.out _ (zip_at HQ.out y)
      have h2 := okE_iff.1 (hok.out _ y.mem)
      dsimp only at h1 ⊢
      omega
    have hzl : z.length ≤ 256 := by rw [← hze]; simp [flowOf]; omega
    have hgu := gain_bd z x.1.2.1 hzb
    have hgv := gain_bd z x.1.2.2.1 hzb
    have HN : Hid (flowOf fl (pre ++ [x]) = z ++ [(x.1.2, f)]) := Lib.hid (by rw [flowOf_snoc, hze, hfe])
    rw [hze] at bA
    obtain ⟨gu, hgue⟩ : ∃ g, gain z x.1.2.1 = g := ⟨_, rfl⟩
    obtain ⟨gv, hgve⟩ : ∃ g, gain z x.1.2.2.1 = g := ⟨_, rfl⟩
    have hsu : IntKind.i64.wrap (gu + f) = gu + f := IntWalk.i64_in _ (by omega)
    have hsv : IntKind.i64.wrap (gv - f) = gv - f := IntWalk.i64_in _ (by omega)
    have au := bA.cell x.1.2.1.toNat
    rw [gainV_at _ _ _ (by omega), show ((x.1.2.1.toNat : Nat) : Int) = x.1.2.1 by omega, hgue] at au
    have af := bA.frozen x.1.2.1.toNat
    have lA := bA.lt
    have HST := Lib.hid (gainV_step n z x.1.2 f u0 v0 hne)
    have HU := Lib.hid hgue
    have HV := Lib.hid hgve
    have HNE := Lib.hid hne
    clear hze hfe hzb hzl hfb hgue hgve hgu hgv hne
    have hu1' : x.1.2.1 < (n : Int) := u1
    dsimp only [roundF]
    simp only [List.setIfInBounds_toArray, List.set_cons_zero, List.set_cons_succ]
    gi_wp2
    refine region_tail_round 11 (by kernel_rfl) (by kernel_rfl) (by kernel_rfl) (by rintro ⟨_, _, h⟩; exact h) ?_
    simp only [List.take_succ_cons, List.take_zero, List.drop_succ_cons, List.drop_zero]
    repeat still_step
    refine wpStill_nil ?_
    go_wp2
    gi_wp2
    have hne1 : Bx ≠ w.heap.size + 1 + 1 := hx.ne bA (by decide)
    have bA1 := (bA.set x.1.2.1.toNat (.int .i64 (gu + f))).drew
    have bF1 := (bF.far (p := ⟨w.heap.size + 1 + 1, x.1.2.1.toNat, none⟩) (by simp) (.int .i64 (gu + f))).drew
    have bT1 := (bT.far (p := ⟨w.heap.size + 1 + 1, x.1.2.1.toNat, none⟩) (by simp) (.int .i64 (gu + f))).drew
    have hx1 := (hx.far (p := ⟨w.heap.size + 1 + 1, x.1.2.1.toNat, none⟩) hne1 (.int .i64 (gu + f))).drew
    have hB1 := below_drew (hB.setCell (p := ⟨w.heap.size + 1 + 1, x.1.2.1.toNat, none⟩) (by simp; omega) (.int .i64 (gu + f)))
    have hBb := below_drew ((Below.refl w.heap.size W).setCell (p := ⟨w.heap.size + 1 + 1, x.1.2.1.toNat, none⟩) (by simp; omega) (.int .i64 (gu + f)))
    have hKO := (KeepsOthers.setCell W ⟨w.heap.size + 1 + 1, x.1.2.1.toNat, none⟩ (.int .i64 (gu + f))).trans (KeepsOthers.drew _)
    have hcx1 := (hBb.cell (p := ⟨b, off + x.1.1, none⟩) hbl).trans hcx'
    generalize (W.setCell ⟨w.heap.size + 1 + 1, x.1.2.1.toNat, none⟩ (.int .i64 (gu + f))).drew = W1 at *
    clear c0 c1 c2 f0 ff t0 tf au af hcx' bA bF bT hx hB lx lF lT lA
    obtain ⟨lx, c0, c1, c2⟩ := hx1.three
    obtain ⟨lF, f0, ff⟩ := bF1.one
    obtain ⟨lT, t0, tf⟩ := bT1.one
    have lA := bA1.lt
    have av := bA1.cell x.1.2.2.1.toNat
    rw [Array.getElem?_setIfInBounds_ne (by have := HNE.out; omega), gainV_at _ _ _ (by omega), show ((x.1.2.2.1.toNat : Nat) : Int) = x.1.2.2.1 by omega, HV.out] at av
    have af := bA1.frozen x.1.2.2.1.toNat
    refine region_tail_round 11 (by kernel_rfl) (by kernel_rfl) (by kernel_rfl) (by rintro ⟨_, _, h⟩; exact h) ?_
    simp only [List.take_succ_cons, List.take_zero, List.drop_succ_cons, List.drop_zero]
    repeat still_step
    refine wpStill_nil ?_
    go_wp2
    gi_wp2
    refine ⟨(hKO.trans ((KeepsOthers.setCell _ _ _).trans (KeepsOthers.drew _))).from _, below_drew (hBb.setCell (p := ⟨w.heap.size + 1 + 1, x.1.2.2.1.toNat, none⟩) (by simp; omega) _), ⟨⟨⟨?_, ?_⟩, ?_⟩, by simp; omega⟩, below_drew (hB1.setCell (p := ⟨w.heap.size + 1 + 1, x.1.2.2.1.toNat, none⟩) (by simp; omega) _)⟩
    · exact (bF1.far (p := ⟨w.heap.size + 1 + 1, x.1.2.2.1.toNat, none⟩) (by simp) _).drew
    · exact (bT1.far (p := ⟨w.heap.size + 1 + 1, x.1.2.2.1.toNat, none⟩) (by simp) _).drew
    · rw [HN.out, ← HST.out, HU.out, HV.out]
      exact (bA1.set x.1.2.2.1.toNat _).drew
  case done =>
    rintro D ys W hD hys ⟨⟨⟨⟨_, bT⟩, bA⟩, _⟩, hB⟩ hK
    rw [flowOf_all HQ.out hys] at bA
    obtain ⟨lT, t0, tf⟩ := bT.one
    gi_wp2
    refine ⟨by simp, .inl ⟨_, _, rfl, run_takeDeferred hK, ?_⟩⟩
    exact ⟨_, results_tmp rfl _ _ _, _, rfl, by omega, bA.putObj _ hK rfl, hB.trans (belowK_b (w := w) (Nat.le_refl _) _ D _ _ (by omega) hK rfl rfl)⟩
  case stop =>
    rintro D c pre W hD h hK
    exact h.elim
end Go.Proofs.Ytcbfgdiddhhhcaa
