/-
  graph.Cut.
-/
import Derived.Test.YthaioeebnpjajaaFits
namespace Go.Proofs.Ythaioeebnpjajaa
open Go.RowKit Gm
attribute [local go_sem] Oper.semAt_some

def edgesOf {es : List E} (l : List (AtOf es)) : List E := l.map (·.1.2)
theorem edgesOf_all {es : List E} {ys : List (AtOf es)} (h : bare ys = placed es) : edgesOf ys = es := by
  have : (bare ys).map (·.2) = edgesOf ys := by simp [bare, edgesOf]
  rw [← this, h]
  simp [placed, List.map_snd_zip]
theorem edgesOf_snoc {es : List E} (l : List (AtOf es)) (x : AtOf es) : edgesOf (l ++ [x]) = edgesOf l ++ [x.1.2] := by simp [edgesOf]
theorem edgesOf_mem {es : List E} {l : List (AtOf es)} {e : E} (h : e ∈ edgesOf l) : e ∈ es := by
  obtain ⟨y, _, rfl⟩ := List.mem_map.1 h
  exact y.mem

set_option maxRecDepth 100000 in
set_option maxHeartbeats 2000000 in
theorem cut_any (v : Int) (a : Option Addr) (len cap : Nat) (es : List E) (sa : Option Addr) (slen scap : Nat) (side : List Bool) (w : World) (hE : NetAt w.heap.size w a len es) (hS : SideAt w.heap.size w sa slen side) :
    Calls Try.prog 20 #[netV v a len cap, .slice sa slen scap] w fun e w' => e = .returned (.int .i64 (cut v es side)) ∧ Below w.heap.size w w' := by
  refine (callsIn_wide (n := 5)).1 ?_
  refine callsIn_of_wp_marks Try.func20 rfl trivial ?_ rfl
  simp only [Try.ntmps20, List.size_toArray, List.length_cons, List.length_nil, Nat.reduceAdd, Nat.reduceSub, Array.replicate_succ, Array.replicate_zero, List.push_toArray, List.append_toArray, List.nil_append, List.cons_append]
  obtain ⟨W0, hW0⟩ : ∃ W0, (w.alloc (.cells #[.int .i64 v, .slice a len cap] 24)).alloc (.cells #[.slice sa slen scap] 26) = W0 := ⟨_, rfl⟩
  have hz0 : w.heap.size + 1 < W0.heap.size := by rw [← hW0]; simp
  have hB0 : Below w.heap.size w W0 := by
    rw [← hW0]; exact ((Below.refl _ w).alloc (Nat.le_refl _) _).alloc (by simp) _
  have bN : Blk W0 w.heap.size 24 #[.int .i64 v, .slice a len cap] := by rw [← hW0]; exact (Blk.new w _ _).alloc _
  have bF : Blk W0 (w.heap.size + 1) 26 #[.slice sa slen scap] := by
    rw [← hW0]; have := Blk.new (w.alloc (.cells #[.int .i64 v, .slice a len cap] 24)) 26 #[.slice sa slen scap]
    rwa [World.size_alloc] at this
  have HW0 := Lib.hid hW0
  have HlE := Lib.hid hE.1
  have HlS := Lib.hid hS.1
  clear hW0
  by_cases hr : right v es = true
  · by_cases hq : (slen : Int) = v
    · have hR := right_iff.1 hr
      have h256 : len ≤ 256 := by have := hR.2.2.1; rw [HlE.out] at this; exact this
      have hok : Hid (∀ e ∈ es, okE v e = true) := Lib.hid hR.2.2.2
      have HC : Hid (cut v es side = cutSum side es) := Lib.hid (by simp [cut, hr, HlS.out, hq])
      subst hq
      clear hR
      gi_wp2_with (first
        | (refine ⟨trivial, ?_⟩; gi_at_call 11; rw [HW0.out]; refine (callsIn_wide.2 (right_any _ _ _ _ es _ ((hE.below hB0).more hB0.size))).mono ?_; rw [hr]; rintro e w1 ⟨rfl, hb1⟩
           obtain ⟨lN, n0, n1⟩ := (bN.below hb1 (by omega)).two
           obtain ⟨lF, f0, ff⟩ := (bF.below hb1 (by omega)).one)
        | (refine ⟨trivial, ?_⟩; gi_at_call 26; refine (edges_any _ _ _ _ _).mono ?_; rintro e w' ⟨rfl, rfl⟩)
        | refine ⟨trivial, ?_⟩)
      have hB1 : Below w.heap.size w w1 := hB0.trans (hb1.mono hB0.size)
      have hB1s := hB1.size
      obtain ⟨W2, hW2⟩ : ∃ W2, ((w1.alloc (.cells #[.int .i64 0] 3)).alloc (.cells #[.int .i64 (slen : Int), .slice a len cap] 24)).alloc (.cells #[.slice a len cap] 22) = W2 := ⟨_, rfl⟩
      have hB2 : Below w.heap.size w W2 := by rw [← hW2]; exact ((hB1.alloc hB1s _).alloc (by simp; omega) _).alloc (by simp; omega) _
      have bS : Blk W2 (w1.heap.size + 1 + 1) 22 #[.slice a len cap] := by
        rw [← hW2]; have := Blk.new ((w1.alloc (.cells #[.int .i64 0] 3)).alloc (.cells #[.int .i64 (slen : Int), .slice a len cap] 24)) 22 #[.slice a len cap]
        simp only [World.size_alloc] at this; exact this
      have bT : Blk W2 w1.heap.size 3 #[.int .i64 (cutSum side (edgesOf ([] : List (AtOf es))))] := by rw [← hW2]; exact ((Blk.new w1 _ _).alloc _).alloc _
      have bF2 : Blk W2 (w.heap.size + 1) 26 #[.slice sa slen scap] := by rw [← hW2]; exact (((bF.below hb1 (by omega)).alloc _).alloc _).alloc _
      have hz2 : w.heap.size ≤ W2.heap.size := hB2.size
      have hz3 : w1.heap.size < W2.heap.size := bT.lt
      have hz4 : w.heap.size + 1 < w1.heap.size := lF
      rw [hW2]
      clear hW2
      refine range_edges (s := 20) (q := 7) (by omega) (w1.heap.size + 1 + 1) w.heap.size a len cap es rfl bS hB2.size (hE.below hB2)
        (fun pre W => ((Blk W (w.heap.size + 1) 26 #[.slice sa slen scap] ∧ Blk W w1.heap.size 3 #[.int .i64 (cutSum side (edgesOf pre))]) ∧ pre.length ≤ len) ∧ Below w.heap.size w W)
        (fun c pre W => False)
        ?hI (fun c => ownFrom_pure _ _) ⟨⟨⟨bF2, bT⟩, by simp⟩, hB2⟩ ?assign ?body ?done ?stop
      case hI => exact OwnFrom.and (((Own.from (blk_own _ _ _) _).and (Own.from (blk_own _ _ _) _)).and (ownFrom_pure _ _)) (ownFrom_below (Nat.le_refl _) hz2)
      case assign =>
        intro l x W K hK
        gi_wp2
        exact hK
      case body =>
        rintro l pre x W Bx hl hlr hbx hz hx ⟨⟨⟨bF, bT⟩, _⟩, hB⟩ hlt
        obtain ⟨lx, c0, c1, c2⟩ := hx.three
        obtain ⟨lF, f0, ff⟩ := bF.one
        obtain ⟨lT, t0, tf⟩ := bT.one
        have hoe := okE_iff.1 (hok.out _ x.mem)
        have hbd := cutSum_bd side (edgesOf pre) (fun e he => by
          have := okE_iff.1 (hok.out _ (edgesOf_mem he)); omega)
        have hpl : (edgesOf pre).length = pre.length := by simp [edgesOf]
        obtain ⟨u0, u1, v0, v1, _, e0, e1⟩ := hoe
        obtain ⟨b, off, hfa, hcell⟩ := (hS.below hB).2.2.bool
        obtain ⟨hbl, hcu⟩ := hcell x.1.2.1.toNat (by rw [HlS.out]; omega)
        obtain ⟨_, hcv⟩ := hcell x.1.2.2.1.toNat (by rw [HlS.out]; omega)
        obtain rfl : sa = some ⟨b, off, none⟩ := by
          rcases hfa with h | h
          · rw [HlS.out] at h; omega
          · exact h
        clear hcell hfa
        have HS : Hid (cutSum side (edgesOf (pre ++ [x])) = cutSum side (edgesOf pre) + (if has side x.1.2.1 && !has side x.1.2.2.1 then x.1.2.2.2 else 0)) := Lib.hid (by rw [edgesOf_snoc, cutSum_snoc])
        have hcu' : W.cell? ⟨b, off + x.1.2.1.toNat, none⟩ = some (.bool (has side x.1.2.1)) := hcu
        have hcv' : W.cell? ⟨b, off + x.1.2.2.1.toNat, none⟩ = some (.bool (has side x.1.2.2.1)) := hcv
        clear hcu hcv
        have h1000 : cutSum side (edgesOf pre) ≤ 256000 := by rw [hpl] at hbd; omega
        have h0 := hbd.1
        clear hbd hpl
        dsimp only [roundF]
        simp only [List.setIfInBounds_toArray, List.set_cons_zero, List.set_cons_succ]
        rcases hp : has side x.1.2.1 with _ | _
        · rw [hp] at hcu'
          have HS' : Hid (cutSum side (edgesOf (pre ++ [x])) = cutSum side (edgesOf pre)) := Lib.hid (by rw [HS.out, hp]; simp)
          gi_wp2
          exact ⟨KeepsFrom.refl _ _, Below.refl _ _, ⟨⟨bF, by rw [HS'.out]; exact bT⟩, by simp; omega⟩, hB⟩
        · rw [hp] at hcu'
          rcases hq : has side x.1.2.2.1 with _ | _
          · rw [hq] at hcv'
            have HS' : Hid (cutSum side (edgesOf (pre ++ [x])) = cutSum side (edgesOf pre) + x.1.2.2.2) := Lib.hid (by rw [HS.out, hp, hq]; simp)
            gi_wp2
            refine ⟨(KeepsOthers.setCell _ _ _).from _, (Below.refl _ W).setCell (p := ⟨w1.heap.size, 0, none⟩) hB1s _, ⟨⟨?_, ?_⟩, by simp; omega⟩, hB.setCell (p := ⟨w1.heap.size, 0, none⟩) hB1s _⟩
            · exact bF.far (p := ⟨w1.heap.size, 0, none⟩) (by simp; omega) _
            · rw [HS'.out]; exact bT.set 0 _
          · rw [hq] at hcv'
            have HS' : Hid (cutSum side (edgesOf (pre ++ [x])) = cutSum side (edgesOf pre)) := Lib.hid (by rw [HS.out, hp, hq]; simp)
            gi_wp2
            exact ⟨KeepsFrom.refl _ _, Below.refl _ _, ⟨⟨bF, by rw [HS'.out]; exact bT⟩, by simp; omega⟩, hB⟩
      case done =>
        rintro D ys W hD hys ⟨⟨⟨_, bT⟩, _⟩, hB⟩ hK
        rw [edgesOf_all hys] at bT
        obtain ⟨lT, t0, tf⟩ := bT.one
        gi_wp2
        refine ⟨by simp, .inl ⟨_, _, rfl, run_takeDeferred hK, ?_⟩⟩
        exact ⟨_, results_tmp rfl _ _ _, by rw [HC.out]; rfl, hB.trans (belowK_b (w := w) (Nat.le_refl _) _ D _ _ (by omega) hK rfl rfl)⟩
      case stop =>
        rintro D c pre W hD h hK
        exact h.elim
    · have HC : Hid (cut v es side = 0) := Lib.hid (by
        unfold cut
        rw [if_neg]
        rw [HlS.out]; simp [hq])
      have hq1 : ((slen : Int) == v) = false := by simpa using hq
      have hq2 : ((slen : Int) != v) = true := by simp [hq]
      clear hq
      gi_wp2_with (first
        | (refine ⟨trivial, ?_⟩; gi_at_call 11; rw [HW0.out]; refine (callsIn_wide.2 (right_any _ _ _ _ es _ ((hE.below hB0).more hB0.size))).mono ?_; rw [hr]; rintro e w1 ⟨rfl, hb1⟩
           obtain ⟨lN, n0, n1⟩ := (bN.below hb1 (by omega)).two
           obtain ⟨lF, f0, ff⟩ := (bF.below hb1 (by omega)).one)
        | refine ⟨trivial, ?_⟩)
      exact ⟨_, results_tmp rfl _ _ _, by rw [HC.out]; rfl, hB0.trans (hb1.mono hB0.size)⟩
  · have hr' : right v es = false := by simpa using hr
    have HC : Hid (cut v es side = 0) := Lib.hid (by simp [cut, hr'])
    clear hr
    gi_wp2_with (first
      | (refine ⟨trivial, ?_⟩; gi_at_call 11; rw [HW0.out]; refine (callsIn_wide.2 (right_any _ _ _ _ es _ ((hE.below hB0).more hB0.size))).mono ?_; rw [hr']; rintro e w1 ⟨rfl, hb1⟩)
      | refine ⟨trivial, ?_⟩)
    exact ⟨_, results_tmp rfl _ _ _, by rw [HC.out]; rfl, hB0.trans (hb1.mono hB0.size)⟩
end Go.Proofs.Ythaioeebnpjajaa
