/-
  graph.Reach.
-/
import Derived.Test.YthaioeebnpjajaaPairs
import Derived.Test.YthaioeebnpjajaaLoops
import Derived.Test.YthaioeebnpjajaaValue
namespace Go.Proofs.Ythaioeebnpjajaa
open Go.RowKit Gm
attribute [local go_sem] Oper.semAt_some

def boolsA (r : List Bool) : Array Value := (bools r).toArray
theorem boolsA_at (r : List Bool) (i : Nat) (h : i < r.length) : (boolsA r)[i]? = some (.bool (r[i]?.getD false)) := by simp [boolsA, h]
theorem boolsA_rep (n : Nat) : boolsA (List.replicate n false) = Array.replicate n (.bool false) := by
  apply Array.ext
  · simp [boolsA]
  · intro i h1 h2; simp [boolsA]
theorem boolsA_set (r : List Bool) (i : Nat) (b : Bool) : (boolsA r).setIfInBounds i (.bool b) = boolsA (r.set i b) := by
  unfold boolsA
  apply Array.toList_inj.1
  simp [List.map_set]
def ReachPost (n : Nat) (r : List Bool) (w : World) (e : Ending) (w' : World) : Prop :=
  ∃ g, e = .returned (.slice (some ⟨g, 0, none⟩) n n) ∧ w.heap.size ≤ g ∧ Blk w' g 4 (boolsA r) ∧ Below w.heap.size w w'

set_option maxRecDepth 100000 in
set_option maxHeartbeats 2000000 in
theorem reach_no (v : Int) (a : Option Addr) (len cap : Nat) (es : List E) (fa : Option Addr) (flen fcap : Nat) (fl : List Int) (s : Int) (w : World) (hE : NetAt w.heap.size w a len es) (hF : FlowAt w.heap.size w fa flen fl) (hno : (fits v es fl && vtx v s) = false) :
    Calls Try.prog 12 #[netV v a len cap, .slice fa flen fcap, .int .i64 s] w fun e w' => e = .returned (.slice none 0 0) ∧ Below w.heap.size w w' := by
  obtain ⟨W0, hW0⟩ : ∃ W0, w.alloc (.cells #[.int .i64 v, .slice a len cap] 24) = W0 := ⟨_, rfl⟩
  have hB0 : Below w.heap.size w W0 := by rw [← hW0]; exact (Below.refl _ w).alloc (Nat.le_refl _) _
  have bN : Blk W0 w.heap.size 24 #[.int .i64 v, .slice a len cap] := by rw [← hW0]; exact Blk.new w _ _
  have HW0 := Lib.hid hW0
  clear hW0
  have hE0 := (hE.below hB0).more hB0.size
  have hF0 := (hF.below hB0).more hB0.size
  have lN := bN.lt
  rcases hf : fits v es fl with _ | _
  · refine (callsIn_wide (n := 8)).1 ?_
    refine callsIn_of_wp_marks Try.func12 rfl trivial ?_ rfl
    simp only [Try.ntmps12, List.size_toArray, List.length_cons, List.length_nil, Nat.reduceAdd, Nat.reduceSub, Array.replicate_succ, Array.replicate_zero, List.push_toArray, List.append_toArray, List.nil_append, List.cons_append]
    gi_wp2_with (first
      | (refine ⟨trivial, ?_⟩; gi_at_call 28; rw [HW0.out]; refine (callsIn_wide.2 (fits_any _ _ _ _ es _ _ _ fl _ hE0 hF0)).mono ?_; rw [hf]; rintro e w1 ⟨rfl, hb1⟩)
      | refine ⟨trivial, ?_⟩)
    exact ⟨_, results_tmp rfl _ _ _, rfl, hB0.trans (hb1.mono hB0.size)⟩
  · have hs : vtx v s = false := by rw [hf] at hno; simpa using hno
    refine (callsIn_wide (n := 8)).1 ?_
    refine callsIn_of_wp_marks Try.func12 rfl trivial ?_ rfl
    simp only [Try.ntmps12, List.size_toArray, List.length_cons, List.length_nil, Nat.reduceAdd, Nat.reduceSub, Array.replicate_succ, Array.replicate_zero, List.push_toArray, List.append_toArray, List.nil_append, List.cons_append]
    gi_wp2_with (first
      | (refine ⟨trivial, ?_⟩; gi_at_call 28; rw [HW0.out]; refine (callsIn_wide.2 (fits_any _ _ _ _ es _ _ _ fl _ hE0 hF0)).mono ?_; rw [hf]; rintro e w1 ⟨rfl, hb1⟩
         obtain ⟨lN1, n0, n1⟩ := (bN.below hb1 lN).two)
      | (refine ⟨trivial, ?_⟩; gi_at_call 27; refine (callsIn_wide.2 (isv_any _ _ _ _ _ _)).mono ?_; rw [hs]; rintro e w2 ⟨rfl, rfl⟩)
      | refine ⟨trivial, ?_⟩)
    exact ⟨_, results_tmp rfl _ _ _, rfl, (hB0.trans (hb1.mono hB0.size)).alloc (by have := hb1.size; omega) _⟩

theorem cnt_marks {ps : List (Int × Int)} {r : List Bool} (h : ∀ p ∈ ps, inR r.length p) : cnt r ≤ cnt (marks ps r) := (marks_cnt ps r h).1
theorem own_but {β : Type} (r g : Nat) (W0 : World) : OwnFrom W0.heap.size (fun (_ : β) W => But r g W0 W) := fun _ A B row hs hg hr =>
  ⟨hg.os.trans hs.os, hg.tape.trans hs.tape, hg.output.trans hs.output, Nat.le_trans hs.size hg.size, fun k hk h1 h2 =>
    (hg.block k (Nat.lt_of_lt_of_le hk hs.size) (fun e => by have := (hr k e.symm).1; omega)).trans (hs.same k hk h1 h2)⟩
theorem But.blk {r g : Nat} {W W' : World} (h : But r g W W') {b : Nat} {t : TypeId} {cs : Array Value} (hb : Blk W b t cs) (h1 : b ≠ r) (h2 : b ≠ g) : Blk W' b t cs := (h.same b hb.lt h1 h2).trans hb
theorem But.low {r g n₀ : Nat} {W W' : World} (h : But r g W W') (hr : n₀ ≤ r) (hg : n₀ ≤ g) (hn : n₀ ≤ W.heap.size) : Below n₀ W W' :=
  ⟨h.os, h.tape, h.output, h.size, fun k hk => h.same k (by omega) (by omega) (by omega)⟩

set_option maxRecDepth 100000 in
set_option maxHeartbeats 4000000 in
theorem reach_yes (n : Nat) (a : Option Addr) (len cap : Nat) (es : List E) (fa : Option Addr) (flen fcap : Nat) (fl : List Int) (s : Int) (w : World) (hE : NetAt w.heap.size w a len es) (hF : FlowAt w.heap.size w fa flen fl) (hf : fits n es fl = true) (hs : vtx n s = true) :
    Calls Try.prog 12 #[netV n a len cap, .slice fa flen fcap, .int .i64 s] w (ReachPost n (reach n (es.zip fl) s) w) := by
  obtain ⟨W0, hW0⟩ : ∃ W0, w.alloc (.cells #[.int .i64 (n : Int), .slice a len cap] 24) = W0 := ⟨_, rfl⟩
  have hB0 : Below w.heap.size w W0 := by rw [← hW0]; exact (Below.refl _ w).alloc (Nat.le_refl _) _
  have bN : Blk W0 w.heap.size 24 #[.int .i64 (n : Int), .slice a len cap] := by rw [← hW0]; exact Blk.new w _ _
  have HW0 := Lib.hid hW0
  clear hW0
  have hE0 := (hE.below hB0).more hB0.size
  have hF0 := (hF.below hB0).more hB0.size
  have lN := bN.lt
  have hn := fits_n hf
  have hs' : 0 ≤ s ∧ s < (n : Int) := by simpa [vtx] using hs
  obtain ⟨hs0, hs1⟩ := hs'
  have hmk := make_bools n (by omega)
  refine (callsIn_wide (n := 8)).1 ?_
  refine callsIn_of_wp_marks Try.func12 rfl trivial ?_ rfl
  simp only [Try.ntmps12, List.size_toArray, List.length_cons, List.length_nil, Nat.reduceAdd, Nat.reduceSub, Array.replicate_succ, Array.replicate_zero, List.push_toArray, List.append_toArray, List.nil_append, List.cons_append]
  gi_wp2_with (first
    | (refine ⟨trivial, ?_⟩; gi_at_call 28; rw [HW0.out]; refine (callsIn_wide.2 (fits_any _ _ _ _ es _ _ _ fl _ hE0 hF0)).mono ?_; rw [hf]; rintro e w1 ⟨rfl, hb1⟩
       obtain ⟨lN1, n0, n1⟩ := (bN.below hb1 lN).two
       have hB1 : Below w.heap.size w w1 := hB0.trans (hb1.mono hB0.size))
    | (refine ⟨trivial, ?_⟩; gi_at_call 27; refine (callsIn_wide.2 (isv_any _ _ _ _ _ _)).mono ?_; rw [hs]; rintro e w2 ⟨rfl, hw2⟩
       have hB2 : Below w.heap.size w w2 := by rw [hw2]; exact hB1.alloc hB1.size _
       have bN2 : Blk w2 w.heap.size 24 #[.int .i64 (n : Int), .slice a len cap] := by rw [hw2]; exact (bN.below hb1 lN).alloc _
       obtain ⟨lN2, m0, m1⟩ := bN2.two
       clear hw2)
    | refine ⟨trivial, ?_⟩)
  obtain ⟨W3, hW3⟩ : ∃ W3, (((w2.alloc (.cells ((Array.replicate n (Value.bool false)).setIfInBounds s.toNat (.bool true)) 4)).alloc (.cells #[.slice (some ⟨w2.heap.size, 0, none⟩) n n] 26)).alloc (.cells #[.bool true] 4)) = W3 := ⟨_, rfl⟩
  have bR : Blk W3 w2.heap.size 4 (boolsA (Gm.start n s)) := by
    rw [← hW3]; have := ((Blk.new w2 4 ((Array.replicate n (Value.bool false)).setIfInBounds s.toNat (.bool true))).alloc (.cells #[.slice (some ⟨w2.heap.size, 0, none⟩) n n] 26)).alloc (.cells #[.bool true] 4)
    have e : boolsA (Gm.start n s) = (Array.replicate n (Value.bool false)).setIfInBounds s.toNat (.bool true) := by
      unfold Gm.start; rw [← boolsA_set, boolsA_rep]; simp
    rw [e]; exact this
  have bT : Blk W3 (w2.heap.size + 1) 26 #[.slice (some ⟨w2.heap.size, 0, none⟩) n n] := by
    rw [← hW3]; have := (Blk.new (w2.alloc (.cells ((Array.replicate n (Value.bool false)).setIfInBounds s.toNat (.bool true)) 4)) 26 #[.slice (some ⟨w2.heap.size, 0, none⟩) n n]).alloc (.cells #[.bool true] 4)
    rwa [World.size_alloc] at this
  have bG : Blk W3 (w2.heap.size + 1 + 1) 4 #[.bool true] := by
    rw [← hW3]; have := Blk.new ((w2.alloc (.cells ((Array.replicate n (Value.bool false)).setIfInBounds s.toNat (.bool true)) 4)).alloc (.cells #[.slice (some ⟨w2.heap.size, 0, none⟩) n n] 26)) 4 #[.bool true]
    simp only [World.size_alloc] at this; exact this
  have bN3 : Blk W3 w.heap.size 24 #[.int .i64 (n : Int), .slice a len cap] := by rw [← hW3]; exact ((bN2.alloc _).alloc _).alloc _
  have hB3 : Below w.heap.size w W3 := by rw [← hW3]; exact ((hB2.alloc hB2.size _).alloc (by simp; have := hB2.size; omega) _).alloc (by simp; have := hB2.size; omega) _
  have hw2s := hB2.size
  obtain ⟨ps, hps⟩ : ∃ ps, pairs (es.zip fl) = ps := ⟨_, rfl⟩
  have hff := fits_iff.1 hf
  have hin : ∀ p ∈ ps, inR n p := by
    rw [← hps]
    have := pairs_in (n := (n : Int)) (z := es.zip fl) (by omega) (fun p hp => (right_iff.1 hff.1).2.2.2 _ (List.of_mem_zip hp).1)
    simpa using this
  have hlen : ∀ j, (passN ps j (Gm.start n s)).length = n := fun j => by rw [passN_length]; simp [Gm.start]
  have hinj : ∀ j, ∀ p ∈ ps, inR (passN ps j (Gm.start n s)).length p := fun j => by rw [hlen]; exact hin
  have hRE : reach n (es.zip fl) s = passN ps n (Gm.start n s) := by unfold reach; rw [hps]; simp
  have HRE := Lib.hid hRE
  have HPS := Lib.hid hps
  have HIN := Lib.hid hin
  have HLEN := Lib.hid hlen
  have HINJ := Lib.hid hinj
  have HE := Lib.hid hE
  have HF := Lib.hid hF
  rw [hW3]
  clear hW3 hRE hps hin hlen hinj hff hmk hE0 hF0 n0 n1 m0 m1 hE hF
  refine wpIn_loop_by (fun k (act : Act) W => ∃ (j G : Nat) (gr : Bool) (ds : List Deferred) (u9 u10 u27 u28 u29 u30 u31 u32 u33 u34 u35 u36 u37 u38 u39 u40 u41 u42 u43 u44 u45 u46 u47 : Value), act = { tmps := #[netV (n : Int) a len cap, .slice fa flen fcap, .int .i64 s, .pointer (some ⟨w.heap.size, 0, none⟩), undef, undef, .slice none 0 0, .pointer (some ⟨w2.heap.size + 1, 0, none⟩), .pointer (some ⟨G, 0, none⟩), u9, u10, .agg #[.int .i64 (n : Int), .slice a len cap], .slice fa flen fcap, .bool true, .bool false, .bool false, .agg #[.int .i64 (n : Int), .slice a len cap], .int .i64 s, .bool true, .bool false, .bool false, .pointer (some ⟨w.heap.size, 0, none⟩), .int .i64 (n : Int), .slice (some ⟨w2.heap.size, 0, none⟩) n n, .slice (some ⟨w2.heap.size, 0, none⟩) n n, .int .i64 s, .pointer (some ⟨w2.heap.size, s.toNat, none⟩), u27, u28, u29, u30, u31, u32, u33, u34, u35, u36, u37, u38, u39, u40, u41, u42, u43, u44, u45, u46, u47, undef], defers := ds } ∧
      k = (n - cnt (passN ps j (Gm.start n s))) + (if gr then 1 else 0) ∧ Blk W w2.heap.size 4 (boolsA (passN ps j (Gm.start n s))) ∧ Blk W (w2.heap.size + 1) 26 #[.slice (some ⟨w2.heap.size, 0, none⟩) n n] ∧ Blk W G 4 #[.bool gr] ∧ w2.heap.size + 1 < G ∧
      Blk W w.heap.size 24 #[.int .i64 (n : Int), .slice a len cap] ∧ Below w.heap.size w W ∧ Marks w.heap.size W ds ∧ (gr = false → marks ps (passN ps j (Gm.start n s)) = passN ps j (Gm.start n s)))
    ((n - cnt (Gm.start n s)) + 1) ⟨0, w2.heap.size + 1 + 1, true, [], _, _, _, _, _, _, _, _, _, _, _, _, _, _, _, _, _, _, _, _, _, _, _, rfl, by simp [passN], bR, bT, bG, by omega, bN3, hB3, trivial, by simp⟩ ?_
  clear bR bT bG bN3 hB3
  rintro k act W ⟨j, G, gr, ds, u9, u10, u27, u28, u29, u30, u31, u32, u33, u34, u35, u36, u37, u38, u39, u40, u41, u42, u43, u44, u45, u46, u47, rfl, hk, bR, bT, bG, hG, bN, hB, hM, hend⟩
  obtain ⟨lG, g0, gf⟩ := bG.one
  obtain ⟨lT, t0, tf⟩ := bT.one
  obtain ⟨lN3, n0, n1⟩ := bN.two
  have lR := bR.lt
  rcases gr with _ | _
  · have hfin := hend rfl
    have HFIN : Hid (passN ps j (Gm.start n s) = reach n (es.zip fl) s) := Lib.hid (by
      have := passN_same (ps := ps) (r := Gm.start n s) (by have := HINJ.out 0; exact this) hfin
      rw [this, HRE.out, show (Gm.start n s).length = n by simp [Gm.start]])
    clear hend hfin hk
    gi_wp2
    exact leaves_marks (B := w.heap.size) (fun _ => results_tmp rfl _ _ _) ds W hB.size hM (fun W' hb hc => ⟨w2.heap.size, rfl, by omega, by rw [← HFIN.out]; exact hc _ _ bR rfl, hB.trans hb⟩)
  · clear hend
    have hres : ∀ W', CallsIn Fence.wide (8 - 1) Try.prog 29 #[netV (n : Int) a len cap, .slice fa flen fcap] W' fun e w' => e = .returned (.func (.func 34) #[] #[.pointer (some ⟨W'.heap.size, 0, none⟩), .pointer (some ⟨W'.heap.size + 1, 0, none⟩)]) ∧ w' = (W'.alloc (.cells #[.int .i64 (n : Int), .slice a len cap] 24)).alloc (.cells #[.slice fa flen fcap] 25) := fun W' => callsIn_wide.2 (callsIn_wide.1 (resid_any n a len cap fa flen fcap W'))
    gi_wp2_with (first
      | (refine ⟨trivial, ?_⟩; gi_at_call 29; refine (hres _).mono ?_; rintro e w' ⟨rfl, rfl⟩)
      | refine ⟨trivial, ?_⟩)
    obtain ⟨Wc, hWc⟩ : ∃ Wc, (((W.setCell ⟨G, 0, none⟩ (.bool false)).alloc (.cells #[.int .i64 (n : Int), .slice a len cap] 24)).alloc (.cells #[.slice fa flen fcap] 25)) = Wc := ⟨_, rfl⟩
    have hzc : Wc.heap.size = W.heap.size + 2 := by rw [← hWc]; simp
    have cR : Blk Wc w2.heap.size 4 (boolsA (passN ps j (Gm.start n s))) := by rw [← hWc]; exact ((bR.far (p := ⟨G, 0, none⟩) (by simp; omega) _).alloc _).alloc _
    have cT : Blk Wc (w2.heap.size + 1) 26 #[.slice (some ⟨w2.heap.size, 0, none⟩) n n] := by rw [← hWc]; exact ((bT.far (p := ⟨G, 0, none⟩) (by simp; omega) _).alloc _).alloc _
    have cN : Blk Wc w.heap.size 24 #[.int .i64 (n : Int), .slice a len cap] := by rw [← hWc]; exact ((bN.far (p := ⟨G, 0, none⟩) (by simp; omega) _).alloc _).alloc _
    have cG : Blk Wc G 4 #[.bool false] := by rw [← hWc]; exact ((bG.set 0 (.bool false)).alloc _).alloc _
    have cA : Blk Wc W.heap.size 24 #[.int .i64 (n : Int), .slice a len cap] := by
      rw [← hWc]; have := (Blk.new (W.setCell ⟨G, 0, none⟩ (.bool false)) 24 #[.int .i64 (n : Int), .slice a len cap]).alloc (.cells #[.slice fa flen fcap] 25)
      simpa using this
    have cF : Blk Wc (W.heap.size + 1) 25 #[.slice fa flen fcap] := by
      rw [← hWc]; have := Blk.new ((W.setCell ⟨G, 0, none⟩ (.bool false)).alloc (.cells #[.int .i64 (n : Int), .slice a len cap] 24)) 25 #[.slice fa flen fcap]
      simpa using this
    have hBs := hB.size
    have hBc : Below w.heap.size w Wc := by rw [← hWc]; exact ((hB.setCell (p := ⟨G, 0, none⟩) (by simp; omega) _).alloc (by simp; omega) _).alloc (by simp; omega) _
    have hMc : Marks w.heap.size Wc ds := hM.keep fun D hD hh => by
      rw [← hWc]
      have hDG : D ≠ G := fun e => by subst e; rw [show W.heap[D]? = _ from bG] at hh; cases hh
      have hDl : D < W.heap.size := (Array.getElem?_eq_some_iff.1 hh).1
      rw [Below.heap_alloc _ _ _ (by simp; omega), Below.heap_alloc _ _ _ (by simp; omega), Below.heap_setCell _ _ _ _ hDG]
      exact hh
    have hMl : ∀ D, ({ target := .collected D, args := #[] } : Deferred) ∈ ds → D < Wc.heap.size := fun D hD => by have := hM.lt hD; omega
    rw [hWc]
    clear hWc hres bR bT bN bG hB hM g0 gf t0 tf n0 n1
    have HM := Lib.hid hMc
    have HML := Lib.hid hMl
    have HK := Lib.hid hk
    clear hMc hMl hk
    refine range_pairs (s := 9) (q := 10) (by omega) w2.heap.size G W.heap.size (W.heap.size + 1) w.heap.size n a len cap es fa flen fcap fl hf rfl (by omega) cA cF (HE.out.below hBc) (HF.out.below hBc) (by omega) (by omega)
      (fun qs W' => (But w2.heap.size G Wc W' ∧ Blk W' w2.heap.size 4 (boolsA (marks qs (passN ps j (Gm.start n s))))) ∧ (Blk W' G 4 #[.bool (decide (cnt (passN ps j (Gm.start n s)) < cnt (marks qs (passN ps j (Gm.start n s)))))] ∧ (∀ p ∈ qs, inR n p)))
      (((own_but _ _ _).and (Own.from (blk_own _ _ _) _)).and ((Own.from (blk_own _ _ _) _).and (ownFrom_pure _ _))) ⟨⟨But.refl _ _ _, cR⟩, by simpa [marks] using cG, by simp⟩ ?assign ?body ?done
    case assign =>
      intro l p W K hK
      gi_wp2
      exact hK
    case body =>
      rintro l pre p W1 hz1 ⟨⟨hbut, bR⟩, bG, hpre⟩ hinp
      obtain ⟨lG1, g0, gf⟩ := bG.one
      have bT := hbut.blk cT (by omega) (by omega)
      obtain ⟨lT1, t0, tf⟩ := bT.one
      have hinp' : inR n p := by simpa using hinp
      obtain ⟨p0, p1, p2, p3⟩ := hinp'
      obtain ⟨r, hr⟩ : ∃ r, marks pre (passN ps j (Gm.start n s)) = r := ⟨_, rfl⟩
      have hrl : r.length = n := by rw [← hr, marks_length, HLEN.out]
      have hle : cnt (passN ps j (Gm.start n s)) ≤ cnt r := by rw [← hr]; exact cnt_marks (by rw [HLEN.out]; exact hpre)
      have HN : Hid (marks (pre ++ [p]) (passN ps j (Gm.start n s)) = Gm.mark r p) := Lib.hid (by rw [marks_snoc, hr])
      rw [hr] at bR bG
      have hpre' : Hid (∀ q ∈ pre ++ [p], inR n q) := Lib.hid (fun q hq => by
        rcases List.mem_append.1 hq with h | h
        · exact hpre q h
        · obtain rfl : q = p := by simpa using h
          exact ⟨p0, p1, p2, p3⟩)
      have HR := Lib.hid hr
      clear hr hpre hinp
      have ru := bR.cell p.1.toNat
      rw [boolsA_at _ _ (by omega)] at ru
      have rv := bR.cell p.2.toNat
      rw [boolsA_at _ _ (by omega)] at rv
      have rf := bR.frozen p.2.toNat
      have lR1 := bR.lt
      have p1' : p.1 < (n : Int) := p1
      have p3' : p.2 < (n : Int) := p3
      have ru' : W1.cell? ⟨w2.heap.size, p.1.toNat, none⟩ = some (.bool (has r p.1)) := ru
      have rv' : W1.cell? ⟨w2.heap.size, p.2.toNat, none⟩ = some (.bool (has r p.2)) := rv
      clear ru rv
      dsimp only [pairF]
      simp only [List.setIfInBounds_toArray, List.set_cons_zero, List.set_cons_succ]
      have hmc := mark_cnt (r := r) (p := p) (by rw [hrl]; exact ⟨p0, p1, p2, p3⟩)
      have HC := Lib.hid hmc
      have HLE := Lib.hid hle
      clear hmc hle
      by_cases hyes : has r p.1 = true ∧ has r p.2 = false
      · obtain ⟨h1, h2⟩ := hyes
        rw [h1] at ru'
        rw [h2] at rv'
        have HMK : Hid (Gm.mark r p = r.set p.2.toNat true) := Lib.hid (by simp [Gm.mark, h1, h2])
        have HCN : Hid (decide (cnt (passN ps j (Gm.start n s)) < cnt (Gm.mark r p)) = true) := Lib.hid (by
          rcases HC.out with h | h
          · have := HLE.out; simp; omega
          · have := h.1 h1; rw [h2] at this; cases this)
        gi_wp2
        have hRG : w2.heap.size ≠ G := by omega
        refine ⟨(But.set W1 ⟨w2.heap.size, p.2.toNat, none⟩ (.inl rfl) _).trans (But.set _ ⟨G, 0, none⟩ (.inr rfl) _), ⟨(hbut.trans (But.set W1 ⟨w2.heap.size, p.2.toNat, none⟩ (.inl rfl) _)).trans (But.set _ ⟨G, 0, none⟩ (.inr rfl) _), ?_⟩, ?_, hpre'.out⟩
        · rw [HN.out, HMK.out, ← boolsA_set]
          exact (bR.set p.2.toNat (.bool true)).far (p := ⟨G, 0, none⟩) hRG _
        · rw [HN.out, HCN.out]
          exact (bG.far (p := ⟨w2.heap.size, p.2.toNat, none⟩) (fun e => hRG e.symm) _).set 0 _
      · have HMK : Hid (Gm.mark r p = r) := Lib.hid (by
          rcases HC.out with h | h
          · exact absurd ⟨h.1, h.2.1⟩ hyes
          · exact h.2)
        have hno : (has r p.1 = false) ∨ (has r p.1 = true ∧ has r p.2 = true) := by
          rcases h1 : has r p.1 with _ | _
          · exact .inl rfl
          · right
            rcases h2 : has r p.2 with _ | _
            · exact absurd ⟨h1, h2⟩ hyes
            · exact ⟨rfl, rfl⟩
        clear hyes
        rcases hno with h1 | ⟨h1, h2⟩
        · rw [h1] at ru'
          gi_wp2
          exact ⟨But.refl _ _ _, ⟨hbut, by rw [HN.out, HMK.out]; exact bR⟩, by rw [HN.out, HMK.out]; exact bG, hpre'.out⟩
        · rw [h1] at ru'
          rw [h2] at rv'
          gi_wp2
          exact ⟨But.refl _ _ _, ⟨hbut, by rw [HN.out, HMK.out]; exact bR⟩, by rw [HN.out, HMK.out]; exact bG, hpre'.out⟩
    case done =>
      rintro D W4 hD ⟨⟨hbut, bR⟩, bG, _⟩ hKD
      obtain ⟨lG1, g0, gf⟩ := bG.one
      rw [HPS.out] at bR bG g0
      gi_wp2
      have hW4 : Wc.heap.size ≤ W4.heap.size := hbut.size
      have hc1 := cnt_marks (ps := ps) (r := passN ps j (Gm.start n s)) (HINJ.out j)
      have hc2 := cnt_le (passN ps (j + 1) (Gm.start n s))
      rw [HLEN.out] at hc2
      have hDl : D < W4.heap.size := (Array.getElem?_eq_some_iff.1 hKD).1
      have hBW : Below w.heap.size w W4 := hBc.trans (hbut.low (by omega) (by omega) hBc.size)
      refine ⟨(n - cnt (passN ps (j + 1) (Gm.start n s))) + (if decide (cnt (passN ps j (Gm.start n s)) < cnt (passN ps (j + 1) (Gm.start n s))) then 1 else 0), ?_, j + 1, W4.heap.size, decide (cnt (passN ps j (Gm.start n s)) < cnt (passN ps (j + 1) (Gm.start n s))), { target := .collected D, args := #[] } :: ds, _, _, _, _, _, _, _, _, _, _, _, _, _, _, _, _, _, _, _, _, _, _, _, rfl, rfl, bR.alloc _, (hbut.blk cT (by omega) (by omega)).alloc _, Blk.new W4 _ _, by omega, (hbut.blk cN (by omega) (by omega)).alloc _, hBW.alloc (by omega) _, ⟨⟨D, rfl, by omega, (Below.heap_alloc W4 _ D hDl).trans hKD, fun D' hD' => by have := HML.out D' hD'; omega⟩, HM.out.keep fun D' hD' hh => ?_⟩, fun hgr => ?_⟩
      · have hk := HK.out
        have e : passN ps (j + 1) (Gm.start n s) = marks ps (passN ps j (Gm.start n s)) := rfl
        rw [e] at hc2 ⊢
        simp only [if_true] at hk
        by_cases hlt : cnt (passN ps j (Gm.start n s)) < cnt (marks ps (passN ps j (Gm.start n s)))
        · simp [hlt]; omega
        · simp [hlt]; omega
      · have hl := HML.out D' hD'
        rw [Below.heap_alloc _ _ _ (by omega), hbut.same D' hl (fun e => by subst e; rw [show Wc.heap[_]? = _ from cR] at hh; cases hh) (fun e => by subst e; rw [show Wc.heap[_]? = _ from cG] at hh; cases hh)]
        exact hh
      · have hgr' : ¬ cnt (passN ps j (Gm.start n s)) < cnt (marks ps (passN ps j (Gm.start n s))) := by
          have e : passN ps (j + 1) (Gm.start n s) = marks ps (passN ps j (Gm.start n s)) := rfl
          rw [e] at hgr; simpa using hgr
        have h := ((marks_cnt ps (passN ps j (Gm.start n s)) (HINJ.out j)).2 (by omega)).1
        show marks ps (marks ps (passN ps j (Gm.start n s))) = marks ps (passN ps j (Gm.start n s))
        rw [h, h]
end Go.Proofs.Ythaioeebnpjajaa
