/-
  graph.residuals: the pairs between which an edge leaves room come in the order of the edges.
-/
import Derived.Test.YthaioeebnpjajaaRound2
import Derived.Test.YthaioeebnpjajaaGains
namespace Go.Proofs.Ythaioeebnpjajaa
open Go.RowKit Gm
attribute [local go_sem] Oper.semAt_some

theorem round_in {F : Fence} {n : Nat} {P : Program} {k : Nat} {f : FuncId} {tmps : Array Value} {assign body : Code} {w : World} {R : Ending → World → Prop} (l : Nat) (h : RoundIn F n P k f tmps assign body w R) : RoundIn (F.inRound l) n P k f tmps assign body w R := h
theorem round_deep {m : Nat} (m' : Nat) {P : Program} {l : Nat} {f : FuncId} {tmps : Array Value} {assign body : Code} {w : World} {R : Ending → World → Prop}
    (h : RoundIn Fence.wide m P l f tmps assign body w R) : RoundIn Fence.wide m' P l f tmps assign body w R := ⟨h.1, fun c cs _ => h.2 c cs (fun d hd => by cases hd)⟩

theorem resid_any (v : Int) (a : Option Addr) (len cap : Nat) (fa : Option Addr) (flen fcap : Nat) (w : World) :
    CallsIn Fence.wide 4 Try.prog 29 #[netV v a len cap, .slice fa flen fcap] w fun e w' => e = .returned (.func (.func 34) #[] #[.pointer (some ⟨w.heap.size, 0, none⟩), .pointer (some ⟨w.heap.size + 1, 0, none⟩)]) ∧ w' = (w.alloc (.cells #[.int .i64 v, .slice a len cap] 24)).alloc (.cells #[.slice fa flen fcap] 25) := by
  refine callsIn_of_wp Try.func29 rfl trivial ?_ rfl
  simp only [Try.ntmps29, List.size_toArray, List.length_cons, List.length_nil, Nat.reduceAdd, Nat.reduceSub, Array.replicate_succ, Array.replicate_zero, List.push_toArray, List.append_toArray, List.nil_append, List.cons_append]
  gi_wp2
  go_ret
  exact ⟨rfl, rfl⟩

/-- What a round of the caller keeps: what lies below n₀; two boxes; and what lies from C on. -/
structure Keeps (n₀ Bn Bf C : Nat) (W W' : World) : Prop where
  low : Below n₀ W W'
  same : ∀ k, (k = Bn ∨ k = Bf ∨ C ≤ k) → k < W.heap.size → W'.heap[k]? = W.heap[k]?
theorem Keeps.blk {n₀ Bn Bf C : Nat} {W W' : World} (h : Keeps n₀ Bn Bf C W W') {g : Nat} {t : TypeId} {cs : Array Value} (hb : Blk W g t cs) (hg : g = Bn ∨ g = Bf ∨ C ≤ g) : Blk W' g t cs := (h.same g hg hb.lt).trans hb
theorem Keeps.from {n₀ Bn Bf C : Nat} {W W' : World} (h : Keeps n₀ Bn Bf C W W') {B : Nat} (hB : C ≤ B) : KeepsFrom B W W' :=
  ⟨h.low.size, fun k _ hk ho _ => (h.same k (.inr (.inr (Nat.le_trans hB hk))) (Array.getElem?_eq_some_iff.1 ho).1).trans ho⟩
theorem own_up {β : Type} {B B' : Nat} {I : β → World → Prop} (h : OwnFrom B I) (hB : B ≤ B') : OwnFrom B' I := fun s W W' row hs hg hr => h s W W' row hs hg (fun r e => ⟨Nat.le_trans hB (hr r e).1, (hr r e).2⟩)
theorem own_at {β γ : Type} {B : Nat} {I : β → World → Prop} (h : OwnFrom B I) (f : γ → β) : OwnFrom B (fun s W => I (f s) W) := fun s W W' row hs hg hr => h (f s) W W' row hs hg hr
theorem own_drewN {β : Type} {B : Nat} {I : β → World → Prop} (h : OwnFrom B I) {s : β} {W : World} (n : Nat) (hs : I s W) : I s (W.drewN n) := h s W _ none hs ⟨rfl, rfl, rfl, Nat.le_refl _, fun _ _ _ => rfl⟩ (fun r e => by cases e)
theorem own_drew {β : Type} {B : Nat} {I : β → World → Prop} (h : OwnFrom B I) {s : β} {W : World} (hs : I s W) : I s W.drew := h s W _ none hs ⟨rfl, rfl, rfl, Nat.le_refl _, fun _ _ _ => rfl⟩ (fun r e => by cases e)
theorem pairs_snoc (z : Z) (p : E × Int) : pairs (z ++ [p]) = pairs z ++ pairsE p := by simp [pairs]

set_option maxRecDepth 100000 in
set_option maxHeartbeats 4000000 in
theorem resid1_in (m n l Bn Bf n₀ : Nat) (hn : 5 ≤ n) (v : Int) (a : Option Addr) (len cap : Nat) (es : List E) (fa : Option Addr) (flen fcap : Nat) (fl : List Int) (hf : fits v es fl = true) (W : World) (hn₀ : n₀ ≤ W.heap.size)
    (bN : Blk W Bn 24 #[.int .i64 v, .slice a len cap]) (bF : Blk W Bf 25 #[.slice fa flen fcap]) (hE : NetAt n₀ W a len es) (hF : FlowAt n₀ W fa flen fl)
    (J : List (Int × Int) → World → Prop) (hJ : OwnFrom W.heap.size J)
    (hY : ∀ pre p W1, J pre W1 → inR v.toNat p → YieldAt Fence.wide m Try.prog l #[.int .i64 p.1, .int .i64 p.2] W1 fun e W' => e = .returned (.bool true) ∧ J (pre ++ [p]) W' ∧ Keeps n₀ Bn Bf W.heap.size W1 W')
    (h0 : J [] W) :
    CallsIn Fence.wide n Try.prog 34 #[.func (.yield l) #[] #[], .pointer (some ⟨Bn, 0, none⟩), .pointer (some ⟨Bf, 0, none⟩)] W fun e W' => (∃ u, e = .returned u) ∧ J (pairs (es.zip fl)) W' := by
  refine callsIn_of_wp_marks Try.func34 rfl trivial ?_ rfl
  simp only [Try.ntmps34, List.size_toArray, List.length_cons, List.length_nil, Nat.reduceAdd, Nat.reduceSub, Array.replicate_succ, Array.replicate_zero, List.push_toArray, List.append_toArray, List.nil_append, List.cons_append]
  have hff := fits_iff.1 hf
  have HlE := Lib.hid hE.1
  have HlF := Lib.hid hF.1
  have HQ := Lib.hid hff.2.1
  have HFF := Lib.hid hff.2.2
  have hok : Hid (∀ e ∈ es, okE v e = true) := Lib.hid (right_iff.1 hff.1).2.2.2
  clear hff hf
  obtain ⟨lN, n0, n1⟩ := bN.two
  obtain ⟨k, rfl⟩ : ∃ k, n = k + 5 := ⟨n - 5, by omega⟩
  have hnk : 1 ≤ k + 5 - 1 := by omega
  have hedges : ∀ W', CallsIn Fence.wide (k + 5 - 1) Try.prog 26 #[netV v a len cap] W' fun e w' => e = .returned (.func (.func 35) #[] #[.pointer (some ⟨W'.heap.size + 1, 0, none⟩)]) ∧ w' = (W'.alloc (.cells #[.int .i64 v, .slice a len cap] 24)).alloc (.cells #[.slice a len cap] 22) := fun W' => callsIn_wide.2 (callsIn_wide.1 (edges_any v a len cap W'))
  gi_wp2_with (first
        | (refine ⟨trivial, ?_⟩; gi_at_call 26; refine (hedges _).mono ?_; rintro e w' ⟨rfl, rfl⟩)
        | refine ⟨trivial, ?_⟩)
  obtain ⟨W2, hW2⟩ : ∃ W2, ((W.alloc (.cells #[.func (.yield l) #[] #[]] 52)).alloc (.cells #[.int .i64 v, .slice a len cap] 24)).alloc (.cells #[.slice a len cap] 22) = W2 := ⟨_, rfl⟩
  have hB2 : Below n₀ W W2 := by
    rw [← hW2]; exact ((((Below.refl _ W).alloc (Nat.le_refl _) _).alloc (by simp) _).alloc (by simp; omega) _).mono hn₀
  have hz2 : W2.heap.size = W.heap.size + 3 := by rw [← hW2]; simp
  have bY : Blk W2 W.heap.size 52 #[.func (.yield l) #[] #[]] := by rw [← hW2]; exact ((Blk.new W _ _).alloc _).alloc _
  have bF2 : Blk W2 Bf 25 #[.slice fa flen fcap] := by rw [← hW2]; exact ((bF.alloc _).alloc _).alloc _
  have bS : Blk W2 (W.heap.size + 1 + 1) 22 #[.slice a len cap] := by
    rw [← hW2]; have := Blk.new ((W.alloc (.cells #[.func (.yield l) #[] #[]] 52)).alloc (.cells #[.int .i64 v, .slice a len cap] 24)) 22 #[.slice a len cap]
    simp only [World.size_alloc] at this; exact this
  have hJ2 : J (pairs (flowOf fl ([] : List (AtOf es)))) W2 := by rw [← hW2]; exact hJ.alloc _ (hJ.alloc _ (hJ.alloc _ h0))
  rw [hW2]
  clear hW2 hedges
  refine range_edges (s := 4) (q := 5) (by omega) (W.heap.size + 1 + 1) n₀ a len cap es rfl bS (by omega) (hE.below hB2)
    (fun pre W' => ((Blk W' Bf 25 #[.slice fa flen fcap] ∧ Blk W' W.heap.size 52 #[.func (.yield l) #[] #[]]) ∧ J (pairs (flowOf fl pre)) W') ∧ Below n₀ W W')
    (fun c pre W => False)
    ?hI (fun c => ownFrom_pure _ _) ⟨⟨⟨bF2, bY⟩, hJ2⟩, hB2⟩ ?assign ?body ?done ?stop
  case hI => exact OwnFrom.and (((Own.from (blk_own _ _ _) _).and (Own.from (blk_own _ _ _) _)).and (own_up (own_at hJ _) (by omega))) (ownFrom_below hn₀ (by omega))
  case assign =>
    intro l x W K hK
    gi_wp2
    exact hK
  case body =>
    rintro l₁ pre x W1 Bx hl hlr hbx hz hx ⟨⟨⟨bF, bY⟩, hJ1⟩, hB⟩ hlt
    obtain ⟨lx, c0, c1, c2⟩ := hx.three
    obtain ⟨lF, f0, ff⟩ := bF.one
    obtain ⟨lY, y0, yf⟩ := bY.one
    have hoe := okE_iff.1 (hok.out _ x.mem)
    obtain ⟨u0, u1, v0, v1, hne, e0, e1⟩ := hoe
    have hxl := x.lt
    obtain ⟨b, off, hfa, hcell⟩ := (hF.below hB).2.2.int
    obtain ⟨hbl, hcx⟩ := hcell x.1.1 (by rw [HQ.out]; exact hxl)
    obtain rfl : fa = some ⟨b, off, none⟩ := by
      rcases hfa with h | h
      · rw [HQ.out] at h; omega
      · exact h
    have hxi : (x.1.1 : Int) < (flen : Int) := by have := HlF.out; have := HQ.out; omega
    clear hcell hfa hxl
    have hcx' : W1.cell? ⟨b, off + x.1.1, none⟩ = some (.int .i64 (flowAt fl x.1.1)) := hcx
    clear hcx
    obtain ⟨f, hfe⟩ : ∃ f, flowAt fl x.1.1 = f := ⟨_, rfl⟩
    have hfb := HFF.out _ (zip_at HQ.out x)
    rw [hfe] at hcx' hfb
    dsimp only at hfb
    have HP : Hid (pairs (flowOf fl (pre ++ [x])) = pairs (flowOf fl pre) ++ pairsE (x.1.2, f)) := Lib.hid (by rw [flowOf_snoc, pairs_snoc, hfe])
    have HNE := Lib.hid hne
    obtain ⟨hf0, hf1⟩ := hfb
    clear hfe hne
    have hin1 : inR v.toNat (x.1.2.1, x.1.2.2.1) := ⟨by omega, by omega, by omega, by omega⟩
    have hin2 : inR v.toNat (x.1.2.2.1, x.1.2.1) := ⟨by omega, by omega, by omega, by omega⟩
    dsimp only [roundF]
    simp only [List.setIfInBounds_toArray, List.set_cons_zero, List.set_cons_succ]
    by_cases hlow : f < x.1.2.2.2
    · have hd : decide (f < x.1.2.2.2) = true := by simpa using hlow
      obtain ⟨fn, tmps, assign, body, hy, hR⟩ := hY _ (x.1.2.1, x.1.2.2.1) W1.drew (own_drew hJ hJ1) hin1
      have HR := Lib.hid hR
      clear hR
      gi_wp2
      refine region_tail_in 13 (by kernel_rfl) (by kernel_rfl) (by kernel_rfl) ?_
      simp only [List.take_succ_cons, List.take_zero, List.drop_succ_cons, List.drop_zero]
      repeat still_step
      refine wpStill_nil ?_
      gi_wp2
      refine (round_in l₁ (round_deep _ HR.out)).mono ?_
      rintro e W3 ⟨rfl, hJ3, hk3⟩
      have kf3 : KeepsFrom W2.heap.size W1 W3 := ((KeepsOthers.drew W1).from _).trans (hk3.from (by omega))
      have bl3 : Below n₀ W1 W3 := (below_drew (Below.refl n₀ W1)).trans hk3.low
      have bF3 := hk3.blk bF.drew (.inr (.inl rfl))
      have bY3 := hk3.blk bY.drew (.inr (.inr (Nat.le_refl _)))
      have hx3 := hk3.blk hx.drew (.inr (.inr (by omega)))
      have hcx3 := (bl3.cell (p := ⟨b, off + x.1.1, none⟩) hbl).trans hcx'
      clear hy HR hk3 c0 c1 c2 f0 ff y0 yf hcx' lx lF lY hx bF bY
      obtain ⟨lx, c0, c1, c2⟩ := hx3.three
      obtain ⟨lF, f0, ff⟩ := bF3.one
      obtain ⟨lY, y0, yf⟩ := bY3.one
      by_cases hpos : 0 < f
      · have hd2 : decide (0 < f) = true := by simpa using hpos
        have HPE : Hid (pairs (flowOf fl (pre ++ [x])) = (pairs (flowOf fl pre) ++ [(x.1.2.1, x.1.2.2.1)]) ++ [(x.1.2.2.1, x.1.2.1)]) := Lib.hid (by rw [HP.out]; simp [pairsE, hlow, hpos])
        obtain ⟨fn, tmps, assign, body, hy, hR⟩ := hY _ (x.1.2.2.1, x.1.2.1) W3 hJ3 hin2
        have HR := Lib.hid hR
        clear hR
        gi_wp2
        refine (round_in l₁ (round_deep _ HR.out)).mono ?_
        rintro e W4 ⟨rfl, hJ4, hk4⟩
        clear hy HR
        gi_wp2
        exact ⟨kf3.trans (hk4.from (by omega)), bl3.trans hk4.low, ⟨⟨hk4.blk bF3 (.inr (.inl rfl)), hk4.blk bY3 (.inr (.inr (Nat.le_refl _)))⟩, by rw [HPE.out]; exact hJ4⟩, (hB.trans bl3).trans hk4.low⟩
      · have hd2 : decide (0 < f) = false := by simpa using hpos
        have HPE : Hid (pairs (flowOf fl (pre ++ [x])) = pairs (flowOf fl pre) ++ [(x.1.2.1, x.1.2.2.1)]) := Lib.hid (by rw [HP.out]; simp [pairsE, hlow, hpos])
        gi_wp2
        refine ⟨fun _ _ => trivial, ?_⟩
        gi_wp2
        exact ⟨kf3, bl3, ⟨⟨bF3, bY3⟩, by rw [HPE.out]; exact hJ3⟩, hB.trans bl3⟩
    · have hd : decide (f < x.1.2.2.2) = false := by simpa using hlow
      gi_wp2
      refine region_quiet_round (by kernel_rfl) (by kernel_rfl) (by kernel_rfl) (by rintro ⟨_, _, h⟩; exact h) ?_
      repeat (go_big_quiet_step (fail))
      refine wpQuiet_nil ?_
      intro _ hw'
      obtain ⟨nq, hw''⟩ := hw'
      subst hw''
      by_cases hpos : 0 < f
      · have hd2 : decide (0 < f) = true := by simpa using hpos
        have HPE : Hid (pairs (flowOf fl (pre ++ [x])) = pairs (flowOf fl pre) ++ [(x.1.2.2.1, x.1.2.1)]) := Lib.hid (by rw [HP.out]; simp [pairsE, hlow, hpos])
        obtain ⟨fn, tmps, assign, body, hy, hR⟩ := hY _ (x.1.2.2.1, x.1.2.1) (W1.drewN nq) (own_drewN hJ nq hJ1) hin2
        have HR := Lib.hid hR
        clear hR
        gi_wp2
        refine (round_in l₁ (round_deep _ HR.out)).mono ?_
        rintro e W4 ⟨rfl, hJ4, hk4⟩
        clear hy HR
        gi_wp2
        exact ⟨((ko_drewN W1 nq).from _).trans (hk4.from (by omega)), (below_drewN (Below.refl n₀ W1) nq).trans hk4.low, ⟨⟨hk4.blk (bF.drewN nq) (.inr (.inl rfl)), hk4.blk (bY.drewN nq) (.inr (.inr (Nat.le_refl _)))⟩, by rw [HPE.out]; exact hJ4⟩, (below_drewN hB nq).trans hk4.low⟩
      · have hd2 : decide (0 < f) = false := by simpa using hpos
        have HPE : Hid (pairs (flowOf fl (pre ++ [x])) = pairs (flowOf fl pre)) := Lib.hid (by rw [HP.out]; simp [pairsE, hlow, hpos])
        gi_wp2
        refine ⟨fun _ _ => trivial, ?_⟩
        gi_wp2
        exact ⟨(ko_drewN W1 nq).from _, below_drewN (Below.refl n₀ W1) nq, ⟨⟨bF.drewN nq, bY.drewN nq⟩, by rw [HPE.out]; exact own_drewN hJ nq hJ1⟩, below_drewN hB nq⟩
  case done =>
    rintro D ys W3 hD hys ⟨⟨⟨_, _⟩, hJ3⟩, hB⟩ hK
    rw [flowOf_all HQ.out hys] at hJ3
    gi_wp2
    refine ⟨by simp, .inl ⟨_, _, rfl, run_takeDeferred hK, ?_⟩⟩
    exact ⟨_, results_none rfl _ _ _, ⟨_, rfl⟩, hJ.putObj _ hJ3 (by omega) hK rfl⟩
  case stop =>
    rintro D c pre W hD h hK
    exact h.elim
end Go.Proofs.Ythaioeebnpjajaa
