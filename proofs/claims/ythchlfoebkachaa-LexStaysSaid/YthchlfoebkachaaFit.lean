/-
  The laws' own helper Fit: raw networks brought to right ones.
-/
import Derived.Test.YthchlfoebkachaaLaw
namespace Go.Proofs.Ythchlfoebkachaa
open Go.RowKit Gm

/-- Each field of each edge is a number of 64 bits. -/
def Wide (es : List E) : Prop := ∀ e ∈ es, I64 e.1 ∧ I64 e.2.1 ∧ I64 e.2.2
/-- The cells of edges, one behind the other. -/
def flat (es : List E) : List Value := es.flatMap fun e => [.int .i64 e.1, .int .i64 e.2.1, .int .i64 e.2.2]
theorem flat_length (es : List E) : (flat es).length = es.length * 3 := by
  induction es with
  | nil => rfl
  | cons e l ih => simp only [flat, List.flatMap_cons, List.length_append, List.length_cons, List.length_nil] at ih ⊢; omega
theorem flat_snoc (es : List E) (e : E) : flat (es ++ [e]) = flat es ++ [.int .i64 e.1, .int .i64 e.2.1, .int .i64 e.2.2] := by simp [flat]
theorem flat_at (es : List E) (i : Nat) (h : i < es.length) : (flat es)[i * 3]? = some (.int .i64 es[i].1) ∧ (flat es)[i * 3 + 1]? = some (.int .i64 es[i].2.1) ∧ (flat es)[i * 3 + 2]? = some (.int .i64 es[i].2.2) := by
  induction es generalizing i with
  | nil => simp at h
  | cons e l ih =>
    cases i with
    | zero => simp [flat]
    | succ i =>
      have := ih i (by simpa using h)
      simp only [flat, List.flatMap_cons, List.getElem_cons_succ] at this ⊢
      refine ⟨?_, ?_, ?_⟩
      · rw [List.getElem?_append_right (by simp; omega)]
        simp only [List.length_cons, List.length_nil]
        rw [show (i + 1) * 3 - (0 + 1 + 1 + 1) = i * 3 by omega]; exact this.1
      · rw [List.getElem?_append_right (by simp; omega)]
        simp only [List.length_cons, List.length_nil]
        rw [show (i + 1) * 3 + 1 - (0 + 1 + 1 + 1) = i * 3 + 1 by omega]; exact this.2.1
      · rw [List.getElem?_append_right (by simp; omega)]
        simp only [List.length_cons, List.length_nil]
        rw [show (i + 1) * 3 + 2 - (0 + 1 + 1 + 1) = i * 3 + 2 by omega]; exact this.2.2
theorem edges_own {W : World} {base : Nat} {a : Option Addr} {len cap : Nat} {es : List E} (h : W.ownsRow base 50 3 (.slice a len cap) es.length (flat es)) (hl : es.length ≤ 5864062014805) : len = es.length ∧ NetAt W.heap.size W a len es := by
  rcases h.2 with ⟨h1, h2⟩ | ⟨g, cap', cur, hv, hb, hg, hle, hm, hs, ht⟩
  · injection h1 with e1 e2 e3
    subst e1 e2
    exact ⟨by omega, by omega, by omega, 0, 0, .inl h2, fun i hi => by omega⟩
  · injection hv with e1 e2 e3
    subst e1 e2
    refine ⟨rfl, rfl, hl, g, 0, .inr rfl, fun i hi => ?_⟩
    have hlt : g < W.heap.size := (Array.getElem?_eq_some_iff.1 hg).1
    have hat : ∀ j, j < es.length * 3 → W.cell? ⟨g, j, none⟩ = (flat es)[j]? := fun j hj => by
      rw [cell_of_row W g j cur 50 (0, 0) hg, ← ht, List.getElem?_take_of_lt hj, Array.getElem?_toList]
    obtain ⟨f0, f1, f2⟩ := flat_at es i hi
    refine ⟨hlt, ?_, ?_, ?_⟩
    · rw [Nat.zero_add, hat _ (by omega), f0]
    · rw [Nat.zero_add, hat _ (by omega), f1]
    · rw [Nat.zero_add, hat _ (by omega), f2]
theorem infoEdge : (Try.prog.info? 50).map (fun i => (i.zero, i.size, i.bytes)) = some (some (.agg #[.int .i64 0, .int .i64 0, .int .i64 0]), 3, 24) := by kernel_rfl
theorem cells_three (w : World) (x y z : Value) (t : TypeId) : ∀ j u, [x, y, z][j]? = some u → (w.alloc (.cells #[x, y, z] t)).cell? ((⟨w.heap.size, 0, none⟩ : Addr).add j) = some u := by
  intro j u hj
  have h : (w.alloc (.cells #[x, y, z] t)).heap[w.heap.size]? = some (.cells #[x, y, z] t (0, 0)) := World.alloc_heap_new w _
  have hadd : (⟨w.heap.size, 0, none⟩ : Addr).add j = ⟨w.heap.size, j, none⟩ := by unfold Addr.add; split <;> simp_all
  rw [hadd, cell_of_row _ _ _ _ _ _ h]
  simpa using hj

/-- What Fit answers. -/
def FitPost (v : Int) (es : List E) (w : World) (e : Ending) (w' : World) : Prop :=
  ∃ a cap, e = .returned (netV (fitN v) a (fitEs (fitN v) es).length cap) ∧ NetAt w'.heap.size w' a (fitEs (fitN v) es).length (fitEs (fitN v) es) ∧ Below w.heap.size w w'

theorem own_blk_ne {W : World} {base g size n : Nat} {e t : TypeId} {cs : Array Value} {v : Value} {xs : List Value} (h : W.ownsRow base e size v n xs) (hg : Blk W g t cs) (hne : e ≠ t) : v.ownBlock ≠ some g := by
  rcases h.2 with ⟨rfl, _⟩ | ⟨g', cap, cur, rfl, _, hh, _⟩
  · simp [Value.ownBlock]
  · intro he
    have : g' = g := by simpa [Value.ownBlock] using he
    subst this
    exact Blk.ne (t := e) hh hg hne rfl
theorem own_old_ne {W : World} {base size n : Nat} {e : TypeId} {v : Value} {xs : List Value} (h : W.ownsRow base e size v n xs) {g : Nat} (hg : W.heap.size ≤ g) : v.ownBlock ≠ some g := fun e' => by
  have := (h.lt g e').2; omega
theorem own_form {W : World} {base size n : Nat} {e : TypeId} {v : Value} {xs : List Value} (h : W.ownsRow base e size v n xs) : ∃ A c, v = .slice A n c := by
  rcases h.2 with ⟨rfl, rfl⟩ | ⟨g, cap, cur, rfl, _⟩
  · exact ⟨_, _, rfl⟩
  · exact ⟨_, _, rfl⟩
/-- A piece of code that ends in one frame and one world, whatever the order. -/
theorem once_after {c : Code} {P : Program} {Q : Exit → Act → World → Prop} {a : Act} {w : World} (A : Act) (W : World) (h : c.wp P (fun e a' w' => e = .normal ∧ a' = A ∧ w' = W) a w) (hq : Q .normal A W) : c.wp P Q a w :=
  wp_mono h fun _ _ _ ⟨h1, h2, h3⟩ => by rw [h1, h2, h3]; exact hq
def FitAt (w : World) (v N : Int) (a : Option Addr) (len cap : Nat) (es : List E) (k : Nat) (wr : World) : Prop :=
  (Blk wr w.heap.size 24 #[.int .i64 v, .slice a len cap] ∧ Blk wr (w.heap.size + 1) 24 #[.int .i64 0, .slice none 0 0]) ∧ (∃ sl, Blk wr (w.heap.size + 1 + 1) 24 #[.int .i64 N, sl] ∧ wr.ownsRow w.heap.size 50 3 sl k (flat ((es.take k).map (fitE N)))) ∧ Below w.heap.size w wr

set_option maxRecDepth 100000 in
set_option maxHeartbeats 2000000 in
theorem fit_any (v : Int) (a : Option Addr) (len cap : Nat) (es : List E) (w : World) (hE : NetAt w.heap.size w a len es) (hv : I64 v) (hW : Wide es) :
    Calls Try.prog 13 #[netV v a len cap] w (FitPost v es w) := by
  have hN := fitN_bd v
  have HN : Hid (2 + pk v 8 = fitN v) := Lib.hid rfl
  have hp8 := pk_bd v 8 (by omega)
  have HlE := Lib.hid hE.1
  have HW := Lib.hid hW
  have HE := Lib.hid hE
  clear hE hW
  obtain ⟨N, hNe⟩ : ∃ N, fitN v = N := ⟨_, rfl⟩
  rw [hNe] at hN HN
  obtain ⟨hN1, hN2⟩ := hN
  have HNE := Lib.hid hNe
  clear hNe
  obtain ⟨i0, hi0, hz0, hz1, hz2⟩ := info_parts infoEdge
  go_enter Try.func13, Try.ntmps13
  go_wp2_with (go_at_call 28; refine (pick_any _ _ _ hv (by omega) (by omega)).mono ?_; rintro e w1 ⟨rfl, rfl⟩)
  rw [HN.out]
  go_loopw [4] (fun i wr => ∃ k : Nat, k ≤ len ∧ k ≤ 40 ∧ i = .int .i64 k ∧ FitAt w v N a len cap es k wr) (fun i _ => len - (intOf i).toNat)
  case atStart =>
    refine ⟨0, Nat.zero_le _, by omega, rfl, ⟨((Blk.new w _ _).alloc _).alloc _, ?_⟩, ⟨.slice none 0 0, ?_, by simp [flat], .inl ⟨rfl, rfl⟩⟩, (((Below.refl _ w).alloc (Nat.le_refl _) _).alloc (by simp) _).alloc (by simp; omega) _⟩
    · have := (Blk.new (w.alloc (.cells #[.int .i64 v, .slice a len cap] 24)) 24 #[.int .i64 0, .slice none 0 0]).alloc (.cells #[.int .i64 N, .slice none 0 0] 24)
      simp only [World.size_alloc] at this; exact this
    · have := Blk.new ((w.alloc (.cells #[.int .i64 v, .slice a len cap] 24)).alloc (.cells #[.int .i64 0, .slice none 0 0] 24)) 24 #[.int .i64 N, .slice none 0 0]
      simp only [World.size_alloc] at this; exact this
  case round =>
    obtain ⟨k, hk, hk40, rfl, ⟨bN, bR⟩, ⟨sl, bM, hown⟩, hB⟩ := hrel
    obtain ⟨lN, n0, n1⟩ := bN.two
    obtain ⟨lM, m0, m1⟩ := bM.two
    have mf := bM.frozen 1
    by_cases hlt : k < len ∧ k < 40
    · obtain ⟨h1, h2⟩ := hlt
      have hkl : k < es.length := by rw [HlE.out]; exact h1
      obtain ⟨b, off, ha, hc⟩ := (HE.out.below hB).2.2
      obtain ⟨hb, c0, c1, c2⟩ := hc k hkl
      obtain rfl : a = some ⟨b, off, none⟩ := by
        rcases ha with h | h
        · omega
        · exact h
      clear ha hc
      obtain ⟨x, hx⟩ : ∃ x, es[k] = x := ⟨_, rfl⟩
      have hxw := HW.out _ (List.getElem_mem hkl)
      rw [hx] at c0 c1 c2 hxw
      have HT : Hid ((es.take (k + 1)).map (fitE N) = (es.take k).map (fitE N) ++ [fitE N x]) := Lib.hid (by
        rw [List.take_succ_eq_append_getElem hkl, hx, List.map_append]; rfl)
      have HX := Lib.hid hxw
      have hki : (k : Int) < (len : Int) := by omega
      clear hx hkl hxw
      go_wp2
      apply once_after
      · go_region_held3 (fun w' => w'.cell? ⟨w.heap.size, 1, none⟩ = some (.slice (some ⟨b, off, none⟩) len cap) ∧ w'.cell? ⟨w.heap.size + 1 + 1, 0, none⟩ = some (.int .i64 N) ∧ w'.cell? ⟨b, off + k * 3, none⟩ = some (.int .i64 x.1) ∧ w'.cell? ⟨b, off + k * 3 + 1, none⟩ = some (.int .i64 x.2.1) ∧ w'.cell? ⟨b, off + k * 3 + 2, none⟩ = some (.int .i64 x.2.2)) (go_keep)
          (first | (go_at_call 28; refine (pick_any _ _ _ (by have := HX.out; first | exact this.1 | exact this.2.1 | exact this.2.2) (by omega) (by omega)).mono ?_; rintro e w5 ⟨rfl, rfl⟩))
        all_goals exact ⟨rfl, rfl, rfl⟩
      · obtain ⟨p, hp⟩ : ∃ p, pk x.1 N = p := ⟨_, rfl⟩
        obtain ⟨q, hq⟩ : ∃ q, pk x.2.1 N = q := ⟨_, rfl⟩
        obtain ⟨c, hcc⟩ : ∃ c, pk x.2.2 10 = c := ⟨_, rfl⟩
        have hpb := pk_bd x.1 N (by omega)
        have hqb := pk_bd x.2.1 N (by omega)
        rw [hp] at hpb
        rw [hq] at hqb
        have HF : Hid (fitE N x = (p, if p = q then (q + 1) % N else q, c)) := Lib.hid (by simp [fitE, hp, hq, hcc])
        rw [hp, hq, hcc]
        clear hp hq hcc c0 c1 c2 n0 n1 m0 m1 mf
        have bE := (Blk.new wr 50 #[.int .i64 p, .int .i64 q, .int .i64 c]).drew
        have bN1 := (bN.alloc (.cells #[.int .i64 p, .int .i64 q, .int .i64 c] 50)).drew
        have bR1 := (bR.alloc (.cells #[.int .i64 p, .int .i64 q, .int .i64 c] 50)).drew
        have bM1 := (bM.alloc (.cells #[.int .i64 p, .int .i64 q, .int .i64 c] 50)).drew
        have hown1 := (hown.alloc (.cells #[.int .i64 p, .int .i64 q, .int .i64 c] 50)).drew
        have hB1 := below_drew (hB.alloc hB.size (.cells #[.int .i64 p, .int .i64 q, .int .i64 c] 50))
        have hwr := hB.size
        have hslne := own_old_ne hown (Nat.le_refl _)
        have hlM : w.heap.size + 1 + 1 < wr.heap.size := lM
        have hsz : ((wr.alloc (.cells #[.int .i64 p, .int .i64 q, .int .i64 c] 50)).drew).heap.size = wr.heap.size + 1 := by simp
        obtain ⟨g0, hg0⟩ : ∃ g, wr.heap.size = g := ⟨_, rfl⟩
        rw [hg0] at bE hwr hlM hsz hslne ⊢
        generalize (wr.alloc (.cells #[.int .i64 p, .int .i64 q, .int .i64 c] 50)).drew = W1 at *
        clear hg0 bN bR bM hown hB lN lM
        obtain ⟨lE, e0, e1, e2⟩ := bE.three
        have ef := bE.frozen 1
        obtain ⟨lM, m0, m1⟩ := bM1.two
        have mf := bM1.frozen 1
        clear hsz
        by_cases hpq : p = q
        · have t1 : (p == q) = true := by simpa using hpq
          have HF' : Hid (fitE N x = (p, (q + 1) % N, c)) := Lib.hid (by rw [HF.out, if_pos hpq])
          have hs1 : 0 ≤ q + 1 := by omega
          clear hpq
          go_wp2_with (
             at_builtin
             refine wpList_append_own _ rfl _ _ 22 rfl w.heap.size 50 i0 _ 3 24 Try.underlying22 hi0 hz0 hz1 hz2 rfl (by decide) _ k (flat ((es.take k).map (fitE N))) rfl ((ownsRow_setCell_other hown1 (a := ⟨g0, 1, none⟩) hslne _).alloc _) ⟨W1.heap.size, 0, none⟩ 1 1 [.int .i64 p, .int .i64 ((q + 1) % N), .int .i64 c] rfl rfl (by have := cells_three (W1.setCell ⟨g0, 1, none⟩ (.int .i64 ((q + 1) % N))) (.int .i64 p) (.int .i64 ((q + 1) % N)) (.int .i64 c) 50; simpa using this) (by simp [Value.oneCell']) (by simp [maxLen]; omega) (by omega) (by simp; omega) ?_
             intro v' w3 hown' hgrow hnil
             obtain ⟨g', cap', rfl⟩ := ownsRow_succ hown'
             have bM3 := ((bM1.far (p := ⟨g0, 1, none⟩) (by simp; omega) (.int .i64 ((q + 1) % N))).alloc _).kept hgrow (own_blk_ne hown1 bM1 (by decide)).symm
             have bN3 := ((bN1.far (p := ⟨g0, 1, none⟩) (by simp; omega) (.int .i64 ((q + 1) % N))).alloc _).kept hgrow (own_blk_ne hown1 bN1 (by decide)).symm
             have bR3 := ((bR1.far (p := ⟨g0, 1, none⟩) (by simp; omega) (.int .i64 ((q + 1) % N))).alloc _).kept hgrow (own_blk_ne hown1 bR1 (by decide)).symm
             have hB3 := ((hB1.setCell (p := ⟨g0, 1, none⟩) (by simp; omega) (.int .i64 ((q + 1) % N))).alloc (by have := hB1.size; simp; omega) _).grown hgrow (by have := hB1.size; simp; omega) (fun j e => (hown1.lt j e).1)
             obtain ⟨lM3, q0, q1⟩ := bM3.two
             have qf := bM3.frozen 1)
          go_roundw
          case rel =>
            refine ⟨k + 1, by omega, by omega, by go_num, ⟨bN3.far (p := ⟨w.heap.size + 1 + 1, 1, none⟩) (by simp; omega) _, bR3.far (p := ⟨w.heap.size + 1 + 1, 1, none⟩) (by simp) _⟩, ⟨_, bM3.set 1 _, ?_⟩, hB3.setCell (p := ⟨w.heap.size + 1 + 1, 1, none⟩) (by simp; omega) _⟩
            rw [HT.out, flat_snoc, HF'.out]
            exact ownsRow_setCell_other hown' (own_blk_ne hown' bM3 (by decide)) _
          case measure => simp [intOf]; omega
        · have t1 : (p == q) = false := by simpa using hpq
          have HF' : Hid (fitE N x = (p, q, c)) := Lib.hid (by rw [HF.out, if_neg hpq])
          clear hpq
          go_wp2_with (
             at_builtin
             refine wpList_append_own _ rfl _ _ 22 rfl w.heap.size 50 i0 _ 3 24 Try.underlying22 hi0 hz0 hz1 hz2 rfl (by decide) _ k (flat ((es.take k).map (fitE N))) rfl (hown1.alloc _) ⟨W1.heap.size, 0, none⟩ 1 1 [.int .i64 p, .int .i64 q, .int .i64 c] rfl rfl (cells_three _ _ _ _ _) (by simp [Value.oneCell']) (by simp [maxLen]; omega) (by omega) (by simp; omega) ?_
             intro v' w3 hown' hgrow hnil
             obtain ⟨g', cap', rfl⟩ := ownsRow_succ hown'
             have bM3 := (bM1.alloc _).kept hgrow (own_blk_ne hown1 bM1 (by decide)).symm
             have bN3 := (bN1.alloc _).kept hgrow (own_blk_ne hown1 bN1 (by decide)).symm
             have bR3 := (bR1.alloc _).kept hgrow (own_blk_ne hown1 bR1 (by decide)).symm
             have hB3 := (hB1.alloc hB1.size _).grown hgrow (by have := hB1.size; simp; omega) (fun j e => (hown1.lt j e).1)
             obtain ⟨lM3, q0, q1⟩ := bM3.two
             have qf := bM3.frozen 1)
          go_roundw
          case rel =>
            refine ⟨k + 1, by omega, by omega, by go_num, ⟨bN3.far (p := ⟨w.heap.size + 1 + 1, 1, none⟩) (by simp; omega) _, bR3.far (p := ⟨w.heap.size + 1 + 1, 1, none⟩) (by simp) _⟩, ⟨_, bM3.set 1 _, ?_⟩, hB3.setCell (p := ⟨w.heap.size + 1 + 1, 1, none⟩) (by simp; omega) _⟩
            rw [HT.out, flat_snoc, HF'.out]
            exact ownsRow_setCell_other hown' (own_blk_ne hown' bM3 (by decide)) _
          case measure => simp [intOf]; omega
    · have hkk : k = min 40 es.length := by have := HlE.out; omega
      have HFE : Hid (flat ((es.take k).map (fitE N)) = flat (fitEs N es)) := Lib.hid (by
        unfold fitEs
        rw [hkk]
        rcases Nat.le_total 40 es.length with h | h
        · rw [Nat.min_eq_left h]
        · rw [Nat.min_eq_right h, List.take_of_length_le (Nat.le_refl _), List.take_of_length_le h])
      have HKL : Hid (k = (fitEs N es).length) := Lib.hid (by rw [fitEs_length]; exact hkk)
      obtain ⟨lR, r0, r1⟩ := bR.two
      have rf0 := bR.frozen 0
      have rf1 := bR.frozen 1
      clear hkk
      obtain ⟨sa, sc, rfl⟩ := own_form hown
      have hex : ¬ k < len ∨ (k < len ∧ ¬ k < 40) := by omega
      have hR2 := ((bR.set 0 (.int .i64 N)).set 1 (.slice sa k sc))
      obtain ⟨_, z0, z1⟩ := hR2.two
      have hown2 : ((wr.setCell ⟨w.heap.size + 1, 0, none⟩ (.int .i64 N)).setCell ⟨w.heap.size + 1, 1, none⟩ (.slice sa k sc)).ownsRow w.heap.size 50 3 (.slice sa k sc) k (flat ((es.take k).map (fitE N))) :=
        ownsRow_setCell_other (ownsRow_setCell_other hown (a := ⟨w.heap.size + 1, 0, none⟩) (own_blk_ne hown bR (by decide)) _) (a := ⟨w.heap.size + 1, 1, none⟩) (own_blk_ne hown bR (by decide)) _
      have hB2 := (hB.setCell (p := ⟨w.heap.size + 1, 0, none⟩) (by simp) (.int .i64 N)).setCell (p := ⟨w.heap.size + 1, 1, none⟩) (by simp) (.slice sa k sc)
      rcases hex with hex | ⟨hex, hex'⟩
      all_goals
        go_wp2
        refine bodyPost_ret (v := netV N sa k sc) (by simp [results, Try.results13, go_sem, z0, z1]) rfl ?_
        rw [HFE.out] at hown2
        have hk2 := HKL.out
        have hlen2 : (fitEs N es).length ≤ 5864062014805 := by rw [fitEs_length]; omega
        subst hk2
        have hE2 := edges_own hown2 hlen2
        unfold FitPost
        rw [HNE.out]
        exact ⟨sa, sc, rfl, hE2.2, hB2⟩
end Go.Proofs.Ythchlfoebkachaa
