/-
  What Push and Max answer of good flows, as numbers.
  How much can flow, compared by cuts: with Caps doubled, with an edge closed, one more, one parted, all turned.
  Networks in which some sources alone are open, as numbers: what flows through some sources is no more than can flow where these alone are open.
  What Fill makes, as numbers: a push leaves no source less; ways; one source after the other.
  Fill as a whole, as numbers: its form, its stages, and that for each source as much flows through it and those ahead of it as can.
  A trail: edges walked so far, as the laws' Ways walks them. One that has come to t is a way.
  What follows for two fillings: alone and together, fewer sources, other orders, a greater Cap.
  What was filled, taken apart into ways of one unit, is filled again.
  A path that visits no vertex twice has fewer edges than there are vertices: so the program's own check of a path is the document's.
  What Fill answers at the laws' own examples.
-/
import Derived.Test.YthchlfoebkachaaQmax
import Derived.Test.YthchlfoebkachaaTurned
namespace Go.Proofs.Ythchlfoebkachaa
open Go.RowKit Gm

theorem pushF_good {n : Nat} {es : List E} {fl : List Int} {s t most : Int} (h : GoodG n es fl s t) (hm : 0 ≤ most) : ∃ R : List Int × Int, pushF n es fl s t most = (R.1, R.2, 0) ∧ Gm.Rest n es s t most (fl, 0) R := by
  refine ⟨pushed n es s t most (fl, 0), ?_, pushed_is (st := (fl, 0)) h hm⟩
  unfold pushF
  rw [goodG_iff.2 h]
  simp [hm]
theorem most_some {n : Nat} {es : List E} {fl : List Int} {s t : Int} (h : GoodG n es fl s t) : ∃ M, Most n es s t M := by
  have hr := pushed_is (most := 1000000) (st := (fl, 0)) h (show (0 : Int) ≤ 1000000 by omega)
  rcases hr.full with e | e
  · have h1 := hr.more
    have h2 := hr.good.bound
    have h3 := h.bound
    dsimp only at h1
    omega
  · exact ⟨_, (most_of hr.good e).1⟩
/-- Max: a good flow with as much as can, behind which t is not reached. -/
theorem maxF_good {n : Nat} {es : List E} {s t : Int} (h : right n es = true) (s0 : 0 ≤ s) (s1 : s < n) (t0 : 0 ≤ t) (t1 : t < n) (ne : s ≠ t) : ∃ R : List Int × Int, maxF n es s t = (R.1, R.2, 0) ∧ GoodG n es R.1 s t ∧ gain (es.zip R.1) s = R.2 ∧ Most n es s t R.2 ∧ has (bfs n es R.1 s).seen t = false ∧ 0 ≤ R.2 ∧ R.2 ≤ 256000 := by
  obtain ⟨hz, hz0⟩ := GoodG.zero h s0 s1 t0 t1 ne
  have hl : min es.length 300 = es.length := by have := (right_iff.1 h).2.2.1; omega
  obtain ⟨R, hR, hr⟩ := pushF_good (most := 1073741824) hz (by omega)
  have h1 := hr.more
  have h2 := hr.good.bound
  have h3 := hr.lo
  dsimp only at h1 h3
  rw [hz0] at h1
  have hf : has (bfs n es R.1 s).seen t = false := by
    rcases hr.full with e | e
    · omega
    · exact e
  have hg : gain (es.zip R.1) s = R.2 := by omega
  refine ⟨R, by unfold maxF; rw [hl]; exact hR, hr.good, hg, ?_, hf, h3, by omega⟩
  have := (most_of hr.good hf).1
  rw [hg] at this; exact this
end Go.Proofs.Ythchlfoebkachaa

namespace Go.Proofs.Ythchlfoebkachaa.Gm
open Go.Proofs.Ythchlfoebkachaa

theorem cut_sum {n : Nat} {es : List E} {r : List Bool} (hr : right n es = true) (hl : r.length = n) : cut n es r = cutSum r es := by
  unfold cut
  rw [hr, hl]; simp
/-- A cut that is just what can flow. -/
theorem Most.cut_min {n : Nat} {es : List E} {s t M : Int} (h : Most n es s t M) : ∃ r : List Bool, r.length = n ∧ has r s = true ∧ has r t = false ∧ cutSum r es = M := by
  obtain ⟨fl, hg, _⟩ := h.has_
  obtain ⟨R, _, hG, hgn, hM, hs, _, _⟩ := maxF_good hg.net hg.s0 hg.s1 hg.t0 hg.t1 hg.ne
  have hrc := bfs_reached (fl := R.1) (right_iff.1 hg.net).2.2.2 hG.len hg.s0 hg.s1
  have hl : (bfs n es R.1 s).seen.length = n := by rw [hrc.len]; simp
  refine ⟨(bfs n es R.1 s).seen, hl, hrc.first, hs, ?_⟩
  rw [← cut_sum hg.net hl, (most_of hG hs).2, hgn, hM.one h]
theorem Most.le_cut {n : Nat} {es : List E} {s t M : Int} (h : Most n es s t M) {r : List Bool} (hl : r.length = n) (h0 : has r s = true) (h1 : has r t = false) : M ≤ cutSum r es := by
  obtain ⟨fl, hg, rfl⟩ := h.has_
  rw [← cut_sum hg.net hl]
  exact hg.le_cut hl h0 h1
theorem most_le {n : Nat} {es es' : List E} {s t M M' k k' : Int} (h : Most n es s t M) (h' : Most n es' s t M') (hk : 0 ≤ k) (hc : ∀ r, k * cutSum r es ≤ k' * cutSum r es') : k * M ≤ k' * M' := by
  obtain ⟨r, hl, h0, h1, rfl⟩ := h'.cut_min
  have := Int.mul_le_mul_of_nonneg_left (h.le_cut hl h0 h1) hk
  exact Int.le_trans this (hc r)
theorem most_same {n : Nat} {es es' : List E} {s t M M' : Int} (h : Most n es s t M) (h' : Most n es' s t M') (hc : ∀ r, cutSum r es = cutSum r es') : M = M' := by
  have h1 := most_le h h' (k := 1) (k' := 1) (by omega) (fun r => by rw [hc r]; exact Int.le_refl _)
  have h2 := most_le h' h (k := 1) (k' := 1) (by omega) (fun r => by rw [hc r]; exact Int.le_refl _)
  omega
/-! ### turned -/
theorem most_flip {n : Nat} {es : List E} {M M' : Int} (h : Most n es 0 1 M) (h' : Most n (es.map flip) 1 0 M') : M = M' := by
  have h1 : M ≤ M' := by
    obtain ⟨fl, hg, _⟩ := h.has_
    obtain ⟨R, _, hG, hgn, hM, _, hR0, _⟩ := maxF_good hg.net hg.s0 hg.s1 hg.t0 hg.t1 hg.ne
    have hF : GoodF n es R.1 := ⟨hG.net, hG.len, hG.fit, hG.flat, by omega⟩
    have hgg := goodG_iff.1 (good_flip hF)
    have := h'.le R.1 hgg
    rw [← hgg.value, value_flip hF, hG.value, hgn, hM.one h] at this
    exact this
  have h2 : M' ≤ M := by
    obtain ⟨r, hl, k0, k1, rfl⟩ := h.cut_min
    obtain ⟨fl, hg, _⟩ := h.has_
    have hn := right_iff.1 hg.net
    have := h'.le_cut (r := r.map not) (by simpa using hl) (by rw [has_not (by omega), k1]; rfl) (by rw [has_not (by omega), k0]; rfl)
    rw [cutSum_flip r es (fun e he => by
      have := okE_iff.1 (hn.2.2.2 e he)
      rw [hl]; omega)] at this
    exact this
  omega
/-! ### doubled -/
def dbl (e : E) : E := (e.1, e.2.1, 2 * e.2.2)
theorem cutSum_dbl (r : List Bool) : ∀ es : List E, cutSum r (es.map dbl) = 2 * cutSum r es
  | [] => rfl
  | e :: es => by
    simp only [List.map_cons, cutSum, cutSum_dbl r es, dbl]
    split <;> omega
theorem right_dbl {n : Int} {es : List E} (h : right n es = true) (hc : ∀ e ∈ es, e.2.2 ≤ 500) : right n (es.map dbl) = true := by
  obtain ⟨a, b, c, d⟩ := right_iff.1 h
  refine right_iff.2 ⟨a, b, by simpa using c, ?_⟩
  intro e he
  obtain ⟨x, hx, rfl⟩ := List.mem_map.1 he
  have h1 := okE_iff.1 (d x hx)
  have h2 := hc x hx
  refine okE_iff.2 ?_
  simp only [dbl]
  refine ⟨h1.1, h1.2.1, h1.2.2.1, h1.2.2.2.1, h1.2.2.2.2.1, by omega, by omega⟩
theorem most_dbl {n : Nat} {es : List E} {s t M M' : Int} (h : Most n es s t M) (h' : Most n (es.map dbl) s t M') : M' = 2 * M := by
  have h1 := most_le h h' (k := 2) (k' := 1) (by omega) (fun r => by rw [cutSum_dbl]; omega)
  have h2 := most_le h' h (k := 1) (k' := 2) (by omega) (fun r => by rw [cutSum_dbl]; omega)
  omega
/-! ### one edge set -/
def c1 (r : List Bool) (e : E) : Int := if has r e.1 && !has r e.2.1 then e.2.2 else 0
theorem cutSum_cons (r : List Bool) (e : E) (es : List E) : cutSum r (e :: es) = c1 r e + cutSum r es := rfl
theorem cutSum_set (r : List Bool) (y : E) : ∀ (es : List E) (k : Nat) (h : k < es.length), cutSum r (es.set k y) + c1 r es[k] = cutSum r es + c1 r y
  | [], _, h => by simp at h
  | e :: es, 0, _ => by
    simp only [List.set_cons_zero, cutSum_cons, List.getElem_cons_zero]; omega
  | e :: es, k + 1, h => by
    have ih := cutSum_set r y es k (by simpa using h)
    simp only [List.set_cons_succ, cutSum_cons, List.getElem_cons_succ]; omega
theorem right_set {n : Int} {es : List E} (h : right n es = true) (k : Nat) {y : E} (hy : okE n y = true) : right n (es.set k y) = true := by
  obtain ⟨a, b, c, d⟩ := right_iff.1 h
  refine right_iff.2 ⟨a, b, by simpa using c, fun e he => ?_⟩
  rcases List.mem_or_eq_of_mem_set he with he | rfl
  · exact d e he
  · exact hy
theorem most_shut {n : Nat} {es : List E} {s t M M' : Int} {k : Nat} (hk : k < es.length) (h : Most n es s t M) (h' : Most n (es.set k (es[k].1, es[k].2.1, 0)) s t M') : M' ≤ M := by
  obtain ⟨fl, hg, _⟩ := h.has_
  have ho := okE_iff.1 ((right_iff.1 hg.net).2.2.2 _ (List.getElem_mem hk))
  have h1 := most_le h' h (k := 1) (k' := 1) (by omega) (fun r => by
    have := cutSum_set r (es[k].1, es[k].2.1, 0) es k hk
    have e1 : c1 r (es[k].1, es[k].2.1, 0) = 0 := by simp [c1]
    have e2 : 0 ≤ c1 r es[k] := by unfold c1; split <;> omega
    omega)
  omega
/-! ### one more -/
theorem most_more {n : Nat} {es : List E} {s t M M' : Int} {e : E} (he : 0 ≤ e.2.2) (h : Most n es s t M) (h' : Most n (es ++ [e]) s t M') : M ≤ M' := by
  have h1 := most_le h h' (k := 1) (k' := 1) (by omega) (fun r => by
    rw [cutSum_app]
    have e2 : 0 ≤ cutSum r [e] := by simp only [cutSum]; split <;> omega
    omega)
  omega
theorem pk_id {x n : Int} (h0 : 0 ≤ x) (h1 : x < n) : pk x n = x := by
  unfold pk
  rw [if_neg (by omega), Int.emod_eq_of_lt h0 h1]
theorem fitN_id {n : Int} (h0 : 2 ≤ n) (h1 : n ≤ 9) : fitN (n - 2) = n := by
  unfold fitN
  rw [pk_id (by omega) (by omega)]; omega
theorem fitE_id {n : Int} {e : E} (h : okE n e = true) (hc : e.2.2 ≤ 9) : fitE n e = e := by
  have ho := okE_iff.1 h
  unfold fitE
  rw [pk_id ho.1 ho.2.1, pk_id ho.2.2.1 ho.2.2.2.1, pk_id ho.2.2.2.2.2.1 (by omega), if_neg ho.2.2.2.2.1]
theorem fitEs_id {n : Int} {es : List E} (h : ∀ e ∈ es, okE n e = true ∧ e.2.2 ≤ 9) (hl : es.length ≤ 40) : fitEs n es = es := by
  unfold fitEs
  rw [List.take_of_length_le hl]
  apply List.ext_getElem (by simp)
  intro i h1 h2
  rw [List.getElem_map]
  have := h _ (List.getElem_mem h2)
  exact fitE_id this.1 this.2
theorem fitEs_one {n : Int} {es : List E} (h : ∀ e ∈ es, okE n e = true ∧ e.2.2 ≤ 9) (hl : es.length ≤ 40) (e : E) : fitEs n (es ++ [e]) = es ∨ fitEs n (es ++ [e]) = es ++ [fitE n e] := by
  by_cases h40 : es.length = 40
  · left
    unfold fitEs
    rw [List.take_append_of_le_length (by omega)]
    exact fitEs_id h hl
  · right
    unfold fitEs
    rw [List.take_of_length_le (by simp; omega), List.map_append]
    have := fitEs_id h hl
    unfold fitEs at this
    rw [List.take_of_length_le hl] at this
    rw [this]; rfl
theorem most_fit {n : Nat} {es : List E} {s t M M' : Int} {e : E} (hn : 2 ≤ (n : Int)) (hes : ∀ e ∈ es, okE n e = true ∧ e.2.2 ≤ 9) (hl : es.length ≤ 40) (h : Most n es s t M) (h' : Most n (fitEs n (es ++ [e])) s t M') : M ≤ M' := by
  rcases fitEs_one hes hl e with h1 | h1
  · rw [h1] at h'
    have := h.one h'; omega
  · rw [h1] at h'
    have := (okE_iff.1 (fitE_ok hn e).1).2.2.2.2.2.1
    exact most_more this h h'
/-! ### one parted -/
theorem cutSum_rev (r : List Bool) : ∀ es : List E, cutSum r es.reverse = cutSum r es
  | [] => rfl
  | e :: es => by
    rw [List.reverse_cons, cutSum_app, cutSum_rev r es]
    simp only [cutSum]; omega
def parted (es : List E) (k : Nat) (c : Int) : List E := ((ed es k).1, (ed es k).2.1, c) :: (es.set k ((ed es k).1, (ed es k).2.1, (ed es k).2.2 - c)).reverse
theorem cutSum_parted (r : List Bool) {es : List E} {k : Nat} (hk : k < es.length) (c : Int) : cutSum r (parted es k c) = cutSum r es := by
  unfold parted
  have hed : ed es k = es[k] := by unfold ed; rw [List.getElem?_eq_getElem hk]; rfl
  rw [cutSum_cons, cutSum_rev, hed]
  have h1 := cutSum_set r (es[k].1, es[k].2.1, es[k].2.2 - c) es k hk
  have h2 : c1 r (es[k].1, es[k].2.1, c) + c1 r (es[k].1, es[k].2.1, es[k].2.2 - c) = c1 r es[k] := by
    unfold c1
    simp only
    split <;> omega
  omega
theorem right_parted {n : Int} {es : List E} (h : right n es = true) (hl : es.length ≤ 255) {k : Nat} (hk : k < es.length) {c : Int} (c0 : 0 ≤ c) (c1 : c ≤ (ed es k).2.2) : right n (parted es k c) = true := by
  obtain ⟨a, b, d, e⟩ := right_iff.1 h
  have ho := okE_iff.1 (e _ (ed_mem hk))
  have hs := right_set h k (y := ((ed es k).1, (ed es k).2.1, (ed es k).2.2 - c)) (okE_iff.2 ⟨ho.1, ho.2.1, ho.2.2.1, ho.2.2.2.1, ho.2.2.2.2.1, by simp only; omega, by simp only; omega⟩)
  refine right_iff.2 ⟨a, b, by unfold parted; simp; omega, ?_⟩
  intro x hx
  unfold parted at hx
  rcases List.mem_cons.1 hx with rfl | hx
  · exact okE_iff.2 ⟨ho.1, ho.2.1, ho.2.2.1, ho.2.2.2.1, ho.2.2.2.2.1, c0, by simp only; omega⟩
  · exact (right_iff.1 hs).2.2.2 x (by simpa using hx)
end Go.Proofs.Ythchlfoebkachaa.Gm

namespace Go.Proofs.Ythchlfoebkachaa.Gm
open Go.Proofs.Ythchlfoebkachaa

/-! ### sums over places -/
def sumN : Nat → (Nat → Int) → Int
  | 0, _ => 0
  | k + 1, g => sumN k g + g k
theorem sumN_le : ∀ (k : Nat) (g h : Nat → Int), (∀ i, i < k → g i ≤ h i) → sumN k g ≤ sumN k h
  | 0, _, _, _ => Int.le_refl _
  | k + 1, g, h, e => by
    have := sumN_le k g h (fun i hi => e i (by omega))
    have := e k (by omega)
    simp only [sumN]; omega
theorem sumN_congr (k : Nat) (g h : Nat → Int) (e : ∀ i, i < k → g i = h i) : sumN k g = sumN k h := by
  have h1 := sumN_le k g h (fun i hi => by rw [e i hi]; exact Int.le_refl _)
  have h2 := sumN_le k h g (fun i hi => by rw [e i hi]; exact Int.le_refl _)
  omega
theorem sumN_add : ∀ (k : Nat) (g h : Nat → Int), sumN k (fun i => g i + h i) = sumN k g + sumN k h
  | 0, _, _ => rfl
  | k + 1, g, h => by simp only [sumN, sumN_add k g h]; omega
theorem sumN_shift : ∀ (k : Nat) (g : Nat → Int), sumN (k + 1) g = g 0 + sumN k (fun i => g (i + 1))
  | 0, g => by simp [sumN]
  | k + 1, g => by
    have ih := sumN_shift k g
    simp only [sumN] at ih ⊢; omega
theorem sumN_zero (k : Nat) : sumN k (fun _ => 0) = 0 := by
  induction k with
  | zero => rfl
  | succ k ih => simp only [sumN, ih]; rfl
theorem sumN_one (k j : Nat) (c : Int) (h : j < k) : sumN k (fun i => if i = j then c else 0) = c := by
  induction k with
  | zero => omega
  | succ k ih =>
    simp only [sumN]
    by_cases e : j = k
    · subst e
      rw [if_pos rfl, sumN_congr j _ (fun _ => 0) (fun i hi => by rw [if_neg (by omega)]), sumN_zero]; omega
    · rw [ih (by omega), if_neg (by omega)]; omega
theorem cutSum_sum (r : List Bool) : ∀ es : List E, cutSum r es = sumN es.length (fun i => c1 r (ed es i))
  | [] => rfl
  | e :: es => by
    rw [cutSum_cons, List.length_cons, sumN_shift, cutSum_sum r es]
    rfl
theorem gain_sum (x : Int) : ∀ (es : List E) (fl : List Int), fl.length = es.length → gain (es.zip fl) x = sumN es.length (fun i => fa fl i * step es i x)
  | [], _, _ => by simp [gain, sumN]
  | _ :: _, [], h => by simp at h
  | e :: es, f :: fl, h => by
    rw [List.length_cons, sumN_shift, List.zip_cons_cons]
    simp only [gain]
    rw [gain_sum x es fl (by simpa using h)]
    have e1 : ∀ i, fa (f :: fl) (i + 1) * step (e :: es) (i + 1) x = fa fl i * step es i x := fun i => by
      unfold fa step ed; simp
    simp only [e1]
    have e2 : fa (f :: fl) 0 * step (e :: es) 0 x = (if e.1 = x then f else 0) - (if e.2.1 = x then f else 0) := by
      unfold fa step ed
      simp only [List.getElem?_cons_zero, Option.getD_some]
      split <;> split <;> omega
    rw [e2]
theorem cross_sumN (S : Int → Bool) : ∀ (es : List E) (fl : List Int), fl.length = es.length → cross S (es.zip fl) = sumN es.length (fun i => (if S (ed es i).1 then fa fl i else 0) - (if S (ed es i).2.1 then fa fl i else 0))
  | [], _, _ => by simp [cross, sumN]
  | _ :: _, [], h => by simp at h
  | e :: es, f :: fl, h => by
    rw [List.length_cons, sumN_shift, List.zip_cons_cons]
    simp only [cross]
    rw [cross_sumN S es fl (by simpa using h)]
    have e1 : ∀ i, fa (f :: fl) (i + 1) = fa fl i := fun i => by unfold fa; simp
    have e2 : ∀ i, ed (e :: es) (i + 1) = ed es i := fun i => by unfold ed; simp
    simp only [e1, e2]
    have e3 : fa (f :: fl) 0 = f := rfl
    have e4 : ed (e :: es) 0 = e := rfl
    rw [e3, e4]

/-! ### open networks -/
def openE (s : Int) (L : List Int) (i : Nat) (e : E) : E := if e.1 = s ∧ (i : Int) ∉ L then (e.1, e.2.1, 0) else e
def opened (es : List E) (s : Int) (L : List Int) : List E := es.mapIdx (openE s L)
theorem opened_length (es : List E) (s : Int) (L : List Int) : (opened es s L).length = es.length := by simp [opened]
theorem opened_at {es : List E} {s : Int} {L : List Int} {i : Nat} (h : i < es.length) : ed (opened es s L) i = openE s L i (ed es i) := by
  unfold ed opened
  rw [List.getElem?_mapIdx, List.getElem?_eq_getElem h]; rfl
theorem openE_ends (s : Int) (L : List Int) (i : Nat) (e : E) : (openE s L i e).1 = e.1 ∧ (openE s L i e).2.1 = e.2.1 := by
  unfold openE; split <;> exact ⟨rfl, rfl⟩
theorem openE_cap {s : Int} {L : List Int} {i : Nat} {e : E} (h : 0 ≤ e.2.2) : 0 ≤ (openE s L i e).2.2 ∧ (openE s L i e).2.2 ≤ e.2.2 := by
  unfold openE; split
  · exact ⟨Int.le_refl _, h⟩
  · exact ⟨h, Int.le_refl _⟩
theorem openE_more {s : Int} {L L' : List Int} {i : Nat} {e : E} (h : 0 ≤ e.2.2) (hL : ∀ x ∈ L, x ∈ L') : (openE s L i e).2.2 ≤ (openE s L' i e).2.2 := by
  unfold openE
  by_cases h1 : e.1 = s ∧ (i : Int) ∉ L
  · rw [if_pos h1]
    split
    · exact Int.le_refl _
    · exact h
  · rw [if_neg h1, if_neg (fun h2 => h1 ⟨h2.1, fun h3 => h2.2 (hL _ h3)⟩)]; exact Int.le_refl _
theorem okE_open {n s : Int} {L : List Int} {i : Nat} {e : E} (h : okE n e = true) : okE n (openE s L i e) = true := by
  have h0 := okE_iff.1 h
  have h1 := openE_ends s L i e
  have h2 := openE_cap (s := s) (L := L) (i := i) h0.2.2.2.2.2.1
  rw [okE_iff, h1.1, h1.2]
  exact ⟨h0.1, h0.2.1, h0.2.2.1, h0.2.2.2.1, h0.2.2.2.2.1, h2.1, by omega⟩
theorem ed_all {es : List E} {P : E → Prop} : (∀ e ∈ es, P e) ↔ ∀ i, i < es.length → P (ed es i) := by
  constructor
  · intro h i hi; exact h _ (ed_mem hi)
  · intro h e he
    obtain ⟨i, hi, rfl⟩ := List.getElem_of_mem he
    have := h i hi
    unfold ed at this
    rwa [List.getElem?_eq_getElem hi] at this
theorem right_open {n s : Int} {es : List E} (h : right n es = true) (L : List Int) : right n (opened es s L) = true := by
  obtain ⟨a, b, c, d⟩ := right_iff.1 h
  refine right_iff.2 ⟨a, b, by rw [opened_length]; exact c, ed_all.2 fun i hi => ?_⟩
  rw [opened_length] at hi
  rw [opened_at hi]
  exact okE_open (d _ (ed_mem hi))
theorem step_open {es : List E} {s : Int} {L : List Int} {i : Nat} (h : i < es.length) (x : Int) : step (opened es s L) i x = step es i x := by
  unfold step
  rw [opened_at h, (openE_ends s L i _).1, (openE_ends s L i _).2]
theorem gain_open {es : List E} {fl : List Int} (hl : fl.length = es.length) (s : Int) (L : List Int) (x : Int) : gain ((opened es s L).zip fl) x = gain (es.zip fl) x := by
  rw [gain_sum x _ _ (by rw [opened_length]; exact hl), gain_sum x _ _ hl, opened_length]
  exact sumN_congr _ _ _ fun i hi => by rw [step_open hi]
theorem GoodG.at {n : Int} {es : List E} {fl : List Int} {s t : Int} (h : GoodG n es fl s t) {i : Nat} (hi : i < es.length) : 0 ≤ fa fl i ∧ fa fl i ≤ (ed es i).2.2 := by
  have := h.fit _ (of_zip h.len hi)
  exact this
theorem goodG_of {n : Int} {es : List E} {fl : List Int} {s t : Int} (hr : right n es = true) (hl : fl.length = es.length) (hf : ∀ i, i < es.length → 0 ≤ fa fl i ∧ fa fl i ≤ (ed es i).2.2) (hfl : ∀ x, x ≠ s → x ≠ t → gain (es.zip fl) x = 0) (s0 : 0 ≤ s) (s1 : s < n) (t0 : 0 ≤ t) (t1 : t < n) (ne : s ≠ t) : GoodG n es fl s t :=
  ⟨hr, hl, fun p hp => by
    obtain ⟨i, hi, rfl⟩ := zip_of hl hp
    exact hf i hi, hfl, s0, s1, t0, t1, ne⟩
/-- A good flow stays good where more sources are open, and where all are. -/
theorem GoodG.opener {n : Int} {es : List E} {fl : List Int} {s t : Int} {L L' : List Int} (h : GoodG n (opened es s L) fl s t) (hr : right n es = true) (hL : ∀ x ∈ L, x ∈ L') : GoodG n (opened es s L') fl s t := by
  have hl : fl.length = es.length := by rw [h.len, opened_length]
  refine goodG_of (right_open hr _) (by rw [opened_length]; exact hl) (fun i hi => ?_) (fun x a b => ?_) h.s0 h.s1 h.t0 h.t1 h.ne
  · rw [opened_length] at hi
    have h1 := h.at (i := i) (by rw [opened_length]; exact hi)
    rw [opened_at hi] at h1 ⊢
    have := openE_more (s := s) (i := i) (e := ed es i) (okE_iff.1 ((right_iff.1 hr).2.2.2 _ (ed_mem hi))).2.2.2.2.2.1 hL
    omega
  · rw [gain_open hl, ← gain_open hl s L]; exact h.flat x a b
theorem GoodG.whole {n : Int} {es : List E} {fl : List Int} {s t : Int} {L : List Int} (h : GoodG n (opened es s L) fl s t) (hr : right n es = true) : GoodG n es fl s t := by
  have hl : fl.length = es.length := by rw [h.len, opened_length]
  refine goodG_of hr hl (fun i hi => ?_) (fun x a b => ?_) h.s0 h.s1 h.t0 h.t1 h.ne
  · have h1 := h.at (i := i) (by rw [opened_length]; exact hi)
    rw [opened_at hi] at h1
    have := openE_cap (s := s) (L := L) (i := i) (okE_iff.1 ((right_iff.1 hr).2.2.2 _ (ed_mem hi))).2.2.2.2.2.1
    omega
  · rw [← gain_open hl s L]; exact h.flat x a b
/-- What flows out through the sources of a list. -/
def outL (es : List E) (fl : List Int) (s : Int) (L : List Int) : Int := sumN es.length (fun i => if (ed es i).1 = s ∧ (i : Int) ∈ L then fa fl i else 0)
/-- Nothing flows back into s. -/
def noBack (es : List E) (fl : List Int) (s : Int) : Prop := ∀ i, i < es.length → (ed es i).2.1 = s → fa fl i = 0
theorem gain_out_all {n : Int} {es : List E} {fl : List Int} {s : Int} (hok : ∀ e ∈ es, okE n e = true) (hl : fl.length = es.length) (hb : noBack es fl s) : gain (es.zip fl) s = sumN es.length (fun i => if (ed es i).1 = s then fa fl i else 0) := by
  rw [gain_sum s es fl hl]
  refine sumN_congr _ _ _ fun i hi => ?_
  have hne := (okE_iff.1 (hok _ (ed_mem hi))).2.2.2.2.1
  unfold step
  by_cases h1 : (ed es i).1 = s
  · rw [if_pos h1, if_pos h1, if_neg (fun h2 => hne (h1.trans h2.symm))]; omega
  · rw [if_neg h1, if_neg h1]
    by_cases h2 : (ed es i).2.1 = s
    · rw [hb i hi h2]; simp
    · rw [if_neg h2]; simp
/-- THROUGH SOME SOURCES NO MORE FLOWS THAN CAN WHERE THESE ALONE ARE OPEN. -/
theorem out_le {n : Nat} {es : List E} {fl : List Int} {s t M : Int} {L : List Int} (h : GoodG n es fl s t) (hb : noBack es fl s) (hM : Most n (opened es s L) s t M) : outL es fl s L ≤ M := by
  obtain ⟨r, hrl, hr0, hr1, rfl⟩ := hM.cut_min
  have h1 := h.border (has r) hr0 hr1
  rw [gain_out_all (right_iff.1 h.net).2.2.2 h.len hb, cross_sumN _ _ _ h.len] at h1
  have h2 := sumN_le es.length (fun i => (if has r (ed es i).1 then fa fl i else 0) - (if has r (ed es i).2.1 then fa fl i else 0)) (fun i => c1 r (openE s L i (ed es i)) + (if (ed es i).1 = s ∧ (i : Int) ∉ L then fa fl i else 0)) (fun i hi => by
    have hf := h.at hi
    have hc := openE_cap (s := s) (L := L) (i := i) (e := ed es i) (by omega)
    have he := openE_ends s L i (ed es i)
    unfold c1
    rw [he.1, he.2]
    have h3 : ¬ ((ed es i).1 = s ∧ (i : Int) ∉ L) → (openE s L i (ed es i)).2.2 = (ed es i).2.2 := fun h => by unfold openE; rw [if_neg h]
    by_cases h4 : (ed es i).1 = s ∧ (i : Int) ∉ L
    · rw [if_pos h4]
      cases has r (ed es i).1 <;> cases has r (ed es i).2.1 <;> simp <;> omega
    · rw [if_neg h4, h3 h4]
      cases has r (ed es i).1 <;> cases has r (ed es i).2.1 <;> simp <;> omega)
  rw [h1, sumN_add] at h2
  have h5 : cutSum r (opened es s L) = sumN es.length (fun i => c1 r (openE s L i (ed es i))) := by
    rw [cutSum_sum, opened_length]
    exact sumN_congr _ _ _ fun i hi => by rw [opened_at hi]
  rw [h5]
  have h6 : sumN es.length (fun i => if (ed es i).1 = s then fa fl i else 0) = outL es fl s L + sumN es.length (fun i => if (ed es i).1 = s ∧ (i : Int) ∉ L then fa fl i else 0) := by
    unfold outL
    rw [← sumN_add]
    refine sumN_congr _ _ _ fun i _ => ?_
    by_cases a : (ed es i).1 = s <;> by_cases b : (i : Int) ∈ L <;> simp [a, b]
  omega
end Go.Proofs.Ythchlfoebkachaa.Gm

namespace Go.Proofs.Ythchlfoebkachaa.Gm
open Go.Proofs.Ythchlfoebkachaa

/-! ### a push leaves no source less -/
/-- Where a leg leads to. -/
def toL (es : List E) (p : Leg) : Int := if p.2 then (ed es p.1).2.1 else (ed es p.1).1
theorem along_away {n : Nat} {es : List E} {fl : List Int} {s : Int} {S : Srch} (h : Inv n es fl s S) : ∀ (j : Nat) (v : Int), S.todo[j]? = some v → ∀ k, j ≤ k → ∀ p ∈ along es S.by_ s k v, toL es p ≠ s := by
  intro j
  induction j using Nat.strongRecOn with
  | _ j ih =>
    intro v hv k hk
    rcases h.pre j v hv with rfl | ⟨i, hi, hb, j', u, h1, h2, h3, h4⟩
    · have : v = s := Option.some.inj (hv.symm.trans h.head)
      subst this
      rw [show along es S.by_ v k v = [] by cases k with | zero => rfl | succ k => simp [along]]
      intro p hp
      simp at hp
    · have hvs : v ≠ s := fun e => by
        subst e
        have := nodup_at h.nodup hv h.head
        omega
      obtain ⟨m, rfl⟩ : ∃ m, k = m + 1 := ⟨k - 1, by omega⟩
      have hby : (S.by_[v.toNat]?.getD 0).toNat = i := by rw [hb]; simp
      have ihu := ih j' h1 u h2 m (by omega)
      have hne : hop (ed es i) (fa fl i) u ≠ u := by rw [h4]; exact fun e => h3 e.symm
      have e : along es S.by_ s (m + 1) v = (i, (ed es i).2.1 == v) :: along es S.by_ s m u := by
        simp only [along, if_neg hvs, hby]
        congr 2
        rcases hop_ne hne with ⟨a, _, c⟩ | ⟨a, _, c⟩
        · rw [if_pos (by rw [← c, h4]), a]
        · rw [if_neg (by rw [a]; exact h3), a]
      rw [e]
      intro p hp
      rcases List.mem_cons.1 hp with rfl | hp
      · unfold toL
        by_cases e1 : (ed es i).2.1 = v
        · simp only [e1, beq_self_eq_true, if_true]; exact hvs
        · have e2 : ((ed es i).2.1 == v) = false := by simpa using e1
          simp only [e2]
          rcases hop_ne hne with ⟨a, _, c⟩ | ⟨a, _, c⟩
          · exact absurd (by rw [← c, h4]) e1
          · rw [← c, h4]; simpa using hvs
      · exact ihu p hp
theorem next_away {n : Nat} {es : List E} {fl : List Int} {s t : Int} (h : GoodG n es fl s t) (ht : has (bfs n es fl s).seen t = true) : ∀ p ∈ next n es fl s t, toL es p ≠ s := by
  have hes := (right_iff.1 h.net).2.2.2
  have hn := (right_iff.1 h.net).2.1
  have hb := bfs_is hes h.s0 h.s1 n (fl := fl)
  have hm := (hb.inv.td t).2 ⟨h.t0, h.t1, ht⟩
  obtain ⟨j, hj, e⟩ := List.getElem_of_mem hm
  have hsh := hb.inv.short
  exact along_away hb.inv j t ((List.getElem?_eq_getElem hj).trans (congrArg some e)) 64 (by omega)
/-- Of two flows the second has no less in any source, and no more in what leads back. -/
structure More (es : List E) (s : Int) (fl fl' : List Int) : Prop where
  out : ∀ i, i < es.length → (ed es i).1 = s → fa fl i ≤ fa fl' i
  back : ∀ i, i < es.length → (ed es i).2.1 = s → fa fl' i ≤ fa fl i
theorem More.refl (es : List E) (s : Int) (fl : List Int) : More es s fl fl := ⟨fun _ _ _ => Int.le_refl _, fun _ _ _ => Int.le_refl _⟩
theorem More.trans {es : List E} {s : Int} {a b c : List Int} (h : More es s a b) (k : More es s b c) : More es s a c :=
  ⟨fun i hi e => Int.le_trans (h.out i hi e) (k.out i hi e), fun i hi e => Int.le_trans (k.back i hi e) (h.back i hi e)⟩
theorem puts_more {es : List E} {fl : List Int} {s d : Int} {l : List Leg} (hl : fl.length = es.length) (hr : ∀ p ∈ l, p.1 < es.length) (hn : (l.map (·.1)).Nodup) (ha : ∀ p ∈ l, toL es p ≠ s) (hd : 0 ≤ d) : More es s fl (puts fl l d) := by
  have hp := fun i => puts_at d l fl i (fun p hp => by rw [hl]; exact hr p hp) hn
  constructor
  · intro i hi e
    by_cases hm : i ∈ l.map (·.1)
    · obtain ⟨q, hq, rfl⟩ := List.mem_map.1 hm
      rw [(hp q.1).1 q.2 hq]
      have h1 := ha q hq
      unfold toL at h1
      rcases hb : q.2 with _ | _
      · rw [hb] at h1; simp [e] at h1
      · simp only [sgn, if_true]; omega
    · rw [(hp i).2 hm]; exact Int.le_refl _
  · intro i hi e
    by_cases hm : i ∈ l.map (·.1)
    · obtain ⟨q, hq, rfl⟩ := List.mem_map.1 hm
      rw [(hp q.1).1 q.2 hq]
      have h1 := ha q hq
      unfold toL at h1
      rcases hb : q.2 with _ | _
      · simp [sgn]; omega
      · rw [hb] at h1; simp [e] at h1
    · rw [(hp i).2 hm]; exact Int.le_refl _
theorem pushN_more {n : Nat} {es : List E} {s t most : Int} : ∀ (k : Nat) (st : List Int × Int), GoodG n es st.1 s t → st.2 ≤ most → More es s st.1 (pushN n es s t most k st).1
  | 0, st, _, _ => More.refl _ _ _
  | k + 1, st, h, hm => by
    unfold pushN
    by_cases h1 : st.2 < most
    · rw [if_pos h1]
      by_cases h2 : has (bfs n es st.1 s).seen t = true
      · rw [if_pos h2]
        obtain ⟨a, b, _, c, _⟩ := push_room h h1 h2
        have hw := (next_is h h2).1
        have hm1 := puts_more (d := roomOf es st.1 (next n es st.1 s t) (most - st.2)) h.len (fun p hp => (hw.each p hp).1) hw.nodup (next_away h h2) (by omega)
        generalize roomOf es st.1 (next n es st.1 s t) (most - st.2) = r at a b c hm1 ⊢
        exact hm1.trans (pushN_more k (puts st.1 (next n es st.1 s t) r, st.2 + r) c (by dsimp only; omega))
      · rw [if_neg h2]; exact More.refl _ _ _
    · rw [if_neg h1]; exact More.refl _ _ _
theorem More.noBack {es : List E} {s : Int} {fl fl' : List Int} (h : More es s fl fl') (hb : noBack es fl s) (h0 : ∀ i, i < es.length → 0 ≤ fa fl' i) : noBack es fl' s := fun i hi e => by
  have h1 := h.back i hi e
  rw [hb i hi e] at h1
  have := h0 i hi
  omega

/-! ### ways -/
abbrev WayE := List Int × Int
def legsW (l : List Int) : List Leg := l.map fun i => (i.toNat, true)
def walkW (es : List E) (t : Int) : List Int → Int → List Bool → Bool
  | [], u, _ => decide (u = t)
  | i :: l, u, seen => (decide (0 ≤ i) && decide (i < es.length) && decide ((ed es i.toNat).1 = u) && !has seen (ed es i.toNat).2.1) && walkW es t l (ed es i.toNat).2.1 (seen.set (ed es i.toNat).2.1.toNat true)
def isWayF (n : Nat) (es : List E) (s t src : Int) (w : WayE) : Bool :=
  decide (1 ≤ w.1.length) && decide (w.1.length ≤ n) && decide (w.1[0]?.getD 0 = src) && decide (0 ≤ w.2) && decide (w.2 ≤ 1000) && walkW es t w.1 s (start n s)
theorem walkW_is {n : Nat} {es : List E} {t : Int} (hok : ∀ e ∈ es, okE n e = true) : ∀ (l : List Int) (u : Int) (seen : List Bool), seen.length = n → walkW es t l u seen = true →
    (∀ i ∈ l, 0 ≤ i ∧ i < es.length ∧ has seen (ed es i.toNat).2.1 = false) ∧ (l.map Int.toNat).Nodup ∧ (∀ x, legs es (legsW l) x = (if u = x then 1 else 0) - (if t = x then 1 else 0)) ∧ (∀ i ∈ l.drop 1, has seen (ed es i.toNat).1 = false) ∧ (∀ i, l[0]? = some i → (ed es i.toNat).1 = u)
  | [], u, seen, _, h => by
    have hu : u = t := by simpa [walkW] using h
    subst hu
    exact ⟨fun i hi => by simp at hi, by simp, fun x => by simp [legsW, legs], fun i hi => by simp at hi, fun i hi => by simp at hi⟩
  | i :: l, u, seen, hl, h => by
    simp only [walkW, Bool.and_eq_true, decide_eq_true_eq, Bool.not_eq_true'] at h
    obtain ⟨⟨⟨⟨h0, h1⟩, h2⟩, h3⟩, h4⟩ := h
    have hin : i.toNat < es.length := by omega
    have ho := okE_iff.1 (hok _ (ed_mem hin))
    obtain ⟨y, hy⟩ : ∃ y, (ed es i.toNat).2.1 = y := ⟨_, rfl⟩
    rw [hy] at h3 h4 ho
    obtain ⟨a, b, c, d, e⟩ := walkW_is hok l y (seen.set y.toNat true) (by simpa using hl) h4
    have hset : ∀ x, 0 ≤ x → has (seen.set y.toNat true) x = false → x ≠ y ∧ has seen x = false := fun x hx hh => by
      rw [has_set _ _ (by omega) _ hx] at hh
      have : ((y.toNat : Nat) : Int) = y := by omega
      rw [this] at hh
      simpa using hh
    refine ⟨fun k hk => ?_, ?_, fun x => ?_, fun k hk => ?_, fun k hk => ?_⟩
    · rcases List.mem_cons.1 hk with rfl | hk
      · exact ⟨h0, h1, by rw [hy]; exact h3⟩
      · have h5 := a k hk
        have h6 := okE_iff.1 (hok _ (ed_mem (j := k.toNat) (by omega)))
        exact ⟨h5.1, h5.2.1, (hset _ h6.2.2.1 h5.2.2).2⟩
    · rw [List.map_cons, List.nodup_cons]
      refine ⟨fun hm => ?_, b⟩
      obtain ⟨k, hk, hki⟩ := List.mem_map.1 hm
      have h5 := a k hk
      rw [hki, hy] at h5
      have := (hset y ho.2.2.1 h5.2.2).1
      exact this rfl
    · show sgn true 1 * step es i.toNat x + legs es (legsW l) x = _
      rw [c]
      unfold step
      rw [h2, hy]
      simp only [sgn, if_true]
      omega
    · rw [List.drop_one, List.tail_cons] at hk
      have hka := a k hk
      have h6 := okE_iff.1 (hok _ (ed_mem (j := k.toNat) (by omega)))
      rcases l with _ | ⟨k0, l'⟩
      · simp at hk
      · rcases List.mem_cons.1 hk with rfl | hk
        · rw [e k rfl]; exact h3
        · exact (hset _ h6.1 (d k (by simpa using hk))).2
    · obtain rfl : i = k := by simpa using hk
      exact h2
theorem roomW_ge (es : List E) (fl : List Int) : ∀ (l : List Leg) (d x : Int), x ≤ d → (∀ p ∈ l, x ≤ spare es fl p) → x ≤ roomOf es fl l d
  | [], _, _, h, _ => h
  | q :: l, d, x, h, hs => roomW_ge es fl l (min d (spare es fl q)) x (by have := hs q (by simp); have e : min d (spare es fl q) = if d ≤ spare es fl q then d else spare es fl q := rfl; rw [e]; split <;> omega) (fun p hp => hs p (by simp [hp]))
/-- What a way adds to a flow. -/
def goW (es : List E) (fl : List Int) (w : WayE) : List Int := puts fl (legsW w.1) (roomOf es fl (legsW w.1) w.2)
theorem goW_length (es : List E) (fl : List Int) (w : WayE) : (goW es fl w).length = fl.length := by unfold goW; rw [puts_length]
theorem legsW_map (l : List Int) : (legsW l).map (·.1) = l.map Int.toNat := by simp [legsW]
theorem puts_zero (fl : List Int) (l : List Leg) (h : ∀ p ∈ l, p.1 < fl.length) (hn : (l.map (·.1)).Nodup) : puts fl l 0 = fl := by
  apply List.ext_getElem (by rw [puts_length])
  intro i h1 h2
  have hp := puts_at 0 l fl i h hn
  have e : fa (puts fl l 0) i = fa fl i := by
    by_cases hm : i ∈ l.map (·.1)
    · obtain ⟨q, hq, rfl⟩ := List.mem_map.1 hm
      rw [hp.1 q.2 hq]
      cases q.2 <;> simp [sgn]
    · exact hp.2 hm
  unfold fa at e
  simpa [h1, h2] using e
theorem goW_good {n : Nat} {es : List E} {fl : List Int} {s t src : Int} {L : List Int} {w : WayE} (hr : right n es = true) (h : GoodG n (opened es s L) fl s t) (hb : noBack es fl s) (hs : src ∈ L) (hw : isWayF n es s t src w = true) :
    GoodG n (opened es s L) (goW es fl w) s t ∧ noBack es (goW es fl w) s ∧ More es s fl (goW es fl w) := by
  have hok := (right_iff.1 hr).2.2.2
  simp only [isWayF, Bool.and_eq_true, decide_eq_true_eq] at hw
  obtain ⟨⟨⟨⟨⟨w1, w2⟩, w3⟩, w4⟩, w5⟩, w6⟩ := hw
  obtain ⟨a, b, c, d, e⟩ := walkW_is hok w.1 s (start n s) (by simp [start]) w6
  have hG := h.whole hr
  have hss : has (start n s) s = true := by rw [start_has h.s0 h.s1 _ h.s0]; simp
  have hin : ∀ p ∈ legsW w.1, p.1 < es.length ∧ p.2 = true := fun p hp => by
    obtain ⟨i, hi, rfl⟩ := List.mem_map.1 hp
    have := a i hi
    exact ⟨by dsimp only; omega, rfl⟩
  have haway : ∀ p ∈ legsW w.1, toL es p ≠ s := fun p hp => by
    obtain ⟨i, hi, rfl⟩ := List.mem_map.1 hp
    intro e1
    have h2 := (a i hi).2.2
    have h3 : (ed es i.toNat).2.1 = s := by simpa [toL] using e1
    rw [h3, hss] at h2; cases h2
  have hnd : ((legsW w.1).map (·.1)).Nodup := by rw [legsW_map]; exact b
  have hsp : ∀ p ∈ legsW w.1, 0 ≤ spare es fl p := fun p hp => by
    obtain ⟨h1, h2⟩ := hin p hp
    have := hG.at h1
    unfold spare; rw [h2]; simp only [if_true]; omega
  have hr0 : 0 ≤ roomOf es fl (legsW w.1) w.2 := roomW_ge _ _ _ _ _ w4 hsp
  have hrl := roomOf_le es fl (legsW w.1) w.2
  have hmore := puts_more (d := roomOf es fl (legsW w.1) w.2) hG.len (fun p hp => (hin p hp).1) hnd haway hr0
  have key : GoodG n (opened es s L) (goW es fl w) s t := by
    by_cases hz : roomOf es fl (legsW w.1) w.2 = 0
    · unfold goW
      rw [hz, puts_zero fl _ (fun p hp => by rw [hG.len]; exact (hin p hp).1) hnd]; exact h
    · have hso : ∀ p ∈ legsW w.1, spare (opened es s L) fl p = spare es fl p := fun p hp => by
        obtain ⟨i, hi, rfl⟩ := List.mem_map.1 hp
        have h1 := a i hi
        have h2 : i.toNat < es.length := by omega
        unfold spare
        rw [opened_at h2]
        have : openE s L i.toNat (ed es i.toNat) = ed es i.toNat := by
          unfold openE
          rw [if_neg]
          rintro ⟨h3, h4⟩
          apply h4
          have e5 : ((i.toNat : Nat) : Int) = i := by omega
          rw [e5]
          rcases hw1 : w.1 with _ | ⟨i0, l⟩
          · rw [hw1] at w1; simp at w1
          · rw [hw1] at hi w3 d
            rcases List.mem_cons.1 hi with rfl | hi
            · have : i = src := by simpa using w3
              rw [this]; exact hs
            · have := d i (by simpa using hi)
              rw [h3, hss] at this; cases this
        rw [this]
      have hW : Way n (opened es s L) fl s t (legsW w.1) := ⟨fun p hp => ⟨by rw [opened_length]; exact (hin p hp).1, by rw [hso p hp]; have := hrl.2 p hp; omega⟩, hnd, fun x => by
        have : ∀ l : List Leg, (∀ p ∈ l, p.1 < es.length) → legs (opened es s L) l x = legs es l x := by
          intro l
          induction l with
          | nil => intro _; rfl
          | cons q l ih =>
            intro hq
            simp only [legs]
            rw [step_open (hq q (by simp)), ih (fun p hp => hq p (by simp [hp]))]
        rw [this _ (fun p hp => (hin p hp).1)]; exact c x⟩
      exact (h.push hW hr0 (fun p hp => by rw [hso p hp]; exact hrl.2 p hp)).1
  refine ⟨key, hmore.noBack hb (fun i hi => ?_), hmore⟩
  exact ((key.whole hr).at hi).1
end Go.Proofs.Ythchlfoebkachaa.Gm

namespace Go.Proofs.Ythchlfoebkachaa.Gm
open Go.Proofs.Ythchlfoebkachaa

def isSrc (es : List E) (s x : Int) : Bool := decide (0 ≤ x) && decide (x < es.length) && decide ((ed es x.toNat).1 = s)
theorem isSrc_iff {es : List E} {s x : Int} : isSrc es s x = true ↔ 0 ≤ x ∧ x < es.length ∧ (ed es x.toNat).1 = s := by simp [isSrc, and_assoc]
def waysOk (n : Nat) (es : List E) (s t : Int) (order : List Int) (ways : List (List WayE)) : Bool :=
  (List.range ways.length).all fun i => (ways[i]?.getD []).all (isWayF n es s t (order[i]?.getD 0))
def formF (v : Int) (es : List E) (s t : Int) (order : List Int) (ways : List (List WayE)) : Bool :=
  right v es && vtx v s && vtx v t && !decide (s = t) && order.all (isSrc es s) && decide order.Nodup && decide (ways.length ≤ order.length) && waysOk v.toNat es s t order ways
structure Form (n : Nat) (es : List E) (s t : Int) (order : List Int) (ways : List (List WayE)) : Prop where
  net : right n es = true
  s0 : 0 ≤ s
  s1 : s < n
  t0 : 0 ≤ t
  t1 : t < n
  ne : s ≠ t
  src : ∀ x ∈ order, isSrc es s x = true
  nodup : order.Nodup
  len : ways.length ≤ order.length
  ways : ∀ i, i < ways.length → ∀ w ∈ ways[i]?.getD [], isWayF n es s t (order[i]?.getD 0) w = true
theorem formF_iff {n : Nat} {es : List E} {s t : Int} {order : List Int} {ways : List (List WayE)} : formF n es s t order ways = true ↔ Form n es s t order ways := by
  unfold formF
  simp only [Bool.and_eq_true, decide_eq_true_eq, Bool.not_eq_true', decide_eq_false_iff_not, List.all_eq_true, waysOk, vtx, List.mem_range, Int.toNat_natCast]
  constructor
  · rintro ⟨⟨⟨⟨⟨⟨⟨a, b⟩, c⟩, d⟩, e⟩, f⟩, g⟩, h⟩
    exact ⟨a, b.1, b.2, c.1, c.2, d, e, f, g, h⟩
  · intro h
    exact ⟨⟨⟨⟨⟨⟨⟨h.net, ⟨h.s0, h.s1⟩⟩, ⟨h.t0, h.t1⟩⟩, h.ne⟩, h.src⟩, h.nodup⟩, h.len⟩, h.ways⟩
def stageF (n : Nat) (es : List E) (s t : Int) (L : List Int) (ws : List WayE) (fl : List Int) : List Int := (pushed n (opened es s L) s t 1073741824 (ws.foldl (goW es) fl, 0)).1
def fillK (n : Nat) (es : List E) (s t : Int) (order : List Int) (ways : List (List WayE)) : Nat → List Int
  | 0 => List.replicate es.length 0
  | i + 1 => stageF n es s t (order.take (i + 1)) (ways[i]?.getD []) (fillK n es s t order ways i)
/-- What Fill answers. -/
def fillF (v : Int) (es : List E) (s t : Int) (order : List Int) (ways : List (List WayE)) : List Int × List Int × Int :=
  if formF v es s t order ways then (fillK v.toNat es s t order ways order.length, order.map (fun x => fa (fillK v.toNat es s t order ways order.length) x.toNat), 0) else ([], [], 50)

theorem ways_good {n : Nat} {es : List E} {s t src : Int} {L : List Int} (hr : right n es = true) (hs : src ∈ L) : ∀ (ws : List WayE) (fl : List Int), GoodG n (opened es s L) fl s t → noBack es fl s → (∀ w ∈ ws, isWayF n es s t src w = true) →
    GoodG n (opened es s L) (ws.foldl (goW es) fl) s t ∧ noBack es (ws.foldl (goW es) fl) s ∧ More es s fl (ws.foldl (goW es) fl)
  | [], fl, h, hb, _ => ⟨h, hb, More.refl _ _ _⟩
  | w :: ws, fl, h, hb, hw => by
    obtain ⟨a, b, c⟩ := goW_good hr h hb hs (hw w (by simp))
    obtain ⟨d, e, f⟩ := ways_good hr hs ws _ a b (fun x hx => hw x (by simp [hx]))
    exact ⟨d, e, c.trans f⟩
theorem More.closed {es : List E} {s : Int} {L : List Int} {a b : List Int} (h : More (opened es s L) s a b) : More es s a b := by
  constructor
  · intro i hi e
    exact h.out i (by rw [opened_length]; exact hi) (by rw [opened_at hi, (openE_ends s L i _).1]; exact e)
  · intro i hi e
    exact h.back i (by rw [opened_length]; exact hi) (by rw [opened_at hi, (openE_ends s L i _).2]; exact e)
theorem stage_good {n : Nat} {es : List E} {s t src : Int} {L : List Int} {ws : List WayE} {fl : List Int} (hr : right n es = true) (hs : src ∈ L) (h : GoodG n (opened es s L) fl s t) (hb : noBack es fl s) (hw : ∀ w ∈ ws, isWayF n es s t src w = true) :
    GoodG n (opened es s L) (stageF n es s t L ws fl) s t ∧ noBack es (stageF n es s t L ws fl) s ∧ More es s fl (stageF n es s t L ws fl) ∧ Most n (opened es s L) s t (gain (es.zip (stageF n es s t L ws fl)) s) := by
  obtain ⟨a, b, c⟩ := ways_good hr hs ws fl h hb hw
  unfold stageF
  obtain ⟨g, hg⟩ : ∃ g, ws.foldl (goW es) fl = g := ⟨_, rfl⟩
  rw [hg] at a b c ⊢
  have hR := pushed_is (most := 1073741824) (st := (g, 0)) a (by dsimp only; omega)
  have hM : More es s g (pushed n (opened es s L) s t 1073741824 (g, 0)).1 := (pushN_more _ (g, 0) a (by dsimp only; omega)).closed
  have hl : (pushed n (opened es s L) s t 1073741824 (g, 0)).1.length = es.length := by rw [hR.good.len, opened_length]
  refine ⟨hR.good, hM.noBack b (fun i hi => ((hR.good.whole hr).at hi).1), c.trans hM, ?_⟩
  rw [← gain_open hl s L]
  rcases hR.full with e | e
  · have h1 := hR.more
    have h2 := hR.good.bound
    have h3 := a.bound
    dsimp only at h1
    omega
  · exact (most_of hR.good e).1
theorem noBack_zero (es : List E) (s : Int) : noBack es (List.replicate es.length 0) s := fun i hi _ => by unfold fa; simp [hi]
structure Stg (n : Nat) (es : List E) (s t : Int) (order : List Int) (i : Nat) (fl : List Int) : Prop where
  good : GoodG n (opened es s (order.take i)) fl s t
  back : noBack es fl s
  most : i ≠ 0 → Most n (opened es s (order.take i)) s t (gain (es.zip fl) s)
theorem fill_stage {n : Nat} {es : List E} {s t : Int} {order : List Int} {ways : List (List WayE)} (h : Form n es s t order ways) : ∀ i, i ≤ order.length → Stg n es s t order i (fillK n es s t order ways i) ∧ ∀ j, j ≤ i → More es s (fillK n es s t order ways j) (fillK n es s t order ways i)
  | 0, _ => by
    refine ⟨⟨?_, noBack_zero es s, fun e => absurd rfl e⟩, fun j hj => ?_⟩
    · have := (GoodG.zero (right_open (s := s) h.net (order.take 0)) h.s0 h.s1 h.t0 h.t1 h.ne).1
      rw [opened_length] at this; exact this
    · obtain rfl : j = 0 := by omega
      exact More.refl _ _ _
  | i + 1, hi => by
    obtain ⟨hst, hmo⟩ := fill_stage h i (by omega)
    have hil : i < order.length := by omega
    have hmem : order[i]?.getD 0 ∈ order.take (i + 1) := by
      rw [List.take_succ_eq_append_getElem hil, List.getElem?_eq_getElem hil]
      exact List.mem_append.2 (.inr (by simp))
    have hg := hst.good.opener h.net (L' := order.take (i + 1)) (fun x hx => by
      rw [List.take_succ_eq_append_getElem hil]
      exact List.mem_append.2 (.inl hx))
    have hw : ∀ w ∈ ways[i]?.getD [], isWayF n es s t (order[i]?.getD 0) w = true := fun w hw => by
      by_cases hiw : i < ways.length
      · exact h.ways i hiw w hw
      · rw [List.getElem?_eq_none (by omega)] at hw
        simp at hw
    obtain ⟨a, b, c, d⟩ := stage_good (ws := ways[i]?.getD []) h.net hmem hg hst.back hw
    refine ⟨⟨a, b, fun _ => d⟩, fun j hj => ?_⟩
    rcases Nat.lt_or_ge j (i + 1) with h1 | h1
    · exact (hmo j (by omega)).trans c
    · obtain rfl : j = i + 1 := by omega
      exact More.refl _ _ _
theorem outL_mono {es : List E} {s : Int} {L : List Int} {a b : List Int} (h : More es s a b) : outL es a s L ≤ outL es b s L := by
  refine sumN_le _ _ _ fun i hi => ?_
  split
  · rename_i e; exact h.out i hi e.1
  · exact Int.le_refl _
theorem outL_good {n : Nat} {es : List E} {fl : List Int} {s t : Int} {L : List Int} (hr : right n es = true) (h : GoodG n (opened es s L) fl s t) (hb : noBack es fl s) : outL es fl s L = gain (es.zip fl) s := by
  have hl : fl.length = es.length := by rw [h.len, opened_length]
  rw [gain_out_all (right_iff.1 hr).2.2.2 hl hb]
  refine sumN_congr _ _ _ fun i hi => ?_
  by_cases a : (ed es i).1 = s
  · by_cases b : (i : Int) ∈ L
    · rw [if_pos ⟨a, b⟩, if_pos a]
    · rw [if_neg (fun h => b h.2), if_pos a]
      have := h.at (i := i) (by rw [opened_length]; exact hi)
      rw [opened_at hi] at this
      unfold openE at this
      rw [if_pos ⟨a, b⟩] at this
      dsimp only at this
      omega
  · rw [if_neg (fun h => a h.1), if_neg a]
/-- FOR EACH SOURCE AS MUCH FLOWS THROUGH IT AND THOSE AHEAD OF IT AS CAN. -/
theorem out_final {n : Nat} {es : List E} {s t : Int} {order : List Int} {ways : List (List WayE)} (h : Form n es s t order ways) {i j : Nat} (hi : i ≤ order.length) (hj : j ≤ i) (h0 : j ≠ 0) : Most n (opened es s (order.take j)) s t (outL es (fillK n es s t order ways i) s (order.take j)) := by
  obtain ⟨hI, hmo⟩ := fill_stage h i hi
  obtain ⟨hJ, _⟩ := fill_stage h j (by omega)
  have hM := hJ.most h0
  have h1 := out_le (hI.good.whole h.net) hI.back hM
  have h2 := outL_mono (L := order.take j) (hmo j hj)
  rw [outL_good h.net hJ.good hJ.back] at h2
  have e : outL es (fillK n es s t order ways i) s (order.take j) = gain (es.zip (fillK n es s t order ways j)) s := by omega
  rw [e]; exact hM
theorem outL_nil (es : List E) (fl : List Int) (s : Int) : outL es fl s [] = 0 := by
  unfold outL
  rw [sumN_congr _ _ (fun _ => 0) (fun i _ => by simp), sumN_zero]
theorem outL_snoc {es : List E} {fl : List Int} {s x : Int} {L : List Int} (hx : isSrc es s x = true) (hn : x ∉ L) : outL es fl s (L ++ [x]) = outL es fl s L + fa fl x.toNat := by
  obtain ⟨h0, h1, h2⟩ := isSrc_iff.1 hx
  have e : outL es fl s (L ++ [x]) = sumN es.length (fun i => (if (ed es i).1 = s ∧ (i : Int) ∈ L then fa fl i else 0) + (if i = x.toNat then fa fl x.toNat else 0)) := by
    refine sumN_congr _ _ _ fun i hi => ?_
    by_cases e : i = x.toNat
    · subst e
      have e2 : ((x.toNat : Nat) : Int) = x := by omega
      rw [e2, if_pos ⟨h2, by simp⟩, if_neg (fun h => hn h.2), if_pos rfl]; omega
    · rw [if_neg e]
      have e2 : (i : Int) ≠ x := by omega
      have : ((ed es i).1 = s ∧ (i : Int) ∈ L ++ [x]) ↔ ((ed es i).1 = s ∧ (i : Int) ∈ L) := by simp [e2]
      simp only [this]; omega
  rw [e, sumN_add, sumN_one _ _ _ (by omega)]; rfl
/-- What goes through the first sources together. -/
def sumG (fl : List Int) (order : List Int) : Nat → Int
  | 0 => 0
  | k + 1 => sumG fl order k + fa fl (order[k]?.getD 0).toNat
theorem sumG_out {es : List E} {fl : List Int} {s : Int} {order : List Int} (hs : ∀ x ∈ order, isSrc es s x = true) (hn : order.Nodup) : ∀ k, k ≤ order.length → sumG fl order k = outL es fl s (order.take k)
  | 0, _ => by rw [List.take_zero, outL_nil]; rfl
  | k + 1, hk => by
    have hkl : k < order.length := by omega
    rw [List.take_succ_eq_append_getElem hkl, outL_snoc (hs _ (List.getElem_mem hkl))]
    · simp only [sumG]
      rw [sumG_out hs hn k (by omega), List.getElem?_eq_getElem hkl]; rfl
    · intro hm
      obtain ⟨m, hm1, hm2⟩ := List.getElem_of_mem hm
      rw [List.length_take] at hm1
      rw [List.getElem_take] at hm2
      have := (List.getElem_inj hn).1 hm2
      omega
/-- The theorem of layer 7. -/
theorem sumG_most {n : Nat} {es : List E} {s t : Int} {order : List Int} {ways : List (List WayE)} (h : Form n es s t order ways) {k : Nat} (hk : k < order.length) : Most n (opened es s (order.take (k + 1))) s t (sumG (fillK n es s t order ways order.length) order (k + 1)) := by
  rw [sumG_out h.src h.nodup (k + 1) (by omega)]
  exact out_final h (Nat.le_refl _) (by omega) (by omega)
end Go.Proofs.Ythchlfoebkachaa.Gm

namespace Go.Proofs.Ythchlfoebkachaa.Gm
open Go.Proofs.Ythchlfoebkachaa

structure Trail (n : Nat) (es : List E) (s src : Int) (l : List Int) (u : Int) (seen : List Bool) : Prop where
  first : l[0]?.getD 0 = src
  pos : 1 ≤ l.length
  len : seen.length = n
  cnt : l.length + 1 ≤ seen.count true
  u0 : 0 ≤ u
  u1 : u < n
  walk : ∀ t r, walkW es t (l ++ r) s (start n s) = walkW es t r u seen

theorem count_on {seen : List Bool} {i : Nat} (h : i < seen.length) (hf : has seen (i : Int) = false) : (seen.set i true).count true = seen.count true + 1 := by
  have e : seen[i] = false := by
    unfold has at hf
    rw [Int.toNat_natCast, List.getElem?_eq_getElem h] at hf
    simpa using hf
  rw [List.count_set h, e]
  simp

theorem start_count {n : Nat} {s : Int} (s0 : 0 ≤ s) (s1 : s < n) : (start n s).count true = 1 := by
  unfold start
  rw [List.count_set (by simp; omega)]
  simp [List.count_replicate]

theorem Trail.one {n : Nat} {es : List E} {s : Int} (hr : right n es = true) {k : Nat} (hk : k < es.length) (hs : (ed es k).1 = s) :
    Trail n es s k [(k : Int)] (ed es k).2.1 ((start n s).set (ed es k).2.1.toNat true) := by
  have ho := okE_iff.1 ((right_iff.1 hr).2.2.2 _ (ed_mem hk))
  obtain ⟨h0, h1, h2, h3, h4, _⟩ := ho
  rw [hs] at h0 h1 h4
  have hl : (start n s).length = n := by simp [start]
  have hh : has (start n s) (ed es k).2.1 = false := by
    unfold start
    rw [has_set _ _ (by simp; omega) _ h2]
    have e : ((s.toNat : Nat) : Int) = s := by omega
    rw [e, decide_eq_false (fun e => h4 e.symm)]
    unfold has
    simp only [Bool.false_or]
    rw [List.getElem?_replicate]
    split <;> rfl
  have hc := count_on (seen := start n s) (i := (ed es k).2.1.toNat) (by rw [hl]; omega) (by rw [Int.toNat_of_nonneg h2]; exact hh)
  rw [start_count h0 h1] at hc
  exact ⟨rfl, by simp, by simp [hl], by rw [hc]; simp, h2, h3, fun t r => by
    show walkW es t ((k : Int) :: r) s (start n s) = _
    simp only [walkW, Int.toNat_natCast]
    rw [hh, decide_eq_true hs, decide_eq_true (show (0 : Int) ≤ (k : Int) by omega), decide_eq_true (show (k : Int) < (es.length : Int) by omega)]
    simp⟩

theorem Trail.snoc {n : Nat} {es : List E} {s src u : Int} {l : List Int} {seen : List Bool} (hr : right n es = true) (h : Trail n es s src l u seen) {k : Nat} (hk : k < es.length) (hs : (ed es k).1 = u) (hf : has seen (ed es k).2.1 = false) :
    Trail n es s src (l ++ [(k : Int)]) (ed es k).2.1 (seen.set (ed es k).2.1.toNat true) := by
  have ho := okE_iff.1 ((right_iff.1 hr).2.2.2 _ (ed_mem hk))
  obtain ⟨_, _, h2, h3, _⟩ := ho
  have hl := h.len
  have hp := h.pos
  have hc := count_on (seen := seen) (i := (ed es k).2.1.toNat) (by rw [hl]; omega) (by rw [Int.toNat_of_nonneg h2]; exact hf)
  have hcc := h.cnt
  exact ⟨by rw [List.getElem?_append_left (by omega)]; exact h.first, by simp, by simp [hl], by rw [hc]; simp; omega, h2, h3, fun t r => by
    rw [List.append_assoc, h.walk]
    show walkW es t ((k : Int) :: r) u seen = _
    simp only [walkW, Int.toNat_natCast]
    rw [hf, decide_eq_true hs, decide_eq_true (show (0 : Int) ≤ (k : Int) by omega), decide_eq_true (show (k : Int) < (es.length : Int) by omega)]
    simp⟩

theorem Trail.short {n : Nat} {es : List E} {s src u : Int} {l : List Int} {seen : List Bool} (h : Trail n es s src l u seen) : l.length + 1 ≤ n := by
  have h1 := List.count_le_length (a := true) (l := seen)
  have h2 := h.cnt
  rw [h.len] at h1
  omega

theorem Trail.isWay {n : Nat} {es : List E} {s src t : Int} {l : List Int} {seen : List Bool} (h : Trail n es s src l t seen) {c : Int} (c0 : 0 ≤ c) (c1 : c ≤ 1000) : isWayF n es s t src (l, c) = true := by
  have hw := h.walk t []
  rw [List.append_nil] at hw
  have hs := h.short
  unfold isWayF
  rw [hw, decide_eq_true h.pos, decide_eq_true (show l.length ≤ n by omega), decide_eq_true h.first, decide_eq_true c0, decide_eq_true c1]
  simp [walkW]
end Go.Proofs.Ythchlfoebkachaa.Gm

namespace Go.Proofs.Ythchlfoebkachaa.Gm
open Go.Proofs.Ythchlfoebkachaa

/-- What Fill makes in the end. -/
def fillE (n : Nat) (es : List E) (s t : Int) (order : List Int) (ways : List (List WayE)) : List Int := fillK n es s t order ways order.length
theorem Form.take {n : Nat} {es : List E} {s t : Int} {order : List Int} {ways : List (List WayE)} (h : Form n es s t order ways) (m : Nat) : Form n es s t (order.take m) [] :=
  ⟨h.net, h.s0, h.s1, h.t0, h.t1, h.ne, fun x hx => h.src x (List.mem_of_mem_take hx), h.nodup.sublist (List.take_sublist _ _), by simp, fun i hi => by simp at hi⟩
theorem Form.alone {n : Nat} {es : List E} {s t : Int} {order : List Int} {ways : List (List WayE)} (h : Form n es s t order ways) {x : Int} (hx : x ∈ order) : Form n es s t [x] [] :=
  ⟨h.net, h.s0, h.s1, h.t0, h.t1, h.ne, fun y hy => by rw [List.mem_singleton.1 hy]; exact h.src x hx, by simp, by simp, fun i hi => by simp at hi⟩
theorem alone_most {n : Nat} {es : List E} {s t x : Int} (h : Form n es s t [x] []) : Most n (opened es s [x]) s t (fa (fillE n es s t [x] []) x.toNat) := by
  have := sumG_most h (k := 0) (by simp)
  have e : sumG (fillK n es s t [x] [] [x].length) [x] (0 + 1) = fa (fillE n es s t [x] []) x.toNat := by
    simp only [sumG, fillE]; simp
  rw [e] at this
  simpa using this
/-- Nobody has more than alone. -/
theorem got_alone {n : Nat} {es : List E} {s t x : Int} {order : List Int} {ways : List (List WayE)} (h : Form n es s t order ways) (hx : x ∈ order) : fa (fillE n es s t order ways) x.toNat ≤ fa (fillE n es s t [x] []) x.toNat := by
  obtain ⟨hI, _⟩ := fill_stage h order.length (Nat.le_refl _)
  have := out_le (hI.good.whole h.net) hI.back (alone_most (h.alone hx))
  have e := outL_snoc (fl := fillK n es s t order ways order.length) (L := []) (h.src x hx) (by simp)
  rw [outL_nil, List.nil_append] at e
  rw [e] at this
  unfold fillE at *
  omega
theorem got_sum (fl : List Int) (order : List Int) (k : Nat) : fa fl (order[k]?.getD 0).toNat = sumG fl order (k + 1) - sumG fl order k := by
  simp only [sumG]; omega
theorem sum_same {n : Nat} {es : List E} {s t : Int} {order order' : List Int} {ways ways' : List (List WayE)} (h : Form n es s t order ways) (h' : Form n es s t order' ways') {k : Nat} (hk : k ≤ order.length) (hk' : k ≤ order'.length) (he : order.take k = order'.take k) : sumG (fillE n es s t order ways) order k = sumG (fillE n es s t order' ways') order' k := by
  rcases k with _ | k
  · rfl
  · have h1 := sumG_most h (k := k) (by omega)
    have h2 := sumG_most h' (k := k) (by omega)
    rw [← he] at h2
    exact h1.one h2
/-- Whoever comes last changes nothing for those ahead of it. -/
theorem got_take {n : Nat} {es : List E} {s t : Int} {order : List Int} {ways : List (List WayE)} (h : Form n es s t order ways) {m k : Nat} (hm : m ≤ order.length) (hk : k < m) : fa (fillE n es s t (order.take m) []) (order[k]?.getD 0).toNat = fa (fillE n es s t order ways) (order[k]?.getD 0).toNat := by
  have e : order[k]?.getD 0 = (order.take m)[k]?.getD 0 := by rw [List.getElem?_take_of_lt hk]
  have a := got_sum (fillE n es s t order ways) order k
  have b := got_sum (fillE n es s t (order.take m) []) (order.take m) k
  rw [← e] at b
  have hl : (order.take m).length = m := by rw [List.length_take]; omega
  have c1 := sum_same h (h.take m) (k := k + 1) (by omega) (by omega) (by rw [List.take_take]; congr 1; omega)
  have c0 := sum_same h (h.take m) (k := k) (by omega) (by omega) (by rw [List.take_take]; congr 1; omega)
  omega
theorem got_first {n : Nat} {es : List E} {s t : Int} {order : List Int} {ways : List (List WayE)} (h : Form n es s t order ways) (h0 : 0 < order.length) : fa (fillE n es s t [order[0]?.getD 0] []) (order[0]?.getD 0).toNat = fa (fillE n es s t order ways) (order[0]?.getD 0).toNat := by
  have e : order.take 1 = [order[0]?.getD 0] := by
    rcases order with _ | ⟨x, l⟩
    · simp at h0
    · simp
  have := got_take h (m := 1) (k := 0) (by omega) (by omega)
  rwa [e] at this
/-! ### all together -/
theorem opened_all {es : List E} {s : Int} {L : List Int} (h : ∀ i, i < es.length → (ed es i).1 = s → (i : Int) ∈ L) : opened es s L = es := by
  apply List.ext_getElem (by rw [opened_length])
  intro i h1 h2
  have e1 : (opened es s L)[i] = openE s L i es[i] := by simp [opened]
  rw [e1]
  unfold openE
  rw [if_neg]
  rintro ⟨a, b⟩
  have hed : ed es i = es[i] := by unfold ed; rw [List.getElem?_eq_getElem h2]; rfl
  exact b (h i h2 (by rw [hed]; exact a))
theorem total_most {n : Nat} {es : List E} {s t : Int} {order : List Int} {ways : List (List WayE)} (h : Form n es s t order ways) (h0 : order ≠ []) (hall : ∀ i, i < es.length → (ed es i).1 = s → (i : Int) ∈ order) : Most n es s t (sumG (fillE n es s t order ways) order order.length) := by
  have hp : 0 < order.length := List.length_pos_iff.2 h0
  have := sumG_most h (k := order.length - 1) (by omega)
  have e : order.length - 1 + 1 = order.length := by omega
  rw [e, List.take_length, opened_all hall] at this
  exact this
/-! ### a greater Cap -/
def orR (a b : List Bool) : List Bool := a.zipWith (· || ·) b
def andR (a b : List Bool) : List Bool := a.zipWith (· && ·) b
theorem has_or {a b : List Bool} (h : a.length = b.length) (x : Int) : has (orR a b) x = (has a x || has b x) := by
  unfold has orR
  rw [List.getElem?_zipWith]
  by_cases hx : x.toNat < a.length
  · rw [List.getElem?_eq_getElem hx, List.getElem?_eq_getElem (by omega)]; rfl
  · rw [List.getElem?_eq_none (by omega), List.getElem?_eq_none (by omega)]; rfl
theorem has_and {a b : List Bool} (h : a.length = b.length) (x : Int) : has (andR a b) x = (has a x && has b x) := by
  unfold has andR
  rw [List.getElem?_zipWith]
  by_cases hx : x.toNat < a.length
  · rw [List.getElem?_eq_getElem hx, List.getElem?_eq_getElem (by omega)]; rfl
  · rw [List.getElem?_eq_none (by omega), List.getElem?_eq_none (by omega)]; rfl
/-- The edge x with a Cap that is so much greater. -/
def wider (es : List E) (x : Nat) (d : Int) : List E := es.set x ((ed es x).1, (ed es x).2.1, (ed es x).2.2 + d)
theorem wider_at {es : List E} {x : Nat} {d : Int} (hx : x < es.length) (i : Nat) : ed (wider es x d) i = if i = x then ((ed es x).1, (ed es x).2.1, (ed es x).2.2 + d) else ed es i := by
  have h : ed (wider es x d) i = (wider es x d)[i]?.getD (0, 0, 0) := rfl
  rw [h]
  unfold wider
  rw [List.getElem?_set]
  by_cases e : x = i
  · subst e; simp [hx]
  · rw [if_neg e, if_neg (fun h => e h.symm)]; rfl
theorem wider_length (es : List E) (x : Nat) (d : Int) : (wider es x d).length = es.length := by simp [wider]
theorem right_wider {n : Int} {es : List E} (h : right n es = true) {x : Nat} (hx : x < es.length) {d : Int} (d0 : 0 ≤ d) (d1 : (ed es x).2.2 + d ≤ 1000) : right n (wider es x d) = true := by
  have ho := okE_iff.1 ((right_iff.1 h).2.2.2 _ (ed_mem hx))
  exact right_set h x (okE_iff.2 ⟨ho.1, ho.2.1, ho.2.2.1, ho.2.2.2.1, ho.2.2.2.2.1, by simp only; omega, d1⟩)
theorem wider_less {n : Nat} {es : List E} {s t M M' N N' d : Int} {x : Nat} (hx : x < es.length) (hd : 0 ≤ d) (hsrc : (ed es x).1 = s) (hM : Most n es s t M) (hM' : Most n (wider es x d) s t M') (hN : Most n (opened es s [(x : Int)]) s t N) (hN' : Most n (opened (wider es x d) s [(x : Int)]) s t N') : M' - N' ≤ M - N ∧ N ≤ N' := by
  obtain ⟨fl, hg, _⟩ := hM.has_
  have hok := (right_iff.1 hg.net).2.2.2
  constructor
  · obtain ⟨A, hAl, hA0, hA1, rfl⟩ := hM.cut_min
    obtain ⟨B, hBl, hB0, hB1, rfl⟩ := hN'.cut_min
    have hAB : A.length = B.length := by rw [hAl, hBl]
    have hU := hM'.le_cut (r := orR A B) (by simp [orR, hAl, hBl]) (by rw [has_or hAB, hA0]; rfl) (by rw [has_or hAB, hA1, hB1]; rfl)
    have hI := hN.le_cut (r := andR A B) (by simp [andR, hAl, hBl]) (by rw [has_and hAB, hA0, hB0]; rfl) (by rw [has_and hAB, hA1]; rfl)
    have h1 := sumN_le es.length (fun i => c1 (orR A B) (ed (wider es x d) i) + c1 (andR A B) (ed (opened es s [(x : Int)]) i)) (fun i => c1 A (ed es i) + c1 B (ed (opened (wider es x d) s [(x : Int)]) i)) (fun i hi => by
      have ho := okE_iff.1 (hok _ (ed_mem hi))
      rw [opened_at hi, opened_at (by rw [wider_length]; exact hi), wider_at hx]
      unfold c1 openE
      by_cases e : i = x
      · subst e
        simp only [if_true, hsrc, List.mem_singleton, not_true_eq_false, and_false, if_false, has_or hAB, has_and hAB, hA0, hB0]
        rcases has A (ed es i).2.1 with _ | _ <;> rcases has B (ed es i).2.1 with _ | _ <;> simp <;> omega
      · have e2 : ¬ (i : Int) = (x : Int) := by omega
        simp only [if_neg e, List.mem_singleton, e2, not_false_eq_true, and_true]
        by_cases e3 : (ed es i).1 = s
        · simp only [e3, if_true, has_or hAB, has_and hAB, hA0, hB0]
          rcases has A (ed es i).2.1 with _ | _ <;> rcases has B (ed es i).2.1 with _ | _ <;> simp <;> omega
        · simp only [if_neg e3, has_or hAB, has_and hAB]
          rcases has A (ed es i).1 with _ | _ <;> rcases has B (ed es i).1 with _ | _ <;> rcases has A (ed es i).2.1 with _ | _ <;> rcases has B (ed es i).2.1 with _ | _ <;> simp <;> omega)
    rw [sumN_add, sumN_add] at h1
    rw [cutSum_sum, wider_length] at hU
    rw [cutSum_sum, opened_length] at hI
    have h2 : cutSum A es = sumN es.length (fun i => c1 A (ed es i)) := cutSum_sum _ _
    have h3 : cutSum B (opened (wider es x d) s [(x : Int)]) = sumN es.length (fun i => c1 B (ed (opened (wider es x d) s [(x : Int)]) i)) := by rw [cutSum_sum, opened_length, wider_length]
    omega
  · obtain ⟨B, hBl, hB0, hB1, rfl⟩ := hN'.cut_min
    have hI := hN.le_cut hBl hB0 hB1
    have h1 := sumN_le es.length (fun i => c1 B (ed (opened es s [(x : Int)]) i)) (fun i => c1 B (ed (opened (wider es x d) s [(x : Int)]) i)) (fun i hi => by
      rw [opened_at hi, opened_at (by rw [wider_length]; exact hi), wider_at hx]
      unfold c1 openE
      by_cases e : i = x
      · subst e
        simp only [if_true, hsrc, List.mem_singleton, not_true_eq_false, and_false, if_false]
        split <;> omega
      · rw [if_neg e]; exact Int.le_refl _)
    rw [cutSum_sum, opened_length] at hI
    have h3 : cutSum B (opened (wider es x d) s [(x : Int)]) = sumN es.length (fun i => c1 B (ed (opened (wider es x d) s [(x : Int)]) i)) := by rw [cutSum_sum, opened_length, wider_length]
    omega
end Go.Proofs.Ythchlfoebkachaa.Gm

namespace Go.Proofs.Ythchlfoebkachaa.Gm
open Go.Proofs.Ythchlfoebkachaa

/-- How many of these ways use an edge. -/
def load (e : Nat) : List WayE → Int
  | [] => 0
  | w :: ws => (if e ∈ w.1.map Int.toNat then 1 else 0) + load e ws
theorem load_app (e : Nat) (a b : List WayE) : load e (a ++ b) = load e a + load e b := by
  induction a with
  | nil => simp [load]
  | cons w a ih => simp only [List.cons_append, load, ih]; omega
theorem load_pos (e : Nat) : ∀ a : List WayE, 0 ≤ load e a
  | [] => Int.le_refl _
  | w :: a => by have := load_pos e a; simp only [load]; split <;> omega
def loads (wss : List (List WayE)) (k e : Nat) : Int := sumN k (fun j => load e (wss[j]?.getD []))
theorem sumN_pos : ∀ (k : Nat) (g : Nat → Int), (∀ i, 0 ≤ g i) → 0 ≤ sumN k g
  | 0, _, _ => Int.le_refl _
  | k + 1, g, h => by have := sumN_pos k g h; have := h k; simp only [sumN]; omega
theorem sumN_part : ∀ (m k : Nat) (g : Nat → Int), (∀ i, 0 ≤ g i) → sumN k g ≤ sumN (k + m) g
  | 0, _, _, _ => Int.le_refl _
  | m + 1, k, g, h => by have := sumN_part m k g h; have := h (k + m); show _ ≤ sumN (k + m) g + g (k + m); omega
/-- A way of one unit over which there is room. -/
theorem goW_one {n : Nat} {es : List E} {fl : List Int} {s t src : Int} {w : WayE} (hr : right n es = true) (hl : fl.length = es.length) (hw : isWayF n es s t src w = true) (h1 : w.2 = 1) (hroom : ∀ i ∈ w.1.map Int.toNat, fa fl i + 1 ≤ (ed es i).2.2) :
    ∀ e, fa (goW es fl w) e = fa fl e + load e [w] := by
  have hok := (right_iff.1 hr).2.2.2
  simp only [isWayF, Bool.and_eq_true, decide_eq_true_eq] at hw
  obtain ⟨⟨⟨⟨⟨w1, w2⟩, w3⟩, w4⟩, w5⟩, w6⟩ := hw
  obtain ⟨a, b, _, _, _⟩ := walkW_is hok w.1 s (start n s) (by simp [start]) w6
  have hsp : ∀ p ∈ legsW w.1, 1 ≤ spare es fl p := fun p hp => by
    obtain ⟨i, hi, rfl⟩ := List.mem_map.1 hp
    have := hroom i.toNat (List.mem_map.2 ⟨i, hi, rfl⟩)
    unfold spare; simp only [if_true]; omega
  have hroom1 : roomOf es fl (legsW w.1) w.2 = 1 := by
    have h2 := roomOf_le es fl (legsW w.1) w.2
    have h3 := roomW_ge es fl (legsW w.1) w.2 1 (by omega) hsp
    omega
  intro e
  unfold goW
  rw [hroom1]
  have hp := puts_at 1 (legsW w.1) fl e (fun p hp => by
    obtain ⟨i, hi, rfl⟩ := List.mem_map.1 hp
    have := a i hi
    rw [hl]; dsimp only; omega) (by rw [legsW_map]; exact b)
  rw [legsW_map] at hp
  simp only [load]
  by_cases hm : e ∈ w.1.map Int.toNat
  · rw [if_pos hm]
    obtain ⟨i, hi, rfl⟩ := List.mem_map.1 hm
    rw [hp.1 true (List.mem_map.2 ⟨i, hi, rfl⟩)]
    simp [sgn]
  · rw [if_neg hm, hp.2 hm]; omega
/-- Ways of one unit over which there is room for all. -/
theorem ways_one {n : Nat} {es : List E} {s t src : Int} (hr : right n es = true) : ∀ (ws : List WayE) (fl : List Int), fl.length = es.length → (∀ w ∈ ws, isWayF n es s t src w = true ∧ w.2 = 1) → (∀ e, e < es.length → fa fl e + load e ws ≤ (ed es e).2.2) →
    ∀ e, fa (ws.foldl (goW es) fl) e = fa fl e + load e ws
  | [], fl, _, _, _ => fun e => by simp [load]
  | w :: ws, fl, hl, hw, hroom => by
    have hok := (right_iff.1 hr).2.2.2
    have hw1 := hw w (by simp)
    have h6 := hw1.1
    simp only [isWayF, Bool.and_eq_true, decide_eq_true_eq] at h6
    obtain ⟨a, _, _, _, _⟩ := walkW_is hok w.1 s (start n s) (by simp [start]) h6.2
    have h1 := goW_one hr hl hw1.1 hw1.2 (fun i hi => by
      obtain ⟨x, hx, rfl⟩ := List.mem_map.1 hi
      have h2 := hroom x.toNat (by have := a x hx; omega)
      have h3 := load_pos x.toNat ws
      simp only [load] at h2
      rw [if_pos (List.mem_map.2 ⟨x, hx, rfl⟩)] at h2
      omega)
    have ih := ways_one hr ws (goW es fl w) (by rw [goW_length]; exact hl) (fun x hx => hw x (by simp [hx])) (fun e he => by
      have h2 := hroom e he
      rw [h1 e]
      simp only [load] at h2 ⊢
      omega)
    intro e
    rw [List.foldl_cons, ih e, h1 e]
    simp only [load]
    omega
/-- A source is used by its own ways alone. -/
theorem load_other {n : Nat} {es : List E} {s t src x : Int} (hr : right n es = true) (s0 : 0 ≤ s) (s1 : s < n) (hx : isSrc es s x = true) (hne : x ≠ src) : ∀ ws : List WayE, (∀ w ∈ ws, isWayF n es s t src w = true) → load x.toNat ws = 0
  | [], _ => rfl
  | w :: ws, hw => by
    have hok := (right_iff.1 hr).2.2.2
    have h6 := hw w (by simp)
    simp only [isWayF, Bool.and_eq_true, decide_eq_true_eq] at h6
    obtain ⟨⟨⟨⟨⟨w1, w2⟩, w3⟩, w4⟩, w5⟩, w6⟩ := h6
    obtain ⟨a, _, _, d, _⟩ := walkW_is hok w.1 s (start n s) (by simp [start]) w6
    simp only [load]
    rw [load_other hr s0 s1 hx hne ws (fun y hy => hw y (by simp [hy])), if_neg]
    · rfl
    · intro hm
      obtain ⟨y, hy, e⟩ := List.mem_map.1 hm
      obtain ⟨x0, x1, x2⟩ := isSrc_iff.1 hx
      have hy0 := a y hy
      obtain rfl : y = x := by omega
      rcases hw1 : w.1 with _ | ⟨i0, l⟩
      · rw [hw1] at w1; simp at w1
      · rw [hw1] at hy w3 d
        rcases List.mem_cons.1 hy with rfl | hy
        · exact hne (by simpa using w3)
        · have := d y (by simpa using hy)
          rw [x2, start_has s0 s1 _ s0] at this
          simp at this
theorem fl_ext {a b : List Int} (hl : a.length = b.length) (h : ∀ i, i < a.length → fa a i = fa b i) : a = b := by
  apply List.ext_getElem hl
  intro i h1 h2
  have := h i h1
  unfold fa at this
  simpa [h1, h2] using this
/-- WHAT WAS FILLED, TAKEN AS WAYS, IS THE FLOW AGAIN. -/
theorem fill_again {n : Nat} {es : List E} {s t : Int} {order : List Int} {ways wss : List (List WayE)} (h : Form n es s t order ways) (h' : Form n es s t order wss) (hone : ∀ (i : Nat), ∀ w ∈ wss[i]?.getD [], w.2 = 1) (hsum : ∀ e, e < es.length → fa (fillE n es s t order ways) e = loads wss order.length e) :
    ∀ i, i ≤ order.length → ∀ e, e < es.length → fa (fillK n es s t order wss i) e = loads wss i e
  | 0, _ => fun e he => by
    show fa (List.replicate es.length 0) e = 0
    unfold fa; simp [he]
  | i + 1, hi => by
    have ih := fill_again h h' hone hsum i (by omega)
    have hil : i < order.length := by omega
    obtain ⟨hst, _⟩ := fill_stage h' i (by omega)
    obtain ⟨hF, _⟩ := fill_stage h order.length (Nat.le_refl _)
    have hmem : order[i]?.getD 0 ∈ order.take (i + 1) := by
      rw [List.take_succ_eq_append_getElem hil, List.getElem?_eq_getElem hil]
      exact List.mem_append.2 (.inr (by simp))
    have hg := hst.good.opener h.net (L' := order.take (i + 1)) (fun x hx => by
      rw [List.take_succ_eq_append_getElem hil]
      exact List.mem_append.2 (.inl hx))
    have hwi : ∀ (j : Nat), ∀ w ∈ wss[j]?.getD [], isWayF n es s t (order[j]?.getD 0) w = true := fun j w hw => by
      by_cases hj : j < wss.length
      · exact h'.ways j hj w hw
      · rw [List.getElem?_eq_none (by omega)] at hw
        simp at hw
    have hlen : (fillK n es s t order wss i).length = es.length := by rw [hst.good.len, opened_length]
    have hcap : ∀ e, e < es.length → fa (fillK n es s t order wss i) e + load e (wss[i]?.getD []) ≤ (ed es e).2.2 := fun e he => by
      have h1 := (hF.good.whole h.net).at he
      have h2 := hsum e he
      unfold fillE at h2
      have h3 := sumN_part (order.length - (i + 1)) (i + 1) (fun j => load e (wss[j]?.getD [])) (fun j => load_pos e _)
      rw [show i + 1 + (order.length - (i + 1)) = order.length by omega] at h3
      rw [ih e he]
      have h4 : loads wss (i + 1) e = loads wss i e + load e (wss[i]?.getD []) := rfl
      unfold loads at *
      omega
    have hall := ways_one h.net (wss[i]?.getD []) _ hlen (fun w hw => ⟨hwi i w hw, hone i w hw⟩) hcap
    obtain ⟨ga, gb, _⟩ := ways_good h.net hmem (wss[i]?.getD []) _ hg hst.back (hwi i)
    obtain ⟨X, hX⟩ : ∃ X, (wss[i]?.getD []).foldl (goW es) (fillK n es s t order wss i) = X := ⟨_, rfl⟩
    rw [hX] at hall ga gb
    have hXe : ∀ e, e < es.length → fa X e = loads wss (i + 1) e := fun e he => by
      rw [hall e, ih e he]; rfl
    -- so much flows as can
    have hM := out_final h (i := order.length) (j := i + 1) (Nat.le_refl _) hi (by omega)
    have hout : outL es X s (order.take (i + 1)) = outL es (fillK n es s t order ways order.length) s (order.take (i + 1)) := by
      refine sumN_congr _ _ _ fun e he => ?_
      by_cases hc : (ed es e).1 = s ∧ (e : Int) ∈ order.take (i + 1)
      · rw [if_pos hc, if_pos hc, hXe e he]
        have h2 := hsum e he
        unfold fillE at h2
        rw [h2]
        -- the ways of later sources don't use it
        have h3 : ∀ m, loads wss (i + 1 + m) e = loads wss (i + 1) e := by
          intro m
          induction m with
          | zero => rfl
          | succ m im =>
            have h4 : loads wss (i + 1 + (m + 1)) e = loads wss (i + 1 + m) e + load e (wss[i + 1 + m]?.getD []) := rfl
            rw [h4, im]
            by_cases hj : i + 1 + m < order.length
            · have h5 := load_other (x := (e : Int)) (src := order[i + 1 + m]?.getD 0) h.net h.s0 h.s1 (h.src _ (List.mem_of_mem_take hc.2)) (fun e1 => by
                obtain ⟨q, hq1, hq2⟩ := List.getElem_of_mem hc.2
                rw [List.length_take] at hq1
                rw [List.getElem_take, e1, List.getElem?_eq_getElem hj] at hq2
                have := (List.getElem_inj h.nodup).1 hq2
                omega) (wss[i + 1 + m]?.getD []) (hwi _)
              rw [Int.toNat_natCast] at h5
              omega
            · have h5 : wss[i + 1 + m]? = none := List.getElem?_eq_none (by have := h'.len; omega)
              rw [h5]
              simp [load]
        have h6 := h3 (order.length - (i + 1))
        rw [show i + 1 + (order.length - (i + 1)) = order.length by omega] at h6
        exact h6.symm
      · rw [if_neg hc, if_neg hc]
    rw [← hout, outL_good h.net ga gb] at hM
    have hXl : X.length = es.length := by rw [ga.len, opened_length]
    have hno : has (bfs n (opened es s (order.take (i + 1))) X s).seen t = false := by
      rcases hb : has (bfs n (opened es s (order.take (i + 1))) X s).seen t with _ | _
      · rfl
      · obtain ⟨a, _, _, c, d⟩ := push_room (most := 1073741824) (st := (X, 0)) ga (by dsimp only; omega) hb
        have := hM.le _ c
        rw [d] at this
        dsimp only at this a
        rw [gain_open hXl] at this
        omega
    intro e he
    show fa (stageF n es s t (order.take (i + 1)) (wss[i]?.getD []) (fillK n es s t order wss i)) e = _
    unfold stageF
    rw [hX, pushed_stop (.inr hno)]
    exact hXe e he
theorem fillE_again {n : Nat} {es : List E} {s t : Int} {order : List Int} {ways wss : List (List WayE)} (h : Form n es s t order ways) (h' : Form n es s t order wss) (hone : ∀ (i : Nat), ∀ w ∈ wss[i]?.getD [], w.2 = 1) (hsum : ∀ e, e < es.length → fa (fillE n es s t order ways) e = loads wss order.length e) : fillE n es s t order wss = fillE n es s t order ways := by
  have a := (fill_stage h' order.length (Nat.le_refl _)).1.good.len
  have b := (fill_stage h order.length (Nat.le_refl _)).1.good.len
  rw [opened_length] at a b
  refine fl_ext (by unfold fillE; rw [a, b]) (fun i hi => ?_)
  unfold fillE at hi
  rw [a] at hi
  rw [hsum i hi]
  exact fill_again h h' hone hsum order.length (Nat.le_refl _) i hi
end Go.Proofs.Ythchlfoebkachaa.Gm

namespace Go.Proofs.Ythchlfoebkachaa.Gm
open Go.Proofs.Ythchlfoebkachaa

theorem walk_short {n : Nat} {es : List E} {t : Int} (hok : ∀ e ∈ es, okE n e = true) : ∀ (l : List Int) (u : Int) (seen : List Bool), seen.length = n → walkW es t l u seen = true → l.length + seen.count true ≤ n
  | [], u, seen, hl, _ => by
    have := List.count_le_length (a := true) (l := seen)
    rw [hl] at this
    simpa using this
  | i :: l, u, seen, hl, h => by
    simp only [walkW, Bool.and_eq_true, decide_eq_true_eq, Bool.not_eq_true'] at h
    obtain ⟨⟨⟨⟨h0, h1⟩, h2⟩, h3⟩, h4⟩ := h
    have ho := okE_iff.1 (hok _ (ed_mem (es := es) (j := i.toNat) (by omega)))
    have hc := count_on (seen := seen) (i := (ed es i.toNat).2.1.toNat) (by rw [hl]; have := ho.2.2.2.1; have := ho.2.2.1; omega) (by rw [Int.toNat_of_nonneg ho.2.2.1]; exact h3)
    have := walk_short hok l _ _ (by simpa using hl) h4
    rw [hc] at this
    simp only [List.length_cons]; omega
/-- The program's own check, as it reckons. -/
def isPathF (n : Nat) (es : List E) (s t src : Int) (w : WayE) : Bool :=
  !decide (w.2 < 0) && !decide (1000 < w.2) && !decide (w.1.length = 0) && decide (w.1[0]?.getD 0 = src) && walkW es t w.1 s (start n s)
theorem isPath_way {n : Nat} {es : List E} {s t src : Int} {w : WayE} (hr : right n es = true) (s0 : 0 ≤ s) (s1 : s < n) : isPathF n es s t src w = isWayF n es s t src w := by
  rw [Bool.eq_iff_iff]
  unfold isPathF isWayF
  simp only [Bool.and_eq_true, decide_eq_true_eq, Bool.not_eq_true', decide_eq_false_iff_not]
  constructor
  · rintro ⟨⟨⟨⟨a, b⟩, c⟩, d⟩, e⟩
    have h := walk_short (right_iff.1 hr).2.2.2 w.1 s (start n s) (by simp [start]) e
    rw [start_count s0 s1] at h
    exact ⟨⟨⟨⟨⟨by omega, by omega⟩, d⟩, by omega⟩, by omega⟩, e⟩
  · rintro ⟨⟨⟨⟨⟨a, b⟩, c⟩, d⟩, e⟩, f⟩
    exact ⟨⟨⟨⟨by omega, by omega⟩, by omega⟩, c⟩, f⟩
end Go.Proofs.Ythchlfoebkachaa.Gm

namespace Go.Proofs.Ythchlfoebkachaa.Gm
open Go.Proofs.Ythchlfoebkachaa
abbrev ex7 : List E := [(0, 1, 2), (0, 2, 2), (1, 3, 1), (2, 3, 2), (1, 2, 2)]
theorem ex7_a : fillF 4 ex7 0 3 [1, 0] [] = ([1, 2, 1, 2, 0], [2, 1], 0) := by decide +kernel
theorem ex7_b : fillF 4 ex7 0 3 [0, 1] [] = ([2, 1, 1, 2, 1], [2, 1], 0) := by decide +kernel
theorem ex7_c : fillF 4 ex7 0 3 [2] [] = ([], [], 50) := by decide +kernel
end Go.Proofs.Ythchlfoebkachaa.Gm
