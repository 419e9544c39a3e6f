/-
  How much can flow, compared by cuts: with Caps doubled, with an edge closed, one more, one parted, all turned.
-/
import Derived.Test.YtcbfgdiddhhhcaaMost
import Derived.Test.YtcbfgdiddhhhcaaTurned
namespace Go.Proofs.Ytcbfgdiddhhhcaa.Gm
open Go.Proofs.Ytcbfgdiddhhhcaa

theorem cut_sum {n : Nat} {es : List E} {r : List Bool} (hr : right n es = true) (hl : r.length = n) : cut n es r = cutSum r es := by
  unfold cut
  rw [hr, hl]; simp
/-- A cut that is just what can flow. -/
theorem Most.cut_min {n : Nat} {es : List E} {s t M : Int} (h : Most n es s t M) : ∃ r : List Bool, r.length = n ∧ has r s = true ∧ has r t = false ∧ cutSum r es = M := by
  obtain ⟨fl, hg, _⟩ := h.has_
  obtain ⟨R, _, hG, hgn, hM, hs, _, _⟩ := maxF_good hg.net hg.s0 hg.s1 hg.t0 hg.t1 hg.ne
  have hrc := bfs_reached (fl := R.1) (right_iff.1 hg.net).2.2.2 hG.len hg.s0 hg.s1
  have hl : (bfs n es R.1 s).seen.length = n := by rw [hrc.len]; simp
  refine ⟨(bfs n es R.1 s).seen, hl, hrc.first, hs, ?_⟩
  rw [← cut_sum hg.net hl, (most_of hG hs).2, hgn, hM.one h]
theorem Most.le_cut {n : Nat} {es : List E} {s t M : Int} (h : Most n es s t M) {r : List Bool} (hl : r.length = n) (h0 : has r s = true) (h1 : has r t = false) : M ≤ cutSum r es := by
  obtain ⟨fl, hg, rfl⟩ := h.has_
  rw [← cut_sum hg.net hl]
  exact hg.le_cut hl h0 h1
theorem most_le {n : Nat} {es es' : List E} {s t M M' k k' : Int} (h : Most n es s t M) (h' : Most n es' s t M') (hk : 0 ≤ k) (hc : ∀ r, k * cutSum r es ≤ k' * cutSum r es') : k * M ≤ k' * M' := by
  obtain ⟨r, hl, h0, h1, rfl⟩ := h'.cut_min
  have := Int.mul_le_mul_of_nonneg_left (h.le_cut hl h0 h1) hk
  exact Int.le_trans this (hc r)
theorem most_same {n : Nat} {es es' : List E} {s t M M' : Int} (h : Most n es s t M) (h' : Most n es' s t M') (hc : ∀ r, cutSum r es = cutSum r es') : M = M' := by
  have h1 := most_le h h' (k := 1) (k' := 1) (by omega) (fun r => by rw [hc r]; exact Int.le_refl _)
  have h2 := most_le h' h (k := 1) (k' := 1) (by omega) (fun r => by rw [hc r]; exact Int.le_refl _)
  omega
/-! ### turned -/
theorem most_flip {n : Nat} {es : List E} {M M' : Int} (h : Most n es 0 1 M) (h' : Most n (es.map flip) 1 0 M') : M = M' := by
  have h1 : M ≤ M' := by
    obtain ⟨fl, hg, _⟩ := h.has_
    obtain ⟨R, _, hG, hgn, hM, _, hR0, _⟩ := maxF_good hg.net hg.s0 hg.s1 hg.t0 hg.t1 hg.ne
    have hF : GoodF n es R.1 := ⟨hG.net, hG.len, hG.fit, hG.flat, by omega⟩
    have hgg := goodG_iff.1 (good_flip hF)
    have := h'.le R.1 hgg
    rw [← hgg.value, value_flip hF, hG.value, hgn, hM.one h] at this
    exact this
  have h2 : M' ≤ M := by
    obtain ⟨r, hl, k0, k1, rfl⟩ := h.cut_min
    obtain ⟨fl, hg, _⟩ := h.has_
    have hn := right_iff.1 hg.net
    have := h'.le_cut (r := r.map not) (by simpa using hl) (by rw [has_not (by omega), k1]; rfl) (by rw [has_not (by omega), k0]; rfl)
    rw [cutSum_flip r es (fun e he => by
      have := okE_iff.1 (hn.2.2.2 e he)
      rw [hl]; omega)] at this
    exact this
  omega
/-! ### doubled -/
def dbl (e : E) : E := (e.1, e.2.1, 2 * e.2.2)
theorem cutSum_dbl (r : List Bool) : ∀ es : List E, cutSum r (es.map dbl) = 2 * cutSum r es
  | [] => rfl
  | e :: es => by
    simp only [List.map_cons, cutSum, cutSum_dbl r es, dbl]
    split <;> omega
theorem right_dbl {n : Int} {es : List E} (h : right n es = true) (hc : ∀ e ∈ es, e.2.2 ≤ 500) : right n (es.map dbl) = true := by
  obtain ⟨a, b, c, d⟩ := right_iff.1 h
  refine right_iff.2 ⟨a, b, by simpa using c, ?_⟩
  intro e he
  obtain ⟨x, hx, rfl⟩ := List.mem_map.1 he
  have h1 := okE_iff.1 (d x hx)
  have h2 := hc x hx
  refine okE_iff.2 ?_
  simp only [dbl]
  refine ⟨h1.1, h1.2.1, h1.2.2.1, h1.2.2.2.1, h1.2.2.2.2.1, by omega, by omega⟩
theorem most_dbl {n : Nat} {es : List E} {s t M M' : Int} (h : Most n es s t M) (h' : Most n (es.map dbl) s t M') : M' = 2 * M := by
  have h1 := most_le h h' (k := 2) (k' := 1) (by omega) (fun r => by rw [cutSum_dbl]; omega)
  have h2 := most_le h' h (k := 1) (k' := 2) (by omega) (fun r => by rw [cutSum_dbl]; omega)
  omega
/-! ### one edge set -/
def c1 (r : List Bool) (e : E) : Int := if has r e.1 && !has r e.2.1 then e.2.2 else 0
theorem cutSum_cons (r : List Bool) (e : E) (es : List E) : cutSum r (e :: es) = c1 r e + cutSum r es := rfl
theorem cutSum_set (r : List Bool) (y : E) : ∀ (es : List E) (k : Nat) (h : k < es.length), cutSum r (es.set k y) + c1 r es[k] = cutSum r es + c1 r y
  | [], _, h => by simp at h
  | e :: es, 0, _ => by
    simp only [List.set_cons_zero, cutSum_cons, List.getElem_cons_zero]; omega
  | e :: es, k + 1, h => by
    have ih := cutSum_set r y es k (by simpa using h)
    simp only [List.set_cons_succ, cutSum_cons, List.getElem_cons_succ]; omega
theorem right_set {n : Int} {es : List E} (h : right n es = true) (k : Nat) {y : E} (hy : okE n y = true) : right n (es.set k y) = true := by
  obtain ⟨a, b, c, d⟩ := right_iff.1 h
  refine right_iff.2 ⟨a, b, by simpa using c, fun e he => ?_⟩
  rcases List.mem_or_eq_of_mem_set he with he | rfl
  · exact d e he
  · exact hy
theorem most_shut {n : Nat} {es : List E} {s t M M' : Int} {k : Nat} (hk : k < es.length) (h : Most n es s t M) (h' : Most n (es.set k (es[k].1, es[k].2.1, 0)) s t M') : M' ≤ M := by
  obtain ⟨fl, hg, _⟩ := h.has_
  have ho := okE_iff.1 ((right_iff.1 hg.net).2.2.2 _ (List.getElem_mem hk))
  have h1 := most_le h' h (k := 1) (k' := 1) (by omega) (fun r => by
    have := cutSum_set r (es[k].1, es[k].2.1, 0) es k hk
    have e1 : c1 r (es[k].1, es[k].2.1, 0) = 0 := by simp [c1]
    have e2 : 0 ≤ c1 r es[k] := by unfold c1; split <;> omega
    omega)
  omega
/-! ### one more -/
theorem most_more {n : Nat} {es : List E} {s t M M' : Int} {e : E} (he : 0 ≤ e.2.2) (h : Most n es s t M) (h' : Most n (es ++ [e]) s t M') : M ≤ M' := by
  have h1 := most_le h h' (k := 1) (k' := 1) (by omega) (fun r => by
    rw [cutSum_app]
    have e2 : 0 ≤ cutSum r [e] := by simp only [cutSum]; split <;> omega
    omega)
  omega
theorem pk_id {x n : Int} (h0 : 0 ≤ x) (h1 : x < n) : pk x n = x := by
  unfold pk
  rw [if_neg (by omega), Int.emod_eq_of_lt h0 h1]
theorem fitN_id {n : Int} (h0 : 2 ≤ n) (h1 : n ≤ 9) : fitN (n - 2) = n := by
  unfold fitN
  rw [pk_id (by omega) (by omega)]; omega
theorem fitE_id {n : Int} {e : E} (h : okE n e = true) (hc : e.2.2 ≤ 9) : fitE n e = e := by
  have ho := okE_iff.1 h
  unfold fitE
  rw [pk_id ho.1 ho.2.1, pk_id ho.2.2.1 ho.2.2.2.1, pk_id ho.2.2.2.2.2.1 (by omega), if_neg ho.2.2.2.2.1]
theorem fitEs_id {n : Int} {es : List E} (h : ∀ e ∈ es, okE n e = true ∧ e.2.2 ≤ 9) (hl : es.length ≤ 40) : fitEs n es = es := by
  unfold fitEs
  rw [List.take_of_length_le hl]
  apply List.ext_getElem (by simp)
  intro i h1 h2
  rw [List.getElem_map]
  have := h _ (List.getElem_mem h2)
  exact fitE_id this.1 this.2
theorem fitEs_one {n : Int} {es : List E} (h : ∀ e ∈ es, okE n e = true ∧ e.2.2 ≤ 9) (hl : es.length ≤ 40) (e : E) : fitEs n (es ++ [e]) = es ∨ fitEs n (es ++ [e]) = es ++ [fitE n e] := by
  by_cases h40 : es.length = 40
  · left
    unfold fitEs
    rw [List.take_append_of_le_length (by omega)]
    exact fitEs_id h hl
  · right
    unfold fitEs
    rw [List.take_of_length_le (by simp; omega), List.map_append]
    have := fitEs_id h hl
    unfold fitEs at this
    rw [List.take_of_length_le hl] at this
    rw [this]; rfl
theorem most_fit {n : Nat} {es : List E} {s t M M' : Int} {e : E} (hn : 2 ≤ (n : Int)) (hes : ∀ e ∈ es, okE n e = true ∧ e.2.2 ≤ 9) (hl : es.length ≤ 40) (h : Most n es s t M) (h' : Most n (fitEs n (es ++ [e])) s t M') : M ≤ M' := by
  rcases fitEs_one hes hl e with h1 | h1
  · rw [h1] at h'
    have := h.one h'; omega
  · rw [h1] at h'
    have := (okE_iff.1 (fitE_ok hn e).1).2.2.2.2.2.1
    exact most_more this h h'
/-! ### one parted -/
theorem cutSum_rev (r : List Bool) : ∀ es : List E, cutSum r es.reverse = cutSum r es
  | [] => rfl
  | e :: es => by
    rw [List.reverse_cons, cutSum_app, cutSum_rev r es]
    simp only [cutSum]; omega
def parted (es : List E) (k : Nat) (c : Int) : List E := ((ed es k).1, (ed es k).2.1, c) :: (es.set k ((ed es k).1, (ed es k).2.1, (ed es k).2.2 - c)).reverse
theorem cutSum_parted (r : List Bool) {es : List E} {k : Nat} (hk : k < es.length) (c : Int) : cutSum r (parted es k c) = cutSum r es := by
  unfold parted
  have hed : ed es k = es[k] := by unfold ed; rw [List.getElem?_eq_getElem hk]; rfl
  rw [cutSum_cons, cutSum_rev, hed]
  have h1 := cutSum_set r (es[k].1, es[k].2.1, es[k].2.2 - c) es k hk
  have h2 : c1 r (es[k].1, es[k].2.1, c) + c1 r (es[k].1, es[k].2.1, es[k].2.2 - c) = c1 r es[k] := by
    unfold c1
    simp only
    split <;> omega
  omega
theorem right_parted {n : Int} {es : List E} (h : right n es = true) (hl : es.length ≤ 255) {k : Nat} (hk : k < es.length) {c : Int} (c0 : 0 ≤ c) (c1 : c ≤ (ed es k).2.2) : right n (parted es k c) = true := by
  obtain ⟨a, b, d, e⟩ := right_iff.1 h
  have ho := okE_iff.1 (e _ (ed_mem hk))
  have hs := right_set h k (y := ((ed es k).1, (ed es k).2.1, (ed es k).2.2 - c)) (okE_iff.2 ⟨ho.1, ho.2.1, ho.2.2.1, ho.2.2.2.1, ho.2.2.2.2.1, by simp only; omega, by simp only; omega⟩)
  refine right_iff.2 ⟨a, b, by unfold parted; simp; omega, ?_⟩
  intro x hx
  unfold parted at hx
  rcases List.mem_cons.1 hx with rfl | hx
  · exact okE_iff.2 ⟨ho.1, ho.2.1, ho.2.2.1, ho.2.2.2.1, ho.2.2.2.2.1, c0, by simp only; omega⟩
  · exact (right_iff.1 hs).2.2.2 x (by simpa using hx)
end Go.Proofs.Ytcbfgdiddhhhcaa.Gm
