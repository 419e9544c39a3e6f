/-
  Flows from any vertex to any other: no cut is less than what flows; where reach ends, its cut is just that; a flow that is turned along some edges.
-/
import Derived.Test.YthchlfoebkachaaMath3
namespace Go.Proofs.Ythchlfoebkachaa.Gm

theorem gain_out {n : Int} {z : Z} (h : ∀ p ∈ z, okE n p.1 = true) {x : Int} (hx : x < 0 ∨ n ≤ x) : gain z x = 0 := by
  induction z with
  | nil => rfl
  | cons p l ih =>
    have hp := okE_iff.1 (h p (by simp))
    simp only [gain, ih fun q hq => h q (by simp [hq])]
    rw [if_neg (by omega), if_neg (by omega)]; rfl
/-- A flow from s to t that neither wins nor loses elsewhere. -/
structure GoodG (n : Int) (es : List E) (fl : List Int) (s t : Int) : Prop where
  net : right n es = true
  len : fl.length = es.length
  fit : ∀ p ∈ es.zip fl, 0 ≤ p.2 ∧ p.2 ≤ p.1.2.2
  flat : ∀ x, x ≠ s → x ≠ t → gain (es.zip fl) x = 0
  s0 : 0 ≤ s
  s1 : s < n
  t0 : 0 ≤ t
  t1 : t < n
  ne : s ≠ t
theorem GoodG.ok {n : Int} {es : List E} {fl : List Int} {s t : Int} (h : GoodG n es fl s t) : ∀ p ∈ es.zip fl, okE n p.1 = true := fun _ hp => (right_iff.1 h.net).2.2.2 _ (List.of_mem_zip hp).1
theorem GoodG.fits {n : Int} {es : List E} {fl : List Int} {s t : Int} (h : GoodG n es fl s t) : Gm.fits n es fl = true := fits_iff.2 ⟨h.net, h.len, h.fit⟩
theorem goodG_iff {n : Int} {es : List E} {fl : List Int} {s t : Int} : good n es fl s t = true ↔ GoodG n es fl s t := by
  constructor
  · intro h
    obtain ⟨hf, hs, ht, hne, hfl⟩ := good_iff.1 h
    obtain ⟨hr, hl, hfit⟩ := fits_iff.1 hf
    have hs' : 0 ≤ s ∧ s < n := by simpa [vtx] using hs
    have ht' : 0 ≤ t ∧ t < n := by simpa [vtx] using ht
    refine ⟨hr, hl, hfit, fun x a b => ?_, hs'.1, hs'.2, ht'.1, ht'.2, hne⟩
    by_cases hx : x < 0 ∨ n ≤ x
    · exact gain_out (fun p hp => (right_iff.1 hr).2.2.2 _ (List.of_mem_zip hp).1) hx
    · have := hfl x.toNat (by omega)
      have e : ((x.toNat : Nat) : Int) = x := by omega
      rw [e] at this
      rcases this with h | h | h
      · exact h
      · exact absurd h a
      · exact absurd h b
  · intro h
    refine good_iff.2 ⟨h.fits, by simp [vtx, h.s0, h.s1], by simp [vtx, h.t0, h.t1], h.ne, fun v _ => ?_⟩
    by_cases a : (v : Int) = s
    · exact .inr (.inl a)
    · by_cases b : (v : Int) = t
      · exact .inr (.inr b)
      · exact .inl (h.flat _ a b)
theorem GoodF.gen {n : Nat} {es : List E} {fl : List Int} (h : GoodF n es fl) : GoodG n es fl 0 1 := by
  have hn := right_iff.1 h.net
  exact ⟨h.net, h.len, h.fit, h.flat, by omega, by omega, by omega, by omega, by omega⟩
theorem two_sum_at (n : Nat) (s t : Int) (s0 : 0 ≤ s) (s1 : s < n) (t0 : 0 ≤ t) (t1 : t < n) (ne : s ≠ t) (g : Int → Int) (h : ∀ x : Int, x ≠ s → x ≠ t → g x = 0) : sumTo n g = g s + g t := by
  have e : sumTo n g = sumTo n (fun x => (if s = x then g s else 0) + (if t = x then g t else 0)) := by
    refine sumTo_congr n _ _ fun x _ => ?_
    by_cases a : s = (x : Int)
    · have b : ¬ t = (x : Int) := fun b => ne (a.trans b.symm)
      simp only [a, b, if_true, if_false]
      rw [← a]; omega
    · by_cases b : t = (x : Int)
      · simp only [a, b, if_true, if_false]
        rw [← b]; omega
      · rw [if_neg a, if_neg b, h _ (fun c => a c.symm) (fun c => b c.symm)]; rfl
  rw [e, sumTo_add, sumTo_one n s (g s) s0 s1, sumTo_one n t (g t) t0 t1]
theorem GoodG.arrives {n : Nat} {es : List E} {fl : List Int} {s t : Int} (h : GoodG n es fl s t) : gain (es.zip fl) t = - gain (es.zip fl) s := by
  have h1 := total_zero h.ok
  rw [two_sum_at n s t h.s0 h.s1 h.t0 h.t1 h.ne _ h.flat] at h1
  omega
theorem GoodG.border {n : Nat} {es : List E} {fl : List Int} {s t : Int} (h : GoodG n es fl s t) (S : Int → Bool) (h0 : S s = true) (h1 : S t = false) : cross S (es.zip fl) = gain (es.zip fl) s := by
  rw [← cross_sum n S _ h.ok, two_sum_at n s t h.s0 h.s1 h.t0 h.t1 h.ne]
  · simp [h0, h1]
  · intro x a b; rw [h.flat x a b]; simp
theorem GoodG.value {n : Nat} {es : List E} {fl : List Int} {s t : Int} (h : GoodG n es fl s t) : value n es fl s = gain (es.zip fl) s := by
  unfold Gm.value
  rw [h.fits, show vtx n s = true by simp [vtx, h.s0, h.s1]]; rfl
/-- No cut is less than what flows. -/
theorem GoodG.le_cut {n : Nat} {es : List E} {fl : List Int} {s t : Int} (h : GoodG n es fl s t) {r : List Bool} (hr : r.length = n) (h0 : has r s = true) (h1 : has r t = false) : gain (es.zip fl) s ≤ cut n es r := by
  unfold cut
  rw [h.net, hr]
  simp only [Bool.true_and, decide_true, if_true]
  rw [← h.border (has r) h0 h1]
  exact cross_le r es fl h.len h.fit
/-- Where reach does not come to t, its cut is just what flows. -/
theorem GoodG.is_cut {n : Nat} {es : List E} {fl : List Int} {s t : Int} (h : GoodG n es fl s t) {r : List Bool} (hr : Reached n (es.zip fl) s r) (h1 : has r t = false) : cut n es r = gain (es.zip fl) s := by
  unfold cut
  rw [h.net, hr.len]
  simp only [Bool.true_and, Int.toNat_natCast, decide_true, if_true]
  rw [← h.border (has r) hr.first h1, cross_eq r es fl h.len h.fit hr.closed]
theorem GoodG.bound {n : Nat} {es : List E} {fl : List Int} {s t : Int} (h : GoodG n es fl s t) : -256000 ≤ gain (es.zip fl) s ∧ gain (es.zip fl) s ≤ 256000 := by
  have h1 := gain_bd (es.zip fl) s (fun p hp => by
    have a := h.fit p hp
    have b := okE_iff.1 (h.ok p hp)
    omega)
  have h2 : (es.zip fl).length ≤ 256 := by
    have := (right_iff.1 h.net).2.2.1
    rw [List.length_zip]; omega
  omega

/-! ### a flow that is turned -/
def put (fl : List Int) (j : Nat) (d : Int) : List Int := fl.set j (fa fl j + d)
theorem put_length (fl : List Int) (j : Nat) (d : Int) : (put fl j d).length = fl.length := by simp [put]
theorem put_at (fl : List Int) (j i : Nat) (d : Int) (hj : j < fl.length) : fa (put fl j d) i = fa fl i + if i = j then d else 0 := by
  unfold put fa
  rw [List.getElem?_set]
  by_cases e : j = i
  · subst e; simp [hj]
  · simp [e, show ¬ i = j from fun h => e h.symm]
theorem gain_put : ∀ (es : List E) (fl : List Int) (j : Nat) (d x : Int), fl.length = es.length → j < es.length → gain (es.zip (put fl j d)) x = gain (es.zip fl) x + d * step es j x
  | [], _, _, _, _, _, h => by simp at h
  | _ :: _, [], _, _, _, h, _ => by simp at h
  | e :: es, f :: fl, 0, d, x, _, _ => by
    simp only [put, fa, List.set_cons_zero, List.getElem?_cons_zero, Option.getD_some, List.zip_cons_cons, gain, step, ed]
    by_cases a : e.1 = x <;> by_cases b : e.2.1 = x <;> simp [a, b] <;> omega
  | e :: es, f :: fl, j + 1, d, x, hl, hj => by
    have ih := gain_put es fl j d x (by simpa using hl) (by simpa using hj)
    have e1 : put (f :: fl) (j + 1) d = f :: put fl j d := by simp [put, fa]
    have e2 : step (e :: es) (j + 1) x = step es j x := by unfold step ed; rw [List.getElem?_cons_succ]
    rw [e1, e2, List.zip_cons_cons, List.zip_cons_cons]
    simp only [gain, ih]
    omega
/-- An edge and whether it is gone along, not against. -/
abbrev Leg := Nat × Bool
def sgn (b : Bool) (d : Int) : Int := if b then d else -d
def puts (fl : List Int) (l : List Leg) (d : Int) : List Int := l.foldl (fun f p => put f p.1 (sgn p.2 d)) fl
theorem puts_length (l : List Leg) (d : Int) : ∀ fl : List Int, (puts fl l d).length = fl.length := by
  induction l with
  | nil => intro fl; rfl
  | cons p l ih => intro fl; show (puts (put fl p.1 (sgn p.2 d)) l d).length = _; rw [ih, put_length]
theorem puts_snoc (fl : List Int) (l : List Leg) (p : Leg) (d : Int) : puts fl (l ++ [p]) d = put (puts fl l d) p.1 (sgn p.2 d) := by simp [puts]
def legs (es : List E) : List Leg → Int → Int
  | [], _ => 0
  | p :: l, x => sgn p.2 1 * step es p.1 x + legs es l x
theorem sgn_mul (b : Bool) (d y : Int) : sgn b d * y = d * (sgn b 1 * y) := by cases b <;> simp [sgn] <;> grind
theorem gain_puts (es : List E) (d x : Int) : ∀ (l : List Leg) (fl : List Int), fl.length = es.length → (∀ p ∈ l, p.1 < es.length) → gain (es.zip (puts fl l d)) x = gain (es.zip fl) x + d * legs es l x
  | [], fl, _, _ => by simp [puts, legs]
  | p :: l, fl, hl, h => by
    show gain (es.zip (puts (put fl p.1 (sgn p.2 d)) l d)) x = _
    rw [gain_puts es d x l _ (by rw [put_length]; exact hl) (fun q hq => h q (by simp [hq])), gain_put es fl p.1 _ x hl (h p (by simp)), sgn_mul]
    simp only [legs]
    rw [Int.mul_add]; omega
theorem puts_at (d : Int) : ∀ (l : List Leg) (fl : List Int) (i : Nat), (∀ p ∈ l, p.1 < fl.length) → (l.map (·.1)).Nodup → (∀ b, (i, b) ∈ l → fa (puts fl l d) i = fa fl i + sgn b d) ∧ (i ∉ l.map (·.1) → fa (puts fl l d) i = fa fl i)
  | [], fl, i, _, _ => ⟨fun b h => by simp at h, fun _ => rfl⟩
  | p :: l, fl, i, h, hn => by
    have hn' : p.1 ∉ l.map (·.1) ∧ (l.map (·.1)).Nodup := by simpa using hn
    have ih := puts_at d l (put fl p.1 (sgn p.2 d)) i (fun q hq => by rw [put_length]; exact h q (by simp [hq])) hn'.2
    have hp := h p (by simp)
    constructor
    · intro b hb
      show fa (puts (put fl p.1 (sgn p.2 d)) l d) i = _
      rcases List.mem_cons.1 hb with e | hb
      · subst e
        rw [ih.2 hn'.1, put_at _ _ _ _ hp, if_pos rfl]
      · have : i ≠ p.1 := fun e => hn'.1 (by rw [← e]; exact List.mem_map.2 ⟨_, hb, rfl⟩)
        rw [ih.1 b hb, put_at _ _ _ _ hp, if_neg this]; omega
    · intro hi
      have hi' : i ≠ p.1 ∧ i ∉ l.map (·.1) := by simpa using hi
      show fa (puts (put fl p.1 (sgn p.2 d)) l d) i = _
      rw [ih.2 hi'.2, put_at _ _ _ _ hp, if_neg hi'.1]; omega
/-- The residual capacity of a leg. -/
def spare (es : List E) (fl : List Int) (p : Leg) : Int := if p.2 then (ed es p.1).2.2 - fa fl p.1 else fa fl p.1
def roomOf (es : List E) (fl : List Int) (l : List Leg) (most : Int) : Int := l.foldl (fun r p => min r (spare es fl p)) most
theorem roomOf_snoc (es : List E) (fl : List Int) (l : List Leg) (p : Leg) (most : Int) : roomOf es fl (l ++ [p]) most = min (roomOf es fl l most) (spare es fl p) := by simp [roomOf]
theorem roomOf_le (es : List E) (fl : List Int) : ∀ (l : List Leg) (most : Int), roomOf es fl l most ≤ most ∧ ∀ p ∈ l, roomOf es fl l most ≤ spare es fl p
  | [], most => ⟨Int.le_refl _, fun p h => by simp at h⟩
  | q :: l, most => by
    have ih := roomOf_le es fl l (min most (spare es fl q))
    have e : roomOf es fl (q :: l) most = roomOf es fl l (min most (spare es fl q)) := rfl
    rw [e]
    refine ⟨by omega, fun p hp => ?_⟩
    rcases List.mem_cons.1 hp with rfl | hp
    · omega
    · exact ih.2 p hp
theorem roomOf_pos (es : List E) (fl : List Int) : ∀ (l : List Leg) (most : Int), 1 ≤ most → (∀ p ∈ l, 1 ≤ spare es fl p) → 1 ≤ roomOf es fl l most
  | [], _, h, _ => h
  | q :: l, most, h, hs => roomOf_pos es fl l (min most (spare es fl q)) (by have := hs q (by simp); have e : min most (spare es fl q) = if most ≤ spare es fl q then most else spare es fl q := rfl; rw [e]; split <;> omega) (fun p hp => hs p (by simp [hp]))
/-- A way from s to t, its legs from t back. -/
structure Way (n : Int) (es : List E) (fl : List Int) (s t : Int) (l : List Leg) : Prop where
  each : ∀ p ∈ l, p.1 < es.length ∧ 1 ≤ spare es fl p
  nodup : (l.map (·.1)).Nodup
  ends : ∀ x, legs es l x = (if s = x then 1 else 0) - (if t = x then 1 else 0)
theorem zip_of {es : List E} {fl : List Int} (h : fl.length = es.length) {p : E × Int} (hp : p ∈ es.zip fl) : ∃ i, i < es.length ∧ p = (ed es i, fa fl i) := by
  obtain ⟨i, hi, e⟩ := List.getElem_of_mem hp
  have hi' : i < es.length := by rw [List.length_zip] at hi; omega
  refine ⟨i, hi', ?_⟩
  rw [← e, List.getElem_zip]
  unfold ed fa
  rw [List.getElem?_eq_getElem hi', List.getElem?_eq_getElem (by omega)]; rfl
theorem of_zip {es : List E} {fl : List Int} (h : fl.length = es.length) {i : Nat} (hi : i < es.length) : (ed es i, fa fl i) ∈ es.zip fl := by
  refine List.mem_iff_getElem.2 ⟨i, by rw [List.length_zip]; omega, ?_⟩
  rw [List.getElem_zip]
  unfold ed fa
  rw [List.getElem?_eq_getElem hi, List.getElem?_eq_getElem (by omega)]; rfl
/-- A good flow turned along a way by what there is room for is good, and has so much more. -/
theorem GoodG.push {n : Nat} {es : List E} {fl : List Int} {s t : Int} (h : GoodG n es fl s t) {l : List Leg} (hw : Way n es fl s t l) {d : Int} (h0 : 0 ≤ d) (hd : ∀ p ∈ l, d ≤ spare es fl p) :
    GoodG n es (puts fl l d) s t ∧ gain (es.zip (puts fl l d)) s = gain (es.zip fl) s + d := by
  have hg : ∀ x, gain (es.zip (puts fl l d)) x = gain (es.zip fl) x + d * ((if s = x then 1 else 0) - (if t = x then 1 else 0)) := fun x => by
    rw [gain_puts es d x l fl h.len (fun p hp => (hw.each p hp).1), hw.ends]
  refine ⟨⟨h.net, by rw [puts_length]; exact h.len, fun p hp => ?_, fun x a b => ?_, h.s0, h.s1, h.t0, h.t1, h.ne⟩, ?_⟩
  · obtain ⟨i, hi, rfl⟩ := zip_of (by rw [puts_length]; exact h.len) hp
    have hf := h.fit _ (of_zip h.len hi)
    dsimp only at hf ⊢
    have hp := puts_at d l fl i (fun p hp => by rw [h.len]; exact (hw.each p hp).1) hw.nodup
    by_cases hm : i ∈ l.map (·.1)
    · obtain ⟨q, hq, rfl⟩ := List.mem_map.1 hm
      have hs := hd q hq
      rw [hp.1 q.2 hq]
      unfold spare at hs
      unfold sgn
      rcases hb : q.2 with _ | _
      · simp [hb] at hs ⊢; omega
      · simp [hb] at hs ⊢; omega
    · rw [hp.2 hm]; exact hf
  · rw [hg, h.flat x a b, if_neg (fun e => a e.symm), if_neg (fun e => b e.symm)]; simp
  · rw [hg, if_pos rfl, if_neg (fun e => h.ne e.symm)]; omega
end Go.Proofs.Ythchlfoebkachaa.Gm
