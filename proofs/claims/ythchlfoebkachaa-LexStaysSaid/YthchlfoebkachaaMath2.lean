/-
  Plain mathematics: raw numbers brought to networks; sums over vertices; no cut is less than what flows; where reach ends, its cut is just that.
-/
import Derived.Test.YthchlfoebkachaaMath
namespace Go.Proofs.Ythchlfoebkachaa.Gm

/-- Which of n things a raw number speaks of. -/
def pk (c n : Int) : Int := (if c < 0 then -(c + 1) else c) % n
theorem pk_bd (c n : Int) (hn : 0 < n) : 0 ≤ pk c n ∧ pk c n < n := ⟨Int.emod_nonneg _ (by omega), Int.emod_lt_of_pos _ hn⟩
def fitN (n : Int) : Int := 2 + pk n 8
theorem fitN_bd (n : Int) : 2 ≤ fitN n ∧ fitN n ≤ 9 := by have := pk_bd n 8 (by omega); unfold fitN; omega
def fitE (n : Int) (e : E) : E := (pk e.1 n, if pk e.1 n = pk e.2.1 n then (pk e.2.1 n + 1) % n else pk e.2.1 n, pk e.2.2 10)
theorem succ_mod {n a : Int} (hn : 2 ≤ n) (h0 : 0 ≤ a) (h1 : a < n) : 0 ≤ (a + 1) % n ∧ (a + 1) % n < n ∧ a ≠ (a + 1) % n := by
  refine ⟨Int.emod_nonneg _ (by omega), Int.emod_lt_of_pos _ (by omega), ?_⟩
  by_cases h : a + 1 = n
  · rw [h, Int.emod_self]; omega
  · rw [Int.emod_eq_of_lt (by omega) (by omega)]; omega
theorem fitE_ok {n : Int} (hn : 2 ≤ n) (e : E) : okE n (fitE n e) = true ∧ (fitE n e).2.2 ≤ 9 := by
  have a := pk_bd e.1 n (by omega)
  have b := pk_bd e.2.1 n (by omega)
  have c := pk_bd e.2.2 10 (by omega)
  have d := succ_mod hn b.1 b.2
  refine ⟨okE_iff.2 ?_, by simp [fitE]; omega⟩
  simp only [fitE]
  split
  · rename_i h; exact ⟨a.1, a.2, d.1, d.2.1, by rw [h]; exact d.2.2, c.1, by omega⟩
  · rename_i h; exact ⟨a.1, a.2, b.1, b.2, h, c.1, by omega⟩
def fitEs (n : Int) (es : List E) : List E := (es.take 40).map (fitE n)
theorem fitEs_length (n : Int) (es : List E) : (fitEs n es).length = min 40 es.length := by simp [fitEs]
theorem fitEs_ok (n : Int) (es : List E) (h : 2 ≤ n) : ∀ e ∈ fitEs n es, okE n e = true ∧ e.2.2 ≤ 9 := by
  intro e he
  obtain ⟨x, _, rfl⟩ := List.mem_map.1 he
  exact fitE_ok h x
theorem fit_right (n : Int) (es : List E) : right (fitN n) (fitEs (fitN n) es) = true := by
  have := fitN_bd n
  refine right_iff.2 ⟨this.1, by omega, by rw [fitEs_length]; omega, fun e he => (fitEs_ok _ _ this.1 e he).1⟩

/-! ### sums over the vertices -/
def sumTo : Nat → (Int → Int) → Int
  | 0, _ => 0
  | k + 1, g => sumTo k g + g k
theorem sumTo_add (k : Nat) (g h : Int → Int) : sumTo k (fun x => g x + h x) = sumTo k g + sumTo k h := by
  induction k with
  | zero => rfl
  | succ k ih => simp only [sumTo, ih]; omega
theorem sumTo_congr (k : Nat) (g h : Int → Int) (e : ∀ x : Nat, x < k → g x = h x) : sumTo k g = sumTo k h := by
  induction k with
  | zero => rfl
  | succ k ih => simp only [sumTo]; rw [ih (fun x hx => e x (by omega)), e k (by omega)]
theorem sumTo_zero (k : Nat) : sumTo k (fun _ => 0) = 0 := by
  induction k with
  | zero => rfl
  | succ k ih => simp only [sumTo, ih]; rfl
theorem sumTo_one (k : Nat) (u c : Int) (h0 : 0 ≤ u) (h1 : u < k) : sumTo k (fun x => if u = x then c else 0) = c := by
  induction k with
  | zero => omega
  | succ k ih =>
    simp only [sumTo]
    by_cases h : u = (k : Int)
    · have : sumTo k (fun x => if u = x then c else 0) = 0 := by
        rw [sumTo_congr k _ (fun _ => 0) (fun x hx => by have : ¬ u = (x : Int) := by omega
                                                         simp [this]), sumTo_zero]
      rw [this]; simp [h]
    · rw [ih (by omega)]; simp [h]
theorem sumTo_neg (k : Nat) (g : Int → Int) : sumTo k (fun x => - g x) = - sumTo k g := by
  induction k with
  | zero => rfl
  | succ k ih => simp only [sumTo, ih]; omega
/-- What crosses the border of S, outward less inward. -/
def cross (S : Int → Bool) : Z → Int
  | [] => 0
  | p :: l => (if S p.1.1 then p.2 else 0) - (if S p.1.2.1 then p.2 else 0) + cross S l
theorem cross_sum (n : Nat) (S : Int → Bool) (z : Z) (h : ∀ p ∈ z, okE n p.1 = true) : sumTo n (fun x => if S x then gain z x else 0) = cross S z := by
  induction z with
  | nil => simp only [gain, cross, ite_self]; exact sumTo_zero n
  | cons p l ih =>
    have hp := okE_iff.1 (h p (by simp))
    have h2 := ih fun q hq => h q (by simp [hq])
    simp only [cross]
    rw [← h2]
    have e : sumTo n (fun x => if S x then gain (p :: l) x else 0) = sumTo n (fun x => (if p.1.1 = x then (if S p.1.1 then p.2 else 0) else 0) + (-(if p.1.2.1 = x then (if S p.1.2.1 then p.2 else 0) else 0) + (if S x then gain l x else 0))) := by
      refine sumTo_congr n _ _ fun x _ => ?_
      simp only [gain]
      by_cases a : p.1.1 = (x : Int) <;> by_cases b : p.1.2.1 = (x : Int) <;> by_cases c : S (x : Int) = true <;> simp [a, b, c] <;> omega
    rw [e, sumTo_add, sumTo_one n _ _ hp.1 hp.2.1, sumTo_add, sumTo_neg, sumTo_one n _ _ hp.2.2.1 hp.2.2.2.1]
    omega
/-- A flow from 0 to 1 that neither wins nor loses elsewhere. -/
structure GoodF (n : Int) (es : List E) (fl : List Int) : Prop where
  net : right n es = true
  len : fl.length = es.length
  fit : ∀ p ∈ es.zip fl, 0 ≤ p.2 ∧ p.2 ≤ p.1.2.2
  flat : ∀ x, x ≠ 0 → x ≠ 1 → gain (es.zip fl) x = 0
  pos : 0 ≤ gain (es.zip fl) 0
theorem GoodF.ok {n : Int} {es : List E} {fl : List Int} (h : GoodF n es fl) : ∀ p ∈ es.zip fl, okE n p.1 = true := fun _ hp => (right_iff.1 h.net).2.2.2 _ (List.of_mem_zip hp).1
theorem GoodF.fits {n : Int} {es : List E} {fl : List Int} (h : GoodF n es fl) : Gm.fits n es fl = true := fits_iff.2 ⟨h.net, h.len, h.fit⟩
theorem GoodF.good {n : Int} {es : List E} {fl : List Int} (h : GoodF n es fl) : Gm.good n es fl 0 1 = true := by
  have hn := right_iff.1 h.net
  refine good_iff.2 ⟨h.fits, by simp [vtx]; omega, by simp [vtx]; omega, by omega, fun v _ => ?_⟩
  by_cases h0 : (v : Int) = 0
  · exact .inr (.inl h0)
  · by_cases h1 : (v : Int) = 1
    · exact .inr (.inr h1)
    · exact .inl (h.flat _ h0 h1)
theorem two_sum (n : Nat) (hn : 2 ≤ n) (g : Int → Int) (h : ∀ x : Int, x ≠ 0 → x ≠ 1 → g x = 0) : sumTo n g = g 0 + g 1 := by
  induction n with
  | zero => omega
  | succ k ih =>
    by_cases hk : k = 1
    · subst hk; simp [sumTo]
    · simp only [sumTo]
      rw [ih (by omega), h k (by omega) (by omega)]; omega
theorem cross_all (z : Z) : cross (fun _ => true) z = 0 := by
  induction z with
  | nil => rfl
  | cons p l ih => simp [cross, ih]
theorem total_zero {n : Nat} {z : Z} (h : ∀ p ∈ z, okE n p.1 = true) : sumTo n (gain z) = 0 := by
  have := cross_sum n (fun _ => true) z h
  rw [cross_all] at this
  simpa using this
theorem GoodF.arrives {n : Nat} {es : List E} {fl : List Int} (h : GoodF n es fl) : gain (es.zip fl) 1 = - gain (es.zip fl) 0 := by
  have hn := right_iff.1 h.net
  have h1 := total_zero h.ok
  rw [two_sum n (by omega) _ h.flat] at h1
  omega
theorem GoodF.border {n : Nat} {es : List E} {fl : List Int} (h : GoodF n es fl) (S : Int → Bool) (h0 : S 0 = true) (h1 : S 1 = false) : cross S (es.zip fl) = gain (es.zip fl) 0 := by
  have hn := right_iff.1 h.net
  rw [← cross_sum n S _ h.ok, two_sum n (by omega)]
  · simp [h0, h1]
  · intro x a b; rw [h.flat x a b]; simp
theorem cross_le (r : List Bool) : ∀ (es : List E) (fl : List Int), fl.length = es.length → (∀ p ∈ es.zip fl, 0 ≤ p.2 ∧ p.2 ≤ p.1.2.2) → cross (has r) (es.zip fl) ≤ cutSum r es
  | [], _, _, _ => by simp [cross, cutSum]
  | e :: es, [], h, _ => by simp at h
  | e :: es, f :: fl, h, hp => by
    have h1 := hp (e, f) (by simp)
    have h2 := cross_le r es fl (by simpa using h) (fun p q => hp p (by simp [q]))
    dsimp only at h1
    simp only [List.zip_cons_cons, cross, cutSum]
    rcases has r e.1 <;> rcases has r e.2.1 <;> simp <;> omega
theorem cross_eq (r : List Bool) : ∀ (es : List E) (fl : List Int), fl.length = es.length → (∀ p ∈ es.zip fl, 0 ≤ p.2 ∧ p.2 ≤ p.1.2.2) → (∀ p ∈ pairs (es.zip fl), has r p.1 = true → has r p.2 = true) → cross (has r) (es.zip fl) = cutSum r es
  | [], _, _, _, _ => by simp [cross, cutSum]
  | e :: es, [], h, _, _ => by simp at h
  | e :: es, f :: fl, h, hp, hc => by
    have h1 := hp (e, f) (by simp)
    have h2 := cross_eq r es fl (by simpa using h) (fun p q => hp p (by simp [q])) (fun p q => hc p (by
      simp only [pairs, List.zip_cons_cons, List.flatMap_cons, List.mem_append]; exact .inr q))
    have h3 : ∀ p ∈ pairsE (e, f), has r p.1 = true → has r p.2 = true := fun p q => hc p (by
      simp only [pairs, List.zip_cons_cons, List.flatMap_cons, List.mem_append]; exact .inl q)
    dsimp only at h1
    simp only [List.zip_cons_cons, cross, cutSum]
    unfold pairsE at h3
    dsimp only at h3
    rcases hu : has r e.1 with _ | _ <;> rcases hv : has r e.2.1 with _ | _ <;> simp
    · omega
    · by_cases hf : 0 < f
      · have := h3 (e.2.1, e.1) (by simp [hf]) hv
        rw [hu] at this; cases this
      · omega
    · by_cases hf : f < e.2.2
      · have := h3 (e.1, e.2.1) (by simp [hf]) hu
        rw [hv] at this; cases this
      · omega
    · omega
end Go.Proofs.Ythchlfoebkachaa.Gm
