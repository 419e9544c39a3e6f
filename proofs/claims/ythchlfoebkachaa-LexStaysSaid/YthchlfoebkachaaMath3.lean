/-
  Plain mathematics of flows along walks: a walk that comes from 0 to 1, one unit along each of its edges.
-/
import Derived.Test.YthchlfoebkachaaMath2
namespace Go.Proofs.Ythchlfoebkachaa.Gm

def ed (es : List E) (j : Nat) : E := es[j]?.getD (0, 0, 0)
theorem ed_mem {es : List E} {j : Nat} (h : j < es.length) : ed es j ∈ es := by
  unfold ed; rw [List.getElem?_eq_getElem h]; exact List.getElem_mem h
def fa (fl : List Int) (j : Nat) : Int := fl[j]?.getD 0
def inc (fl : List Int) (j : Nat) : List Int := fl.set j (fa fl j + 1)
def incs (fl : List Int) (way : List Nat) : List Int := way.foldl inc fl
theorem inc_length (fl : List Int) (j : Nat) : (inc fl j).length = fl.length := by simp [inc]
theorem incs_length (fl : List Int) (way : List Nat) : (incs fl way).length = fl.length := by
  induction way generalizing fl with
  | nil => rfl
  | cons j way ih => show (incs (inc fl j) way).length = _; rw [ih, inc_length]
theorem incs_snoc (fl : List Int) (way : List Nat) (j : Nat) : incs fl (way ++ [j]) = inc (incs fl way) j := by simp [incs]
theorem inc_at (fl : List Int) (j i : Nat) (hj : j < fl.length) : fa (inc fl j) i = fa fl i + if i = j then 1 else 0 := by
  unfold inc fa
  rw [List.getElem?_set]
  by_cases h : j = i
  · subst h; simp [hj]
  · have : ¬ i = j := fun e => h e.symm
    simp [h, this]
theorem incs_at (way : List Nat) : ∀ (fl : List Int) (i : Nat), (∀ j ∈ way, j < fl.length) → way.Nodup → fa (incs fl way) i = fa fl i + if i ∈ way then 1 else 0 := by
  induction way with
  | nil => intro fl i _ _; simp [incs]
  | cons j way ih =>
    intro fl i h hn
    show fa (incs (inc fl j) way) i = _
    have hn' := List.nodup_cons.1 hn
    rw [ih (inc fl j) i (fun q hq => by rw [inc_length]; exact h q (by simp [hq])) hn'.2, inc_at fl j i (h j (by simp))]
    by_cases e : i = j
    · subst e; simp [hn'.1]
    · simp [e]
def step (es : List E) (j : Nat) (x : Int) : Int := (if (ed es j).1 = x then 1 else 0) - (if (ed es j).2.1 = x then 1 else 0)
theorem gain_inc : ∀ (es : List E) (fl : List Int) (j : Nat) (x : Int), fl.length = es.length → j < es.length → gain (es.zip (inc fl j)) x = gain (es.zip fl) x + step es j x
  | [], _, j, _, _, h => by simp at h
  | e :: es, [], _, _, h, _ => by simp at h
  | e :: es, f :: fl, 0, x, h, _ => by
    simp only [inc, fa, List.set_cons_zero, List.zip_cons_cons, gain, step, ed, List.getElem?_cons_zero, Option.getD_some]
    by_cases a : e.1 = x <;> by_cases b : e.2.1 = x <;> simp [a, b] <;> omega
  | e :: es, f :: fl, j + 1, x, h, hj => by
    have ih := gain_inc es fl j x (by simpa using h) (by simpa using hj)
    simp only [inc, fa, List.set_cons_succ, List.zip_cons_cons, gain, step, ed, List.getElem?_cons_succ] at ih ⊢
    rw [ih]; omega
def steps (es : List E) : List Nat → Int → Int
  | [], _ => 0
  | j :: way, x => step es j x + steps es way x
theorem steps_snoc (es : List E) (way : List Nat) (j : Nat) (x : Int) : steps es (way ++ [j]) x = steps es way x + step es j x := by
  induction way with
  | nil => simp [steps]
  | cons i way ih => simp only [List.cons_append, steps, ih]; omega
theorem gain_incs (es : List E) (way : List Nat) : ∀ (fl : List Int) (x : Int), fl.length = es.length → (∀ j ∈ way, j < es.length) → gain (es.zip (incs fl way)) x = gain (es.zip fl) x + steps es way x := by
  induction way with
  | nil => intro fl x _ _; simp [incs, steps]
  | cons j way ih =>
    intro fl x h hj
    show gain (es.zip (incs (inc fl j) way)) x = _
    rw [ih (inc fl j) x (by rw [inc_length]; exact h) (fun q hq => hj q (by simp [hq])), gain_inc es fl j x h (hj j (by simp))]
    simp only [steps]; omega

/-- A walk that has come from 0 to u. -/
structure Path (n : Int) (es : List E) (fl : List Int) (way : List Nat) (seen : List Bool) (u : Int) : Prop where
  slen : seen.length = n.toNat
  u0 : 0 ≤ u
  un : u < n
  here : has seen u = true
  zero : has seen 0 = true
  each : ∀ j ∈ way, j < es.length ∧ has seen (ed es j).2.1 = true ∧ fa fl j < (ed es j).2.2
  nodup : way.Nodup
  tele : ∀ x, steps es way x = (if (0 : Int) = x then 1 else 0) - (if u = x then 1 else 0)
theorem Path.start {n : Int} (hn : 2 ≤ n) (es : List E) (fl : List Int) : Path n es fl [] (Gm.start n 0) 0 :=
  ⟨by simp [Gm.start], by omega, by omega, by rw [start_has (by omega) (by omega) 0 (by omega)]; rfl, by rw [start_has (by omega) (by omega) 0 (by omega)]; rfl, by simp, List.nodup_nil, fun x => by simp [steps]⟩
theorem Path.next {n : Int} {es : List E} {fl : List Int} {way : List Nat} {seen : List Bool} {u : Int} (h : Path n es fl way seen u) (hes : ∀ e ∈ es, okE n e = true) {j : Nat} (hj : j < es.length) (hu : (ed es j).1 = u) (hs : has seen (ed es j).2.1 = false) (hf : fa fl j < (ed es j).2.2) :
    Path n es fl (way ++ [j]) (seen.set (ed es j).2.1.toNat true) (ed es j).2.1 := by
  have ho := okE_iff.1 (hes _ (ed_mem hj))
  have hl : (ed es j).2.1.toNat < seen.length := by rw [h.slen]; omega
  have hset : ∀ x, 0 ≤ x → has (seen.set (ed es j).2.1.toNat true) x = (decide (x = (ed es j).2.1) || has seen x) := fun x hx => by
    rw [has_set _ _ hl x hx]; congr 2; rw [Int.toNat_of_nonneg ho.2.2.1]
  refine ⟨by simp [h.slen], ho.2.2.1, ho.2.2.2.1, by rw [hset _ ho.2.2.1]; simp, by rw [hset _ (by omega), h.zero]; simp, fun q hq => ?_, ?_, fun x => ?_⟩
  · rcases List.mem_append.1 hq with hq | hq
    · have hq' := h.each q hq
      have := okE_iff.1 (hes _ (ed_mem hq'.1))
      exact ⟨hq'.1, by rw [hset _ this.2.2.1, hq'.2.1]; simp, hq'.2.2⟩
    · obtain rfl : q = j := by simpa using hq
      exact ⟨hj, by rw [hset _ ho.2.2.1]; simp, hf⟩
  · rw [List.nodup_append]
    refine ⟨h.nodup, by simp, fun a ha b hb => ?_⟩
    obtain rfl : b = j := by simpa using hb
    intro e; subst e
    rw [(h.each a ha).2.1] at hs; cases hs
  · rw [steps_snoc, h.tele]
    simp only [step, hu]
    omega
theorem Path.more {n : Int} {es : List E} {fl : List Int} {way : List Nat} {seen : List Bool} {u : Int} (h : Path n es fl way seen u) (hes : ∀ e ∈ es, okE n e = true) {j : Nat} (hj : j < es.length) (hs : has seen (ed es j).2.1 = false) : cnt (seen.set (ed es j).2.1.toNat true) = cnt seen + 1 := by
  have ho := okE_iff.1 (hes _ (ed_mem hj))
  have hl : (ed es j).2.1.toNat < seen.length := by rw [h.slen]; omega
  refine cnt_set _ _ hl ?_
  unfold has at hs
  rw [List.getElem?_eq_getElem hl] at hs
  simpa using hs
/-- One unit along the walk. -/
theorem GoodF.along {n : Int} {es : List E} {fl : List Int} (h : GoodF n es fl) {way : List Nat} {seen : List Bool} (hp : Path n es fl way seen 1) : GoodF n es (incs fl way) := by
  have hlt : ∀ j ∈ way, j < es.length := fun j hj => (hp.each j hj).1
  have hg : ∀ x, gain (es.zip (incs fl way)) x = gain (es.zip fl) x + ((if (0 : Int) = x then 1 else 0) - (if (1 : Int) = x then 1 else 0)) := fun x => by
    rw [gain_incs es way fl x h.len hlt, hp.tele]
  refine ⟨h.net, by rw [incs_length, h.len], fun p hpm => ?_, fun x h0 h1 => ?_, ?_⟩
  · obtain ⟨i, hi, e⟩ := List.getElem_of_mem hpm
    have hi' : i < es.length := by rw [List.length_zip] at hi; omega
    rw [List.getElem_zip] at e
    have hf := h.fit (es[i], fl[i]'(by rw [h.len]; exact hi')) (List.mem_iff_getElem.2 ⟨i, by rw [List.length_zip, h.len]; omega, by rw [List.getElem_zip]⟩)
    have ha := incs_at way fl i (fun j hj => by rw [h.len]; exact hlt j hj) hp.nodup
    have e1 : fa fl i = fl[i]'(by rw [h.len]; exact hi') := by unfold fa; rw [List.getElem?_eq_getElem (by rw [h.len]; exact hi')]; rfl
    have e2 : fa (incs fl way) i = (incs fl way)[i]'(by rw [incs_length, h.len]; exact hi') := by unfold fa; rw [List.getElem?_eq_getElem (by rw [incs_length, h.len]; exact hi')]; rfl
    rw [← e]
    dsimp only at hf ⊢
    rw [← e2, ha, e1]
    by_cases hm : i ∈ way
    · have := (hp.each i hm).2.2
      rw [e1] at this
      have e3 : ed es i = es[i] := by unfold ed; rw [List.getElem?_eq_getElem hi']; rfl
      rw [e3] at this
      simp [hm]; omega
    · simp [hm]; exact hf
  · rw [hg, h.flat x h0 h1]
    have a0 : ¬ (0 : Int) = x := fun e => h0 e.symm
    have a1 : ¬ (1 : Int) = x := fun e => h1 e.symm
    simp [a0, a1]
  · rw [hg]; have := h.pos; simp; omega
theorem GoodF.none {n : Int} {es : List E} (h : right n es = true) : GoodF n es (List.replicate es.length 0) := by
  have hz : ∀ (l : List E) (x : Int), gain (l.zip (List.replicate l.length 0)) x = 0 := by
    intro l x
    induction l with
    | nil => rfl
    | cons e l ih => simp only [List.length_cons, List.replicate_succ, List.zip_cons_cons, gain, ih]; simp
  refine ⟨h, by simp, fun p hp => ?_, fun x _ _ => hz es x, by rw [hz]; exact Int.le_refl _⟩
  have h1 := List.of_mem_zip hp
  have h2 := List.eq_of_mem_replicate h1.2
  have h3 := okE_iff.1 ((right_iff.1 h).2.2.2 _ h1.1)
  omega
end Go.Proofs.Ythchlfoebkachaa.Gm
