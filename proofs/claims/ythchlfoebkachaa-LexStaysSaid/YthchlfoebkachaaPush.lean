/-
  The legs from t back to s make a way; a flow that is pushed as long as there is a way: what comes of it.
-/
import Derived.Test.YthchlfoebkachaaWay
namespace Go.Proofs.Ythchlfoebkachaa.Gm

def along (es : List E) (by_ : List Int) (s : Int) : Nat → Int → List Leg
  | 0, _ => []
  | k + 1, v => if v = s then [] else
    ((by_[v.toNat]?.getD 0).toNat, (ed es (by_[v.toNat]?.getD 0).toNat).2.1 == v) :: along es by_ s k (if (ed es (by_[v.toNat]?.getD 0).toNat).2.1 = v then (ed es (by_[v.toNat]?.getD 0).toNat).1 else (ed es (by_[v.toNat]?.getD 0).toNat).2.1)
theorem nodup_at {l : List Int} (h : l.Nodup) {i j : Nat} {x : Int} (hi : l[i]? = some x) (hj : l[j]? = some x) : i = j := by
  have a := (List.getElem?_eq_some_iff.1 hi).1
  have b := (List.getElem?_eq_some_iff.1 hj).1
  have ea : l[i] = x := (List.getElem?_eq_some_iff.1 hi).2
  have eb : l[j] = x := (List.getElem?_eq_some_iff.1 hj).2
  exact (List.getElem_inj h).1 (ea.trans eb.symm)
structure Back (es : List E) (fl : List Int) (s v : Int) (todo : List Int) (j : Nat) (l : List Leg) : Prop where
  each : ∀ p ∈ l, p.1 < es.length ∧ 1 ≤ spare es fl p
  nodup : (l.map (·.1)).Nodup
  ends : ∀ x, legs es l x = (if s = x then 1 else 0) - (if v = x then 1 else 0)
  near : ∀ p ∈ l, (∃ q, q ≤ j ∧ todo[q]? = some (ed es p.1).1) ∧ (∃ q, q ≤ j ∧ todo[q]? = some (ed es p.1).2.1)
  len : l.length ≤ j
theorem along_is {n : Nat} {es : List E} {fl : List Int} {s : Int} {S : Srch} (h : Inv n es fl s S) : ∀ (j : Nat) (v : Int), S.todo[j]? = some v → ∀ k, j ≤ k → Back es fl s v S.todo j (along es S.by_ s k v) := by
  intro j
  induction j using Nat.strongRecOn with
  | _ j ih =>
    intro v hv k hk
    rcases h.pre j v hv with rfl | ⟨i, hi, hb, j', u, h1, h2, h3, h4⟩
    · have : v = s := Option.some.inj (hv.symm.trans h.head)
      subst this
      have e : along es S.by_ v k v = [] := by
        cases k with
        | zero => rfl
        | succ k => simp [along]
      rw [e]
      exact ⟨fun p hp => by simp at hp, by simp, fun x => by simp [legs], fun p hp => by simp at hp, by simp⟩
    · have hvs : v ≠ s := fun e => by
        subst e
        have := nodup_at h.nodup hv h.head
        omega
      obtain ⟨m, rfl⟩ : ∃ m, k = m + 1 := ⟨k - 1, by omega⟩
      have hby : (S.by_[v.toNat]?.getD 0).toNat = i := by rw [hb]; simp
      have ihu := ih j' h1 u h2 m (by omega)
      have hne : hop (ed es i) (fa fl i) u ≠ u := by rw [h4]; exact fun e => h3 e.symm
      have e : along es S.by_ s (m + 1) v = (i, (ed es i).2.1 == v) :: along es S.by_ s m u := by
        simp only [along, if_neg hvs, hby]
        congr 2
        rcases hop_ne hne with ⟨a, _, c⟩ | ⟨a, _, c⟩
        · rw [if_pos (by rw [← c, h4]), a]
        · rw [if_neg (by rw [a]; exact h3), a]
      rw [e]
      have hends : ((ed es i).1 = u ∧ (ed es i).2.1 = v ∧ fa fl i < (ed es i).2.2) ∨ ((ed es i).2.1 = u ∧ (ed es i).1 = v ∧ 0 < fa fl i) := by
        rcases hop_ne hne with ⟨a, b, c⟩ | ⟨a, b, c⟩
        · exact .inl ⟨a, by rw [← c, h4], b⟩
        · exact .inr ⟨a, by rw [← c, h4], b⟩
      refine ⟨fun p hp => ?_, ?_, fun x => ?_, fun p hp => ?_, by simp; have := ihu.len; omega⟩
      · rcases List.mem_cons.1 hp with rfl | hp
        · refine ⟨hi, ?_⟩
          unfold spare
          rcases hends with ⟨a, b, c⟩ | ⟨a, b, c⟩
          · simp only [b, beq_self_eq_true, if_true]; omega
          · have : ((ed es i).2.1 == v) = false := by rw [a]; simpa using h3
            simp only [this]; simp; omega
        · exact ihu.each p hp
      · rw [List.map_cons, List.nodup_cons]
        refine ⟨fun hm => ?_, ihu.nodup⟩
        obtain ⟨p, hp, hpi⟩ := List.mem_map.1 hm
        have hn := ihu.near p hp
        rw [hpi] at hn
        obtain ⟨⟨q1, hq1, e1⟩, ⟨q2, hq2, e2⟩⟩ := hn
        rcases hends with ⟨a, b, _⟩ | ⟨a, b, _⟩
        · rw [b] at e2
          have := nodup_at h.nodup e2 hv
          omega
        · rw [b] at e1
          have := nodup_at h.nodup e1 hv
          omega
      · simp only [legs, ihu.ends]
        unfold step
        rcases hends with ⟨a, b, _⟩ | ⟨a, b, _⟩
        · simp only [a, b, beq_self_eq_true, sgn, if_true]; omega
        · have : ((ed es i).2.1 == v) = false := by rw [a]; simpa using h3
          rw [this, a, b]
          simp [sgn]; omega
      · rcases List.mem_cons.1 hp with rfl | hp
        · rcases hends with ⟨a, b, _⟩ | ⟨a, b, _⟩
          · exact ⟨⟨j', by omega, by rw [h2, a]⟩, ⟨j, Nat.le_refl _, by rw [hv, b]⟩⟩
          · exact ⟨⟨j, Nat.le_refl _, by rw [hv, b]⟩, ⟨j', by omega, by rw [h2, a]⟩⟩
        · obtain ⟨⟨q1, a, b⟩, ⟨q2, c, d⟩⟩ := ihu.near p hp
          exact ⟨⟨q1, by omega, b⟩, ⟨q2, by omega, d⟩⟩
/-- The legs of the next way. -/
def next (n : Nat) (es : List E) (fl : List Int) (s t : Int) : List Leg := along es (bfs n es fl s).by_ s 64 t
theorem next_is {n : Nat} {es : List E} {fl : List Int} {s t : Int} (h : GoodG n es fl s t) (ht : has (bfs n es fl s).seen t = true) : Way n es fl s t (next n es fl s t) ∧ (next n es fl s t).length < n := by
  have hes := (right_iff.1 h.net).2.2.2
  have hn := (right_iff.1 h.net).2.1
  have hb := bfs_is hes h.s0 h.s1 n (fl := fl)
  have hm := (hb.inv.td t).2 ⟨h.t0, h.t1, ht⟩
  obtain ⟨j, hj, e⟩ := List.getElem_of_mem hm
  have hsh := hb.inv.short
  have hl := along_is hb.inv j t ((List.getElem?_eq_getElem hj).trans (congrArg some e)) 64 (by omega)
  exact ⟨⟨hl.each, hl.nodup, hl.ends⟩, by have : (next n es fl s t).length ≤ j := hl.len; omega⟩

/-- As long as less than most has been pushed, and there is a way. -/
def pushN (n : Nat) (es : List E) (s t most : Int) : Nat → List Int × Int → List Int × Int
  | 0, st => st
  | k + 1, st => if st.2 < most then
      (if has (bfs n es st.1 s).seen t then
        pushN n es s t most k (puts st.1 (next n es st.1 s t) (roomOf es st.1 (next n es st.1 s t) (most - st.2)), st.2 + roomOf es st.1 (next n es st.1 s t) (most - st.2))
      else st) else st
structure Rest (n : Nat) (es : List E) (s t most : Int) (st r : List Int × Int) : Prop where
  good : GoodG n es r.1 s t
  more : gain (es.zip r.1) s = gain (es.zip st.1) s + (r.2 - st.2)
  lo : st.2 ≤ r.2
  hi : r.2 ≤ most
  full : r.2 = most ∨ has (bfs n es r.1 s).seen t = false
theorem push_room {n : Nat} {es : List E} {s t most : Int} {st : List Int × Int} (h : GoodG n es st.1 s t) (hm : st.2 < most) (ht : has (bfs n es st.1 s).seen t = true) :
    1 ≤ roomOf es st.1 (next n es st.1 s t) (most - st.2) ∧ roomOf es st.1 (next n es st.1 s t) (most - st.2) ≤ most - st.2 ∧ roomOf es st.1 (next n es st.1 s t) (most - st.2) ≤ 1000 ∧
    GoodG n es (puts st.1 (next n es st.1 s t) (roomOf es st.1 (next n es st.1 s t) (most - st.2))) s t ∧
    gain (es.zip (puts st.1 (next n es st.1 s t) (roomOf es st.1 (next n es st.1 s t) (most - st.2)))) s = gain (es.zip st.1) s + roomOf es st.1 (next n es st.1 s t) (most - st.2) := by
  have hw := (next_is h ht).1
  have hr := roomOf_le es st.1 (next n es st.1 s t) (most - st.2)
  have hp := roomOf_pos es st.1 (next n es st.1 s t) (most - st.2) (by omega) (fun p hp => (hw.each p hp).2)
  have hg := h.push hw (d := roomOf es st.1 (next n es st.1 s t) (most - st.2)) (by omega) hr.2
  refine ⟨hp, hr.1, ?_, hg⟩
  rcases hl : next n es st.1 s t with _ | ⟨p, l⟩
  · have := hw.ends s
    rw [hl] at this
    simp only [legs, if_pos] at this
    rw [if_neg (fun e => h.ne e.symm)] at this
    omega
  · have hpm : p ∈ next n es st.1 s t := by rw [hl]; simp
    have h1 := hr.2 p hpm
    rw [hl] at h1
    have h2 := (hw.each p hpm).1
    have h3 := h.fit _ (of_zip h.len h2)
    have h4 := okE_iff.1 (h.ok _ (of_zip h.len h2))
    dsimp only at h3 h4
    have h5 : spare es st.1 p ≤ 1000 := by
      unfold spare
      split <;> omega
    omega
theorem push_rest {n : Nat} {es : List E} {s t most : Int} : ∀ (k : Nat) (st : List Int × Int), GoodG n es st.1 s t → st.2 ≤ most → (most - st.2).toNat ≤ k → Rest n es s t most st (pushN n es s t most k st)
  | 0, st, h, hm, hk => by
    have : st.2 = most := by omega
    exact ⟨h, by show gain (es.zip st.1) s = _ + (st.2 - st.2); omega, Int.le_refl _, hm, .inl this⟩
  | k + 1, st, h, hm, hk => by
    unfold pushN
    by_cases h1 : st.2 < most
    · rw [if_pos h1]
      by_cases h2 : has (bfs n es st.1 s).seen t = true
      · rw [if_pos h2]
        obtain ⟨a, b, _, c, d⟩ := push_room h h1 h2
        generalize roomOf es st.1 (next n es st.1 s t) (most - st.2) = r at a b c d ⊢
        have ih := push_rest (most := most) k (puts st.1 (next n es st.1 s t) r, st.2 + r) c (by dsimp only; omega) (by dsimp only; omega)
        exact ⟨ih.good, by have := ih.more; dsimp only at this; rw [this, d]; omega, by have := ih.lo; dsimp only at this; omega, ih.hi, ih.full⟩
      · rw [if_neg h2]
        exact ⟨h, by omega, Int.le_refl _, hm, .inr (by simpa using h2)⟩
    · rw [if_neg h1]
      exact ⟨h, by omega, Int.le_refl _, hm, .inl (by omega)⟩
/-- How much fuel there is makes no difference, where there is enough. -/
theorem push_fuel {n : Nat} {es : List E} {s t most : Int} : ∀ (k m : Nat) (st : List Int × Int), GoodG n es st.1 s t → st.2 ≤ most → (most - st.2).toNat ≤ k → (most - st.2).toNat ≤ m → pushN n es s t most k st = pushN n es s t most m st
  | 0, 0, _, _, _, _, _ => rfl
  | 0, m + 1, st, _, _, hk, _ => by
    unfold pushN
    rw [if_neg (by omega)]
  | k + 1, 0, st, _, _, _, hm => by
    rw [show pushN n es s t most 0 st = st from rfl]
    unfold pushN
    rw [if_neg (by omega)]
  | k + 1, m + 1, st, h, hle, hk, hm => by
    unfold pushN
    by_cases h1 : st.2 < most
    · rw [if_pos h1, if_pos h1]
      by_cases h2 : has (bfs n es st.1 s).seen t = true
      · rw [if_pos h2, if_pos h2]
        obtain ⟨a, b, _, c, d⟩ := push_room h h1 h2
        generalize roomOf es st.1 (next n es st.1 s t) (most - st.2) = r at a b c d ⊢
        exact push_fuel k m _ c (by dsimp only; omega) (by dsimp only; omega) (by dsimp only; omega)
      · rw [if_neg h2, if_neg h2]
    · rw [if_neg h1, if_neg h1]
/-- What Push makes of a flow. -/
def pushed (n : Nat) (es : List E) (s t most : Int) (st : List Int × Int) : List Int × Int := pushN n es s t most (most - st.2).toNat st
theorem pushed_is {n : Nat} {es : List E} {s t most : Int} {st : List Int × Int} (h : GoodG n es st.1 s t) (hm : st.2 ≤ most) : Rest n es s t most st (pushed n es s t most st) := push_rest _ st h hm (Nat.le_refl _)
theorem pushed_step {n : Nat} {es : List E} {s t most : Int} {st : List Int × Int} (h : GoodG n es st.1 s t) (hm : st.2 < most) (ht : has (bfs n es st.1 s).seen t = true) :
    pushed n es s t most st = pushed n es s t most (puts st.1 (next n es st.1 s t) (roomOf es st.1 (next n es st.1 s t) (most - st.2)), st.2 + roomOf es st.1 (next n es st.1 s t) (most - st.2)) := by
  obtain ⟨a, b, _, c, d⟩ := push_room h hm ht
  unfold pushed
  obtain ⟨k, hk⟩ : ∃ k, (most - st.2).toNat = k + 1 := ⟨(most - st.2).toNat - 1, by omega⟩
  rw [hk]
  show (if st.2 < most then _ else st) = _
  rw [if_pos hm, if_pos ht]
  generalize roomOf es st.1 (next n es st.1 s t) (most - st.2) = r at a b c d ⊢
  exact push_fuel _ _ _ c (by dsimp only; omega) (by dsimp only; omega) (Nat.le_refl _)
theorem pushed_stop {n : Nat} {es : List E} {s t most : Int} {st : List Int × Int} (h : st.2 = most ∨ has (bfs n es st.1 s).seen t = false) : pushed n es s t most st = st := by
  unfold pushed
  generalize (most - st.2).toNat = k
  cases k with
  | zero => rfl
  | succ k =>
    show (if st.2 < most then _ else st) = st
    rcases h with h | h
    · rw [if_neg (by omega)]
    · split
      · rw [if_neg (by rw [h]; exact Bool.false_ne_true)]
      · rfl

/-! ### the most that can flow -/
/-- No good flow has more than M, and one has it. -/
structure Most (n : Int) (es : List E) (s t M : Int) : Prop where
  has_ : ∃ fl, GoodG n es fl s t ∧ gain (es.zip fl) s = M
  le : ∀ fl, GoodG n es fl s t → gain (es.zip fl) s ≤ M
theorem Most.one {n : Int} {es : List E} {s t M M' : Int} (h : Most n es s t M) (h' : Most n es s t M') : M = M' := by
  obtain ⟨f, hf, e⟩ := h.has_
  obtain ⟨f', hf', e'⟩ := h'.has_
  have := h.le f' hf'
  have := h'.le f hf
  omega
theorem most_of {n : Nat} {es : List E} {fl : List Int} {s t : Int} (h : GoodG n es fl s t) (ht : has (bfs n es fl s).seen t = false) : Most n es s t (gain (es.zip fl) s) ∧ cut n es (bfs n es fl s).seen = gain (es.zip fl) s := by
  have hr := bfs_reached (right_iff.1 h.net).2.2.2 h.len h.s0 h.s1
  have hc := h.is_cut hr ht
  refine ⟨⟨⟨fl, h, rfl⟩, fun g hg => ?_⟩, hc⟩
  rw [← hc]
  exact hg.le_cut (by rw [hr.len]; simp) hr.first ht
theorem reached_one {n : Nat} {z : Z} {s : Int} {r q : List Bool} (h : Reached n z s r) (h' : Reached n z s q) : r = q := by
  have key : ∀ {a b : List Bool}, Reached n z s a → Reached n z s b → ∀ x, 0 ≤ x → has a x = true → has b x = true := fun ha hb => ha.least (fun x => has _ x = true) hb.first hb.closed
  apply List.ext_getElem
  · rw [h.len, h'.len]
  · intro i h1 h2
    have a := key h h' (i : Int) (by omega)
    have b := key h' h (i : Int) (by omega)
    simp only [has, Int.toNat_natCast, List.getElem?_eq_getElem h1, List.getElem?_eq_getElem h2, Option.getD_some] at a b
    rcases hr : r[i] with _ | _ <;> rcases hq : q[i] with _ | _ <;> simp [hr, hq] at a b ⊢
/-- So much flows as can, or as may. -/
theorem Rest.min {n : Nat} {es : List E} {s t most M : Int} {st r : List Int × Int} (h : Rest n es s t most st r) (hM : Most n es s t M) : r.2 - st.2 = Min.min (most - st.2) (M - gain (es.zip st.1) s) := by
  have h1 := h.more
  have h2 := hM.le _ h.good
  rcases h.full with e | e
  · have : most - st.2 ≤ M - gain (es.zip st.1) s := by omega
    rw [Int.min_eq_left this]; omega
  · have h3 := (most_of h.good e).1.one hM
    have := h.hi
    rw [Int.min_eq_right (by omega)]; omega
theorem GoodG.zero {n : Nat} {es : List E} {s t : Int} (h : right n es = true) (s0 : 0 ≤ s) (s1 : s < n) (t0 : 0 ≤ t) (t1 : t < n) (ne : s ≠ t) : GoodG n es (List.replicate es.length 0) s t ∧ gain (es.zip (List.replicate es.length 0)) s = 0 := by
  have hz : ∀ (l : List E) (x : Int), gain (l.zip (List.replicate l.length 0)) x = 0 := by
    intro l x
    induction l with
    | nil => rfl
    | cons e l ih => simp only [List.length_cons, List.replicate_succ, List.zip_cons_cons, gain, ih]; simp
  have hg := GoodF.none h
  exact ⟨⟨h, hg.len, hg.fit, fun x _ _ => hz es x, s0, s1, t0, t1, ne⟩, hz es s⟩
end Go.Proofs.Ythchlfoebkachaa.Gm
