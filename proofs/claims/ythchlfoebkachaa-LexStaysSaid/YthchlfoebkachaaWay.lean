/-
  The document's next way: a breadth-first search over the edges in their order, what it leaves, and the legs from t back to s.
-/
import Derived.Test.YthchlfoebkachaaGen
namespace Go.Proofs.Ythchlfoebkachaa.Gm

/-- Where one comes from u over an edge in which f flows. -/
def hop (e : E) (f u : Int) : Int := if e.1 = u ∧ f < e.2.2 then e.2.1 else if e.2.1 = u ∧ 0 < f then e.1 else u
theorem hop_ne {e : E} {f u : Int} (h : hop e f u ≠ u) : (e.1 = u ∧ f < e.2.2 ∧ hop e f u = e.2.1) ∨ (e.2.1 = u ∧ 0 < f ∧ hop e f u = e.1) := by
  unfold hop at *
  split at h
  · rename_i h1
    exact .inl ⟨h1.1, h1.2, by rw [if_pos h1]⟩
  · rename_i h1
    split at h
    · rename_i h2
      exact .inr ⟨h2.1, h2.2, by rw [if_neg h1, if_pos h2]⟩
    · exact absurd rfl h
theorem hop_in {n : Int} {e : E} {f u : Int} (h : okE n e = true) (h0 : 0 ≤ u) (h1 : u < n) : 0 ≤ hop e f u ∧ hop e f u < n := by
  have := okE_iff.1 h
  unfold hop
  split
  · omega
  · split <;> omega
/-- What a search has: who is seen, by which edge, and in which order. -/
structure Srch where
  seen : List Bool
  by_ : List Int
  todo : List Int
def look (S : Srch) (i : Nat) (v : Int) : Srch := if has S.seen v then S else ⟨S.seen.set v.toNat true, S.by_.set v.toNat i, S.todo ++ [v]⟩
/-- The edges ahead of k, from u. -/
def scanK (es : List E) (fl : List Int) (u : Int) (S : Srch) : Nat → Srch
  | 0 => S
  | k + 1 => look (scanK es fl u S k) k (hop (ed es k) (fa fl k) u)
def srch0 (n : Nat) (s : Int) : Srch := ⟨start n s, List.replicate n (-1), [s]⟩
def bfsK (n : Nat) (es : List E) (fl : List Int) (s : Int) : Nat → Srch
  | 0 => srch0 n s
  | k + 1 => if k < (bfsK n es fl s k).todo.length then scanK es fl ((bfsK n es fl s k).todo[k]?.getD 0) (bfsK n es fl s k) es.length else bfsK n es fl s k
theorem bfsK_stop {n : Nat} {es : List E} {fl : List Int} {s : Int} {k : Nat} (h : (bfsK n es fl s k).todo.length ≤ k) : ∀ j, bfsK n es fl s (k + j) = bfsK n es fl s k
  | 0 => rfl
  | j + 1 => by
    have ih := bfsK_stop h j
    have e : bfsK n es fl s (k + (j + 1)) = if k + j < (bfsK n es fl s (k + j)).todo.length then scanK es fl ((bfsK n es fl s (k + j)).todo[k + j]?.getD 0) (bfsK n es fl s (k + j)) es.length else bfsK n es fl s (k + j) := rfl
    rw [e, ih, if_neg (by omega)]
/-- What every search keeps. -/
structure Inv (n : Nat) (es : List E) (fl : List Int) (s : Int) (S : Srch) : Prop where
  sl : S.seen.length = n
  bl : S.by_.length = n
  td : ∀ v, v ∈ S.todo ↔ (0 ≤ v ∧ v < n ∧ has S.seen v = true)
  nodup : S.todo.Nodup
  head : S.todo[0]? = some s
  pre : ∀ (j : Nat) (v : Int), S.todo[j]? = some v → j = 0 ∨ ∃ i : Nat, i < es.length ∧ S.by_[v.toNat]? = some (i : Int) ∧ ∃ j' u, j' < j ∧ S.todo[j']? = some u ∧ u ≠ v ∧ hop (ed es i) (fa fl i) u = v
theorem Inv.start {n : Nat} {es : List E} {fl : List Int} {s : Int} (h0 : 0 ≤ s) (h1 : s < n) : Inv n es fl s (srch0 n s) := by
  refine ⟨by simp [srch0, Gm.start], by simp [srch0], fun v => ?_, by simp [srch0], rfl, fun j v h => ?_⟩
  · show v ∈ [s] ↔ 0 ≤ v ∧ v < n ∧ has (Gm.start n s) v = true
    constructor
    · intro h
      obtain rfl : v = s := by simpa using h
      exact ⟨h0, h1, by rw [start_has h0 h1 _ h0]; simp⟩
    · rintro ⟨a, _, c⟩
      rw [start_has h0 h1 _ a] at c
      simpa using c
  · left
    rcases j with _ | j
    · rfl
    · simp [srch0] at h
theorem Inv.look {n : Nat} {es : List E} {fl : List Int} {s : Int} {S : Srch} (h : Inv n es fl s S) {i : Nat} (hi : i < es.length) {u : Int} (hu : u ∈ S.todo) (hin : 0 ≤ hop (ed es i) (fa fl i) u ∧ hop (ed es i) (fa fl i) u < n) :
    Inv n es fl s (look S i (hop (ed es i) (fa fl i) u)) ∧ S.todo <+: (Gm.look S i (hop (ed es i) (fa fl i) u)).todo ∧ has (Gm.look S i (hop (ed es i) (fa fl i) u)).seen (hop (ed es i) (fa fl i) u) = true := by
  generalize hv : hop (ed es i) (fa fl i) u = v at *
  unfold Gm.look
  by_cases hs : has S.seen v = true
  · rw [if_pos hs]; exact ⟨h, List.prefix_refl _, hs⟩
  · rw [if_neg hs]
    have hs' : has S.seen v = false := by simpa using hs
    have hvt : v ∉ S.todo := fun hm => by rw [((h.td v).1 hm).2.2] at hs'; cases hs'
    have hvl : v.toNat < S.seen.length := by rw [h.sl]; omega
    have hset : ∀ x, 0 ≤ x → has (S.seen.set v.toNat true) x = (decide (x = v) || has S.seen x) := fun x hx => by
      rw [has_set _ _ hvl _ hx]
      have : ((v.toNat : Nat) : Int) = v := by omega
      rw [this]
    have huv : u ≠ v := fun e => hvt (e ▸ hu)
    refine ⟨⟨by simp [h.sl], by simp [h.bl], fun x => ?_, ?_, ?_, fun j x hx => ?_⟩, List.prefix_append _ _, ?_⟩
    · show x ∈ S.todo ++ [v] ↔ 0 ≤ x ∧ x < n ∧ has (S.seen.set v.toNat true) x = true
      constructor
      · intro hm
        rcases List.mem_append.1 hm with hm | hm
        · have := (h.td x).1 hm
          exact ⟨this.1, this.2.1, by rw [hset x this.1, this.2.2]; simp⟩
        · obtain rfl : x = v := by simpa using hm
          exact ⟨hin.1, hin.2, by rw [hset x hin.1]; simp⟩
      · rintro ⟨a, b, c⟩
        rw [hset x a] at c
        by_cases e : x = v
        · subst e; simp
        · have : has S.seen x = true := by simpa [e] using c
          exact List.mem_append.2 (.inl ((h.td x).2 ⟨a, b, this⟩))
    · exact List.nodup_append.2 ⟨h.nodup, by simp, fun a ha b hb => by
        obtain rfl : b = v := by simpa using hb
        exact fun e => hvt (e ▸ ha)⟩
    · show (S.todo ++ [v])[0]? = some s
      rw [List.getElem?_append_left]
      · exact h.head
      · exact (List.getElem?_eq_some_iff.1 h.head).1
    · by_cases hj : j < S.todo.length
      · have hx' : S.todo[j]? = some x := by rw [← hx]; exact (List.getElem?_append_left hj).symm
        rcases h.pre j x hx' with h0 | ⟨k, hk, hb, j', y, h1, h2, h3, h4⟩
        · exact .inl h0
        · right
          have hxm : x ∈ S.todo := List.mem_of_getElem? hx'
          have hxv : x ≠ v := fun e => hvt (e ▸ hxm)
          have hx0 := (h.td x).1 hxm
          refine ⟨k, hk, ?_, j', y, h1, by rw [List.getElem?_append_left (by omega)]; exact h2, h3, h4⟩
          show (S.by_.set v.toNat (i : Int))[x.toNat]? = some (k : Int)
          rw [List.getElem?_set, if_neg (by omega)]; exact hb
      · have hj' : j = S.todo.length := by
          have h3 : j < (S.todo ++ [v]).length := (List.getElem?_eq_some_iff.1 hx).1
          have e : (S.todo ++ [v]).length = S.todo.length + 1 := by simp
          omega
        subst hj'
        have hxv : x = v := by
          have e : (S.todo ++ [v])[S.todo.length]? = some v := by simp
          rw [e] at hx; exact (Option.some.inj hx).symm
        subst hxv
        right
        obtain ⟨j', hj', e'⟩ := List.getElem_of_mem hu
        refine ⟨i, hi, ?_, j', u, hj', by rw [List.getElem?_append_left hj', List.getElem?_eq_getElem hj', e'], huv, hv⟩
        show (S.by_.set x.toNat (i : Int))[x.toNat]? = some (i : Int)
        rw [List.getElem?_set, if_pos rfl, if_pos (by rw [h.bl]; omega)]
    · show has (S.seen.set v.toNat true) v = true
      rw [hset v hin.1]; simp
theorem look_mono {S : Srch} {i : Nat} {v x : Int} (hx : 0 ≤ x) (hl : v.toNat < S.seen.length) (h : has S.seen x = true) : has (look S i v).seen x = true := by
  unfold look
  split
  · exact h
  · show has (S.seen.set v.toNat true) x = true
    rw [has_set _ _ hl _ hx, h]; simp
structure Scan (n : Nat) (es : List E) (fl : List Int) (s u : Int) (S S' : Srch) (k : Nat) : Prop where
  inv : Inv n es fl s S'
  pref : S.todo <+: S'.todo
  mono : ∀ x, 0 ≤ x → has S.seen x = true → has S'.seen x = true
  clos : ∀ i, i < k → has S'.seen (hop (ed es i) (fa fl i) u) = true
theorem scan_is {n : Nat} {es : List E} {fl : List Int} {s u : Int} {S : Srch} (hes : ∀ e ∈ es, okE n e = true) (h : Inv n es fl s S) (hu : u ∈ S.todo) : ∀ k, k ≤ es.length → Scan n es fl s u S (scanK es fl u S k) k
  | 0, _ => ⟨h, List.prefix_refl _, fun _ _ h => h, fun i hi => absurd hi (by omega)⟩
  | k + 1, hk => by
    have ih := scan_is hes h hu k (by omega)
    have hu0 := (h.td u).1 hu
    have hin := hop_in (f := fa fl k) (hes _ (ed_mem (show k < es.length by omega))) hu0.1 hu0.2.1
    have hum : u ∈ (scanK es fl u S k).todo := ih.pref.subset hu
    obtain ⟨h1, h2, h3⟩ := ih.inv.look (show k < es.length by omega) hum hin
    have hl : (hop (ed es k) (fa fl k) u).toNat < (scanK es fl u S k).seen.length := by rw [ih.inv.sl]; omega
    refine ⟨h1, ih.pref.trans h2, fun x hx hs => look_mono hx hl (ih.mono x hx hs), fun i hi => ?_⟩
    by_cases e : i < k
    · have hin' := hop_in (f := fa fl i) (hes _ (ed_mem (show i < es.length by omega))) hu0.1 hu0.2.1
      exact look_mono hin'.1 hl (ih.clos i e)
    · obtain rfl : i = k := by omega
      exact h3
structure Bfs (n : Nat) (es : List E) (fl : List Int) (s : Int) (S : Srch) (k : Nat) : Prop where
  inv : Inv n es fl s S
  clos : ∀ j u, j < k → S.todo[j]? = some u → ∀ i, i < es.length → has S.seen (hop (ed es i) (fa fl i) u) = true
theorem bfs_is {n : Nat} {es : List E} {fl : List Int} {s : Int} (hes : ∀ e ∈ es, okE n e = true) (h0 : 0 ≤ s) (h1 : s < n) : ∀ k, Bfs n es fl s (bfsK n es fl s k) k
  | 0 => ⟨Inv.start h0 h1, fun j u hj => absurd hj (by omega)⟩
  | k + 1 => by
    have ih := bfs_is hes h0 h1 k (fl := fl)
    show Bfs n es fl s (if k < (bfsK n es fl s k).todo.length then _ else _) (k + 1)
    by_cases hk : k < (bfsK n es fl s k).todo.length
    · rw [if_pos hk]
      generalize hS : bfsK n es fl s k = S at *
      have hu : S.todo[k]?.getD 0 ∈ S.todo := by rw [List.getElem?_eq_getElem hk]; exact List.getElem_mem hk
      have hsc := scan_is hes ih.inv hu es.length (Nat.le_refl _)
      refine ⟨hsc.inv, fun j u hj hju i hi => ?_⟩
      have hj' : j < S.todo.length := by omega
      have hju' : S.todo[j]? = some u := by
        obtain ⟨t, ht⟩ := hsc.pref
        rw [← ht, List.getElem?_append_left hj'] at hju
        exact hju
      by_cases e : j < k
      · have hum := List.mem_of_getElem? hju'
        have hu0 := (ih.inv.td u).1 hum
        have hin := hop_in (f := fa fl i) (hes _ (ed_mem hi)) hu0.1 hu0.2.1
        exact hsc.mono _ hin.1 (ih.clos j u e hju' i hi)
      · obtain rfl : j = k := by omega
        have := hsc.clos i hi
        simpa [hju'] using this
    · rw [if_neg hk]
      refine ⟨ih.inv, fun j u hj hju i hi => ih.clos j u ?_ hju i hi⟩
      have := (List.getElem?_eq_some_iff.1 hju).1
      omega
theorem Inv.short {n : Nat} {es : List E} {fl : List Int} {s : Int} {S : Srch} (h : Inv n es fl s S) : S.todo.length ≤ n := by
  have hsub : S.todo ⊆ (List.range n).map (fun i : Nat => (i : Int)) := fun x hx => by
    have := (h.td x).1 hx
    exact List.mem_map.2 ⟨x.toNat, by simp; omega, by omega⟩
  have := h.nodup.length_le_of_subset hsub
  simpa using this
/-- The search whole. -/
def bfs (n : Nat) (es : List E) (fl : List Int) (s : Int) : Srch := bfsK n es fl s n
theorem bfs_end {n : Nat} {es : List E} {fl : List Int} {s : Int} (hes : ∀ e ∈ es, okE n e = true) (h0 : 0 ≤ s) (h1 : s < n) {k : Nat} (hk : (bfsK n es fl s k).todo.length ≤ k) : bfsK n es fl s k = bfs n es fl s := by
  have hn := (bfs_is hes h0 h1 n (fl := fl)).inv.short
  rcases Nat.le_total k n with h | h
  · obtain ⟨j, rfl⟩ : ∃ j, n = k + j := ⟨n - k, by omega⟩
    exact (bfsK_stop hk j).symm
  · obtain ⟨j, rfl⟩ : ∃ j, k = n + j := ⟨k - n, by omega⟩
    exact bfsK_stop hn j
/-- Who is seen at its end is who is reached. -/
theorem bfs_reached {n : Nat} {es : List E} {fl : List Int} {s : Int} (hes : ∀ e ∈ es, okE n e = true) (hl : fl.length = es.length) (h0 : 0 ≤ s) (h1 : s < n) : Reached n (es.zip fl) s (bfs n es fl s).seen := by
  have hb := bfs_is hes h0 h1 n (fl := fl)
  have hsh := hb.inv.short
  have hpair : ∀ p, p ∈ pairs (es.zip fl) ↔ ∃ i, i < es.length ∧ p.2 = hop (ed es i) (fa fl i) p.1 ∧ p.2 ≠ p.1 ∧ ((p.1 = (ed es i).1 ∧ fa fl i < (ed es i).2.2) ∨ (p.1 = (ed es i).2.1 ∧ 0 < fa fl i)) := fun p => by
    constructor
    · intro hp
      obtain ⟨q, hq, hpq⟩ := List.mem_flatMap.1 hp
      obtain ⟨i, hi, rfl⟩ := zip_of hl hq
      have ho := okE_iff.1 (hes _ (ed_mem hi))
      refine ⟨i, hi, ?_⟩
      unfold pairsE at hpq
      rcases List.mem_append.1 hpq with h | h
      · split at h
        · rename_i hlt
          obtain rfl : p = ((ed es i).1, (ed es i).2.1) := by simpa using h
          dsimp only
          exact ⟨by unfold hop; rw [if_pos ⟨rfl, hlt⟩], fun e => ho.2.2.2.2.1 e.symm, .inl ⟨rfl, hlt⟩⟩
        · simp at h
      · split at h
        · rename_i hlt
          obtain rfl : p = ((ed es i).2.1, (ed es i).1) := by simpa using h
          dsimp only
          exact ⟨by unfold hop; rw [if_neg (fun e => ho.2.2.2.2.1 e.1), if_pos ⟨rfl, hlt⟩], ho.2.2.2.2.1, .inr ⟨rfl, hlt⟩⟩
        · simp at h
    · rintro ⟨i, hi, h1, hne, h2⟩
      have ho := okE_iff.1 (hes _ (ed_mem hi))
      refine List.mem_flatMap.2 ⟨_, of_zip hl hi, ?_⟩
      unfold pairsE
      obtain ⟨a, b⟩ := p
      dsimp only at *
      rcases h2 with ⟨rfl, hlt⟩ | ⟨rfl, hlt⟩
      · unfold hop at h1
        rw [if_pos ⟨rfl, hlt⟩] at h1
        refine List.mem_append.2 (.inl ?_)
        rw [if_pos hlt, h1]; simp
      · unfold hop at h1
        rw [if_neg (fun e => ho.2.2.2.2.1 e.1), if_pos ⟨rfl, hlt⟩] at h1
        refine List.mem_append.2 (.inr ?_)
        rw [if_pos hlt, h1]; simp
  have hclos : ∀ u : Int, 0 ≤ u → u < n → has (bfs n es fl s).seen u = true → ∀ i, i < es.length → has (bfs n es fl s).seen (hop (ed es i) (fa fl i) u) = true := fun u a b c i hi => by
    have hm := (hb.inv.td u).2 ⟨a, b, c⟩
    obtain ⟨j, hj, e⟩ := List.getElem_of_mem hm
    exact hb.clos j u (by omega) (by rw [List.getElem?_eq_getElem hj, e]) i hi
  refine ⟨by rw [show (bfs n es fl s).seen.length = n from hb.inv.sl]; simp, ?_, fun p hp hx => ?_, fun x hx hs => ?_, fun Q hQ hQp => ?_⟩
  · have : s ∈ (bfs n es fl s).todo := List.mem_of_getElem? hb.inv.head
    exact ((hb.inv.td s).1 this).2.2
  · obtain ⟨i, hi, h2, _, h3⟩ := (hpair p).1 hp
    have ho := okE_iff.1 (hes _ (ed_mem hi))
    rw [h2]
    exact hclos p.1 (by rcases h3 with h | h <;> omega) (by rcases h3 with h | h <;> omega) hx i hi
  · have hxn : x < n := by have := has_lt hs; rw [show (bfs n es fl s).seen.length = n from hb.inv.sl] at this; omega
    have hm := (hb.inv.td x).2 ⟨hx, hxn, hs⟩
    obtain ⟨j, hj, e⟩ := List.getElem_of_mem hm
    rcases hb.inv.pre j x (by rw [List.getElem?_eq_getElem hj, e]) with h | ⟨i, hi, hby, j', u, h1, h2, h3, h4⟩
    · left
      subst h
      have h1 := hb.inv.head
      have h2 : (bfsK n es fl s n).todo[0]? = some x := (List.getElem?_eq_getElem hj).trans (congrArg some e)
      rw [h2] at h1
      exact Option.some.inj h1
    · right
      refine ⟨(u, x), (hpair _).2 ⟨i, hi, h4.symm, fun e => h3 e.symm, ?_⟩, rfl, ((hb.inv.td u).1 (List.mem_of_getElem? h2)).2.2⟩
      have hne : hop (ed es i) (fa fl i) u ≠ u := by rw [h4]; exact fun e => h3 e.symm
      rcases hop_ne hne with h | h
      · exact .inl ⟨h.1.symm, h.2.1⟩
      · exact .inr ⟨h.1.symm, h.2.1⟩
  · have key : ∀ (j : Nat) (x : Int), (bfsK n es fl s n).todo[j]? = some x → Q x := by
      intro j
      induction j using Nat.strongRecOn with
      | _ j ih =>
        intro x hx
        rcases hb.inv.pre j x hx with h | ⟨i, hi, _, j', u, h1, h2, h3, h4⟩
        · subst h
          have := hb.inv.head
          rw [show (bfsK n es fl s n).todo[0]? = some x from hx] at this
          obtain rfl := Option.some.inj this
          exact hQ
        · have hne : hop (ed es i) (fa fl i) u ≠ u := by rw [h4]; exact fun e => h3 e.symm
          refine hQp (u, x) ((hpair _).2 ⟨i, hi, h4.symm, fun e => h3 e.symm, ?_⟩) (ih j' h1 u h2)
          rcases hop_ne hne with h | h
          · exact .inl ⟨h.1.symm, h.2.1⟩
          · exact .inr ⟨h.1.symm, h.2.1⟩
    intro x hx hs
    have hxn : x < n := by have := has_lt hs; rw [show (bfs n es fl s).seen.length = n from hb.inv.sl] at this; omega
    obtain ⟨j, hj, e⟩ := List.getElem_of_mem ((hb.inv.td x).2 ⟨hx, hxn, hs⟩)
    exact key j x (by rw [← e]; exact List.getElem?_eq_getElem hj)
end Go.Proofs.Ythchlfoebkachaa.Gm
