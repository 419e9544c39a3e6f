/-
  What LeaseHeld's script leaves, in numbers: the grants that a cell may still run by are in the book.
-/
import Derived.Test.YtgkpkegbjkjhiaaLmovesn
namespace Go.Proofs.Ytgkpkegbjkjhiaa.Gm

theorem when_id {t : Int} (h : -1099511627776 ≤ t ∧ t ≤ 1099511627776) : whenN t = t := by unfold whenN; omega
theorem until_id {t : Int} (h : -1099511627776 ≤ t ∧ t ≤ 1099511627776) : untilN t = t + 20 := by unfold untilN; rw [when_id h]
theorem over_id {t u : Int} (ht : -100000 ≤ t ∧ t ≤ 100000) (hu : -100000 ≤ u ∧ u ≤ 100000) : overN t u = decide (u + 4 ≤ t) := by unfold overN; rw [when_id (by omega), when_id (by omega)]
theorem holds_id {t u : Int} (ht : -100000 ≤ t ∧ t ≤ 100000) (hu : -100000 ≤ u ∧ u ≤ 100000) : holdsN t u = decide (t < u) := by unfold holdsN; rw [when_id (by omega), when_id (by omega)]

/-- Behind i acts: the binds that were sent and their ends, by version; the version that the cell has; the time. -/
structure HdSt (D : Bk) (rows : List (List Bd)) (us : List Int) (has : Nat) (now : Int) (i : Nat) : Prop where
  ok : OkB D
  known : D.unknown = false
  len : D.g.length ≤ i + 1
  n : us.length = rows.length
  n1 : rows.length ≤ i + 1
  lt : has < rows.length
  now0 : 0 ≤ now
  now1 : now ≤ 8 * i
  small : ∀ l ∈ rows, Small l
  bd : ∀ u ∈ us, -1000 ≤ u ∧ u ≤ 1000
  keep : ∀ v, has ≤ v → ∀ (h1 : v < rows.length) (h2 : v < us.length), (∃ x ∈ D.g, x.ver = (v : Int) ∧ x.unt = us[v] ∧ x.l = rows[v]) ∨ us[v] + 2 ≤ now
theorem HdSt.more {D : Bk} {rows : List (List Bd)} {us : List Int} {has : Nat} {now : Int} {i : Nat} (h : HdSt D rows us has now i) : HdSt D rows us has now (i + 1) :=
  ⟨h.ok, h.known, Nat.le_succ_of_le h.len, h.n, Nat.le_succ_of_le h.n1, h.lt, h.now0, by have := h.now1; omega, h.small, h.bd, h.keep⟩
theorem HdSt.first {u : Int} {l : List Bd} (hl : Small l) (hu : -1000 ≤ u ∧ u ≤ 1000) (hb : OkB (newB 0)) : HdSt (learnB (newB 0) 0 u l) [l] [u] 0 0 0 where
  ok := hb.learn (by unfold I64; omega) (by unfold I64; omega) hl.ok
  known := rfl
  len := by simp [learnB]
  n := rfl
  n1 := by simp
  lt := by simp
  now0 := by omega
  now1 := by omega
  small := fun y hy => by rw [List.mem_singleton.1 hy]; exact hl
  bd := fun y hy => by rw [List.mem_singleton.1 hy]; exact hu
  keep := fun v _ h1 h2 => by
    obtain rfl : v = 0 := by simpa using h1
    exact .inl ⟨⟨0, u, l⟩, by simp [learnB], rfl, rfl, rfl⟩
theorem HdSt.sent {D : Bk} {rows : List (List Bd)} {us : List Int} {has : Nat} {now : Int} {i : Nat} (h : HdSt D rows us has now i) (hi : i < 80) {s : Int} (hs : -2 ≤ s ∧ s ≤ 2) {l : List Bd} (hl : Small l) {u : Int} (hu : untilN (now + s) = u) :
    HdSt (sentB D (rows.length : Int) u l) (rows ++ [l]) (us ++ [u]) has now (i + 1) := by
  have h0 := h.now0
  have h1 := h.now1
  have e := until_id (t := now + s) (by omega)
  rw [hu] at e
  have hlen := h.n1
  refine ⟨h.ok.sent (by have := h.len; omega) ⟨by omega, by omega⟩ ⟨by omega, by omega⟩ hl.ok, h.known, by have := h.len; unfold sentB; simp; omega, by simp [h.n], by simp; omega, by simp; have := h.lt; omega, h0, by omega, fun y hy => ?_, fun y hy => ?_, fun v hv k1 k2 => ?_⟩
  · rcases List.mem_append.1 hy with hy | hy
    · exact h.small y hy
    · rw [List.mem_singleton.1 hy]; exact hl
  · rcases List.mem_append.1 hy with hy | hy
    · exact h.bd y hy
    · rw [List.mem_singleton.1 hy]; omega
  · by_cases hv' : v < rows.length
    · have k3 : v < us.length := by rw [h.n]; exact hv'
      rw [List.getElem_append_left hv', List.getElem_append_left k3]
      rcases h.keep v hv hv' k3 with ⟨x, hx, hx2⟩ | hk
      · exact .inl ⟨x, List.mem_append_left _ hx, hx2⟩
      · exact .inr hk
    · have e1 : v = rows.length := by simp at k1; omega
      subst e1
      have k3 : us.length ≤ rows.length := Nat.le_of_eq h.n
      refine .inl ⟨⟨(rows.length : Int), u, l⟩, List.mem_append_right _ (List.mem_singleton.2 rfl), rfl, ?_, ?_⟩
      · rw [List.getElem_append_right k3]; simp
      · rw [List.getElem_append_right (Nat.le_refl _)]; simp
theorem HdSt.had {D : Bk} {rows : List (List Bd)} {us : List Int} {has : Nat} {now : Int} {i : Nat} (h : HdSt D rows us has now i) {p : Nat} (hp : p < rows.length) : HdSt D rows us (max has p) now (i + 1) :=
  ⟨h.ok, h.known, Nat.le_succ_of_le h.len, h.n, Nat.le_succ_of_le h.n1, by have := h.lt; omega, h.now0, by have := h.now1; omega, h.small, h.bd, fun v hv => h.keep v (by omega)⟩
theorem HdSt.acked {D : Bk} {rows : List (List Bd)} {us : List Int} {has : Nat} {now : Int} {i : Nat} (h : HdSt D rows us has now i) {p : Int} (hp : p ≤ has) : HdSt (ackedB D p) rows us has now (i + 1) :=
  ⟨h.ok.acked p, h.known, Nat.le_trans (List.length_filter_le _ _) (Nat.le_succ_of_le h.len), h.n, Nat.le_succ_of_le h.n1, h.lt, h.now0, by have := h.now1; omega, h.small, h.bd, fun v hv h1 h2 => by
    rcases h.keep v hv h1 h2 with ⟨x, hx, hx2, hx3⟩ | hk
    · exact .inl ⟨x, List.mem_filter.2 ⟨hx, decide_eq_true (by omega)⟩, hx2, hx3⟩
    · exact .inr hk⟩
theorem HdSt.pass {D : Bk} {rows : List (List Bd)} {us : List Int} {has : Nat} {now : Int} {i : Nat} (h : HdSt D rows us has now i) (hi : i < 80) {k s : Int} (hk : 0 ≤ k ∧ k ≤ 8) (hs : -2 ≤ s ∧ s ≤ 2) : HdSt (passB D (now + k + s)) rows us has (now + k) (i + 1) := by
  have h0 := h.now0
  have h1 := h.now1
  refine ⟨h.ok.pass _, ?_, Nat.le_trans (List.length_filter_le _ _) (Nat.le_succ_of_le h.len), h.n, Nat.le_succ_of_le h.n1, h.lt, by omega, by omega, h.small, h.bd, fun v hv k1 k2 => ?_⟩
  · show (D.unknown && _) = false
    rw [h.known]; rfl
  · rcases h.keep v hv k1 k2 with ⟨x, hx, hx2, hx3, hx4⟩ | hk
    · by_cases hc : us[v] + 2 ≤ now + k
      · exact .inr hc
      · refine .inl ⟨x, List.mem_filter.2 ⟨hx, ?_⟩, hx2, hx3, hx4⟩
        have hb := h.bd _ (List.getElem_mem k2)
        rw [hx3, over_id (by omega) (by omega)]
        simp only [Bool.not_eq_true', decide_eq_false_iff_not]
        omega
    · exact .inr (by omega)
/-- Where the cell's lease holds by some clock, what it runs is no more than what is held. -/
theorem HdSt.runs {D : Bk} {rows : List (List Bd)} {us : List Int} {has : Nat} {now : Int} {i : Nat} (h : HdSt D rows us has now i) (hi : i ≤ 80) {s : Int} (hs : -2 ≤ s ∧ s ≤ 2) (h2 : has < us.length) (ho : holdsN (now + s) us[has] = true) (k : Bs) : sumC (rows[has]'h.lt) k ≤ heldB D k := by
  have h0 := h.now0
  have h1 := h.now1
  have hb := h.bd _ (List.getElem_mem h2)
  rw [holds_id (by omega) (by omega), decide_eq_true_eq] at ho
  rcases h.keep has (Nat.le_refl _) h.lt h2 with ⟨x, hx, _, _, hx4⟩ | hk
  · unfold heldB
    rw [h.known, if_neg (by simp), ← hx4]
    exact best_le hx
  · omega
end Go.Proofs.Ytgkpkegbjkjhiaa.Gm
