/-
  The numbers of the statement DiskApart: what is done to other files leaves a synced one as it is.
-/
import Derived.Test.YtffpmcelelloeaaHelp
namespace Go.Proofs.Ytffpmcelelloeaa.Gm

theorem mapIdx_cons {α β : Type} (f : Nat → α → β) (a : α) (l : List α) : (a :: l).mapIdx f = f 0 a :: l.mapIdx (fun i x => f (i + 1) x) := List.mapIdx_cons
theorem find_idx {g : Nat → Fl → Fl} (hg : ∀ i f, (g i f).nm = f.nm) {k : Bs} {f : Fl} : ∀ {l : List Fl} (n : Nat), findF l k = some f → ∃ i, findF (l.mapIdx (fun j x => g (n + j) x)) k = some (g i f)
  | [], _, h => by cases h
  | x :: l, n, h => by
    rw [find_cons] at h
    by_cases e : x.nm = k
    · rw [if_pos e] at h
      cases h
      exact ⟨n, by rw [mapIdx_cons, find_cons, if_pos (by rw [hg]; exact e)]; rfl⟩
    · rw [if_neg e] at h
      obtain ⟨i, hi⟩ := find_idx hg (n + 1) h
      refine ⟨i, ?_⟩
      rw [mapIdx_cons, find_cons, if_neg (by rw [hg]; exact e)]
      rw [← hi]
      congr 2
      funext j x
      rw [show n + (j + 1) = n + 1 + j by omega]
theorem find_cuts {l : List Fl} {k : Bs} {f : Fl} (keep : List Int) (h : findF l k = some f) : ∃ c, findF (cutsF l keep) k = some (cutF f c) := by
  obtain ⟨i, hi⟩ := find_idx (g := fun i f => cutF f (keep[i]?.getD 0)) (fun _ _ => rfl) 0 h
  refine ⟨keep[i]?.getD 0, ?_⟩
  unfold cutsF
  simpa using hi
theorem find_cuts_none {l : List Fl} {k : Bs} (keep : List Int) (h : findF l k = none) : findF (cutsF l keep) k = none := by
  rw [find_none_iff] at h ⊢
  intro f hf
  have hm : f.nm ∈ (cutsF l keep).map (·.nm) := List.mem_map_of_mem hf
  rw [cuts_names] at hm
  obtain ⟨g, hg, e⟩ := List.mem_map.1 hm
  rw [← e]; exact h g hg
theorem cut_whole {f : Fl} (h : f.sy = f.tx.length) (c : Int) : cutF f c = f := by
  unfold cutF
  have : keepN c (f.tx.length - f.sy) = 0 := by
    have := keep_le c (f.tx.length - f.sy); omega
  obtain ⟨n, t, y⟩ := f
  dsimp only at this h ⊢
  subst h
  rw [this]; simp
/-- A disk that is on and not armed. -/
theorem runs {D : Dk} (h : D.off = false) (k : D.arm = 0) (r : List Fl × Int) : doneD D r = (⟨r.1, D.acts + 1, 0, false⟩, r.2) := by
  unfold doneD goesD actD; simp [h, k]

/-- The file k has all of tx, synced; so many actions. -/
structure ApSt (D : Dk) (k tx : Bs) (n : Nat) : Prop where
  off : D.off = false
  arm : D.arm = 0
  acts : D.acts ≤ n
  at_ : findF D.fs k = some ⟨k, tx, tx.length⟩
theorem ApSt.done {D : Dk} {k tx : Bs} {n : Nat} (h : ApSt D k tx n) {r : List Fl × Int} (hr : findF r.1 k = findF D.fs k) : ApSt (doneD D r).1 k tx (n + 1) := by
  rw [runs h.off h.arm]
  exact ⟨rfl, rfl, by have := h.acts; dsimp only; omega, hr.trans h.at_⟩
theorem ApSt.append {D : Dk} {k tx : Bs} {n : Nat} (h : ApSt D k tx n) (ok : OkD D) {j : Bs} (hj : j ≠ k) (s : Bs) : ApSt (appendD D j s).1 k tx (n + 1) := h.done (by
  unfold appendF
  split
  · split
    · split
      · rfl
      · show findF (putF _ _) _ = _
        rw [find_put ok.fs.rise]; rw [if_neg hj]
    · split
      · rfl
      · show findF (putF _ _) _ = _
        rw [find_put ok.fs.rise]; rw [if_neg hj]
  · rfl)
theorem ApSt.sync {D : Dk} {k tx : Bs} {n : Nat} (h : ApSt D k tx n) (ok : OkD D) {j : Bs} (hj : j ≠ k) : ApSt (syncD D j).1 k tx (n + 1) := h.done (by
  unfold syncF
  split
  · rfl
  · show findF (putF _ _) _ = _
    rw [find_put ok.fs.rise]; rw [if_neg hj])
theorem ApSt.rename {D : Dk} {k tx : Bs} {n : Nat} (h : ApSt D k tx n) (ok : OkD D) {j i : Bs} (hj : j ≠ k) (hi : i ≠ k) : ApSt (renameD D j i).1 k tx (n + 1) := h.done (by
  unfold renameF
  split
  · rfl
  · split
    · show findF (putF _ _) _ = _
      rw [find_put (drop_rise ok.fs.rise _), if_neg hi, find_drop, if_neg hj]
    · rfl)
theorem ApSt.remove {D : Dk} {k tx : Bs} {n : Nat} (h : ApSt D k tx n) {j : Bs} (hj : j ≠ k) : ApSt (removeD D j).1 k tx (n + 1) := h.done (by
  unfold removeF
  split
  · rfl
  · show findF (dropF _ _) _ = _
    rw [find_drop, if_neg hj])
theorem ApSt.restart {D : Dk} {k tx : Bs} {n : Nat} (h : ApSt D k tx n) (keep : List Int) : ApSt (restartD D keep) k tx (n + 1) := by
  obtain ⟨c, hc⟩ := find_cuts keep h.at_
  rw [cut_whole rfl] at hc
  exact ⟨rfl, rfl, by have := h.acts; show D.acts ≤ _; omega, hc⟩
theorem ApSt.read {D : Dk} {k tx : Bs} {n : Nat} (h : ApSt D k tx n) : readD D k = (tx, 0) := by
  unfold readD
  rw [h.off, h.at_]; rfl
theorem ap1 {t : Bs} (h : t.length ≤ 500) (k : Bs) (hk : okName k = true) : appendD newD k t = (⟨[⟨k, t, 0⟩], 1, 0, false⟩, 0) := by
  unfold appendD newD
  rw [runs rfl rfl]
  have : ¬ 65536 < t.length := by omega
  simp [appendF, hk, findF, putF, this]
theorem ap2 (t : Bs) : ApSt (syncD ⟨[⟨[99], t, 0⟩], 1, 0, false⟩ [99]).1 [99] t 2 := ⟨rfl, rfl, Nat.le_refl _, rfl⟩
end Go.Proofs.Ytffpmcelelloeaa.Gm
