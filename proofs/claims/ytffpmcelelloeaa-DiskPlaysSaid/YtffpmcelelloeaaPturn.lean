/-
  What becomes of the program's disk where its map or one of its files is written.
-/
import Derived.Test.YtffpmcelelloeaaPact
namespace Go.Proofs.Ytffpmcelelloeaa
open Go.RowKit Gm

namespace Gm
theorem put_mem' {l : List Fl} (h : Rise l) {f x : Fl} (hx : x ∈ putF l f) : x = f ∨ (x ∈ l ∧ x.nm ≠ f.nm) := by
  rcases put_mem hx with e | hl
  · exact .inl e
  · by_cases e : x.nm = f.nm
    · have h1 := find_of_mem (put_rise h f) hx
      rw [find_put h, if_pos e.symm] at h1
      exact .inl (Option.some.inj h1).symm
    · exact .inr ⟨hl, e⟩
theorem drop_len_eq {l : List Fl} (h : Rise l) (k : Bs) : (dropF l k).length + (if (findF l k).isSome then 1 else 0) = l.length := by
  induction l with
  | nil => rfl
  | cons g l ih =>
    obtain ⟨h1, h2⟩ := rise_cons.1 h
    have ih := ih h2
    unfold dropF at ih ⊢
    by_cases e : g.nm = k
    · have hn : findF l k = none := find_none fun f hf => fun e' => bs_ne (h1 f hf) (e.trans e'.symm)
      rw [hn] at ih
      rw [List.filter_cons_of_neg (by simpa using e), find_cons, if_pos e]
      simp at ih ⊢; exact ih
    · rw [List.filter_cons_of_pos (by simpa using e), find_cons, if_neg e]
      simp only [List.length_cons]; omega
theorem put_len_eq {l : List Fl} (h : Rise l) (f : Fl) : (putF l f).length = if (findF l f.nm).isSome then l.length else l.length + 1 := by
  induction l with
  | nil => rfl
  | cons g l ih =>
    obtain ⟨h1, h2⟩ := rise_cons.1 h
    have ih := ih h2
    unfold putF
    by_cases e : g.nm < f.nm
    · rw [if_pos e, find_cons, if_neg (bs_ne e), List.length_cons, ih]
      split <;> simp
    · rw [if_neg e]
      by_cases e' : g.nm = f.nm
      · rw [if_pos e', find_cons, if_pos e']; simp
      · have lt : f.nm < g.nm := by
          rcases bs_tri g.nm f.nm with h | h | h
          · exact absurd h e
          · exact absurd h e'
          · exact h
        have hn : findF l f.nm = none := find_none fun x hx => fun e'' => bs_ne (bs_trans lt (h1 x hx)) e''.symm
        rw [if_neg e', find_cons, if_neg e', hn]; simp
theorem drop_some {l : List Fl} (k j : Bs) : (findF (dropF l k) j).isSome = (!decide (j = k) && (findF l j).isSome) := by
  rw [find_drop]
  by_cases e : k = j
  · subst e; simp
  · rw [if_neg e, decide_eq_false (fun h => e h.symm)]; rfl
theorem put_some {l : List Fl} (h : Rise l) (f : Fl) (j : Bs) : (findF (putF l f) j).isSome = (decide (j = f.nm) || (findF l j).isSome) := by
  rw [find_put h]
  by_cases e : f.nm = j
  · subst e; simp
  · rw [if_neg e, decide_eq_false (fun h => e h.symm)]; rfl
end Gm

def updL (loc : Loc) (k : Bs) (x : Nat × Value) : Loc := fun j => if j = k then x else loc j
theorem updL_same (loc : Loc) (k : Bs) (x : Nat × Value) : updL loc k x k = x := if_pos rfl
theorem updL_other (loc : Loc) {k j : Bs} (x : Nat × Value) (h : j ≠ k) : updL loc k x j = loc j := if_neg h

theorem p_turn {w w' : World} {p m : Nat} {loc loc' : Loc} {D D' : Dk} {R : Nat → Prop} (hR : ∀ b, R b ↔ PBlk p m loc D.fs b) (ok' : OkD D') (h' : PAt w' p m loc' D') (hb : Beside R w w') (hv : ∀ b, PBlk p m loc' D'.fs b → PBlk p m loc D.fs b ∨ w.heap.size ≤ b) : Turn PDisk w w' p D' R :=
  ⟨PBlk p m loc' D'.fs, ⟨ok', m, loc', fun _ => Iff.rfl, h'⟩, hb, fun b e => by
    rcases hv b e with e | e
    · exact .inl ((hR b).2 e)
    · exact .inr e⟩
theorem beside_p {R : Nat → Prop} {p m : Nat} {loc : Loc} {fs : List Fl} {A B : World} {b : Nat} (hR : ∀ b, R b ↔ PBlk p m loc fs b) (hb : PBlk p m loc fs b) (h : A.grownBy B (some b)) : Beside R A B :=
  Beside.grown h fun c e _ => (hR c).2 (by injection e with e; subst e; exact hb)
/-- The disk is as it was. -/
theorem p_same {w w' : World} {p m : Nat} {loc : Loc} {D D' : Dk} {R : Nat → Prop} (hR : ∀ b, R b ↔ PBlk p m loc D.fs b) (ok' : OkD D') (h' : PAt w' p m loc D') (he : D'.fs = D.fs) (hg : w.grownBy w' (some p)) : Turn PDisk w w' p D' R :=
  p_turn hR ok' h' (beside_p hR (.inl rfl) hg) fun b e => .inl (by rw [he] at e; exact e)

/-- The map is another one. -/
theorem PAt.mapped {w w' : World} {p m : Nat} {loc loc' : Loc} {D : Dk} {gs : List Fl} (h : PAt w p m loc D) (hm : MapAt w' m loc' gs) (hg : w.grownBy w' (some m)) (hf : ∀ g ∈ gs, FileAt w (loc' g.nm) g)
    (hne : ∀ f ∈ gs, ∀ g ∈ gs, f.nm ≠ g.nm → (loc' f.nm).1 ≠ (loc' g.nm).1 ∧ ∀ b, (loc' f.nm).2.ownBlock = some b → (loc' g.nm).2.ownBlock ≠ some b) : PAt w' p m loc' { D with fs := gs } := by
  obtain ⟨Dm, ⟨es, clock, hmb, _⟩, _⟩ := h.map
  refine ⟨(hg.block p (h.lt (.inl rfl)) (fun e => h.far.1 (by injection e with e; exact e.symm))).trans h.blk, hm, fun g hgs => ?_, hne⟩
  have hx := hf g hgs
  refine hx.moved (hg.block _ hx.lt.1 fun e => ?_) fun b e => hg.block b (hx.lt.2 b e) fun e' => ?_
  · have e : (loc' g.nm).1 = m := by injection e
    have := hx.blk
    rw [e, hmb] at this; cases this
  · have e' : b = m := by injection e'
    obtain ⟨cs, hc⟩ := row_block hx.row e
    rw [e', hmb] at hc; cases hc
theorem PAt.dropped {w w' : World} {p m : Nat} {loc : Loc} {D : Dk} (h : PAt w p m loc D) (k : Bs) (hm : MapAt w' m loc (dropF D.fs k)) (hg : w.grownBy w' (some m)) : PAt w' p m loc { D with fs := dropF D.fs k } :=
  h.mapped hm hg (fun g hgs => h.file g (drop_mem.1 hgs).1) fun f hf g hgs => h.ne f (drop_mem.1 hf).1 g (drop_mem.1 hgs).1
/-- One file is written. -/
theorem PAt.filed {w w' : World} {p m : Nat} {loc : Loc} {D : Dk} {gs : List Fl} (h : PAt w p m loc D) {f : Fl} (hfm : f ∈ D.fs) {f' : Fl} (hnm : f'.nm = f.nm) {v' : Value} (hx : FileAt w' ((loc f.nm).1, v') f') (hl : gs.length = D.fs.length) (hs : ∀ k, (findF gs k).isSome = (findF D.fs k).isSome) (hmem : ∀ g ∈ gs, g = f' ∨ (g ∈ D.fs ∧ g.nm ≠ f.nm))
    (hb : ∀ b, b < w.heap.size → b ≠ (loc f.nm).1 → (loc f.nm).2.ownBlock ≠ some b → w'.heap[b]? = w.heap[b]?) (hv : ∀ b, v'.ownBlock = some b → (loc f.nm).2.ownBlock = some b ∨ w.heap.size ≤ b) : PAt w' p m (updL loc f.nm ((loc f.nm).1, v')) { D with fs := gs } := by
  obtain ⟨far0, far⟩ := h.far
  obtain ⟨fp, fm, fr⟩ := far f hfm
  have old : ∀ g ∈ D.fs, g.nm ≠ f.nm → FileAt w' (loc g.nm) g := fun g hg hn => by
    have hgf := h.file g hg
    obtain ⟨n1, n2⟩ := h.ne g hg f hfm hn
    obtain ⟨gp, gm, gr⟩ := far g hg
    refine hgf.moved (hb _ hgf.lt.1 n1 fun e => (fr _ e).2.2 g hg rfl) fun b e => hb b (hgf.lt.2 b e) (fun e' => (gr b e).2.2 f hfm e') (n2 b e)
  refine ⟨?_, ?_, fun g hg => ?_, fun g hg j hj hn => ?_⟩
  · exact (hb p (h.lt (.inl rfl)) (Ne.symm fp) fun e => (fr _ e).1 rfl).trans h.blk
  · refine MapAt.same (h.map.moved (hb m h.map.lt (Ne.symm fm) fun e => (fr _ e).2.1 rfl)) hl hs fun k _ => ?_
    by_cases e : k = f.nm
    · subst e; rw [updL_same]
    · rw [updL_other _ _ e]
  · rcases hmem g hg with rfl | ⟨h1, h2⟩
    · rw [hnm, updL_same]; exact hx
    · rw [updL_other _ _ h2]; exact old g h1 h2
  · rcases hmem g hg with rfl | ⟨h1, h2⟩
    · rcases hmem j hj with rfl | ⟨j1, j2⟩
      · exact absurd rfl hn
      · rw [hnm, updL_same, updL_other _ _ j2]
        obtain ⟨n1, n2⟩ := h.ne f hfm j j1 (Ne.symm j2)
        refine ⟨n1, fun b e e' => ?_⟩
        rcases hv b e with e2 | e2
        · exact n2 b e2 e'
        · have := (h.file j j1).lt.2 b e'; omega
    · rcases hmem j hj with rfl | ⟨j1, j2⟩
      · rw [hnm, updL_same, updL_other _ _ h2]
        obtain ⟨n1, n2⟩ := h.ne g h1 f hfm h2
        refine ⟨n1, fun b e e' => ?_⟩
        rcases hv b e' with e2 | e2
        · exact n2 b e e2
        · have := (h.file g h1).lt.2 b e; omega
      · rw [updL_other _ _ h2, updL_other _ _ j2]
        exact h.ne g h1 j j1 hn
theorem PAt.put {w w' : World} {p m : Nat} {loc : Loc} {D : Dk} (h : PAt w p m loc D) (hr : Rise D.fs) {f : Fl} {k : Bs} (hf : findF D.fs k = some f) {tx : Bs} {sy : Nat} {v' : Value} (hx : FileAt w' ((loc k).1, v') ⟨k, tx, sy⟩)
    (hb : ∀ b, b < w.heap.size → b ≠ (loc k).1 → (loc k).2.ownBlock ≠ some b → w'.heap[b]? = w.heap[b]?) (hv : ∀ b, v'.ownBlock = some b → (loc k).2.ownBlock = some b ∨ w.heap.size ≤ b) : PAt w' p m (updL loc k ((loc k).1, v')) { D with fs := putF D.fs ⟨k, tx, sy⟩ } := by
  obtain ⟨h1, h2⟩ := find_mem hf
  subst h2
  refine h.filed h1 (f' := ⟨f.nm, tx, sy⟩) rfl hx ?_ ?_ ?_ hb hv
  · rw [put_len_eq hr, hf]; rfl
  · intro k
    rw [put_some hr]
    by_cases e : k = f.nm
    · subst e; rw [hf]; simp
    · rw [decide_eq_false e]; rfl
  · intro g hg
    exact put_mem' hr hg
/-- The blocks behind it. -/
theorem blk_put {w : World} {p m : Nat} {loc : Loc} {D : Dk} {f : Fl} {k : Bs} (hr : Rise D.fs) (hf : findF D.fs k = some f) {tx : Bs} {sy : Nat} {v' : Value} (hv : ∀ b, v'.ownBlock = some b → (loc k).2.ownBlock = some b ∨ w.heap.size ≤ b) {b : Nat} (hb : PBlk p m (updL loc k ((loc k).1, v')) (putF D.fs ⟨k, tx, sy⟩) b) : PBlk p m loc D.fs b ∨ w.heap.size ≤ b := by
  obtain ⟨h1, h2⟩ := find_mem hf
  rcases hb with rfl | rfl | ⟨g, hg, e⟩
  · exact .inl (.inl rfl)
  · exact .inl (.inr (.inl rfl))
  · rcases put_mem' hr hg with rfl | ⟨g1, g2⟩
    · dsimp only at e
      rw [updL_same] at e
      rcases e with e | e
      · exact .inl (.inr (.inr ⟨f, h1, .inl (by rw [h2]; exact e)⟩))
      · rcases hv b e with e | e
        · exact .inl (.inr (.inr ⟨f, h1, .inr (by rw [h2]; exact e)⟩))
        · exact .inr e
    · rw [updL_other _ _ g2] at e
      exact .inl (.inr (.inr ⟨g, g1, e⟩))
end Go.Proofs.Ytffpmcelelloeaa
