/-
  The program's disk: what Restart leaves, step by step.
-/
import Derived.Test.YtffpmcelelloeaaPlist
namespace Go.Proofs.Ytffpmcelelloeaa
open Go.RowKit Gm

namespace Gm
/-- The first i files are cut. -/
def cutI (l : List Fl) (keep : List Int) (i : Nat) : List Fl := l.mapIdx fun j f => if j < i then cutF f (keep[j]?.getD 0) else f
theorem cutI_len (l : List Fl) (keep : List Int) (i : Nat) : (cutI l keep i).length = l.length := List.length_mapIdx
theorem cutI_at (l : List Fl) (keep : List Int) (i j : Nat) (h : j < l.length) : (cutI l keep i)[j]'(by rw [cutI_len]; exact h) = if j < i then cutF l[j] (keep[j]?.getD 0) else l[j] := List.getElem_mapIdx ..
theorem cutI_zero (l : List Fl) (keep : List Int) : cutI l keep 0 = l := by
  apply List.ext_getElem (cutI_len _ _ _)
  intro j h1 h2
  rw [cutI_at _ _ _ _ h2, if_neg (Nat.not_lt_zero j)]
theorem cutI_all (l : List Fl) (keep : List Int) : cutI l keep l.length = cutsF l keep := by
  apply List.ext_getElem (by rw [cutI_len]; exact List.length_mapIdx.symm)
  intro j h1 h2
  have h : j < l.length := by rw [cutI_len] at h1; exact h1
  rw [cutI_at _ _ _ _ h, if_pos h]
  exact (List.getElem_mapIdx (f := fun i f => cutF f (keep[i]?.getD 0)) ..).symm
theorem cutI_names (l : List Fl) (keep : List Int) (i : Nat) : (cutI l keep i).map (·.nm) = l.map (·.nm) := by
  apply List.ext_getElem (by simp [cutI_len])
  intro j h1 h2
  have h : j < l.length := by simpa using h2
  rw [List.getElem_map, List.getElem_map, cutI_at _ _ _ _ h]
  split <;> rfl
theorem names_some : ∀ {l m : List Fl}, l.map (·.nm) = m.map (·.nm) → ∀ k, (findF l k).isSome = (findF m k).isSome
  | [], [], _, _ => rfl
  | [], _ :: _, h, _ => by simp at h
  | _ :: _, [], h, _ => by simp at h
  | f :: l, g :: m, h, k => by
    simp only [List.map_cons, List.cons.injEq] at h
    rw [find_cons, find_cons, h.1]
    split
    · rfl
    · exact names_some h.2 k
theorem names_rise {l m : List Fl} (h : l.map (·.nm) = m.map (·.nm)) (hr : Rise m) : Rise l := by
  have h1 : (m.map (·.nm)).Pairwise (· < ·) := List.pairwise_map.2 hr
  rw [← h] at h1
  exact List.pairwise_map.1 h1
theorem cutI_step {l : List Fl} (hr : Rise l) (keep : List Int) {i : Nat} (hi : i < l.length) {g : Fl} (hg : g ∈ cutI l keep (i + 1)) : g = cutF l[i] (keep[i]?.getD 0) ∨ (g ∈ cutI l keep i ∧ g.nm ≠ l[i].nm) := by
  obtain ⟨j, hj, rfl⟩ := List.getElem_of_mem hg
  have h : j < l.length := by rw [cutI_len] at hj; exact hj
  rw [cutI_at _ _ _ _ h]
  by_cases e : j = i
  · subst e
    rw [if_pos (Nat.lt_succ_self j)]
    exact .inl rfl
  · have e1 : (if j < i + 1 then cutF l[j] (keep[j]?.getD 0) else l[j]) = (cutI l keep i)[j]'(by rw [cutI_len]; exact h) := by
      rw [cutI_at _ _ _ _ h]
      by_cases e2 : j < i
      · rw [if_pos e2, if_pos (by omega)]
      · rw [if_neg e2, if_neg (by omega)]
    rw [e1]
    refine .inr ⟨List.getElem_mem _, ?_⟩
    have e3 : ((cutI l keep i)[j]'(by rw [cutI_len]; exact h)).nm = l[j].nm := by
      rw [cutI_at _ _ _ _ h]; split <;> rfl
    rw [e3]
    have hp : ∀ a b (ha : a < l.length) (hb : b < l.length), a < b → l[a].nm < l[b].nm := fun a b ha hb hab => List.pairwise_iff_getElem.1 hr a b ha hb hab
    rcases Nat.lt_or_gt_of_ne e with h1 | h1
    · exact bs_ne (hp j i h hi h1)
    · exact Ne.symm (bs_ne (hp i j hi h h1))
theorem cutI_mem (l : List Fl) (keep : List Int) {i : Nat} (hi : i < l.length) : l[i] ∈ cutI l keep i := by
  have h := cutI_at l keep i i hi
  rw [if_neg (Nat.lt_irrefl i)] at h
  rw [← h]
  exact List.getElem_mem _
end Gm

/-- A slice of names is none of a file's block. -/
theorem NamesAt.keep {w w' : World} {a : Option Addr} {len B : Nat} {l : List Bs} {x : Option Addr × Nat × Nat} {c : Int} (h : NamesAt w a len l) (hB : w.heap[B]? = some (.cells #[.slice x.1 x.2.1 x.2.2, .int .i64 c] 63 (0, 0))) (hg : w.grownBy w' (some B)) : NamesAt w' a len l := by
  obtain ⟨h0, b, off, h1, h2⟩ := h
  refine ⟨h0, b, off, h1, fun i hi => ?_⟩
  obtain ⟨k1, k2⟩ := h2 i hi
  refine ⟨Nat.lt_of_lt_of_le k1 hg.size, hg.cell k2 fun e => ?_⟩
  have e : b = B := by injection e
  subst e
  rw [cell_of_row _ _ _ _ _ _ hB] at k2
  rcases (show off + i = 0 ∨ off + i = 1 ∨ 2 ≤ off + i by omega) with e | e | e
  · rw [e] at k2; simp at k2
  · rw [e] at k2; simp at k2
  · rw [Array.getElem?_eq_none (by simpa using e)] at k2; cases k2
/-- On the way through the files. -/
structure RestAt (w wr : World) (p m : Nat) (loc : Loc) (D : Dk) (R : Nat → Prop) (keep : List Int) (i : Nat) (a : Option Addr) (len : Nat) (loc' : Loc) : Prop where
  disk : PAt wr p m loc' { D with fs := cutI D.fs keep i }
  same : ∀ k, (loc' k).1 = (loc k).1 ∧ (loc' k).2.ownBlock = (loc k).2.ownBlock
  beside : Beside R w wr
  names : NamesAt wr a len (listD D)
theorem RestAt.start {w w1 : World} {p m : Nat} {loc : Loc} {D : Dk} {R : Nat → Prop} {keep : List Int} {a : Option Addr} {len : Nat} (h : PAt w p m loc D) (hb : Below w.heap.size w w1) (hn : NamesAt w1 a len (listD D)) : RestAt w w1 p m loc D R keep 0 a len loc :=
  ⟨by rw [cutI_zero]; exact h.below hb, fun _ => ⟨rfl, rfl⟩, Beside.of_below hb, hn⟩
theorem RestAt.step {w wr w2 : World} {p m : Nat} {loc loc' : Loc} {D : Dk} {R : Nat → Prop} {keep : List Int} {i : Nat} {a : Option Addr} {len : Nat} (h : RestAt w wr p m loc D R keep i a len loc') (hR : ∀ b, R b ↔ PBlk p m loc D.fs b) (hr : Rise D.fs) (hi : i < D.fs.length) {f : Fl} (hf : D.fs[i] = f) {c : Int} (hc : keep[i]?.getD 0 = c) {e : Ending} (hs : SetPost (loc' f.nm) f c wr e w2) :
    ∃ loc2, RestAt w w2 p m loc D R keep (i + 1) a len loc2 := by
  obtain ⟨_, v', hx, ho, hg⟩ := hs
  have hmem : f ∈ cutI D.fs keep i := hf ▸ cutI_mem D.fs keep hi
  have hfa := h.disk.file f hmem
  have hfD : f ∈ D.fs := hf ▸ List.getElem_mem _
  refine ⟨updL loc' f.nm ((loc' f.nm).1, v'), ⟨?_, fun k => ?_, ?_, ?_⟩⟩
  · refine h.disk.filed (f' := cutF f c) hmem rfl hx (by rw [cutI_len, cutI_len]) (fun k => ?_) (fun g hg => ?_) (fun b hb hn _ => hg.block b hb fun e => hn (by injection e)) fun b e => .inl (by rw [← ho]; exact e)
    · exact names_some (by rw [cutI_names, cutI_names]) k
    · have := cutI_step hr keep hi hg
      rw [hf, hc] at this
      exact this
  · by_cases e : k = f.nm
    · subst e
      rw [updL_same]
      exact ⟨(h.same f.nm).1, ho.trans (h.same f.nm).2⟩
    · rw [updL_other _ _ e]; exact h.same k
  · exact h.beside.trans (Beside.grown (R := R) hg fun b e _ => (hR b).2 (.inr (.inr ⟨f, hfD, .inl (by injection e with e; rw [← e]; exact (h.same f.nm).1)⟩))) fun b hb _ => hb
  · obtain ⟨x, cap, hv⟩ := hfa.form
    have hb := hfa.blk
    rw [hv] at hb
    exact h.names.keep (x := (x, f.tx.length, cap)) hb hg
/-- At the end. -/
theorem RestAt.turn {w wr w2 : World} {p m : Nat} {loc loc' : Loc} {D : Dk} {R : Nat → Prop} {keep : List Int} {a : Option Addr} {len : Nat} (h : RestAt w wr p m loc D R keep D.fs.length a len loc') (hR : ∀ b, R b ↔ PBlk p m loc D.fs b) (ok : OkD D) (hg : wr.grownBy w2 (some p)) (hb : w2.heap[p]? = some (.cells #[.map (some m), .int .i64 (D.acts : Int), .int .i64 0, .bool false] 55 (0, 0))) : Turn PDisk w w2 p (restartD D keep) R := by
  have hd := h.disk
  rw [cutI_all] at hd
  have h2 : PAt w2 p m loc' (restartD D keep) := hd.setp rfl hg (by
    rw [hb]
    have : (restartD D keep).arm - (restartD D keep).acts = 0 := Nat.zero_sub _
    rw [this]; rfl)
  refine p_turn hR (ok.restart keep) h2 (h.beside.trans (Beside.grown (R := R) hg fun b e _ => (hR b).2 (.inl (by injection e with e; exact e.symm))) fun b hb _ => hb) fun b e => .inl ?_
  rcases e with e | e | ⟨g, hg, e⟩
  · exact .inl e
  · exact .inr (.inl e)
  · have hn : (findF D.fs g.nm).isSome = true := by
      rw [← names_some (show (cutsF D.fs keep).map (·.nm) = D.fs.map (·.nm) by rw [← cutI_all, cutI_names]) g.nm]
      rw [find_of_mem (names_rise (show (cutsF D.fs keep).map (·.nm) = D.fs.map (·.nm) by rw [← cutI_all, cutI_names]) ok.fs.rise) hg]; rfl
    obtain ⟨f, hf⟩ := Option.isSome_iff_exists.1 hn
    obtain ⟨f1, f2⟩ := find_mem hf
    refine .inr (.inr ⟨f, f1, ?_⟩)
    rw [f2, ← (h.same g.nm).1, ← (h.same g.nm).2]
    exact e
end Go.Proofs.Ytffpmcelelloeaa
