/-
  Binds appended to none; rows that stay.
-/
import Derived.BigFrame
import Derived.Test.YtbbogkmibiealaaCmem
namespace Go.Proofs.Ytbbogkmibiealaa
open Go.RowKit Gm

theorem row_form {W : World} {base e size n : Nat} {v : Value} {xs : List Value} (h : W.ownsRow base e size v n xs) : ∃ A c, v = .slice A n c := by
  rcases h.2 with ⟨rfl, rfl⟩ | ⟨g, cap, cur, rfl, _⟩
  · exact ⟨_, _, rfl⟩
  · exact ⟨_, _, rfl⟩
theorem row_moved {w w' : World} {base e size n : Nat} {v : Value} {xs : List Value} (h : w.ownsRow base e size v n xs) (hb : ∀ b, v.ownBlock = some b → w'.heap[b]? = w.heap[b]?) : w'.ownsRow base e size v n xs := by
  obtain ⟨h1, h2⟩ := h
  refine ⟨h1, ?_⟩
  rcases h2 with h2 | ⟨g, cap, cur, hv, hg, hh, r⟩
  · exact .inl h2
  · exact .inr ⟨g, cap, cur, hv, hg, (hb g (by rw [hv]; rfl)).trans hh, r⟩
theorem wpList_append_any {w : World} {ops : Array Oper} {rest : List Oper} {o : Oper} {a : Act} {Q : Exit → Act → World → Prop} (hgd : o.guard = none) (s x : Operand) (t tx : TypeId)
    (ho : o.op = .call { callee := .builtin .append, args := #[s, x], argTypes := #[t, tx] }) (v xv v' : Value) (w' : World) (hs : a.eval s = v) (hx : a.eval x = xv)
    (hr : ∀ ty, (Builtin.append_ #[t, tx] ty #[v, xv]).run Try.prog w = .ok v' w') (h : wpList Try.prog ops Q rest (a.put o.dst v') w') : wpList Try.prog ops Q (o :: rest) a w :=
  wpList_plain hgd fun _ hK => by
    unfold Oper.wp execOp
    simp only [ho, resolve, invoke, builtin, Sem.run_bind, Sem.run_pure, Result.andThen_ok, List.map_toArray, List.map_cons, List.map_nil, hs, hx, hr]
    exact hK _ _ h
theorem bdC_one (l : List Bd) : ∀ u ∈ bdsV l, u.oneCell' = true := by
  intro u hu
  obtain ⟨f, _, hf⟩ := List.mem_flatMap.1 hu
  simp at hf
  rcases hf with rfl | rfl | rfl <;> rfl
theorem bds_cells {W : World} {b off : Nat} {l : List Bd} (h : ∀ i (h : i < l.length), W.cell? ⟨b, off + i * 3, none⟩ = some (.string (S l[i].work)) ∧ W.cell? ⟨b, off + i * 3 + 1, none⟩ = some (.string (S l[i].node)) ∧ W.cell? ⟨b, off + i * 3 + 2, none⟩ = some (.int .i64 l[i].cnt)) :
    ∀ j u, (bdsV l)[j]? = some u → W.cell? ((⟨b, off, none⟩ : Addr).add j) = some u := by
  intro j u hj
  have hjl : j < l.length * 3 := by rw [← bdsV_len]; exact (List.getElem?_eq_some_iff.1 hj).1
  have hi : j / 3 < l.length := by omega
  have hadd : (⟨b, off, none⟩ : Addr).add j = ⟨b, off + j, none⟩ := by unfold Addr.add; split <;> simp_all
  obtain ⟨f0, f1, f2⟩ := bdsV_at l (j / 3) hi
  obtain ⟨k0, k1, k2⟩ := h (j / 3) hi
  rw [hadd]
  rcases (show j = j / 3 * 3 ∨ j = j / 3 * 3 + 1 ∨ j = j / 3 * 3 + 2 by omega) with e | e | e
  · rw [e] at hj ⊢
    rw [f0] at hj; rw [← hj]; exact k0
  · have e' : off + j = off + j / 3 * 3 + 1 := by omega
    rw [e'] ; rw [e, show (j / 3 * 3 + 1) = j / 3 * 3 + 1 from rfl, f1] at hj; rw [← hj]; exact k1
  · have e' : off + j = off + j / 3 * 3 + 2 := by omega
    rw [e'] ; rw [e, f2] at hj; rw [← hj]; exact k2
theorem gbt' {A B C : World} {row : Option Nat} (h : A.grownBy B row) (k : B.grownBy C row) : A.grownBy C row :=
  ⟨k.os.trans h.os, k.tape.trans h.tape, k.output.trans h.output, Nat.le_trans h.size k.size, fun j hj hr => (k.block j (Nat.lt_of_lt_of_le hj h.size) hr).trans (h.block j hj hr)⟩
theorem gbb' {A B : World} {row : Option Nat} (h : Below A.heap.size A B) : A.grownBy B row := ⟨h.os, h.tape, h.output, h.size, fun j hj _ => h.block j hj⟩
/-- 'append(own, l...)' to none. -/
theorem append_binds {w : World} {P : Nat → Prop} {a : Option Addr} {len cap : Nat} {l : List Bd} (h : BindsAt w P a len l) (hl : len ≤ 1048576) :
    ∃ v' w', (∀ ty, (Builtin.append_ #[29, 29] ty #[.slice none 0 0, .slice a len cap]).run Try.prog w = .ok v' w') ∧ w'.ownsRow w.heap.size 35 3 v' l.length (bdsV l) ∧ w.grownBy w' none := by
  obtain ⟨i0, hi0, hz0, hz1, hz2⟩ := info_parts infoBd
  obtain ⟨h0, b, off, h1, h2⟩ := h
  by_cases hn : len = 0
  · subst hn
    have : l = [] := List.eq_nil_of_length_eq_zero h0
    subst this
    refine ⟨.slice none 0 0, w, fun ty => ?_, World.ownsRow_nil _ _ _ _, World.grownBy.refl w _⟩
    cases a <;> simp [Builtin.append_, run_underlying Try.underlying29, sizeOf, typeInfo, hi0, Builtin.lenOf, Builtin.firstCells, loadCells, loadCellsFrom]
  · have ha : a = some ⟨b, off, none⟩ := by
      rcases h1 with h | h
      · exact absurd h hn
      · exact h.1
    subst ha
    have hr := fun ty => run_append_own (P := Try.prog) w w.heap.size 29 ty 35 i0 _ 3 40 Try.underlying29 hi0 hz0 hz1 hz2 rfl (by decide) (.slice none 0 0) 0 [] (World.ownsRow_nil _ _ _ _) ⟨b, off, none⟩ len cap (bdsV l) (by rw [bdsV_len, h0]) (bds_cells h2) (bdC_one l) (by unfold maxLen; omega) (by omega) (Nat.le_refl _)
    obtain ⟨v', w', h3, h4, h5, _⟩ := hr 0
    have h3' : ∀ ty, (Builtin.append_ #[29, 29] ty #[.slice none 0 0, .slice (some ⟨b, off, none⟩) len cap]).run Try.prog w = .ok v' w' := fun ty => h3
    refine ⟨v', w', h3', ?_, h5⟩
    rw [Nat.zero_add, List.nil_append, ← h0] at h4
    exact h4
theorem gb_none {A B : World} (h : A.grownBy B none) : Below A.heap.size A B := ⟨h.os, h.tape, h.output, h.size, fun j hj => h.block j hj (fun e => by cases e)⟩
theorem own_low {w : World} {base b0 e size n : Nat} {v : Value} {xs : List Value} (h : w.ownsRow base e size v n xs) (hb : b0 ≤ base) : w.ownsRow b0 e size v n xs := by
  obtain ⟨h1, h2⟩ := h
  refine ⟨h1, ?_⟩
  rcases h2 with h2 | ⟨g, cap, cur, hv, hg, r⟩
  · exact .inl h2
  · exact .inr ⟨g, cap, cur, hv, Nat.le_trans hb hg, r⟩
end Go.Proofs.Ytbbogkmibiealaa
