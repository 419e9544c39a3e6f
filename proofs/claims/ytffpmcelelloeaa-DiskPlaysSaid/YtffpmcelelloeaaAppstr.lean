/-
  'append(b, s...)' of a text to a row of bytes.
-/
import Derived.Deep.AppendSrc
import Derived.Laws.IdiomCopy
import Derived.Test.YtffpmcelelloeaaPsync
namespace Go.Proofs.Ytffpmcelelloeaa
open Go.RowKit Gm

theorem setCells_row (g : Nat) (e : TypeId) : ∀ (vs : List Value) (o : Nat) (w : World) (cur : Array Value), w.heap[g]? = some (.cells cur e (0, 0)) → o + vs.length ≤ cur.size →
    ∃ cur', (w.setCells g o vs).heap[g]? = some (.cells cur' e (0, 0)) ∧ cur'.size = cur.size ∧ cur'.toList.take (o + vs.length) = cur.toList.take o ++ vs ∧ w.grownBy (w.setCells g o vs) (some g)
  | [], o, w, cur, h, _ => ⟨cur, h, rfl, by simp, World.grownBy.refl w _⟩
  | v :: r, o, w, cur, h, hl => by
    have hl' : o + 1 + r.length ≤ cur.size := by simp at hl; omega
    have h1 : (w.setCell ⟨g, o, none⟩ v).heap[g]? = some (.cells (cur.setIfInBounds o v) e (0, 0)) := by simp [World.setCell, Array.getElem?_modify, h]
    obtain ⟨cur', a1, a2, a3, a4⟩ := setCells_row g e r (o + 1) (w.setCell ⟨g, o, none⟩ v) _ h1 (by simpa using hl')
    refine ⟨cur', a1, by rw [a2]; simp, ?_, gbt (gbs w g o v) a4⟩
    have e1 : o + (v :: r).length = o + 1 + r.length := by simp; omega
    rw [e1, a3, Array.toList_setIfInBounds]
    have ho : o < cur.toList.length := by simp; omega
    have hm : (cur.toList.take o).length = o := by rw [List.length_take]; omega
    rw [List.take_set, List.take_succ_eq_append_getElem ho, List.set_append_right _ _ (by omega), hm, Nat.sub_self]
    simp
theorem byV_app (x s : Bs) : byV (x ++ s) = byV x ++ byV s := List.map_append
theorem byV_len (x : Bs) : (byV x).length = x.length := List.length_map ..
theorem byCells (s : Bs) : byteCells (S s) = byV s := rfl

theorem append_str {w : World} {v : Value} {x s : Bs} (h : w.ownsRow 0 5 1 v x.length (byV x)) (hx : x.length ≤ 65536) (hs : s.length ≤ 1048576) :
    ∃ v' w', (∀ ty, (Builtin.append_ #[45, 9] ty #[v, .string (S s)]).run Try.prog w = .ok v' w') ∧ w'.ownsRow 0 5 1 v' (x ++ s).length (byV (x ++ s)) ∧ w.grownBy w' v.ownBlock ∧ ∀ b, v'.ownBlock = some b → v.ownBlock = some b ∨ w.heap.size ≤ b := by
  obtain ⟨i0, hi, hz0, hz1, hz2⟩ := info_parts infoB
  have src := Src.ofString (P := Try.prog) w Try.underlying9 (S s)
  have hss : (S s).size = s.length := S_size s
  rw [hss, byCells] at src
  rw [← hz1] at src
  have grown : ∀ (C : Nat), x.length + s.length ≤ C → C ≤ maxLen → ∀ row : Option Nat,
      (w.drew.alloc (.cells ((byV x ++ byV s).toArray ++ Builtin.zeroCells (Value.int .u8 0).cells (C - (x.length + s.length))) 5)).ownsRow 0 5 1 (.slice (some ⟨w.heap.size, 0, none⟩) (x.length + s.length) C) (x ++ s).length (byV (x ++ s)) ∧
      w.grownBy (w.drew.alloc (.cells ((byV x ++ byV s).toArray ++ Builtin.zeroCells (Value.int .u8 0).cells (C - (x.length + s.length))) 5)) row := by
    intro C h1 h2 row
    refine ⟨⟨by rw [byV_len]; omega, .inr ⟨w.heap.size, C, _, by rw [List.length_append], Nat.zero_le _, new_at w.drew _, by rw [List.length_append]; exact h1, h2, ?_, ?_⟩⟩, ⟨rfl, rfl, rfl, by simp, fun k hk _ => ((Below.refl w.drew.heap.size w.drew).alloc (Nat.le_refl _) _).block k hk⟩⟩
    · have : (Value.int .u8 0).cells.size = 1 := rfl
      rw [Array.size_append, size_zeroCells, this, List.size_toArray, List.length_append, byV_len, byV_len]; omega
    · rw [Array.toList_append, List.length_append, byV_app]
      exact List.take_left' (by rw [List.length_append, byV_len, byV_len]; omega)
  rcases h.2 with ⟨hv, h0⟩ | ⟨g, cap, cur, hv, _, hh, hle, hm, hsz, ht⟩
  · have hx0 : x = [] := List.eq_nil_of_length_eq_zero h0
    subst hx0 hv
    by_cases he : s = []
    · subst he
      refine ⟨.slice none 0 0, w, fun ty => ?_, World.ownsRow_nil _ _ _ _, World.grownBy.refl w _, fun b e => by cases e⟩
      have e0 : S [] = ByteArray.empty := rfl
      simp [e0, Builtin.append_, run_underlying Try.underlying45, run_underlying Try.underlying9, sizeOf, typeInfo, hi, Builtin.lenOf, Builtin.firstCells]
    · have hpos : 0 < s.length := List.length_pos_iff.2 he
      have hr := fun ty => run_append_grow_src (P := Try.prog) w 45 9 ty 5 i0 (.int .u8 0) Try.underlying45 hi hz0 none 0 0 [] (run_firstCells_none w.drew i0.size 0 0 0) (.string (S s)) s.length (byV s) src (by omega) (by omega) (growslice_fits (by omega) (by rw [hz2]; omega))
      have hgr := grown (grownCap w (0 + s.length) 0 5) (by have := grownCap_ge w (0 + s.length) 0 5; simp at this ⊢; exact this) (grownCap_le_maxLen w _ _ _ (by unfold maxLen; omega)) (Value.slice none 0 0).ownBlock
      exact ⟨_, _, hr, by simpa using hgr.1, by simpa using hgr.2, fun b e => .inr (by simp [Value.ownBlock] at e; omega)⟩
  · subst hv
    by_cases hroom : x.length + s.length ≤ cap
    · have hcell : ∀ j, j < cur.size → w.cell? ⟨g, j, none⟩ = cur[j]? := fun j _ => cell_of_row w g j cur 5 (0, 0) hh
      have hr := fun ty => run_append_room_src (P := Try.prog) w 45 9 ty 5 i0 Try.underlying45 hi g 0 x.length cap (.string (S s)) s.length (byV s) src hroom
        (fun j hj => by
          rw [byV_len] at hj
          rw [hz1, hcell _ (by omega), Array.getElem?_eq_getElem (by omega)]; rfl)
        (fun j hj => by simp [World.frozen?, hh])
      rw [hz1] at hr
      obtain ⟨cur', a1, a2, a3, a4⟩ := setCells_row g 5 (byV s) (0 + x.length * 1) w cur hh (by rw [byV_len]; omega)
      refine ⟨_, _, hr, ⟨by rw [byV_len]; omega, .inr ⟨g, cap, cur', by rw [List.length_append], Nat.zero_le _, a1, by rw [List.length_append]; exact hroom, hm, by rw [a2, hsz], ?_⟩⟩, a4, fun b e => .inl e⟩
      have e1 : (x ++ s).length * 1 = 0 + x.length * 1 + (byV s).length := by rw [List.length_append, byV_len]; omega
      rw [e1, a3, byV_app, Nat.zero_add, ht]
    · have holds : ∀ j u, (byV x)[j]? = some u → w.cell? ((⟨g, 0, none⟩ : Addr).add j) = some u := h.cells (g := g) rfl
      have hf := run_firstCells_some (P := Try.prog) w.drew i0.size x.length ⟨g, 0, none⟩ x.length cap (byV x) (by rw [byV_len, hz1]; omega) (fun j u hj => by have := holds j u hj; simpa using this)
      have hr := fun ty => run_append_grow_src (P := Try.prog) w 45 9 ty 5 i0 (.int .u8 0) Try.underlying45 hi hz0 (some ⟨g, 0, none⟩) x.length cap (byV x) hf (.string (S s)) s.length (byV s) src (by omega) (by omega) (growslice_fits (by omega) (by rw [hz2]; omega))
      have hgr := grown (grownCap w (x.length + s.length) cap 5) (grownCap_ge w _ _ _) (grownCap_le_maxLen w _ _ _ (by unfold maxLen; omega)) (some g)
      exact ⟨_, _, hr, hgr.1, hgr.2, fun b e => .inr (by simp [Value.ownBlock] at e; omega)⟩
/-- 'append' at the operation, by what it yields. -/
theorem wpList_append_any {w : World} {ops : Array Oper} {rest : List Oper} {o : Oper} {a : Act} {Q : Exit → Act → World → Prop} (hgd : o.guard = none) (s x : Operand) (t tx : TypeId)
    (ho : o.op = .call { callee := .builtin .append, args := #[s, x], argTypes := #[t, tx] }) (v xv v' : Value) (w' : World) (hs : a.eval s = v) (hx : a.eval x = xv)
    (hr : ∀ ty, (Builtin.append_ #[t, tx] ty #[v, xv]).run Try.prog w = .ok v' w') (h : wpList Try.prog ops Q rest (a.put o.dst v') w') : wpList Try.prog ops Q (o :: rest) a w :=
  wpList_plain hgd fun _ hK => by
    unfold Oper.wp execOp
    simp only [ho, resolve, invoke, builtin, Sem.run_bind, Sem.run_pure, Result.andThen_ok, List.map_toArray, List.map_cons, List.map_nil, hs, hx, hr]
    exact hK _ _ h
end Go.Proofs.Ytffpmcelelloeaa
