/-
  The program's map from vertices to the edges by which they were reached, as a search has them.
-/
import Derived.Maps.OwnSet
import Derived.Test.YthchlfoebkachaaEnds6
namespace Go.Proofs.Ythchlfoebkachaa
open Go.RowKit Gm
open Go.Maps (Keyed int_keyed keyOf_int_mk)

theorem mlaw : Keyed Try.prog 3 := int_keyed Try.underlying3
theorem mzero (w : World) : (zeroValue 3).run Try.prog w = .ok (.int .i64 0) w := by kernel_rfl
theorem wf64 {v : Int} (h0 : -9223372036854775808 ≤ v) (h1 : v ≤ 9223372036854775807) : (Lit.int .i64 v).wf = true := WalkArith.wf_i64 ⟨by omega, by omega⟩
theorem mkey {v : Int} (h0 : -9223372036854775808 ≤ v) (h1 : v ≤ 9223372036854775807) : keyOf Try.prog 3 (.int .i64 v) = some (.int .i64 v) := keyOf_int_mk Try.underlying3 (wf64 h0 h1)

/-- BLOCK b IS A MAP THAT HAS JUST WHO IS SEEN, AND THE EDGE OF EACH. -/
def MapS (W : World) (b n : Nat) (S : Srch) : Prop :=
  ∃ (D : DataW Unit) (m : Nat), W.ownsMap Try.prog 3 (plainElem Try.prog 3) b m D ∧ m ≤ S.todo.length ∧
    ∀ v : Int, 0 ≤ v → v < n → Maps.has D (.int .i64 v) = has S.seen v ∧ (has S.seen v = true → D.atKey (.int .i64 v) (.lit (.int .i64 0)) = .lit (.int .i64 (S.by_[v.toNat]?.getD 0)))
theorem MapS.lt {W : World} {b n : Nat} {S : Srch} (h : MapS W b n S) : b < W.heap.size := by
  obtain ⟨D, m, h1, _⟩ := h
  exact h1.lt
theorem MapS.kept {W W' : World} {b n : Nat} {S : Srch} {row : Option Nat} (h : MapS W b n S) (hg : W.grownBy W' row) (hne : some b ≠ row) : MapS W' b n S := by
  obtain ⟨D, m, h1, h2⟩ := h
  exact ⟨D, m, h1.kept hg hne, h2⟩
theorem MapS.alloc {W : World} {b n : Nat} {S : Srch} (h : MapS W b n S) (o : Obj) : MapS (W.alloc o) b n S := h.kept (World.grownBy_alloc W o none) (by simp)
theorem MapS.below {B : Nat} {W W' : World} {b n : Nat} {S : Srch} (h : MapS W b n S) (hb : Below B W W') (hlt : b < B) : MapS W' b n S := by
  obtain ⟨D, m, ⟨es, clock, hh, F, hs, hD⟩, h2⟩ := h
  exact ⟨D, m, ⟨es, clock, (hb.block b hlt).trans hh, F, hs, hD⟩, h2⟩
theorem MapS.drewN {W : World} {b n : Nat} {S : Srch} (h : MapS W b n S) (k : Nat) : MapS (W.drewN k) b n S := h
theorem MapS.setCell {W : World} {b n : Nat} {S : Srch} (h : MapS W b n S) {a : Addr} (ha : b ≠ a.block) (u : Value) : MapS (W.setCell a u) b n S := by
  obtain ⟨D, m, h1, h2⟩ := h
  exact ⟨D, m, h1.setCell ha u, h2⟩
/-- 'v, ok := m[k]' -/
theorem MapS.look_ok {W : World} {b n : Nat} {S : Srch} (h : MapS W b n S) {v : Int} (h0 : 0 ≤ v) (h1 : v < n) (hn : n ≤ 64) : ∃ c, (Instr.lookup 80 (.map (some b)) (.int .i64 v) true).run Try.prog W = .ok (.tuple #[.int .i64 c, .bool (has S.seen v)]) W := by
  obtain ⟨D, m, hown, _, hv⟩ := h
  obtain ⟨u, ps, hrun, hu⟩ := hown.look_ok mlaw Try.underlying80 (mzero W) (plainElem_int Try.underlying3 (q := .i64) (a := 0) (by decide)) (mkey (v := v) (by omega) (by omega))
  obtain ⟨c, rfl, _, _⟩ := plainElem_int_inv Try.underlying3 hu
  rw [(hv v h0 h1).1] at hrun
  exact ⟨c, hrun⟩
/-- 'm[k]', of a key that is there. -/
theorem MapS.look {W : World} {b n : Nat} {S : Srch} (h : MapS W b n S) {v : Int} (h0 : 0 ≤ v) (h1 : v < n) (hn : n ≤ 64) (hs : has S.seen v = true) : (Instr.lookup 80 (.map (some b)) (.int .i64 v) false).run Try.prog W = .ok (.int .i64 (S.by_[v.toNat]?.getD 0)) W := by
  obtain ⟨D, m, hown, _, hv⟩ := h
  obtain ⟨c, hrun, hat, _⟩ := hown.lookup_int mlaw Try.underlying80 Try.underlying3 (mzero W) (mkey (v := v) (by omega) (by omega))
  rw [(hv v h0 h1).2 hs] at hat
  have e : S.by_[v.toNat]?.getD 0 = c := by injection hat with e; injection e
  rw [e]; exact hrun
/-- 'm[k] = i', of a key that is not there. -/
theorem MapS.store {W : World} {b n : Nat} {S : Srch} (h : MapS W b n S) {v : Int} (h0 : 0 ≤ v) (h1 : v < n) (hn : n ≤ 64) (hl : S.seen.length = n) (hbl : S.by_.length = n) (hsh : S.todo.length ≤ 64) {i : Int} (i0 : -9223372036854775808 ≤ i) (i1 : i ≤ 9223372036854775807) :
    ∃ W', (Instr.mapUpdate 80 (.map (some b)) (.int .i64 v) (.int .i64 i)).run Try.prog W = .ok () W' ∧ MapS W' b n ⟨S.seen.set v.toNat true, S.by_.set v.toNat i, S.todo ++ [v]⟩ ∧ W.grownBy W' (some b) := by
  obtain ⟨D, m, hown, hm, hv⟩ := h
  have hkey := mkey (v := v) (by omega) (by omega)
  have hisk : WideAt.IsKeyLit (.int .i64 v) := trivial
  obtain ⟨W', hrun, hown', hg⟩ := hown.update mlaw Try.underlying80 (by unfold maxLen; omega) hkey (plainElem_int Try.underlying3 (wf64 i0 i1))
  refine ⟨W', hrun, ⟨_, m + 1, hown', by simp; omega, fun x x0 x1 => ?_⟩, hg⟩
  dsimp only
  by_cases e : x = v
  · subst e
    have e1 : has (S.seen.set x.toNat true) x = true := by rw [has_set _ _ (by omega) _ x0]; simp; left; omega
    rw [e1]
    refine ⟨Maps.has_put_same hown.isMap hisk _, fun _ => ?_⟩
    rw [Maps.atKey_put_same hown.isMap hisk, List.getElem?_set, if_pos rfl, if_pos (by omega)]; rfl
  · have hne : (Lit.int .i64 x) ≠ (Lit.int .i64 v) := fun h => e (by injection h)
    have e1 : has (S.seen.set v.toNat true) x = has S.seen x := by
      rw [has_set _ _ (by omega) _ x0]
      have : ¬ x = ((v.toNat : Nat) : Int) := by omega
      rw [decide_eq_false this]; rfl
    rw [e1, Maps.has_put_other hne, Maps.atKey_put_other hne, List.getElem?_set, if_neg (by omega)]
    exact hv x x0 x1
/-- 'map[int]int{s: -1}'. -/
theorem MapS.start {n : Nat} (W : World) {s : Int} (s0 : 0 ≤ s) (s1 : s < n) (hn : n ≤ 64) : ∃ W', (Instr.mapUpdate 80 (.map (some W.heap.size)) (.int .i64 s) (.int .i64 (-1))).run Try.prog (W.alloc (.map #[] 0)) = .ok () W' ∧ MapS W' W.heap.size n (srch0 n s) ∧ (W.alloc (.map #[] 0)).grownBy W' (some W.heap.size) := by
  have h : MapS (W.alloc (.map #[] 0)) W.heap.size n ⟨List.replicate n false, List.replicate n (-1), []⟩ := by
    refine ⟨.map [], 0, World.ownsMap_made W _ _ _, by simp, fun v h0 h1 => ?_⟩
    have e : has (List.replicate n false) v = false := by
      unfold has
      rw [List.getElem?_replicate]
      split <;> simp
    rw [e]
    exact ⟨rfl, fun h => by cases h⟩
  obtain ⟨W', h1, h2, h3⟩ := h.store s0 s1 hn (by simp) (by simp) (by simp) (i := -1) (by omega) (by omega)
  refine ⟨W', h1, ?_, h3⟩
  have e : (⟨(List.replicate n false).set s.toNat true, (List.replicate n (-1)).set s.toNat (-1), [] ++ [s]⟩ : Srch) = srch0 n s := by
    unfold srch0 Gm.start
    congr 1
    apply List.ext_getElem?
    intro i
    rw [List.getElem?_set]
    by_cases e : s.toNat = i
    · subst e; rw [if_pos rfl, if_pos (by simp; omega), List.getElem?_replicate, if_pos (by omega)]
    · rw [if_neg e]
  rw [← e]; exact h2
end Go.Proofs.Ythchlfoebkachaa
