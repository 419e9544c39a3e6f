/-
  Whole slices appended to nothing: rows of the law's own; texts that came in.
-/
import Derived.Maps.AppendAt
import Derived.Deep.AppendLies
import Derived.Test.YtjkfiilnogacnaaSworks
namespace Go.Proofs.Ytjkfiilnogacnaa
open Go.RowKit Gm

/-- THE SLICE AT a HOLDS THESE NAMES, in a block below B. -/
def NamesB (B : Nat) (W : World) (a : Option Addr) (len : Nat) (l : List Bs) : Prop :=
  l.length = len ∧ ∃ b off, (len = 0 ∨ a = some ⟨b, off, none⟩) ∧ ∀ i (h : i < l.length), b < B ∧ l[i].length ≤ 140737488351232 ∧ W.cell? ⟨b, off + i, none⟩ = some (.string (S l[i]))
theorem NamesB.okW {B : Nat} {W : World} {a : Option Addr} {len : Nat} {l : List Bs} (h : NamesB B W a len l) (hl : len ≤ 1048576) : OkW l := by
  obtain ⟨h0, b, off, _, h2⟩ := h
  refine ⟨by omega, fun y hy => ?_⟩
  obtain ⟨i, hi, rfl⟩ := List.getElem_of_mem hy
  exact (h2 i hi).2.1
theorem NamesB.names {B : Nat} {W : World} {a : Option Addr} {len : Nat} {l : List Bs} (h : NamesB B W a len l) : NamesAt W (· < B) a len l := by
  obtain ⟨h0, b, off, h1, h2⟩ := h
  refine ⟨h0, b, off, ?_, fun i hi => (h2 i hi).2.2⟩
  rcases h1 with h1 | h1
  · exact .inl h1
  · by_cases h3 : len = 0
    · exact .inl h3
    · exact .inr ⟨h1, (h2 0 (by omega)).1⟩
theorem BindsB.binds {B : Nat} {W : World} {a : Option Addr} {len : Nat} {l : List Bd} (h : BindsB B W a len l) : BindsAt W (· < B) a len l := by
  obtain ⟨h0, _, b, off, h1, h2⟩ := h
  refine ⟨h0, b, off, ?_, fun i hi => (h2 i hi).2.2⟩
  rcases h1 with h1 | h1
  · exact .inl h1
  · by_cases h3 : len = 0
    · exact .inl h3
    · exact .inr ⟨h1, (h2 0 (by omega)).1⟩
theorem BindsB.okL {B : Nat} {W : World} {a : Option Addr} {len : Nat} {l : List Bd} (h : BindsB B W a len l) (hl : len ≤ 1048576) : OkL l := by
  obtain ⟨h0, _, b, off, _, h2⟩ := h
  refine ⟨by omega, fun y hy => ?_⟩
  obtain ⟨i, hi, rfl⟩ := List.getElem_of_mem hy
  exact ⟨(h2 i hi).2.1.1, (h2 i hi).2.1.2⟩
theorem bds_one : ∀ (l : List Bd), ∀ u ∈ bdsV l, u.oneCell' = true
  | [], u, h => by cases h
  | x :: l, u, h => by
    rw [bdsV_cons] at h
    rcases List.mem_append.1 h with h | h
    · simp only [bdC, List.mem_cons, List.not_mem_nil, or_false] at h
      rcases h with rfl | rfl | rfl <;> rfl
    · exact bds_one l u h
theorem nums_one (l : List Int) : ∀ u ∈ numV l, u.oneCell' = true := fun u h => by
  obtain ⟨x, _, rfl⟩ := List.mem_map.1 h
  rfl
theorem wpList_append_eq {w : World} {ops : Array Oper} {rest : List Oper} {o : Oper} {a : Act} {Q : Exit → Act → World → Prop} (hgd : o.guard = none) (s x : Operand) (t tx : TypeId)
    (ho : o.op = .call { callee := .builtin .append, args := #[s, x], argTypes := #[t, tx] }) (v xv v' : Value) (w' : World) (hs : a.eval s = v) (hx : a.eval x = xv)
    (hr : (Builtin.append_ #[t, tx] o.type #[v, xv]).run Try.prog w = .ok v' w') (h : wpList Try.prog ops Q rest (a.put o.dst v') w') : wpList Try.prog ops Q (o :: rest) a w :=
  wpList_plain hgd fun _ hK => by
    unfold Oper.wp execOp
    simp only [ho, resolve, invoke, builtin, Sem.run_bind, Sem.run_pure, Result.andThen_ok, List.map_toArray, List.map_cons, List.map_nil, hs, hx, hr]
    exact hK _ _ h
/-- Numbers, appended to nothing. -/
theorem append_k {W : World} {a : Option Addr} {m c : Nat} {ys : List Int} (hF : KeepB W.heap.size W a m ys) (hm : m ≤ 100000) (ty : TypeId) :
    ∃ v' w', (Builtin.append_ #[22, 22] ty #[.slice none 0 0, .slice a m c]).run Try.prog W = .ok v' w' ∧ w'.ownsRow W.heap.size 3 1 v' m (numV ys) ∧ Below W.heap.size W w' := by
  obtain ⟨i0, hi0, hz0, hz1, hz2⟩ := info_parts infoInt
  have hl := hF.1
  obtain ⟨b, off, ha, hcell⟩ := hF.2
  by_cases h0 : m = 0
  · subst h0
    have : ys = [] := List.eq_nil_of_length_eq_zero hl
    subst this
    refine ⟨.slice none 0 0, W, ?_, World.ownsRow_nil _ _ _ _, Below.refl _ _⟩
    cases a <;> simp [Builtin.append_, run_underlying Try.underlying22, sizeOf, typeInfo, hi0, Builtin.lenOf, Builtin.firstCells, loadCells, loadCellsFrom]
  · obtain rfl : a = some ⟨b, off, none⟩ := by
      rcases ha with h | h
      · omega
      · exact h
    obtain ⟨v', w', hr, h2, h3, _, h5⟩ := run_append_own_at (P := Try.prog) W W.heap.size 22 ty 3 i0 _ 1 8 Try.underlying22 hi0 hz0 hz1 hz2 rfl (by decide) (.slice none 0 0) 0 [] (World.ownsRow_nil _ _ _ _) ⟨b, off, none⟩ m c (numV ys) (by rw [numV_len]; omega) (fun j u hu => by
      have hj : j < ys.length := by
        have := (List.getElem?_eq_some_iff.1 hu).1
        rwa [numV_len] at this
      have hadd : (⟨b, off, none⟩ : Addr).add j = ⟨b, off + j, none⟩ := by unfold Addr.add; split <;> simp_all
      rw [hadd, (hcell j hj).2.1, ← hu, numV_at ys j hj]) (nums_one ys) (by simp [maxLen]; omega) (by omega) (Nat.le_refl _)
    rw [Nat.zero_add, List.nil_append] at h2
    exact ⟨v', w', hr, h2, (Below.refl _ W).grown h3 (Nat.le_refl _) (fun j e => by simp [Value.ownBlock] at e)⟩
/-- Binds, appended to nothing. -/
theorem append_b {W : World} {a : Option Addr} {m c : Nat} {ys : List Bd} (hF : BindsAt W (· < W.heap.size) a m ys) (hm : m ≤ 100000) (ty : TypeId) :
    ∃ v' w', (Builtin.append_ #[23, 23] ty #[.slice none 0 0, .slice a m c]).run Try.prog W = .ok v' w' ∧ w'.ownsRow W.heap.size 40 3 v' m (bdsV ys) ∧ Below W.heap.size W w' := by
  obtain ⟨i0, hi0, hz0, hz1, hz2⟩ := info_parts infoBd
  have hl := hF.1
  obtain ⟨b, off, ha, hcell⟩ := hF.2
  by_cases h0 : m = 0
  · subst h0
    have : ys = [] := List.eq_nil_of_length_eq_zero hl
    subst this
    refine ⟨.slice none 0 0, W, ?_, World.ownsRow_nil _ _ _ _, Below.refl _ _⟩
    cases a <;> simp [Builtin.append_, run_underlying Try.underlying23, sizeOf, typeInfo, hi0, Builtin.lenOf, Builtin.firstCells, loadCells, loadCellsFrom]
  · obtain rfl : a = some ⟨b, off, none⟩ := by
      rcases ha with h | h
      · omega
      · exact h.1
    obtain ⟨v', w', hr, h2, h3, _, h5⟩ := run_append_own_at (P := Try.prog) W W.heap.size 23 ty 40 i0 _ 3 40 Try.underlying23 hi0 hz0 hz1 hz2 rfl (by decide) (.slice none 0 0) 0 [] (World.ownsRow_nil _ _ _ _) ⟨b, off, none⟩ m c (bdsV ys) (by rw [bdsV_len]; omega) (fun j u hu => by
      have hj : j < ys.length * 3 := by
        have := (List.getElem?_eq_some_iff.1 hu).1
        rwa [bdsV_len] at this
      have hadd : (⟨b, off, none⟩ : Addr).add j = ⟨b, off + j, none⟩ := by unfold Addr.add; split <;> simp_all
      have hi : j / 3 < ys.length := by omega
      obtain ⟨c0, c1, c2⟩ := hcell (j / 3) hi
      obtain ⟨f0, f1, f2⟩ := bdsV_at ys (j / 3) hi
      rw [hadd, ← hu]
      rcases (show j = j / 3 * 3 ∨ j = j / 3 * 3 + 1 ∨ j = j / 3 * 3 + 2 by omega) with e | e | e
      · rw [show off + j = off + j / 3 * 3 by omega, c0, ← f0, ← e]
      · rw [show off + j = off + j / 3 * 3 + 1 by omega, c1, ← f1, ← e]
      · rw [show off + j = off + j / 3 * 3 + 2 by omega, c2, ← f2, ← e]) (bds_one ys) (by simp [maxLen]; omega) (by omega) (Nat.le_refl _)
    rw [Nat.zero_add, List.nil_append] at h2
    exact ⟨v', w', hr, h2, (Below.refl _ W).grown h3 (Nat.le_refl _) (fun j e => by simp [Value.ownBlock] at e)⟩
end Go.Proofs.Ytjkfiilnogacnaa
