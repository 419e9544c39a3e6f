/-
  Rows of numbers and of Bools that a call owns.
-/
import Derived.Deep.AppendLies
import Derived.Test.YthchlfoebkachaaSeen
namespace Go.Proofs.Ythchlfoebkachaa
open Go.RowKit Gm

theorem ints_one (l : List Int) : ∀ u ∈ ints l, u.oneCell' = true := by
  intro u hu
  obtain ⟨x, _, rfl⟩ := List.mem_map.1 hu
  rfl
theorem append_nil_ints {W : World} {a : Option Addr} {len cap : Nat} {fl : List Int} {B : Nat} (hF : FlowAt B W a len fl) (h300 : len ≤ 300) (ty : TypeId) (base : Nat) (hbase : base ≤ W.heap.size) :
    ∃ v' w', (Builtin.append_ #[25, 25] ty #[.slice none 0 0, .slice a len cap]).run Try.prog W = .ok v' w' ∧ w'.ownsRow base 3 1 v' len (ints fl) ∧ W.grownBy w' none := by
  obtain ⟨i0, hi0, hz0, hz1, hz2⟩ := info_parts infoInt
  have hl := hF.1
  obtain ⟨b, off, ha, hcell⟩ := hF.2.2
  by_cases h0 : len = 0
  · subst h0
    have : fl = [] := List.eq_nil_of_length_eq_zero hl
    subst this
    refine ⟨.slice none 0 0, W, ?_, ⟨by simp, .inl ⟨rfl, rfl⟩⟩, ⟨rfl, rfl, rfl, Nat.le_refl _, fun _ _ _ => rfl⟩⟩
    cases a <;> simp [Builtin.append_, run_underlying Try.underlying25, sizeOf, typeInfo, hi0, Builtin.lenOf, Builtin.firstCells, loadCells, loadCellsFrom]
  · have hll : (ints fl).length = len := by rw [List.length_map]; exact hl
    obtain rfl : a = some ⟨b, off, none⟩ := by
      rcases ha with h | h
      · omega
      · exact h
    obtain ⟨v', w', hr, h2, h3, _, _⟩ := run_append_own_at (P := Try.prog) W base 25 ty 3 i0 _ 1 8 Try.underlying25 hi0 hz0 hz1 hz2 rfl (by decide) (.slice none 0 0) 0 [] (World.ownsRow_nil W base _ _) ⟨b, off, none⟩ len cap (ints fl) (by omega) (fun j u hu => by
      have hj : j < (ints fl).length := (List.getElem?_eq_some_iff.1 hu).1
      have hadd : (⟨b, off, none⟩ : Addr).add j = ⟨b, off + j, none⟩ := by unfold Addr.add; split <;> simp_all
      rw [hadd, (hcell j hj).2, ← hu, List.getElem?_eq_getElem hj]) (ints_one fl) (by simp [maxLen]; omega) (by omega) hbase
    exact ⟨v', w', hr, by simpa using h2, h3⟩
theorem ints_own {W : World} {base : Nat} {a : Option Addr} {len cap : Nat} {fl : List Int} (h : W.ownsRow base 3 1 (.slice a len cap) fl.length (ints fl)) (hl : fl.length ≤ 17592186044416) : len = fl.length ∧ FlowAt W.heap.size W a len fl := by
  rcases h.2 with ⟨h1, h2⟩ | ⟨g, cap', cur, hv, hb, hg, hle, hm, hs, ht⟩
  · injection h1 with e1 e2 e3
    subst e1 e2
    exact ⟨by omega, by omega, by omega, 0, 0, .inl (by simpa using h2), fun i hi => by simp at hi; omega⟩
  · injection hv with e1 e2 e3
    subst e1 e2
    refine ⟨rfl, rfl, hl, g, 0, .inr rfl, fun i hi => ?_⟩
    have hlt : g < W.heap.size := (Array.getElem?_eq_some_iff.1 hg).1
    refine ⟨hlt, ?_⟩
    have hi' : i < fl.length * 1 := by simpa using hi
    rw [Nat.zero_add, cell_of_row W g i cur 3 (0, 0) hg, ← Array.getElem?_toList, ← List.getElem?_take_of_lt hi', ht, List.getElem?_eq_getElem hi]

theorem bools_own {W : World} {base : Nat} {a : Option Addr} {len cap : Nat} {r : List Bool} (h : W.ownsRow base 4 1 (.slice a len cap) r.length (bools r)) (hl : r.length ≤ 140737488355328) : len = r.length ∧ SideAt W.heap.size W a len r := by
  rcases h.2 with ⟨h1, h2⟩ | ⟨g, cap', cur, hv, hb, hg, hle, hm, hs, ht⟩
  · injection h1 with e1 e2 e3
    subst e1 e2
    exact ⟨by omega, by omega, by omega, 0, 0, .inl (by simpa using h2), fun i hi => by simp at hi; omega⟩
  · injection hv with e1 e2 e3
    subst e1 e2
    refine ⟨rfl, rfl, hl, g, 0, .inr rfl, fun i hi => ?_⟩
    have hlt : g < W.heap.size := (Array.getElem?_eq_some_iff.1 hg).1
    refine ⟨hlt, ?_⟩
    have hi' : i < r.length * 1 := by simpa using hi
    rw [Nat.zero_add, cell_of_row W g i cur 4 (0, 0) hg, ← Array.getElem?_toList, ← List.getElem?_take_of_lt hi', ht, List.getElem?_eq_getElem hi]
/-- What is owned abides the growth of another row. -/
theorem own_kept {W W' : World} {base size n : Nat} {e : TypeId} {v : Value} {xs : List Value} {row : Option Nat} (h : W.ownsRow base e size v n xs) (hg : W.grownBy W' row) (hne : ∀ g, v.ownBlock = some g → row ≠ some g) : W'.ownsRow base e size v n xs := by
  obtain ⟨h1, h2⟩ := h
  refine ⟨h1, ?_⟩
  rcases h2 with h2 | ⟨g, cap, cur, hv, hb, hh, r⟩
  · exact .inl h2
  · refine .inr ⟨g, cap, cur, hv, hb, (hg.block g (Array.getElem?_eq_some_iff.1 hh).1 (fun e' => hne g (by rw [hv]; rfl) e'.symm)).trans hh, r⟩
theorem own_ne {W : World} {base base' size size' n n' : Nat} {e e' : TypeId} {v v' : Value} {xs xs' : List Value} (h : W.ownsRow base e size v n xs) (h' : W.ownsRow base' e' size' v' n' xs') (hne : e ≠ e') : ∀ g, v.ownBlock = some g → v'.ownBlock ≠ some g := by
  intro g hg hg'
  rcases h.2 with ⟨rfl, _⟩ | ⟨g1, cap, cur, rfl, _, hh, _⟩
  · simp [Value.ownBlock] at hg
  · rcases h'.2 with ⟨rfl, _⟩ | ⟨g2, cap', cur', rfl, _, hh', _⟩
    · simp [Value.ownBlock] at hg'
    · have e1 : g1 = g := by simpa [Value.ownBlock] using hg
      have e2 : g2 = g := by simpa [Value.ownBlock] using hg'
      subst e1 e2
      rw [hh] at hh'
      injection hh' with hh'
      injection hh' with _ ht
      exact hne ht
end Go.Proofs.Ythchlfoebkachaa
