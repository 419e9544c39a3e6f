/-
  Slices of numbers cut at a place; numbers appended; pick.
-/
import Derived.Test.YthchlfoebkachaaOwn
import Derived.Test.YthchlfoebkachaaFit
import Derived.Test.YthchlfoebkachaaFlow
import Derived.Test.YthchlfoebkachaaMath3
namespace Go.Proofs.Ythchlfoebkachaa
open Go.RowKit Gm

theorem cut_to (a : Option Addr) (len cap m : Nat) (h : m ≤ cap) (w : World) : (Instr.slice 25 (.slice a len cap) none (some (.int .i64 (m : Int))) none).run Try.prog w = .ok (.slice a m cap) w := by
  have hu : Try.prog.underlying 25 = some (.slice (Try.prog.elem 25)) := by kernel_rfl
  have hs : ∀ w, (sizeOf (Try.prog.elem 25)).run Try.prog w = .ok 1 w := fun w => by kernel_rfl
  rw [run_slice_h w 25 a len cap hu .i64 (m : Int) (by omega) (by omega), hs]
  cases a <;> simp [sliced, Result.andThen, Addr.add]
/-- What stands at a slice's address behind m elements. -/
def cutA (a : Option Addr) (cap m : Nat) : Option Addr := if cap = m then a else a.map (·.add (m * 1))
theorem cut_from (a : Option Addr) (len cap m : Nat) (h : m ≤ len) (w : World) : (Instr.slice 25 (.slice a len cap) (some (.int .i64 (m : Int))) none none).run Try.prog w = .ok (.slice (cutA a cap m) (len - m) (cap - m)) w := by
  have hu : Try.prog.underlying 25 = some (.slice (Try.prog.elem 25)) := by kernel_rfl
  have hs : ∀ w, (sizeOf (Try.prog.elem 25)).run Try.prog w = .ok 1 w := fun w => by kernel_rfl
  rw [run_slice_l w 25 a len cap hu .i64 (m : Int) (by omega) (by omega), hs]
  simp [sliced, Result.andThen, cutA]
theorem flow_take {B : Nat} {W : World} {a : Option Addr} {len m : Nat} {l : List Int} (h : FlowAt B W a len l) (hm : m ≤ len) : FlowAt B W a m (l.take m) := by
  obtain ⟨h1, h2, h3⟩ := h
  obtain ⟨b, off, ha, hc⟩ := h3.int
  refine ⟨by rw [List.length_take]; omega, by omega, b, off, ?_, fun i hi => ?_⟩
  · rcases ha with h | h
    · left; rw [List.length_map, List.length_take, h]; omega
    · exact .inr h
  · rw [List.length_map, List.length_take] at hi
    obtain ⟨hb, hv⟩ := hc i (by omega)
    refine ⟨hb, ?_⟩
    rw [hv, List.getElem_map, List.getElem_take, List.getElem?_eq_getElem (by omega)]; rfl
theorem flow_drop {B : Nat} {W : World} {a : Option Addr} {len cap m : Nat} {l : List Int} (h : FlowAt B W a len l) (hm : m ≤ len) (hc : len ≤ cap) : FlowAt B W (cutA a cap m) (len - m) (l.drop m) := by
  obtain ⟨h1, h2, h3⟩ := h
  obtain ⟨b, off, ha, hcl⟩ := h3.int
  refine ⟨by rw [List.length_drop]; omega, by omega, b, off + m, ?_, fun i hi => ?_⟩
  · by_cases e : len = m
    · left; rw [List.length_map, List.length_drop]; omega
    · right
      unfold cutA
      rw [if_neg (by omega)]
      rcases ha with h | h
      · omega
      · rw [h]
        show some ((⟨b, off, none⟩ : Addr).add (m * 1)) = _
        unfold Addr.add
        split <;> simp_all
  · rw [List.length_map, List.length_drop] at hi
    obtain ⟨hb, hv⟩ := hcl (m + i) (by omega)
    refine ⟨hb, ?_⟩
    rw [show off + m + i = off + (m + i) by omega, hv, List.getElem_map, List.getElem_drop, List.getElem?_eq_getElem (by omega)]; rfl
/-- A row of the call's own, with some numbers more, whatever many. -/
theorem append_ints {W : World} {base B : Nat} {v : Value} {n : Nat} {xs : List Int} {a : Option Addr} {m c : Nat} {ys : List Int} (hown : W.ownsRow base 3 1 v n (ints xs)) (hF : FlowAt B W a m ys) (h300 : n + m ≤ 100000) (hbase : base ≤ W.heap.size) (ty : TypeId) :
    ∃ v' w', (Builtin.append_ #[25, 25] ty #[v, .slice a m c]).run Try.prog W = .ok v' w' ∧ w'.ownsRow base 3 1 v' (n + m) (ints (xs ++ ys)) ∧ W.grownBy w' v.ownBlock ∧ (v'.ownBlock = v.ownBlock ∨ v'.ownBlock = some W.heap.size) := by
  obtain ⟨i0, hi0, hz0, hz1, hz2⟩ := info_parts infoInt
  have hl := hF.1
  obtain ⟨b, off, ha, hcell⟩ := hF.2.2
  have hx : ints (xs ++ ys) = ints xs ++ ints ys := by simp
  by_cases h0 : m = 0
  · subst h0
    have : ys = [] := List.eq_nil_of_length_eq_zero hl
    subst this
    refine ⟨v, W, ?_, by simpa using hown, ⟨rfl, rfl, rfl, Nat.le_refl _, fun _ _ _ => rfl⟩, .inl rfl⟩
    rcases hown.2 with ⟨rfl, rfl⟩ | ⟨g, cap, cur, rfl, _, _, hnc, _⟩
    · cases a <;> simp [Builtin.append_, run_underlying Try.underlying25, sizeOf, typeInfo, hi0, Builtin.lenOf, Builtin.firstCells, loadCells, loadCellsFrom]
    · cases a <;> simp [Builtin.append_, run_underlying Try.underlying25, sizeOf, typeInfo, hi0, Builtin.lenOf, Builtin.firstCells, loadCells, loadCellsFrom, hnc, storeCells, Result.andThen]
  · have hll : (ints ys).length = m := by rw [List.length_map]; exact hl
    obtain rfl : a = some ⟨b, off, none⟩ := by
      rcases ha with h | h
      · omega
      · exact h
    obtain ⟨v', w', hr, h2, h3, _, h5⟩ := run_append_own_at (P := Try.prog) W base 25 ty 3 i0 _ 1 8 Try.underlying25 hi0 hz0 hz1 hz2 rfl (by decide) v n (ints xs) hown ⟨b, off, none⟩ m c (ints ys) (by omega) (fun j u hu => by
      have hj : j < (ints ys).length := (List.getElem?_eq_some_iff.1 hu).1
      have hadd : (⟨b, off, none⟩ : Addr).add j = ⟨b, off + j, none⟩ := by unfold Addr.add; split <;> simp_all
      rw [hadd, (hcell j hj).2, ← hu, List.getElem?_eq_getElem hj]) (ints_one ys) (by simp [maxLen]; omega) (by omega) hbase
    exact ⟨v', w', hr, by rw [hx]; exact h2, h3, h5⟩
theorem pick7_any (c n : Int) (w : World) (hc : I64 c) (hn : 0 < n) (hn2 : n ≤ 1048576) : Calls Try.prog 29 #[.int .i64 c, .int .i64 n] w fun e w' => e = .returned (.int .i64 (pk c n)) ∧ w = w' := by
  obtain ⟨c0, c1⟩ := hc
  by_cases h : c < 0
  · have HP : Hid (pk c n = (-(c + 1)) % n) := Lib.hid (by simp [pk, h])
    have h1 : 0 ≤ -(c + 1) := by omega
    go_enter Try.func29, Try.ntmps29
    go_wp2
    go_ret
    refine ⟨ret_int ?_, rfl⟩
    rw [HP.out]
    first | rfl | rw [← Int.neg_tmod, Int.tmod_eq_emod_of_nonneg h1]
  · have HP : Hid (pk c n = c % n) := Lib.hid (by simp [pk, h])
    have h1 : 0 ≤ c := by omega
    go_enter Try.func29, Try.ntmps29
    go_wp2
    go_ret
    exact ⟨ret_int HP.out.symm, rfl⟩
end Go.Proofs.Ythchlfoebkachaa
