/-
  What the rows' steps share: the readings of the arguments brought into the forms that the walks take.
-/
import Derived.ProofKit
import Derived.OpenShut
import Derived.ShutString
import Derived.ChangeOld
import Derived.SizedLaws
import Derived.SliceStrings
import Derived.Deep.Slices
import Derived.Lib.SmallJoins
import Derived.Test.YtgjpndloeegamaaBacts
import Derived.Test.YtgjpndloeegamaaChecked
namespace Go.Proofs.Ytgjpndloeegamaa
open Go.ChangeShapes Go.WideShapes Go.ChangeAt Go.RowKit Go.Joins Gm
open Go.ChangeMaps (open_string shut_string)

theorem in_of_wf {a : Int} (h : (Lit.int .i64 a).wf = true) : I64 a := by
  have : -9223372036854775808 ≤ a ∧ a ≤ 9223372036854775807 := by simpa [Lit.wf, IntKind.min, IntKind.max, IntKind.signed, IntKind.bits] using h
  exact this
theorem sized_of {s : ByteArray} (h : s.data.toList.length ≤ reachBytes) : s.size ≤ 140737488351232 := by
  rw [Lib.size_eq]; simpa [reachBytes] using h
theorem weights_at {H : Type} {ts : List TypeId} {ds : List (DataW H)} (h : (DataW.weightsEach Try.prog ts ds).all (· ≤ reachBytes) = true) {j : Nat} {t : TypeId} {d : DataW H} (ht : ts[j]? = some t) (hd : ds[j]? = some d) :
    ∀ n ∈ d.weights Try.prog t, n ≤ reachBytes := fun n hn => by
  have := List.all_eq_true.1 h _ (DataW.weights_mem_each ht hd n hn)
  simpa using this
theorem weights_all {H : Type} (P : Program) (e : TypeId) : ∀ (l : List (DataW H)) (d : DataW H), d ∈ l → ∀ n ∈ d.weights P e, n ∈ DataW.weightsAll P e l
  | [], _, h, _, _ => by simp at h
  | x :: l, d, h, n, hn => by
    simp only [DataW.weightsAll, List.mem_append]
    rcases List.mem_cons.1 h with rfl | h
    · exact .inl hn
    · exact .inr (weights_all P e l d h n hn)

/-- A SLICE OF NUMBERS THAT CAME IN. -/
theorem keep_of {H : Type} {enc : TypeId × Value → H} {W : World} {a : Option Addr} {len cap : Nat} {d : DataW H} {ps : List MemPlace}
    (h : DataW.Trod enc Try.prog W 0 (fun _ => true) true 40 (.slice a len cap) d ps) : ∃ z, KeepB W.heap.size W a len z := by
  obtain ⟨fuel, hf⟩ := h
  rcases open_ints Try.underlying40 Try.underlying3 (by kernel_rfl) hf with ⟨hcs, _⟩ | ⟨x, l, c, zs, hcs, _, hl, hm, hzl, hx, hcell, hwz⟩
  · simp [Value.cells] at hcs
    obtain ⟨rfl, rfl, rfl⟩ := hcs
    exact ⟨[], rfl, 0, 0, .inl rfl, fun i hi => by simp at hi⟩
  · simp [Value.cells] at hcs
    obtain ⟨rfl, rfl, rfl⟩ := hcs
    have hzl' : zs.length = cap := by simpa using hzl
    refine ⟨zs.take len, by rw [List.length_take]; omega, ?_⟩
    by_cases h0 : len = 0
    · exact ⟨0, 0, .inl h0, fun i hi => by simp [h0] at hi⟩
    · obtain ⟨b, off, spot⟩ := x
      have hc := hcell 0 (by omega)
      have hspot : spot = none := by simpa [Addr.add] using World.cell?_spot hc
      subst hspot
      refine ⟨b, off, .inr rfl, fun i hi => ?_⟩
      have hi3 : i < len := by simp at hi; omega
      have hi2 := hcell i (by omega)
      have hp : (⟨b, off, none⟩ : Addr).add i = ⟨b, off + i, none⟩ := by unfold Addr.add; split <;> simp_all
      rw [hp] at hi2
      refine ⟨World.block_lt_of_cell? W _ hc, ?_, in_of_wf (hwz _ (List.mem_of_mem_take (List.getElem_mem hi)))⟩
      rw [hi2, List.getElem_take]
      simp [show i < zs.length by omega]

/-- A SLICE OF TEXTS THAT CAME IN. -/
theorem texts_of {H : Type} {enc : TypeId × Value → H} {W : World} {a : Option Addr} {len cap : Nat} {d : DataW H} {ps : List MemPlace}
    (h : DataW.Trod enc Try.prog W 0 (fun _ => true) true 37 (.slice a len cap) d ps) (hz : ∀ n ∈ d.weights Try.prog 37, n ≤ reachBytes) : ∃ z, TextsAt W.heap.size W a len z := by
  obtain ⟨fuel, hf⟩ := h
  rcases open_strings Try.underlying37 Try.underlying9 (by kernel_rfl) hf with ⟨hcs, _⟩ | ⟨x, l, c, ss, hcs, _, hl, hm, hzl, hx, hcell, hws⟩
  · simp [Value.cells] at hcs
    obtain ⟨rfl, rfl, rfl⟩ := hcs
    exact ⟨[], rfl, by omega, 0, 0, .inl rfl, fun i hi => by simp at hi⟩
  · simp [Value.cells] at hcs
    obtain ⟨rfl, rfl, rfl⟩ := hcs
    have hzl' : ss.length = cap := by simpa using hzl
    have hd : d = .slice (strs (ss.take len)) (strs (ss.drop len)) := (Prod.mk.inj hx).1
    have hb : Try.prog.bytesOf 9 = 16 := by kernel_rfl
    subst hd
    have hu : Try.prog.underlying 37 = some (.slice 9) := Try.underlying37
    have hr := hz (((strs (H := H) (ss.take len)).length + (strs (H := H) (ss.drop len)).length) * Try.prog.bytesOf 9) (by simp [DataW.weights, hu])
    rw [hb] at hr
    have hr' : cap * 16 ≤ 140737488351232 := by
      simp [reachBytes, strs, hzl'] at hr
      omega
    have hel : ∀ y ∈ ss.take len, y.data.toList.length ≤ 140737488351232 := fun y hy => by
      have hmem : (DataW.lit (.string y.data.toList) : DataW H) ∈ strs (ss.take len) := List.mem_map_of_mem hy
      have := hz y.data.toList.length (by
        simp only [DataW.weights, hu, List.mem_cons, List.mem_append]
        exact .inr (.inl (weights_all _ _ _ _ hmem _ (by simp [DataW.weights]))))
      simpa [reachBytes] using this
    refine ⟨(ss.take len).map (·.data.toList), by rw [List.length_map, List.length_take]; omega, by omega, ?_⟩
    by_cases h0 : len = 0
    · exact ⟨0, 0, .inl h0, fun i hi => by simp [h0] at hi⟩
    · obtain ⟨b, off, spot⟩ := x
      have hc := hcell 0 (by omega)
      have hspot : spot = none := by simpa [Addr.add] using World.cell?_spot hc
      subst hspot
      refine ⟨b, off, .inr rfl, fun i hi => ?_⟩
      have hi3 : i < len := by simp at hi; omega
      have hi2 := hcell i (by omega)
      have hp : (⟨b, off, none⟩ : Addr).add i = ⟨b, off + i, none⟩ := by unfold Addr.add; split <;> simp_all
      rw [hp] at hi2
      have hi4 : i < ss.length := by omega
      have hi5 : i < (ss.take len).length := by rw [List.length_take]; omega
      refine ⟨World.block_lt_of_cell? W _ hc, ?_, ?_⟩
      · rw [List.getElem_map]; exact hel _ (List.getElem_mem hi5)
      · rw [hi2, List.getElem_map, S_eq, List.getElem_take]
        simp [hi4]

theorem trod_struct4 {H : Type} {enc : TypeId × Value → H} {P : Program} {w : World} {base : Nat} {spare : Nat → Bool} {held : Bool} {t : TypeId} {f0 f1 f2 f3 : Field} {fuel : Nat} {cs : List Value} {x : DataW H × List MemPlace} (ht : P.underlying t = some (.struct #[f0, f1, f2, f3])) (h : DataW.trod enc P w base spare held fuel t cs = some x) :
    ∃ y0 y1 y2 y3 n, x.1 = .agg [y0.1, y1.1, y2.1, y3.1] ∧ DataW.trod enc P w base spare held n f0.type ((cs.drop f0.offset).take (P.cellsOf f0.type)) = some y0 ∧
      DataW.trod enc P w base spare held n f1.type ((cs.drop f1.offset).take (P.cellsOf f1.type)) = some y1 ∧ DataW.trod enc P w base spare held n f2.type ((cs.drop f2.offset).take (P.cellsOf f2.type)) = some y2 ∧
      DataW.trod enc P w base spare held n f3.type ((cs.drop f3.offset).take (P.cellsOf f3.type)) = some y3 := by
  obtain ⟨xs, n, _, rfl, hl, hlen, hf⟩ := DataW.trod_struct ht h
  match xs, hlen with
  | [y0, y1, y2, y3], _ => exact ⟨y0, y1, y2, y3, n, by simp, by simpa using hf 0 f0 rfl, by simpa using hf 1 f1 rfl, by simpa using hf 2 f2 rfl, by simpa using hf 3 f3 rfl⟩
theorem actcells_of {H : Type} {enc : TypeId × Value → H} {W : World} {cs : List Value} {y : DataW H × List MemPlace} {fuel : Nat}
    (hf : DataW.trod enc Try.prog W 0 (fun _ => true) true fuel 29 cs = some y) (hl : cs.length = 4) (hz : ∀ n ∈ y.1.weights Try.prog 29, n ≤ reachBytes) :
    ∃ x : ActE, cs = [.int .i64 x.what, .int .i64 x.at_, .bool x.near, .string (S x.text)] ∧ (I64 x.what ∧ I64 x.at_ ∧ x.text.length ≤ 140737488351232) := by
  obtain ⟨y0, y1, y2, y3, k, hy, h0, h1, h2, h3⟩ := trod_struct4 Try.underlying29 hf
  match cs, hl with
  | [c0, c1, c2, c3], _ =>
    have e0 : Try.prog.cellsOf 3 = 1 := by kernel_rfl
    have e1 : Try.prog.cellsOf 4 = 1 := by kernel_rfl
    have e2 : Try.prog.cellsOf 9 = 1 := by kernel_rfl
    simp [e0, e1, e2] at h0 h1 h2 h3
    obtain ⟨q0, g0, _, w0⟩ := DataW.trod_int Try.underlying3 h0
    obtain ⟨q1, g1, _, w1⟩ := DataW.trod_int Try.underlying3 h1
    obtain ⟨q2, g2, _⟩ := DataW.trod_bool Try.underlying4 h2
    obtain ⟨s, g3, x3, _⟩ := DataW.trod_string Try.underlying9 h3
    simp at g0 g1 g2 g3
    subst g0 g1 g2 g3
    have hun := Try.underlying29
    have hs := hz s.data.toList.length (by
      rw [hy, x3]
      simp only [DataW.weights, hun]
      simp only [DataW.weightsEach, List.map_cons, List.mem_append]
      right; right; right; left
      simp [DataW.weights])
    exact ⟨⟨q0, q1, q2, s.data.toList⟩, by dsimp only; rw [S_eq], in_of_wf w0, in_of_wf w1, by simpa [reachBytes] using hs⟩

/-- A SCRIPT THAT CAME IN. -/
theorem acts_of {H : Type} {enc : TypeId × Value → H} {W : World} {a : Option Addr} {len cap : Nat} {d : DataW H} {ps : List MemPlace}
    (h : DataW.Trod enc Try.prog W 0 (fun _ => true) true 22 (.slice a len cap) d ps) (hz : ∀ n ∈ d.weights Try.prog 22, n ≤ reachBytes) : ∃ z, ActsAt W.heap.size W a len z := by
  obtain ⟨fuel, hf⟩ := h
  have hcz : Try.prog.cellsOf 29 = 4 := by kernel_rfl
  have hu : Try.prog.underlying 22 = some (.slice 29) := Try.underlying22
  rcases Deep.open_slice Try.underlying22 hf with ⟨hcs, _⟩ | ⟨x, l, c, m, n, D, Pl, hcs, _, hl, hm, hmm, hx, hel⟩
  · simp [Value.cells] at hcs
    obtain ⟨rfl, rfl, rfl⟩ := hcs
    exact ⟨[], rfl, by omega, 0, 0, .inl rfl, fun i hi => by simp at hi⟩
  · simp [Value.cells] at hcs
    obtain ⟨rfl, rfl, rfl⟩ := hcs
    have hd : d = _ := congrArg Prod.fst hx
    have hb : Try.prog.bytesOf 29 = 40 := by kernel_rfl
    have hmc : m = cap := by simpa using hmm
    rw [hd] at hz
    have hr := hz ((((List.range len).map D).length + ((List.range (m - len)).map fun j => D (len + j)).length) * Try.prog.bytesOf 29) (by simp [DataW.weights, hu])
    rw [hb] at hr
    have hr' : len * 40 ≤ 140737488351232 := by
      simp [reachBytes] at hr
      omega
    have key : ∀ i, i < len → ∃ p : ActE, (I64 p.what ∧ I64 p.at_ ∧ p.text.length ≤ 140737488351232) ∧ W.cell? (x.add (i * 4)) = some (.int .i64 p.what) ∧ W.cell? ((x.add (i * 4)).add 1) = some (.int .i64 p.at_) ∧ W.cell? ((x.add (i * 4)).add 2) = some (.bool p.near) ∧ W.cell? ((x.add (i * 4)).add 3) = some (.string (S p.text)) := fun i hi => by
      obtain ⟨cs, hcs, ht⟩ := hel i (by omega)
      rw [hcz] at hcs
      have hlen := (World.cells?_some hcs).2.1
      obtain ⟨p, rfl, hF⟩ := actcells_of (W := W) ht (by omega) (fun k hk => hz k (by
        simp only [DataW.weights, hu, List.mem_cons, List.mem_append]
        exact .inr (.inl (weights_all _ _ _ _ (List.mem_map_of_mem (List.mem_range.2 hi)) _ hk))))
      have hc := World.cells?_some hcs
      have g0 := hc.2.2 0 (by omega)
      have g1 := hc.2.2 1 (by omega)
      have g2 := hc.2.2 2 (by omega)
      have g3 := hc.2.2 3 (by omega)
      simp only [List.getElem?_cons_zero, List.getElem?_cons_succ] at g0 g1 g2 g3
      have ex : (x.add (i * 4)).add 0 = x.add (i * 4) := by simp [Addr.add]
      rw [ex] at g0
      exact ⟨p, hF, g0, g1, g2, g3⟩
    by_cases h0 : len = 0
    · exact ⟨[], by simp [h0], by omega, 0, 0, .inl h0, fun i hi => by simp at hi⟩
    · obtain ⟨b, off, spot⟩ := x
      have hspot : spot = none := by
        obtain ⟨p, _, hp, _⟩ := key 0 (by omega)
        simpa [Addr.add] using World.cell?_spot hp
      subst hspot
      have hadd : ∀ i, (⟨b, off, none⟩ : Addr).add i = ⟨b, off + i, none⟩ := fun i => by unfold Addr.add; split <;> simp_all
      have hadd1 : ∀ i j, (⟨b, off + i * 4, none⟩ : Addr).add j = ⟨b, off + i * 4 + j, none⟩ := fun i j => by unfold Addr.add; split <;> simp_all
      refine ⟨(List.range len).map fun i => if h : i < len then (key i h).choose else default, by simp, by omega, b, off, .inr rfl, fun i hi => ?_⟩
      have hi' : i < len := by simpa using hi
      have hs := (key i hi').choose_spec
      generalize hge : (key i hi').choose = p at hs
      simp only [hadd, hadd1] at hs
      simp only [List.getElem_map, List.getElem_range, dif_pos hi', hge]
      exact ⟨World.block_lt_of_cell? W _ hs.2.1, hs⟩
end Go.Proofs.Ytgjpndloeegamaa
