/-
  What the rows' steps share: the readings of the arguments brought into the forms that the walks take.
-/
import Derived.ProofKit
import Derived.OpenShut
import Derived.ShutString
import Derived.ChangeOld
import Derived.SizedLaws
import Derived.SliceStrings
import Derived.Deep.Slices
import Derived.Lib.SmallJoins
import Derived.Test.YtbbogkmibiealaaLacts
import Derived.Test.YtbbogkmibiealaaChecked
namespace Go.Proofs.Ytbbogkmibiealaa
open Go.ChangeShapes Go.WideShapes Go.ChangeAt Go.RowKit Go.Joins Gm
open Go.ChangeMaps (open_string shut_string)

theorem in_of_wf {a : Int} (h : (Lit.int .i64 a).wf = true) : I64 a := by
  have : -9223372036854775808 ≤ a ∧ a ≤ 9223372036854775807 := by simpa [Lit.wf, IntKind.min, IntKind.max, IntKind.signed, IntKind.bits] using h
  exact this
theorem weights_at {H : Type} {ts : List TypeId} {ds : List (DataW H)} (h : (DataW.weightsEach Try.prog ts ds).all (· ≤ reachBytes) = true) {j : Nat} {t : TypeId} {d : DataW H} (ht : ts[j]? = some t) (hd : ds[j]? = some d) :
    ∀ n ∈ d.weights Try.prog t, n ≤ reachBytes := fun n hn => by
  have := List.all_eq_true.1 h _ (DataW.weights_mem_each ht hd n hn)
  simpa using this
theorem weights_all {H : Type} (P : Program) (e : TypeId) : ∀ (l : List (DataW H)) (d : DataW H), d ∈ l → ∀ n ∈ d.weights P e, n ∈ DataW.weightsAll P e l
  | [], _, h, _, _ => by simp at h
  | x :: l, d, h, n, hn => by
    simp only [DataW.weightsAll, List.mem_append]
    rcases List.mem_cons.1 h with rfl | h
    · exact .inl hn
    · exact .inr (weights_all P e l d h n hn)

/-- A SLICE OF NUMBERS THAT CAME IN. -/
theorem keep_of {H : Type} {enc : TypeId × Value → H} {W : World} {a : Option Addr} {len cap : Nat} {d : DataW H} {ps : List MemPlace}
    (h : DataW.Trod enc Try.prog W 0 (fun _ => true) true 40 (.slice a len cap) d ps) : ∃ z, KeepB W.heap.size W a len z := by
  obtain ⟨fuel, hf⟩ := h
  rcases open_ints Try.underlying40 Try.underlying3 (by kernel_rfl) hf with ⟨hcs, _⟩ | ⟨x, l, c, zs, hcs, _, hl, hm, hzl, hx, hcell, hwz⟩
  · simp [Value.cells] at hcs
    obtain ⟨rfl, rfl, rfl⟩ := hcs
    exact ⟨[], rfl, 0, 0, .inl rfl, fun i hi => by simp at hi⟩
  · simp [Value.cells] at hcs
    obtain ⟨rfl, rfl, rfl⟩ := hcs
    have hzl' : zs.length = cap := by simpa using hzl
    refine ⟨zs.take len, by rw [List.length_take]; omega, ?_⟩
    by_cases h0 : len = 0
    · exact ⟨0, 0, .inl h0, fun i hi => by simp [h0] at hi⟩
    · obtain ⟨b, off, spot⟩ := x
      have hc := hcell 0 (by omega)
      have hspot : spot = none := by simpa [Addr.add] using World.cell?_spot hc
      subst hspot
      refine ⟨b, off, .inr rfl, fun i hi => ?_⟩
      have hi3 : i < len := by simp at hi; omega
      have hi2 := hcell i (by omega)
      have hp : (⟨b, off, none⟩ : Addr).add i = ⟨b, off + i, none⟩ := by unfold Addr.add; split <;> simp_all
      rw [hp] at hi2
      refine ⟨World.block_lt_of_cell? W _ hc, ?_, in_of_wf (hwz _ (List.mem_of_mem_take (List.getElem_mem hi)))⟩
      rw [hi2, List.getElem_take]
      simp [show i < zs.length by omega]

theorem trod_struct4 {H : Type} {enc : TypeId × Value → H} {P : Program} {w : World} {base : Nat} {spare : Nat → Bool} {held : Bool} {t : TypeId} {f0 f1 f2 f3 : Field} {fuel : Nat} {cs : List Value} {x : DataW H × List MemPlace} (ht : P.underlying t = some (.struct #[f0, f1, f2, f3])) (h : DataW.trod enc P w base spare held fuel t cs = some x) :
    ∃ y0 y1 y2 y3 n, x.1 = .agg [y0.1, y1.1, y2.1, y3.1] ∧ DataW.trod enc P w base spare held n f0.type ((cs.drop f0.offset).take (P.cellsOf f0.type)) = some y0 ∧
      DataW.trod enc P w base spare held n f1.type ((cs.drop f1.offset).take (P.cellsOf f1.type)) = some y1 ∧ DataW.trod enc P w base spare held n f2.type ((cs.drop f2.offset).take (P.cellsOf f2.type)) = some y2 ∧
      DataW.trod enc P w base spare held n f3.type ((cs.drop f3.offset).take (P.cellsOf f3.type)) = some y3 := by
  obtain ⟨xs, n, _, rfl, hl, hlen, hf⟩ := DataW.trod_struct ht h
  match xs, hlen with
  | [y0, y1, y2, y3], _ => exact ⟨y0, y1, y2, y3, n, by simp, by simpa using hf 0 f0 rfl, by simpa using hf 1 f1 rfl, by simpa using hf 2 f2 rfl, by simpa using hf 3 f3 rfl⟩
theorem trod_struct3' {H : Type} {enc : TypeId × Value → H} {P : Program} {w : World} {base : Nat} {spare : Nat → Bool} {held : Bool} {t : TypeId} {f0 f1 f2 : Field} {fuel : Nat} {cs : List Value} {x : DataW H × List MemPlace} (ht : P.underlying t = some (.struct #[f0, f1, f2])) (h : DataW.trod enc P w base spare held fuel t cs = some x) :
    ∃ y0 y1 y2 n, x.1 = .agg [y0.1, y1.1, y2.1] ∧ DataW.trod enc P w base spare held n f0.type ((cs.drop f0.offset).take (P.cellsOf f0.type)) = some y0 ∧
      DataW.trod enc P w base spare held n f1.type ((cs.drop f1.offset).take (P.cellsOf f1.type)) = some y1 ∧ DataW.trod enc P w base spare held n f2.type ((cs.drop f2.offset).take (P.cellsOf f2.type)) = some y2 := by
  obtain ⟨xs, n, _, rfl, hl, hlen, hf⟩ := DataW.trod_struct ht h
  match xs, hlen with
  | [y0, y1, y2], _ => exact ⟨y0, y1, y2, n, by simp, by simpa using hf 0 f0 rfl, by simpa using hf 1 f1 rfl, by simpa using hf 2 f2 rfl⟩

theorem bindcells_of {H : Type} {enc : TypeId × Value → H} {W : World} {cs : List Value} {y : DataW H × List MemPlace} {fuel : Nat}
    (hf : DataW.trod enc Try.prog W 0 (fun _ => true) true fuel 35 cs = some y) (hl : cs.length = 3) (hz : ∀ n ∈ y.1.weights Try.prog 35, n ≤ reachBytes) :
    ∃ x : Bd, cs = [.string (S x.work), .string (S x.node), .int .i64 x.cnt] ∧ I64 x.cnt ∧ x.work.length ≤ 140737488351232 ∧ x.node.length ≤ 140737488351232 := by
  obtain ⟨y0, y1, y2, k, hy, h0, h1, h2⟩ := trod_struct3' Try.underlying35 hf
  match cs, hl with
  | [c0, c1, c2], _ =>
    have e0 : Try.prog.cellsOf 3 = 1 := by kernel_rfl
    have e2 : Try.prog.cellsOf 9 = 1 := by kernel_rfl
    simp [e0, e2] at h0 h1 h2
    obtain ⟨s, g0, x0, _⟩ := DataW.trod_string Try.underlying9 h0
    obtain ⟨r, g1, x1, _⟩ := DataW.trod_string Try.underlying9 h1
    obtain ⟨q2, g2, _, w2⟩ := DataW.trod_int Try.underlying3 h2
    simp at g0 g1 g2
    subst g0 g1 g2
    have hun := Try.underlying35
    have hs := hz s.data.toList.length (by
      rw [hy, x0]
      simp only [DataW.weights, hun]
      simp only [DataW.weightsEach, List.map_cons, List.mem_append]
      left
      simp [DataW.weights])
    have ht := hz r.data.toList.length (by
      rw [hy, x1]
      simp only [DataW.weights, hun]
      simp only [DataW.weightsEach, List.map_cons, List.mem_append]
      right; left
      simp [DataW.weights])
    exact ⟨⟨s.data.toList, r.data.toList, q2⟩, by dsimp only; rw [S_eq, S_eq], in_of_wf w2, by simpa [reachBytes] using hs, by simpa [reachBytes] using ht⟩

/-- BINDS THAT CAME IN. -/
theorem binds_of {H : Type} {enc : TypeId × Value → H} {W : World} {a : Option Addr} {len cap : Nat} {d : DataW H} {ps : List MemPlace}
    (h : DataW.Trod enc Try.prog W 0 (fun _ => true) true 29 (.slice a len cap) d ps) (hz : ∀ n ∈ d.weights Try.prog 29, n ≤ reachBytes) : ∃ z, BindsB W.heap.size W a len z := by
  obtain ⟨fuel, hf⟩ := h
  have hcz : Try.prog.cellsOf 35 = 3 := by kernel_rfl
  have hu : Try.prog.underlying 29 = some (.slice 35) := Try.underlying29
  rcases Deep.open_slice Try.underlying29 hf with ⟨hcs, _⟩ | ⟨x, l, c, m, n, D, Pl, hcs, _, hl, hm, hmm, hx, hel⟩
  · simp [Value.cells] at hcs
    obtain ⟨rfl, rfl, rfl⟩ := hcs
    exact ⟨[], rfl, by omega, 0, 0, .inl rfl, fun i hi => by simp at hi⟩
  · simp [Value.cells] at hcs
    obtain ⟨rfl, rfl, rfl⟩ := hcs
    have hd : d = _ := congrArg Prod.fst hx
    have hb : Try.prog.bytesOf 35 = 40 := by kernel_rfl
    have hmc : m = cap := by simpa using hmm
    rw [hd] at hz
    have hr := hz ((((List.range len).map D).length + ((List.range (m - len)).map fun j => D (len + j)).length) * Try.prog.bytesOf 35) (by simp [DataW.weights, hu])
    rw [hb] at hr
    have hr' : len * 40 ≤ 140737488351232 := by
      simp [reachBytes] at hr
      omega
    have key : ∀ i, i < len → ∃ p : Bd, (I64 p.cnt ∧ p.work.length ≤ 140737488351232 ∧ p.node.length ≤ 140737488351232) ∧ W.cell? (x.add (i * 3)) = some (.string (S p.work)) ∧ W.cell? ((x.add (i * 3)).add 1) = some (.string (S p.node)) ∧ W.cell? ((x.add (i * 3)).add 2) = some (.int .i64 p.cnt) := fun i hi => by
      obtain ⟨cs, hcs, ht⟩ := hel i (by omega)
      rw [hcz] at hcs
      have hlen := (World.cells?_some hcs).2.1
      obtain ⟨p, rfl, hF⟩ := bindcells_of ht (by omega) (fun k hk => hz k (by
        simp only [DataW.weights, hu, List.mem_cons, List.mem_append]
        exact .inr (.inl (weights_all _ _ _ _ (List.mem_map_of_mem (List.mem_range.2 hi)) _ hk))))
      have hc := World.cells?_some hcs
      have g0 := hc.2.2 0 (by omega)
      have g1 := hc.2.2 1 (by omega)
      have g2 := hc.2.2 2 (by omega)
      simp only [List.getElem?_cons_zero, List.getElem?_cons_succ] at g0 g1 g2
      have ex : (x.add (i * 3)).add 0 = x.add (i * 3) := by simp [Addr.add]
      rw [ex] at g0
      exact ⟨p, hF, g0, g1, g2⟩
    by_cases h0 : len = 0
    · exact ⟨[], by simp [h0], by omega, 0, 0, .inl h0, fun i hi => by simp at hi⟩
    · obtain ⟨b, off, spot⟩ := x
      have hspot : spot = none := by
        obtain ⟨p, _, hp, _⟩ := key 0 (by omega)
        simpa [Addr.add] using World.cell?_spot hp
      subst hspot
      have hadd : ∀ i, (⟨b, off, none⟩ : Addr).add i = ⟨b, off + i, none⟩ := fun i => by unfold Addr.add; split <;> simp_all
      have hadd1 : ∀ i j, (⟨b, off + i * 3, none⟩ : Addr).add j = ⟨b, off + i * 3 + j, none⟩ := fun i j => by unfold Addr.add; split <;> simp_all
      refine ⟨(List.range len).map fun i => if h : i < len then (key i h).choose else default, by simp, by omega, b, off, .inr rfl, fun i hi => ?_⟩
      have hi' : i < len := by simpa using hi
      have hs := (key i hi').choose_spec
      generalize hge : (key i hi').choose = p at hs
      simp only [hadd, hadd1] at hs
      simp only [List.getElem_map, List.getElem_range, dif_pos hi', hge]
      exact ⟨World.block_lt_of_cell? W _ hs.2.1, hs⟩
end Go.Proofs.Ytbbogkmibiealaa
