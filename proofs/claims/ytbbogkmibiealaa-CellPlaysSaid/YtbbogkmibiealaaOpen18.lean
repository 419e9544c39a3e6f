/-
  What the rows' steps share: the readings of the arguments brought into the forms that the walks take.
-/
import Derived.Test.YtbbogkmibiealaaOpen14
import Derived.Test.YtbbogkmibiealaaCargs
namespace Go.Proofs.Ytbbogkmibiealaa
open Go.ChangeShapes Go.WideShapes Go.ChangeAt Go.RowKit Go.Joins Gm
open Go.ChangeMaps (open_string shut_string)

theorem trod_struct7 {H : Type} {enc : TypeId × Value → H} {P : Program} {w : World} {base : Nat} {spare : Nat → Bool} {held : Bool} {t : TypeId} {f0 f1 f2 f3 f4 f5 f6 : Field} {fuel : Nat} {cs : List Value} {x : DataW H × List MemPlace} (ht : P.underlying t = some (.struct #[f0, f1, f2, f3, f4, f5, f6])) (h : DataW.trod enc P w base spare held fuel t cs = some x) :
    ∃ y0 y1 y2 y3 y4 y5 y6 n, x.1 = .agg [y0.1, y1.1, y2.1, y3.1, y4.1, y5.1, y6.1] ∧ DataW.trod enc P w base spare held n f0.type ((cs.drop f0.offset).take (P.cellsOf f0.type)) = some y0 ∧ DataW.trod enc P w base spare held n f1.type ((cs.drop f1.offset).take (P.cellsOf f1.type)) = some y1 ∧ DataW.trod enc P w base spare held n f2.type ((cs.drop f2.offset).take (P.cellsOf f2.type)) = some y2 ∧ DataW.trod enc P w base spare held n f3.type ((cs.drop f3.offset).take (P.cellsOf f3.type)) = some y3 ∧ DataW.trod enc P w base spare held n f4.type ((cs.drop f4.offset).take (P.cellsOf f4.type)) = some y4 ∧ DataW.trod enc P w base spare held n f5.type ((cs.drop f5.offset).take (P.cellsOf f5.type)) = some y5 ∧ DataW.trod enc P w base spare held n f6.type ((cs.drop f6.offset).take (P.cellsOf f6.type)) = some y6 := by
  obtain ⟨xs, n, _, rfl, hl, hlen, hf⟩ := DataW.trod_struct ht h
  match xs, hlen with
  | [y0, y1, y2, y3, y4, y5, y6], _ => exact ⟨y0, y1, y2, y3, y4, y5, y6, n, by simp, by simpa using hf 0 f0 rfl, by simpa using hf 1 f1 rfl, by simpa using hf 2 f2 rfl, by simpa using hf 3 f3 rfl, by simpa using hf 4 f4 rfl, by simpa using hf 5 f5 rfl, by simpa using hf 6 f6 rfl⟩
theorem grantcells_of {H : Type} {enc : TypeId × Value → H} {W : World} {cs : List Value} {y : DataW H × List MemPlace} {fuel : Nat}
    (hf : DataW.trod enc Try.prog W 0 (fun _ => true) true fuel 42 cs = some y) (hl : cs.length = 7) :
    ∃ ka kl kc, ∃ x : GrE, cs = [.int .i64 x.kind, .int .i64 x.cell, .int .i64 x.boot, .int .i64 x.epoch, .int .i64 x.ver, .int .i64 x.unt, .slice ka kl kc] ∧ (I64 x.kind ∧ I64 x.cell ∧ I64 x.boot ∧ I64 x.epoch ∧ I64 x.ver ∧ I64 x.unt) ∧ KeepB W.heap.size W ka kl x.l := by
  obtain ⟨y0, y1, y2, y3, y4, y5, y6, k, hy, h0, h1, h2, h3, h4, h5, h6⟩ := trod_struct7 Try.underlying42 hf
  match cs, hl with
  | [c0, c1, c2, c3, c4, c5, c6], _ =>
    have e0 : Try.prog.cellsOf 3 = 1 := by kernel_rfl
    have e1 : Try.prog.cellsOf 40 = 1 := by kernel_rfl
    simp [e0, e1] at h0 h1 h2 h3 h4 h5 h6
    obtain ⟨q0, g0, _, w0⟩ := DataW.trod_int Try.underlying3 h0
    obtain ⟨q1, g1, _, w1⟩ := DataW.trod_int Try.underlying3 h1
    obtain ⟨q2, g2, _, w2⟩ := DataW.trod_int Try.underlying3 h2
    obtain ⟨q3, g3, _, w3⟩ := DataW.trod_int Try.underlying3 h3
    obtain ⟨q4, g4, _, w4⟩ := DataW.trod_int Try.underlying3 h4
    obtain ⟨q5, g5, _, w5⟩ := DataW.trod_int Try.underlying3 h5
    simp at g0 g1 g2 g3 g4 g5
    subst g0 g1 g2 g3 g4 g5
    have hv : ∃ a len cap, c6 = .slice a len cap := by
      rcases open_ints Try.underlying40 Try.underlying3 (by kernel_rfl) h6 with ⟨hcs, _⟩ | ⟨x, l, c, zs, hcs, _⟩
      · exact ⟨_, _, _, by simpa using hcs⟩
      · exact ⟨_, _, _, by simpa using hcs⟩
    obtain ⟨a, len, cap, rfl⟩ := hv
    obtain ⟨z, hk⟩ := keep_of (d := y6.1) (ps := y6.2) (a := a) (len := len) (cap := cap) ⟨k, by simpa [Value.cells] using h6⟩
    exact ⟨a, len, cap, ⟨q0, q1, q2, q3, q4, q5, z⟩, rfl, ⟨in_of_wf w0, in_of_wf w1, in_of_wf w2, in_of_wf w3, in_of_wf w4, in_of_wf w5⟩, hk⟩
theorem msgcells_of {H : Type} {enc : TypeId × Value → H} {W : World} {cs : List Value} {y : DataW H × List MemPlace} {fuel : Nat}
    (hf : DataW.trod enc Try.prog W 0 (fun _ => true) true fuel 31 cs = some y) (hl : cs.length = 7) (hz : ∀ n ∈ y.1.weights Try.prog 31, n ≤ reachBytes) :
    ∃ ka kl kc, ∃ x : Ms, cs = [.int .i64 x.kind, .int .i64 x.cell, .int .i64 x.boot, .int .i64 x.epoch, .int .i64 x.ver, .int .i64 x.unt, .slice ka kl kc] ∧ (I64 x.kind ∧ I64 x.cell ∧ I64 x.boot ∧ I64 x.epoch ∧ I64 x.ver ∧ I64 x.unt) ∧ BindsB W.heap.size W ka kl x.l := by
  obtain ⟨y0, y1, y2, y3, y4, y5, y6, k, hy, h0, h1, h2, h3, h4, h5, h6⟩ := trod_struct7 Try.underlying31 hf
  match cs, hl with
  | [c0, c1, c2, c3, c4, c5, c6], _ =>
    have e0 : Try.prog.cellsOf 3 = 1 := by kernel_rfl
    have e1 : Try.prog.cellsOf 29 = 1 := by kernel_rfl
    simp [e0, e1] at h0 h1 h2 h3 h4 h5 h6
    obtain ⟨q0, g0, _, w0⟩ := DataW.trod_int Try.underlying3 h0
    obtain ⟨q1, g1, _, w1⟩ := DataW.trod_int Try.underlying3 h1
    obtain ⟨q2, g2, _, w2⟩ := DataW.trod_int Try.underlying3 h2
    obtain ⟨q3, g3, _, w3⟩ := DataW.trod_int Try.underlying3 h3
    obtain ⟨q4, g4, _, w4⟩ := DataW.trod_int Try.underlying3 h4
    obtain ⟨q5, g5, _, w5⟩ := DataW.trod_int Try.underlying3 h5
    simp at g0 g1 g2 g3 g4 g5
    subst g0 g1 g2 g3 g4 g5
    have hv : ∃ a len cap, c6 = .slice a len cap := by
      rcases Deep.open_slice Try.underlying29 h6 with ⟨hcs, _⟩ | ⟨x, l, c, m, n, D, Pl, hcs, _⟩
      · exact ⟨_, _, _, by simpa using hcs⟩
      · exact ⟨_, _, _, by simpa using hcs⟩
    obtain ⟨a, len, cap, rfl⟩ := hv
    have hun := Try.underlying31
    obtain ⟨z, hk⟩ := binds_of (d := y6.1) (ps := y6.2) (a := a) (len := len) (cap := cap) ⟨k, by simpa [Value.cells] using h6⟩ (fun n hn => hz n (by
      rw [hy]
      simp only [DataW.weights, hun]
      simp only [DataW.weightsEach, List.map_cons, List.mem_append]
      right; right; right; right; right; right; left
      exact hn))
    exact ⟨a, len, cap, ⟨q0, q1, q2, q3, q4, q5, z⟩, rfl, ⟨in_of_wf w0, in_of_wf w1, in_of_wf w2, in_of_wf w3, in_of_wf w4, in_of_wf w5⟩, hk⟩
theorem grants_of {H : Type} {enc : TypeId × Value → H} {W : World} {a : Option Addr} {len cap : Nat} {d : DataW H} {ps : List MemPlace}
    (h : DataW.Trod enc Try.prog W 0 (fun _ => true) true 23 (.slice a len cap) d ps) (hz : ∀ n ∈ d.weights Try.prog 23, n ≤ reachBytes) : ∃ z, GrantsAt W.heap.size W a len z := by
  obtain ⟨fuel, hf⟩ := h
  have hcz : Try.prog.cellsOf 42 = 7 := by kernel_rfl
  have hu : Try.prog.underlying 23 = some (.slice 42) := Try.underlying23
  rcases Deep.open_slice Try.underlying23 hf with ⟨hcs, _⟩ | ⟨x, l, c, m, n, D, Pl, hcs, _, hl, hm, hmm, hx, hel⟩
  · simp [Value.cells] at hcs
    obtain ⟨rfl, rfl, rfl⟩ := hcs
    exact ⟨[], rfl, by omega, 0, 0, .inl rfl, fun i hi => by simp at hi⟩
  · simp [Value.cells] at hcs
    obtain ⟨rfl, rfl, rfl⟩ := hcs
    have hd : d = _ := congrArg Prod.fst hx
    have hb : Try.prog.bytesOf 42 = 72 := by kernel_rfl
    have hmc : m = cap := by simpa using hmm
    rw [hd] at hz
    have hr := hz ((((List.range len).map D).length + ((List.range (m - len)).map fun j => D (len + j)).length) * Try.prog.bytesOf 42) (by simp [DataW.weights, hu])
    rw [hb] at hr
    have hr' : len * 72 ≤ 140737488351232 := by
      simp [reachBytes] at hr
      omega
    have key : ∀ i, i < len → ∃ p : GrE, (I64 p.kind ∧ I64 p.cell ∧ I64 p.boot ∧ I64 p.epoch ∧ I64 p.ver ∧ I64 p.unt) ∧ W.cell? (x.add (i * 7)) = some (.int .i64 p.kind) ∧ W.cell? ((x.add (i * 7)).add 1) = some (.int .i64 p.cell) ∧ W.cell? ((x.add (i * 7)).add 2) = some (.int .i64 p.boot) ∧ W.cell? ((x.add (i * 7)).add 3) = some (.int .i64 p.epoch) ∧ W.cell? ((x.add (i * 7)).add 4) = some (.int .i64 p.ver) ∧ W.cell? ((x.add (i * 7)).add 5) = some (.int .i64 p.unt) ∧ ∃ ka kl kc, W.cell? ((x.add (i * 7)).add 6) = some (.slice ka kl kc) ∧ KeepB W.heap.size W ka kl p.l := fun i hi => by
      obtain ⟨cs, hcs, ht⟩ := hel i (by omega)
      rw [hcz] at hcs
      have hlen := (World.cells?_some hcs).2.1
      obtain ⟨ka, kl, kc, p, rfl, hF, hK⟩ := grantcells_of ht (by omega)
      have hc := World.cells?_some hcs
      have g0 := hc.2.2 0 (by omega)
      have g1 := hc.2.2 1 (by omega)
      have g2 := hc.2.2 2 (by omega)
      have g3 := hc.2.2 3 (by omega)
      have g4 := hc.2.2 4 (by omega)
      have g5 := hc.2.2 5 (by omega)
      have g6 := hc.2.2 6 (by omega)
      simp only [List.getElem?_cons_zero, List.getElem?_cons_succ] at g0 g1 g2 g3 g4 g5 g6
      have ex : (x.add (i * 7)).add 0 = x.add (i * 7) := by simp [Addr.add]
      rw [ex] at g0
      exact ⟨p, hF, g0, g1, g2, g3, g4, g5, ka, kl, kc, g6, hK⟩
    by_cases h0 : len = 0
    · exact ⟨[], by simp [h0], by omega, 0, 0, .inl h0, fun i hi => by simp at hi⟩
    · obtain ⟨b, off, spot⟩ := x
      have hspot : spot = none := by
        obtain ⟨p, _, hp, _⟩ := key 0 (by omega)
        simpa [Addr.add] using World.cell?_spot hp
      subst hspot
      have hadd : ∀ i, (⟨b, off, none⟩ : Addr).add i = ⟨b, off + i, none⟩ := fun i => by unfold Addr.add; split <;> simp_all
      have hadd1 : ∀ i j, (⟨b, off + i * 7, none⟩ : Addr).add j = ⟨b, off + i * 7 + j, none⟩ := fun i j => by unfold Addr.add; split <;> simp_all
      refine ⟨(List.range len).map fun i => if h : i < len then (key i h).choose else default, by simp, by omega, b, off, .inr rfl, fun i hi => ?_⟩
      have hi' : i < len := by simpa using hi
      have hs := (key i hi').choose_spec
      generalize hge : (key i hi').choose = p at hs
      simp only [hadd, hadd1] at hs
      simp only [List.getElem_map, List.getElem_range, dif_pos hi', hge]
      exact ⟨World.block_lt_of_cell? W _ hs.2.1, hs⟩
theorem msgs_of {H : Type} {enc : TypeId × Value → H} {W : World} {a : Option Addr} {len cap : Nat} {d : DataW H} {ps : List MemPlace}
    (h : DataW.Trod enc Try.prog W 0 (fun _ => true) true 22 (.slice a len cap) d ps) (hz : ∀ n ∈ d.weights Try.prog 22, n ≤ reachBytes) : ∃ z, MsgsAt W.heap.size W a len z := by
  obtain ⟨fuel, hf⟩ := h
  have hcz : Try.prog.cellsOf 31 = 7 := by kernel_rfl
  have hu : Try.prog.underlying 22 = some (.slice 31) := Try.underlying22
  rcases Deep.open_slice Try.underlying22 hf with ⟨hcs, _⟩ | ⟨x, l, c, m, n, D, Pl, hcs, _, hl, hm, hmm, hx, hel⟩
  · simp [Value.cells] at hcs
    obtain ⟨rfl, rfl, rfl⟩ := hcs
    exact ⟨[], rfl, by omega, 0, 0, .inl rfl, fun i hi => by simp at hi⟩
  · simp [Value.cells] at hcs
    obtain ⟨rfl, rfl, rfl⟩ := hcs
    have hd : d = _ := congrArg Prod.fst hx
    have hb : Try.prog.bytesOf 31 = 72 := by kernel_rfl
    have hmc : m = cap := by simpa using hmm
    rw [hd] at hz
    have hr := hz ((((List.range len).map D).length + ((List.range (m - len)).map fun j => D (len + j)).length) * Try.prog.bytesOf 31) (by simp [DataW.weights, hu])
    rw [hb] at hr
    have hr' : len * 72 ≤ 140737488351232 := by
      simp [reachBytes] at hr
      omega
    have key : ∀ i, i < len → ∃ p : Ms, (I64 p.kind ∧ I64 p.cell ∧ I64 p.boot ∧ I64 p.epoch ∧ I64 p.ver ∧ I64 p.unt) ∧ W.cell? (x.add (i * 7)) = some (.int .i64 p.kind) ∧ W.cell? ((x.add (i * 7)).add 1) = some (.int .i64 p.cell) ∧ W.cell? ((x.add (i * 7)).add 2) = some (.int .i64 p.boot) ∧ W.cell? ((x.add (i * 7)).add 3) = some (.int .i64 p.epoch) ∧ W.cell? ((x.add (i * 7)).add 4) = some (.int .i64 p.ver) ∧ W.cell? ((x.add (i * 7)).add 5) = some (.int .i64 p.unt) ∧ ∃ ka kl kc, W.cell? ((x.add (i * 7)).add 6) = some (.slice ka kl kc) ∧ BindsB W.heap.size W ka kl p.l := fun i hi => by
      obtain ⟨cs, hcs, ht⟩ := hel i (by omega)
      rw [hcz] at hcs
      have hlen := (World.cells?_some hcs).2.1
      obtain ⟨ka, kl, kc, p, rfl, hF, hK⟩ := msgcells_of ht (by omega) (fun k hk => hz k (by
        simp only [DataW.weights, hu, List.mem_cons, List.mem_append]
        exact .inr (.inl (weights_all _ _ _ _ (List.mem_map_of_mem (List.mem_range.2 hi)) _ hk))))
      have hc := World.cells?_some hcs
      have g0 := hc.2.2 0 (by omega)
      have g1 := hc.2.2 1 (by omega)
      have g2 := hc.2.2 2 (by omega)
      have g3 := hc.2.2 3 (by omega)
      have g4 := hc.2.2 4 (by omega)
      have g5 := hc.2.2 5 (by omega)
      have g6 := hc.2.2 6 (by omega)
      simp only [List.getElem?_cons_zero, List.getElem?_cons_succ] at g0 g1 g2 g3 g4 g5 g6
      have ex : (x.add (i * 7)).add 0 = x.add (i * 7) := by simp [Addr.add]
      rw [ex] at g0
      exact ⟨p, hF, g0, g1, g2, g3, g4, g5, ka, kl, kc, g6, hK⟩
    by_cases h0 : len = 0
    · exact ⟨[], by simp [h0], by omega, 0, 0, .inl h0, fun i hi => by simp at hi⟩
    · obtain ⟨b, off, spot⟩ := x
      have hspot : spot = none := by
        obtain ⟨p, _, hp, _⟩ := key 0 (by omega)
        simpa [Addr.add] using World.cell?_spot hp
      subst hspot
      have hadd : ∀ i, (⟨b, off, none⟩ : Addr).add i = ⟨b, off + i, none⟩ := fun i => by unfold Addr.add; split <;> simp_all
      have hadd1 : ∀ i j, (⟨b, off + i * 7, none⟩ : Addr).add j = ⟨b, off + i * 7 + j, none⟩ := fun i j => by unfold Addr.add; split <;> simp_all
      refine ⟨(List.range len).map fun i => if h : i < len then (key i h).choose else default, by simp, by omega, b, off, .inr rfl, fun i hi => ?_⟩
      have hi' : i < len := by simpa using hi
      have hs := (key i hi').choose_spec
      generalize hge : (key i hi').choose = p at hs
      simp only [hadd, hadd1] at hs
      simp only [List.getElem_map, List.getElem_range, dif_pos hi', hge]
      exact ⟨World.block_lt_of_cell? W _ hs.2.1, hs⟩
theorem keep_len {H : Type} {enc : TypeId × Value → H} {W : World} {a : Option Addr} {len cap : Nat} {d : DataW H} {ps : List MemPlace}
    (h : DataW.Trod enc Try.prog W 0 (fun _ => true) true 40 (.slice a len cap) d ps) (hz : ∀ n ∈ d.weights Try.prog 40, n ≤ reachBytes) : len ≤ 281474976710656 := by
  obtain ⟨fuel, hf⟩ := h
  have hu : Try.prog.underlying 40 = some (.slice 3) := Try.underlying40
  rcases Deep.open_slice Try.underlying40 hf with ⟨hcs, _⟩ | ⟨x, l, c, m, n, D, Pl, hcs, _, hl, hm, hmm, hx, hel⟩
  · simp [Value.cells] at hcs
    omega
  · simp [Value.cells] at hcs
    obtain ⟨rfl, rfl, rfl⟩ := hcs
    have hd : d = _ := congrArg Prod.fst hx
    have hb : Try.prog.bytesOf 3 = 8 := by kernel_rfl
    rw [hd] at hz
    have hr := hz ((((List.range len).map D).length + ((List.range (m - len)).map fun j => D (len + j)).length) * Try.prog.bytesOf 3) (by simp [DataW.weights, hu])
    rw [hb] at hr
    simp [reachBytes] at hr
    omega
end Go.Proofs.Ytbbogkmibiealaa
