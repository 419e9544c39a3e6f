/-
  What the rows' steps share: the readings of the arguments brought into the forms that the walks take.
-/
import Derived.ProofKit
import Derived.OpenShut
import Derived.ShutString
import Derived.ChangeOld
import Derived.SizedLaws
import Derived.Deep.Slices
import Derived.Deep.Fields
import Derived.Deep.Fields23
import Derived.Lib.SmallJoins
import Derived.Test.YthchlfoebkachaaFit
namespace Go.Proofs.Ythchlfoebkachaa
open Go.ChangeShapes Go.WideShapes Go.ChangeAt Go.RowKit Go.Joins Gm

theorem in_of_wf {a : Int} (h : (Lit.int .i64 a).wf = true) : I64 a := by
  have : -9223372036854775808 ≤ a ∧ a ≤ 9223372036854775807 := by simpa [Lit.wf, IntKind.min, IntKind.max, IntKind.signed, IntKind.bits] using h
  exact this
theorem weights_at {H : Type} {ts : List TypeId} {ds : List (DataW H)} (h : (DataW.weightsEach Try.prog ts ds).all (· ≤ reachBytes) = true) {j : Nat} {t : TypeId} {d : DataW H} (ht : ts[j]? = some t) (hd : ds[j]? = some d) :
    ∀ n ∈ d.weights Try.prog t, n ≤ reachBytes := fun n hn => by
  have := List.all_eq_true.1 h _ (DataW.weights_mem_each ht hd n hn)
  simpa using this

/-- A SLICE OF NUMBERS THAT CAME IN. -/
theorem ints_of {H : Type} {enc : TypeId × Value → H} {W : World} {a : Option Addr} {len cap : Nat} {d : DataW H} {ps : List MemPlace}
    (h : DataW.Trod enc Try.prog W 0 (fun _ => true) true 25 (.slice a len cap) d ps) (hz : ∀ n ∈ d.weights Try.prog 25, n ≤ reachBytes) : ∃ z, FlowAt W.heap.size W a len z ∧ ∀ x ∈ z, I64 x := by
  obtain ⟨fuel, hf⟩ := h
  rcases open_ints Try.underlying25 Try.underlying3 (by kernel_rfl) hf with ⟨hcs, _⟩ | ⟨x, l, c, zs, hcs, _, hl, hm, hzl, hx, hcell, hwz⟩
  · simp [Value.cells] at hcs
    obtain ⟨rfl, rfl, rfl⟩ := hcs
    exact ⟨[], ⟨rfl, by omega, 0, 0, .inl rfl, fun i hi => by simp at hi⟩, by simp⟩
  · simp [Value.cells] at hcs
    obtain ⟨rfl, rfl, rfl⟩ := hcs
    have hzl' : zs.length = cap := by simpa using hzl
    have hd : d = .slice (lits .i64 (zs.take len)) (lits .i64 (zs.drop len)) := (Prod.mk.inj hx).1
    have hb : Try.prog.bytesOf 3 = 8 := by kernel_rfl
    subst hd
    have hu : Try.prog.underlying 25 = some (.slice 3) := Try.underlying25
    have hr := hz (((lits (H := H) .i64 (zs.take len)).length + (lits (H := H) .i64 (zs.drop len)).length) * Try.prog.bytesOf 3) (by simp [DataW.weights, hu])
    rw [hb] at hr
    have hr' : cap * 8 ≤ 140737488351232 := by
      simp [reachBytes, lits, List.length_take, List.length_drop, hzl'] at hr
      omega
    refine ⟨zs.take len, ⟨by rw [List.length_take]; omega, by omega, ?_⟩, fun y hy => in_of_wf (hwz y (List.mem_of_mem_take hy))⟩
    by_cases h0 : len = 0
    · exact ⟨0, 0, .inl (by simp [h0]), fun i hi => by simp [h0] at hi⟩
    · obtain ⟨b, off, spot⟩ := x
      have hc := hcell 0 (by omega)
      have hspot : spot = none := by simpa [Addr.add] using World.cell?_spot hc
      subst hspot
      refine ⟨b, off, .inr rfl, fun i hi => ⟨World.block_lt_of_cell? W _ hc, ?_⟩⟩
      have hi3 : i < len := by simp at hi; omega
      have hi2 := hcell i (by omega)
      have hp : (⟨b, off, none⟩ : Addr).add i = ⟨b, off + i, none⟩ := by unfold Addr.add; split <;> simp_all
      rw [hp] at hi2
      rw [hi2, List.getElem_map, List.getElem_take, List.getD_eq_getElem?_getD, List.getElem?_eq_getElem (by omega)]; rfl

/-- A SLICE OF BOOLS THAT CAME IN. -/
theorem bools_of {H : Type} {enc : TypeId × Value → H} {W : World} {a : Option Addr} {len cap : Nat} {d : DataW H} {ps : List MemPlace}
    (h : DataW.Trod enc Try.prog W 0 (fun _ => true) true 58 (.slice a len cap) d ps) (hz : ∀ n ∈ d.weights Try.prog 58, n ≤ reachBytes) : ∃ r, SideAt W.heap.size W a len r := by
  obtain ⟨fuel, hf⟩ := h
  have hcz : Try.prog.cellsOf 4 = 1 := by kernel_rfl
  rcases Deep.open_slice Try.underlying58 hf with ⟨hcs, _⟩ | ⟨x, l, c, m, n, D, Pl, hcs, _, hl, hm, hmm, hx, hel⟩
  · simp [Value.cells] at hcs
    obtain ⟨rfl, rfl, rfl⟩ := hcs
    exact ⟨[], rfl, by omega, 0, 0, .inl rfl, fun i hi => by simp at hi⟩
  · simp [Value.cells] at hcs
    obtain ⟨rfl, rfl, rfl⟩ := hcs
    have hmc : m = cap := by simpa using hmm
    have key : ∀ i, i < len → ∃ b : Bool, W.cell? (x.add i) = some (.bool b) := fun i hi => by
      obtain ⟨cs, hcs, ht⟩ := hel i (by omega)
      rw [hcz] at hcs
      obtain ⟨b, hb, _⟩ := DataW.trod_bool Try.underlying4 ht
      subst hb
      have hc := (World.cells?_some hcs).2.2 0 (by omega)
      simp only [List.getElem?_cons_zero, Nat.mul_one] at hc
      have ex : (x.add i).add 0 = x.add i := by simp [Addr.add]
      rw [ex] at hc
      exact ⟨b, hc⟩
    have hd := (Prod.mk.inj hx).1
    have hb : Try.prog.bytesOf 4 = 1 := by kernel_rfl
    have hu : Try.prog.underlying 58 = some (.slice 4) := Try.underlying58
    have hlen : len ≤ 140737488355328 := by
      subst hd
      have hr := hz ((((List.range len).map D).length + ((List.range (m - len)).map fun j => D (len + j)).length) * Try.prog.bytesOf 4) (by simp [DataW.weights, hu])
      rw [hb] at hr
      simp [reachBytes] at hr
      omega
    by_cases h0 : len = 0
    · exact ⟨[], by simp [h0], hlen, 0, 0, .inl rfl, fun i hi => by simp at hi⟩
    · obtain ⟨b, off, spot⟩ := x
      have hspot : spot = none := by
        obtain ⟨p, hp⟩ := key 0 (by omega)
        simpa [Addr.add] using World.cell?_spot hp
      subst hspot
      have hadd : ∀ i, (⟨b, off, none⟩ : Addr).add i = ⟨b, off + i, none⟩ := fun i => by unfold Addr.add; split <;> simp_all
      refine ⟨(List.range len).map fun i => if h : i < len then (key i h).choose else false, by simp, hlen, b, off, .inr rfl, fun i hi => ?_⟩
      have hi' : i < len := by simpa using hi
      have hs := (key i hi').choose_spec
      generalize hge : (key i hi').choose = e at hs
      rw [hadd] at hs
      exact ⟨World.block_lt_of_cell? W _ hs, by rw [hs]; simp [hi', hge]⟩

/-- EDGES THAT CAME IN. -/
theorem edges_of {H : Type} {enc : TypeId × Value → H} {W : World} {v : Value} {y : DataW H × List MemPlace} {fuel : Nat}
    (hf : DataW.trod enc Try.prog W 0 (fun _ => true) true fuel 22 [v] = some y) (hz : ∀ el sp, y.1 = .slice el sp → (el.length + sp.length) * Try.prog.bytesOf 50 ≤ reachBytes) : ∃ a len cap es, v = .slice a len cap ∧ NetAt W.heap.size W a len es ∧ Wide es := by
  have hcz : Try.prog.cellsOf 50 = 3 := by kernel_rfl
  rcases Deep.open_slice Try.underlying22 hf with ⟨hcs, _⟩ | ⟨x, l, c, m, n, D, Pl, hcs, _, hl, hm, hmm, hx, hel⟩
  · simp at hcs
    exact ⟨none, 0, 0, [], hcs, ⟨rfl, by omega, 0, 0, .inl rfl, fun i hi => by simp at hi⟩, by simp [Wide]⟩
  · simp at hcs
    have hd : y.1 = _ := congrArg Prod.fst hx
    have hb : Try.prog.bytesOf 50 = 24 := by kernel_rfl
    have hr := hz _ _ hd
    rw [hb] at hr
    have hr' : l * 24 ≤ 140737488351232 := by
      simp [reachBytes] at hr
      omega
    have hmc : m = c := by simpa using hmm
    have key : ∀ i, i < l → ∃ e : E, (I64 e.1 ∧ I64 e.2.1 ∧ I64 e.2.2) ∧ W.cell? (x.add (i * 3)) = some (.int .i64 e.1) ∧ W.cell? ((x.add (i * 3)).add 1) = some (.int .i64 e.2.1) ∧ W.cell? ((x.add (i * 3)).add 2) = some (.int .i64 e.2.2) := fun i hi => by
      obtain ⟨cs, hcs, ht⟩ := hel i (by omega)
      rw [hcz] at hcs
      obtain ⟨y0, y1, y2, k, _, hlen, h0, h1, h2⟩ := Deep.trod_struct3 Try.underlying50 ht
      have hcs2 : cs.length = 3 := by rw [hlen, hcz]
      match cs, hcs2 with
      | [c0, c1, c2], _ =>
        have e0 : Try.prog.cellsOf 3 = 1 := by kernel_rfl
        simp [e0] at h0 h1 h2
        obtain ⟨p, hp, _, wp⟩ := DataW.trod_int Try.underlying3 h0
        obtain ⟨q, hq, _, wq⟩ := DataW.trod_int Try.underlying3 h1
        obtain ⟨r, hr, _, wr⟩ := DataW.trod_int Try.underlying3 h2
        simp at hp hq hr
        subst hp hq hr
        have hc := World.cells?_some hcs
        have g0 := hc.2.2 0 (by omega)
        have g1 := hc.2.2 1 (by omega)
        have g2 := hc.2.2 2 (by omega)
        simp only [List.getElem?_cons_zero, List.getElem?_cons_succ] at g0 g1 g2
        have ex : (x.add (i * 3)).add 0 = x.add (i * 3) := by simp [Addr.add]
        rw [ex] at g0
        exact ⟨(p, q, r), ⟨in_of_wf wp, in_of_wf wq, in_of_wf wr⟩, g0, g1, g2⟩
    by_cases h0 : l = 0
    · exact ⟨some x, l, c, [], hcs, ⟨by simp [h0], by omega, 0, 0, .inl rfl, fun i hi => by simp at hi⟩, by simp [Wide]⟩
    · obtain ⟨b, off, spot⟩ := x
      have hspot : spot = none := by
        obtain ⟨p, _, hp, _⟩ := key 0 (by omega)
        simpa [Addr.add] using World.cell?_spot hp
      subst hspot
      have hadd : ∀ i, (⟨b, off, none⟩ : Addr).add i = ⟨b, off + i, none⟩ := fun i => by unfold Addr.add; split <;> simp_all
      have hadd1 : ∀ i, (⟨b, off + i * 3, none⟩ : Addr).add 1 = ⟨b, off + i * 3 + 1, none⟩ := fun i => by unfold Addr.add; simp
      have hadd2 : ∀ i, (⟨b, off + i * 3, none⟩ : Addr).add 2 = ⟨b, off + i * 3 + 2, none⟩ := fun i => by unfold Addr.add; simp
      refine ⟨_, l, c, (List.range l).map fun i => if h : i < l then (key i h).choose else (0, 0, 0), hcs, ⟨by simp, by omega, b, off, .inr rfl, fun i hi => ?_⟩, fun e he => ?_⟩
      · have hi' : i < l := by simpa using hi
        have hs := (key i hi').choose_spec
        generalize hge : (key i hi').choose = e at hs
        rw [hadd, hadd1, hadd2] at hs
        simp only [List.getElem_map, List.getElem_range, dif_pos hi', hge]
        exact ⟨World.block_lt_of_cell? W _ hs.2.1, hs.2⟩
      · obtain ⟨i, hi, rfl⟩ := List.mem_map.1 he
        have hi' : i < l := by simpa using hi
        simp only [dif_pos hi']
        exact (key i hi').choose_spec.1

/-- A NETWORK THAT CAME IN. -/
theorem net_of {H : Type} {enc : TypeId × Value → H} {W : World} {r : Reach} {b0 : Nat} {v : Value} {d : DataW H} {ps : List MemPlace} (hv : Value.okWide Try.prog W r b0 24 v)
    (h : DataW.Trod enc Try.prog W 0 (fun _ => true) true 24 v d ps) (hz : ∀ n ∈ d.weights Try.prog 24, n ≤ reachBytes) : ∃ n a len cap es, v = netV n a len cap ∧ I64 n ∧ NetAt W.heap.size W a len es ∧ Wide es := by
  obtain ⟨v0, v1, y0, y1, k, rfl, rfl, _, h0, h1⟩ := open_agg2 Try.underlying24 (by kernel_rfl) (by kernel_rfl) hv h
  obtain ⟨p, hp, _, wp⟩ := DataW.trod_int Try.underlying3 h0
  simp at hp
  subst hp
  have hu : Try.prog.underlying 22 = some (.slice 50) := Try.underlying22
  have hun := Try.underlying24
  obtain ⟨a, len, cap, es, rfl, hE, hW⟩ := edges_of h1 (fun el sp he => hz _ (by
    simp only [DataW.weights, hun, he]
    simp [DataW.weightsEach, DataW.weights, hu]))
  exact ⟨p, a, len, cap, es, rfl, in_of_wf wp, hE, hW⟩

/-- AN EDGE THAT CAME IN. -/
theorem edge_of {H : Type} {enc : TypeId × Value → H} {W : World} {r : Reach} {b0 : Nat} {v : Value} {d : DataW H} {ps : List MemPlace} (hv : Value.okWide Try.prog W r b0 50 v)
    (h : DataW.Trod enc Try.prog W 0 (fun _ => true) true 50 v d ps) : ∃ e : E, v = edgeV e ∧ I64 e.1 ∧ I64 e.2.1 ∧ I64 e.2.2 := by
  obtain ⟨v0, v1, v2, y0, y1, y2, k, rfl, rfl, _, h0, h1, h2⟩ := open_agg3 Try.underlying50 (by kernel_rfl) (by kernel_rfl) hv h
  obtain ⟨p, hp, _, wp⟩ := DataW.trod_int Try.underlying3 h0
  obtain ⟨q, hq, _, wq⟩ := DataW.trod_int Try.underlying3 h1
  obtain ⟨s, hs, _, ws⟩ := DataW.trod_int Try.underlying3 h2
  simp at hp hq hs
  subst hp hq hs
  exact ⟨(p, q, s), rfl, in_of_wf wp, in_of_wf wq, in_of_wf ws⟩
end Go.Proofs.Ythchlfoebkachaa
