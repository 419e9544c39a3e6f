/-
  Arguments that are slices: what the walks are told of them.
-/
import Derived.SliceStrings
import Derived.Deep.Slices
import Derived.Test.YtdnlpjmjhlmjgaaFrame
namespace Go.Proofs.Ytdnlpjmjhlmjgaa
open Go.ChangeShapes Go.WideShapes Go.ChangeAt Go.RowKit

/-- A SLICE OF NUMBERS THAT CAME IN: its elements are z; each fits; where there is one, the slice begins at a known place, which lies below the heap's size. -/
def IntsAt (W : World) (a : Option Addr) (len cap : Nat) (z : List Int) : Prop :=
  z.length = len ∧ len ≤ cap ∧ len ≤ 140737488351232 ∧ (∀ x ∈ z, Vm.In x) ∧ ∃ b off, (len = 0 ∨ a = some ⟨b, off, none⟩) ∧ ∀ i, i < len → b < W.heap.size ∧ W.cell? ⟨b, off + i, none⟩ = some (.int .i64 (z[i]?.getD 0))

theorem ints_of {H : Type} {enc : TypeId × Value → H} {W : World} {a : Option Addr} {len cap : Nat} {d : DataW H} {ps : List MemPlace}
    (h : DataW.Trod enc Try.prog W 0 (fun _ => true) true 35 (.slice a len cap) d ps) (_hlt : ∀ x ∈ ps, x.block < W.heap.size)
    (hz : ∀ el sp, d = .slice el sp → (el.length + sp.length) * Try.prog.bytesOf 3 ≤ reachBytes) : ∃ z, IntsAt W a len cap z := by
  obtain ⟨fuel, hf⟩ := h
  rcases open_ints Try.underlying35 Try.underlying3 (by kernel_rfl) hf with ⟨hcs, _⟩ | ⟨x, l, c, zs, hcs, _, hl, hm, hzl, hx, hcell, hwz⟩
  · simp [Value.cells] at hcs
    obtain ⟨rfl, rfl, rfl⟩ := hcs
    exact ⟨[], rfl, Nat.le_refl _, by omega, by simp, 0, 0, .inl rfl, fun i hi => by omega⟩
  · simp [Value.cells] at hcs
    obtain ⟨rfl, rfl, rfl⟩ := hcs
    have hzl' : zs.length = cap := by simpa using hzl
    have hd : d = .slice (lits .i64 (zs.take len)) (lits .i64 (zs.drop len)) := (Prod.mk.inj hx).1
    have hb : Try.prog.bytesOf 3 = 8 := by kernel_rfl
    have hr := hz _ _ hd
    rw [hb] at hr
    have hr' : cap * 8 ≤ 140737488351232 := by
      simp [reachBytes, lits, List.length_take, List.length_drop, hzl'] at hr
      omega
    refine ⟨zs.take len, by rw [List.length_take]; omega, hl, by omega, fun y hy => in_of_wf (hwz y (List.mem_of_mem_take hy)), ?_⟩
    by_cases h0 : len = 0
    · exact ⟨0, 0, .inl h0, fun i hi => by omega⟩
    · obtain ⟨b, off, spot⟩ := x
      have hc := hcell 0 (by omega)
      have hspot : spot = none := by simpa [Addr.add] using World.cell?_spot hc
      subst hspot
      refine ⟨b, off, .inr rfl, fun i hi => ⟨World.block_lt_of_cell? W _ hc, ?_⟩⟩
      have hi2 := hcell i (by omega)
      have hp : (⟨b, off, none⟩ : Addr).add i = ⟨b, off + i, none⟩ := by unfold Addr.add; split <;> simp_all
      rw [hp] at hi2
      rw [hi2, List.getElem?_take_of_lt hi, List.getD_eq_getElem?_getD]

theorem weights_at {H : Type} {ts : List TypeId} {ds : List (DataW H)} (h : (DataW.weightsEach Try.prog ts ds).all (· ≤ reachBytes) = true) {j : Nat} {t : TypeId} {d : DataW H} (ht : ts[j]? = some t) (hd : ds[j]? = some d) :
    ∀ n ∈ d.weights Try.prog t, n ≤ reachBytes := fun n hn => by
  have := List.all_eq_true.1 h _ (DataW.weights_mem_each ht hd n hn)
  simpa using this
theorem weights_all {H : Type} (P : Program) (e : TypeId) : ∀ (l : List (DataW H)) (d : DataW H), d ∈ l → ∀ n ∈ d.weights P e, n ∈ DataW.weightsAll P e l
  | [], _, h, _, _ => by simp at h
  | x :: l, d, h, n, hn => by
    simp only [DataW.weightsAll, List.mem_append]
    rcases List.mem_cons.1 h with rfl | h
    · exact .inl hn
    · exact .inr (weights_all P e l d h n hn)

/-- A SLICE OF TEXTS THAT CAME IN. -/
def StrsAt (W : World) (a : Option Addr) (len : Nat) (z : List ByteArray) : Prop :=
  z.length = len ∧ len ≤ 140737488351232 ∧ (∀ x ∈ z, x.size ≤ 140737488351232) ∧ ∃ b off, (len = 0 ∨ a = some ⟨b, off, none⟩) ∧ ∀ i, i < len → b < W.heap.size ∧ W.cell? ⟨b, off + i, none⟩ = some (.string (z[i]?.getD ByteArray.empty))

theorem strs_of {H : Type} {enc : TypeId × Value → H} {W : World} {a : Option Addr} {len cap : Nat} {d : DataW H} {ps : List MemPlace}
    (h : DataW.Trod enc Try.prog W 0 (fun _ => true) true 36 (.slice a len cap) d ps) (_hlt : ∀ x ∈ ps, x.block < W.heap.size)
    (hz : ∀ n ∈ d.weights Try.prog 36, n ≤ reachBytes) : ∃ z, StrsAt W a len z := by
  obtain ⟨fuel, hf⟩ := h
  rcases open_strings Try.underlying36 Try.underlying9 (by kernel_rfl) hf with ⟨hcs, _⟩ | ⟨x, l, c, ss, hcs, _, hl, hm, hzl, hx, hcell, hws⟩
  · simp [Value.cells] at hcs
    obtain ⟨rfl, rfl, rfl⟩ := hcs
    exact ⟨[], rfl, by omega, by simp, 0, 0, .inl rfl, fun i hi => by omega⟩
  · simp [Value.cells] at hcs
    obtain ⟨rfl, rfl, rfl⟩ := hcs
    have hzl' : ss.length = cap := by simpa using hzl
    have hd : d = .slice (strs (ss.take len)) (strs (ss.drop len)) := (Prod.mk.inj hx).1
    have hb : Try.prog.bytesOf 9 = 16 := by kernel_rfl
    subst hd
    have hu : Try.prog.underlying 36 = some (.slice 9) := Try.underlying36
    have hr := hz (((strs (H := H) (ss.take len)).length + (strs (H := H) (ss.drop len)).length) * Try.prog.bytesOf 9) (by simp [DataW.weights, hu])
    rw [hb] at hr
    have hr' : cap * 16 ≤ 140737488351232 := by
      simp [reachBytes, strs, hzl'] at hr
      omega
    have hel : ∀ y ∈ ss.take len, y.size ≤ 140737488351232 := fun y hy => by
      have hmem : (DataW.lit (.string y.data.toList) : DataW H) ∈ strs (ss.take len) := List.mem_map_of_mem hy
      have := hz y.data.toList.length (by
        simp only [DataW.weights, hu, List.mem_cons, List.mem_append]
        exact .inr (.inl (weights_all _ _ _ _ hmem _ (by simp [DataW.weights]))))
      rw [Lib.size_eq]; simpa [reachBytes] using this
    refine ⟨ss.take len, by rw [List.length_take]; omega, by omega, hel, ?_⟩
    by_cases h0 : len = 0
    · exact ⟨0, 0, .inl h0, fun i hi => by omega⟩
    · obtain ⟨b, off, spot⟩ := x
      have hc := hcell 0 (by omega)
      have hspot : spot = none := by simpa [Addr.add] using World.cell?_spot hc
      subst hspot
      refine ⟨b, off, .inr rfl, fun i hi => ⟨World.block_lt_of_cell? W _ hc, ?_⟩⟩
      have hi2 := hcell i (by omega)
      have hp : (⟨b, off, none⟩ : Addr).add i = ⟨b, off + i, none⟩ := by unfold Addr.add; split <;> simp_all
      rw [hp] at hi2
      rw [hi2, List.getElem?_take_of_lt hi, List.getD_eq_getElem?_getD]

/-- A SLICE OF PAIRS OF NUMBERS THAT CAME IN. -/
def TakesAt (W : World) (a : Option Addr) (len : Nat) (z : Nat → Int × Int) : Prop :=
  len ≤ 140737488351232 ∧ ∃ b off, (len = 0 ∨ a = some ⟨b, off, none⟩) ∧ ∀ i, i < len → b < W.heap.size ∧ Vm.In (z i).1 ∧ Vm.In (z i).2 ∧ W.cell? ⟨b, off + i * 2, none⟩ = some (.int .i64 (z i).1) ∧ W.cell? ⟨b, off + i * 2 + 1, none⟩ = some (.int .i64 (z i).2)

theorem takes_of {H : Type} {enc : TypeId × Value → H} {W : World} {a : Option Addr} {len cap : Nat} {d : DataW H} {ps : List MemPlace}
    (h : DataW.Trod enc Try.prog W 0 (fun _ => true) true 26 (.slice a len cap) d ps) (_hlt : ∀ x ∈ ps, x.block < W.heap.size)
    (hz : ∀ el sp, d = .slice el sp → (el.length + sp.length) * Try.prog.bytesOf 32 ≤ reachBytes) : ∃ z, TakesAt W a len z := by
  obtain ⟨fuel, hf⟩ := h
  have hcz : Try.prog.cellsOf 32 = 2 := by kernel_rfl
  rcases Deep.open_slice Try.underlying26 hf with ⟨hcs, _⟩ | ⟨x, l, c, m, n, D, Pl, hcs, _, hl, hm, hmm, hx, hel⟩
  · simp [Value.cells] at hcs
    obtain ⟨rfl, rfl, rfl⟩ := hcs
    exact ⟨fun _ => (0, 0), by omega, 0, 0, .inl rfl, fun i hi => by omega⟩
  · simp [Value.cells] at hcs
    obtain ⟨rfl, rfl, rfl⟩ := hcs
    have hd := (Prod.mk.inj hx).1
    have hb : Try.prog.bytesOf 32 = 16 := by kernel_rfl
    have hr := hz _ _ hd
    rw [hb] at hr
    have hr' : len * 16 ≤ 140737488351232 := by
      simp [reachBytes] at hr
      omega
    have hmc : m = cap := by simpa using hmm
    have key : ∀ i, i < len → ∃ p q : Int, Vm.In p ∧ Vm.In q ∧ W.cell? (x.add (i * 2)) = some (.int .i64 p) ∧ W.cell? ((x.add (i * 2)).add 1) = some (.int .i64 q) := fun i hi => by
      obtain ⟨cs, hcs, ht⟩ := hel i (by omega)
      rw [hcz] at hcs
      obtain ⟨y0, y1, k, _, hlen, h0, h1⟩ := trod_struct2 Try.underlying32 ht
      have hcs2 : cs.length = 2 := by rw [hlen, hcz]
      match cs, hcs2 with
      | [c0, c1], _ =>
        have e0 : Try.prog.cellsOf 3 = 1 := by kernel_rfl
        simp [e0] at h0 h1
        obtain ⟨p, hp, _, wp⟩ := DataW.trod_int Try.underlying3 h0
        obtain ⟨q, hq, _, wq⟩ := DataW.trod_int Try.underlying3 h1
        simp at hp hq
        subst hp hq
        have hc := World.cells?_some hcs
        have g0 := hc.2.2 0 (by omega)
        have g1 := hc.2.2 1 (by omega)
        simp only [List.getElem?_cons_zero, List.getElem?_cons_succ] at g0 g1
        have ex : (x.add (i * 2)).add 0 = x.add (i * 2) := by simp [Addr.add]
        rw [ex] at g0
        exact ⟨p, q, in_of_wf wp, in_of_wf wq, g0, g1⟩
    by_cases h0 : len = 0
    · exact ⟨fun _ => (0, 0), by omega, 0, 0, .inl h0, fun i hi => by omega⟩
    · obtain ⟨b, off, spot⟩ := x
      have hspot : spot = none := by
        obtain ⟨p, q, _, _, hp, _⟩ := key 0 (by omega)
        simpa [Addr.add] using World.cell?_spot hp
      subst hspot
      have hadd : ∀ i, (⟨b, off, none⟩ : Addr).add i = ⟨b, off + i, none⟩ := fun i => by unfold Addr.add; split <;> simp_all
      have hadd2 : ∀ i, (⟨b, off + i * 2, none⟩ : Addr).add 1 = ⟨b, off + i * 2 + 1, none⟩ := fun i => by unfold Addr.add; simp
      refine ⟨fun i => if h : i < len then ((key i h).choose, (key i h).choose_spec.choose) else (0, 0), by omega, b, off, .inr rfl, fun i hi => ?_⟩
      have hs := (key i hi).choose_spec.choose_spec
      simp only [dif_pos hi]
      refine ⟨?_, hs.1, hs.2.1, ?_, ?_⟩
      · have h := World.block_lt_of_cell? W _ hs.2.2.1
        rw [hadd] at h; exact h
      · rw [← hadd]; exact hs.2.2.1
      · rw [← hadd2, ← hadd]; exact hs.2.2.2
end Go.Proofs.Ytdnlpjmjhlmjgaa
