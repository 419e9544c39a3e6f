/-
  Ways, lists of ways and lists of lists of numbers that came in.
-/
import Derived.Test.YthchlfoebkachaaOpen
import Derived.Test.YthchlfoebkachaaWaysm
namespace Go.Proofs.Ythchlfoebkachaa
open Go.ChangeShapes Go.WideShapes Go.ChangeAt Go.RowKit Go.Joins Gm

theorem weights_all {H : Type} (P : Program) (e : TypeId) : ∀ (l : List (DataW H)) (d : DataW H), d ∈ l → ∀ n ∈ d.weights P e, n ∈ DataW.weightsAll P e l
  | [], _, h, _, _ => by simp at h
  | x :: l, d, h, n, hn => by
    simp only [DataW.weightsAll, List.mem_append]
    rcases List.mem_cons.1 h with rfl | h
    · exact .inl hn
    · exact .inr (weights_all P e l d h n hn)

theorem intcell_of {H : Type} {enc : TypeId × Value → H} {W : World} {v : Value} {y : DataW H × List MemPlace} {fuel : Nat}
    (hf : DataW.trod enc Try.prog W 0 (fun _ => true) true fuel 25 [v] = some y) (hz : ∀ n ∈ y.1.weights Try.prog 25, n ≤ reachBytes) : ∃ a len cap z, v = .slice a len cap ∧ FlowAt W.heap.size W a len z ∧ ∀ x ∈ z, I64 x := by
  have hv : ∃ a len cap, v = .slice a len cap := by
    rcases open_ints Try.underlying25 Try.underlying3 (by kernel_rfl) hf with ⟨hcs, _⟩ | ⟨x, l, c, zs, hcs, _⟩
    · exact ⟨_, _, _, by simpa using hcs⟩
    · exact ⟨_, _, _, by simpa using hcs⟩
  obtain ⟨a, len, cap, rfl⟩ := hv
  obtain ⟨z, hz1, hz2⟩ := ints_of (d := y.1) (ps := y.2) (a := a) (len := len) (cap := cap) ⟨fuel, by simpa [Value.cells] using hf⟩ hz
  exact ⟨a, len, cap, z, rfl, hz1, hz2⟩

theorem waycells_of {H : Type} {enc : TypeId × Value → H} {W : World} {cs : List Value} {y : DataW H × List MemPlace} {fuel : Nat}
    (hf : DataW.trod enc Try.prog W 0 (fun _ => true) true fuel 44 cs = some y) (hl : cs.length = 2) (hz : ∀ n ∈ y.1.weights Try.prog 44, n ≤ reachBytes) : ∃ ea el ec, ∃ p : WayE, cs = [.slice ea el ec, .int .i64 p.2] ∧ FlowAt W.heap.size W ea el p.1 := by
  obtain ⟨y0, y1, k, rfl, _, h0, h1⟩ := trod_struct2 Try.underlying44 hf
  match cs, hl with
  | [c0, c1], _ =>
    have e0 : Try.prog.cellsOf 3 = 1 := by kernel_rfl
    have e1 : Try.prog.cellsOf 25 = 1 := by kernel_rfl
    simp [e0, e1] at h0 h1
    obtain ⟨q, hq, _, _⟩ := DataW.trod_int Try.underlying3 h1
    simp at hq
    subst hq
    have hun := Try.underlying44
    obtain ⟨a, len, cap, z, rfl, hF, _⟩ := intcell_of h0 (fun n hn => hz n (by
      simp only [DataW.weights, hun]
      simp only [DataW.weightsEach, List.map_cons, List.mem_append]
      exact .inl hn))
    exact ⟨a, len, cap, (z, q), rfl, hF⟩

theorem ways_of {H : Type} {enc : TypeId × Value → H} {W : World} {v : Value} {y : DataW H × List MemPlace} {fuel : Nat}
    (hf : DataW.trod enc Try.prog W 0 (fun _ => true) true fuel 42 [v] = some y) (hz : ∀ n ∈ y.1.weights Try.prog 42, n ≤ reachBytes) : ∃ a len cap ws, v = .slice a len cap ∧ WaysAt W.heap.size W a len ws := by
  have hcz : Try.prog.cellsOf 44 = 2 := by kernel_rfl
  have hu : Try.prog.underlying 42 = some (.slice 44) := Try.underlying42
  rcases Deep.open_slice Try.underlying42 hf with ⟨hcs, _⟩ | ⟨x, l, c, m, n, D, Pl, hcs, _, hl, hm, hmm, hx, hel⟩
  · exact ⟨none, 0, 0, [], by simpa using hcs, rfl, by omega, 0, 0, .inl rfl, fun i hi => by simp at hi⟩
  · have hd : y.1 = _ := congrArg Prod.fst hx
    have hb : Try.prog.bytesOf 44 = 32 := by kernel_rfl
    have hmc : m = c := by simpa using hmm
    rw [hd] at hz
    have hr := hz ((((List.range l).map D).length + ((List.range (m - l)).map fun j => D (l + j)).length) * Try.prog.bytesOf 44) (by simp [DataW.weights, hu])
    rw [hb] at hr
    have hr' : l * 32 ≤ 140737488351232 := by
      simp [reachBytes] at hr
      omega
    have key : ∀ i, i < l → ∃ p : WayE, ∃ ea el ec, W.cell? (x.add (i * 2)) = some (.slice ea el ec) ∧ FlowAt W.heap.size W ea el p.1 ∧ W.cell? ((x.add (i * 2)).add 1) = some (.int .i64 p.2) := fun i hi => by
      obtain ⟨cs, hcs, ht⟩ := hel i (by omega)
      rw [hcz] at hcs
      have hlen := (World.cells?_some hcs).2.1
      obtain ⟨ea, el, ec, p, rfl, hF⟩ := waycells_of ht (by omega) (fun k hk => hz k (by
        simp only [DataW.weights, hu, List.mem_cons, List.mem_append]
        exact .inr (.inl (weights_all _ _ _ _ (List.mem_map_of_mem (List.mem_range.2 hi)) _ hk))))
      have hc := World.cells?_some hcs
      have g0 := hc.2.2 0 (by omega)
      have g1 := hc.2.2 1 (by omega)
      simp only [List.getElem?_cons_zero, List.getElem?_cons_succ] at g0 g1
      have ex : (x.add (i * 2)).add 0 = x.add (i * 2) := by simp [Addr.add]
      rw [ex] at g0
      exact ⟨p, ea, el, ec, g0, hF, g1⟩
    by_cases h0 : l = 0
    · exact ⟨some x, l, c, [], by simpa using hcs, by simp [h0], by omega, 0, 0, .inl rfl, fun i hi => by simp at hi⟩
    · obtain ⟨b, off, spot⟩ := x
      have hspot : spot = none := by
        obtain ⟨p, ea, el, ec, hp, _⟩ := key 0 (by omega)
        simpa [Addr.add] using World.cell?_spot hp
      subst hspot
      have hadd : ∀ i, (⟨b, off, none⟩ : Addr).add i = ⟨b, off + i, none⟩ := fun i => by unfold Addr.add; split <;> simp_all
      have hadd1 : ∀ i, (⟨b, off + i * 2, none⟩ : Addr).add 1 = ⟨b, off + i * 2 + 1, none⟩ := fun i => by unfold Addr.add; simp
      refine ⟨_, l, c, (List.range l).map fun i => if h : i < l then (key i h).choose else ([], 0), by simpa using hcs, by simp, by omega, b, off, .inr rfl, fun i hi => ?_⟩
      have hi' : i < l := by simpa using hi
      have hs := (key i hi').choose_spec
      generalize hge : (key i hi').choose = p at hs
      rw [hadd, hadd1] at hs
      obtain ⟨ea, el, ec, q0, q1, q2⟩ := hs
      simp only [List.getElem_map, List.getElem_range, dif_pos hi', hge]
      exact ⟨World.block_lt_of_cell? W _ q0, ea, el, ec, q0, q1, q2⟩

/-- LISTS OF WAYS THAT CAME IN. -/
theorem wayss_of {H : Type} {enc : TypeId × Value → H} {W : World} {a : Option Addr} {len cap : Nat} {d : DataW H} {ps : List MemPlace}
    (h : DataW.Trod enc Try.prog W 0 (fun _ => true) true 26 (.slice a len cap) d ps) (hz : ∀ n ∈ d.weights Try.prog 26, n ≤ reachBytes) : ∃ wss, WayssAt W.heap.size W a len wss := by
  obtain ⟨fuel, hf⟩ := h
  have hu : Try.prog.underlying 26 = some (.slice 42) := Try.underlying26
  rcases Deep.open_slice1 Try.underlying26 (by kernel_rfl) hf with ⟨hcs, _⟩ | ⟨x, l, c, m, n, V, D, Pl, hcs, _, hl, hm, hmm, hx, hel⟩
  · simp [Value.cells] at hcs
    obtain ⟨rfl, rfl, rfl⟩ := hcs
    exact ⟨[], rfl, 0, 0, .inl rfl, fun i hi => by simp at hi⟩
  · simp [Value.cells] at hcs
    obtain ⟨rfl, rfl, rfl⟩ := hcs
    have hd : d = _ := congrArg Prod.fst hx
    have hmc : m = cap := by simpa using hmm
    rw [hd] at hz
    have key : ∀ i, i < len → ∃ ws, ∃ wa wl wc, W.cell? (x.add i) = some (.slice wa wl wc) ∧ WaysAt W.heap.size W wa wl ws := fun i hi => by
      obtain ⟨hc, ht⟩ := hel i (by omega)
      obtain ⟨wa, wl, wc, ws, hv, hw⟩ := ways_of ht (fun k hk => hz k (by
        simp only [DataW.weights, hu, List.mem_cons, List.mem_append]
        exact .inr (.inl (weights_all _ _ _ _ (List.mem_map_of_mem (List.mem_range.2 hi)) _ hk))))
      rw [hv] at hc
      exact ⟨ws, wa, wl, wc, hc, hw⟩
    by_cases h0 : len = 0
    · exact ⟨[], by simp [h0], 0, 0, .inl rfl, fun i hi => by simp at hi⟩
    · obtain ⟨b, off, spot⟩ := x
      have hspot : spot = none := by
        obtain ⟨ws, wa, wl, wc, hp, _⟩ := key 0 (by omega)
        simpa [Addr.add] using World.cell?_spot hp
      subst hspot
      have hadd : ∀ i, (⟨b, off, none⟩ : Addr).add i = ⟨b, off + i, none⟩ := fun i => by unfold Addr.add; split <;> simp_all
      refine ⟨(List.range len).map fun i => if h : i < len then (key i h).choose else [], by simp, b, off, .inr rfl, fun i hi => ?_⟩
      have hi' : i < len := by simpa using hi
      have hs := (key i hi').choose_spec
      generalize hge : (key i hi').choose = p at hs
      rw [hadd] at hs
      obtain ⟨wa, wl, wc, q0, q1⟩ := hs
      simp only [List.getElem_map, List.getElem_range, dif_pos hi', hge]
      exact ⟨World.block_lt_of_cell? W _ q0, wa, wl, wc, q0, q1⟩

/-- THE SLICE AT a HOLDS LISTS OF NUMBERS. -/
def IntssAt (B : Nat) (W : World) (a : Option Addr) (len : Nat) (zss : List (List Int)) : Prop :=
  zss.length = len ∧ len ≤ 17592186044416 ∧ ∃ b off, (zss.length = 0 ∨ a = some ⟨b, off, none⟩) ∧ ∀ i (h : i < zss.length), b < B ∧ (∃ za zl zc, W.cell? ⟨b, off + i, none⟩ = some (.slice za zl zc) ∧ FlowAt B W za zl zss[i]) ∧ ∀ x ∈ zss[i], I64 x
theorem IntssAt.below {B : Nat} {W W' : World} {a : Option Addr} {len : Nat} {zss : List (List Int)} (h : IntssAt B W a len zss) (hb : Below B W W') : IntssAt B W' a len zss := by
  obtain ⟨hl, hm, b, off, h0, h1⟩ := h
  refine ⟨hl, hm, b, off, h0, fun i hi => ?_⟩
  obtain ⟨hl, ⟨wa, wl, wc, c0, hf⟩, hx⟩ := h1 i hi
  exact ⟨hl, ⟨wa, wl, wc, (hb.cell (p := ⟨b, off + i, none⟩) hl).trans c0, hf.below hb⟩, hx⟩
theorem IntssAt.more {B B' : Nat} {W : World} {a : Option Addr} {len : Nat} {zss : List (List Int)} (h : IntssAt B W a len zss) (hb : B ≤ B') : IntssAt B' W a len zss := by
  obtain ⟨hl, hm, b, off, h0, h1⟩ := h
  refine ⟨hl, hm, b, off, h0, fun i hi => ?_⟩
  obtain ⟨hl, ⟨wa, wl, wc, c0, hf⟩, hx⟩ := h1 i hi
  exact ⟨Nat.lt_of_lt_of_le hl hb, ⟨wa, wl, wc, c0, hf.more hb⟩, hx⟩
/-- LISTS OF NUMBERS THAT CAME IN. -/
theorem intss_of {H : Type} {enc : TypeId × Value → H} {W : World} {a : Option Addr} {len cap : Nat} {d : DataW H} {ps : List MemPlace}
    (h : DataW.Trod enc Try.prog W 0 (fun _ => true) true 33 (.slice a len cap) d ps) (hz : ∀ n ∈ d.weights Try.prog 33, n ≤ reachBytes) : ∃ zss, IntssAt W.heap.size W a len zss := by
  obtain ⟨fuel, hf⟩ := h
  have hu : Try.prog.underlying 33 = some (.slice 25) := Try.underlying33
  rcases Deep.open_slice1 Try.underlying33 (by kernel_rfl) hf with ⟨hcs, _⟩ | ⟨x, l, c, m, n, V, D, Pl, hcs, _, hl, hm, hmm, hx, hel⟩
  · simp [Value.cells] at hcs
    obtain ⟨rfl, rfl, rfl⟩ := hcs
    exact ⟨[], rfl, by omega, 0, 0, .inl rfl, fun i hi => by simp at hi⟩
  · simp [Value.cells] at hcs
    obtain ⟨rfl, rfl, rfl⟩ := hcs
    have hd : d = _ := congrArg Prod.fst hx
    have hmc : m = cap := by simpa using hmm
    have hb : Try.prog.bytesOf 25 = 24 := by kernel_rfl
    rw [hd] at hz
    have hr := hz ((((List.range len).map D).length + ((List.range (m - len)).map fun j => D (len + j)).length) * Try.prog.bytesOf 25) (by simp [DataW.weights, hu])
    rw [hb] at hr
    have hr' : len * 24 ≤ 140737488351232 := by
      simp [reachBytes] at hr
      omega
    have key : ∀ i, i < len → ∃ z : List Int, (∃ wa wl wc, W.cell? (x.add i) = some (.slice wa wl wc) ∧ FlowAt W.heap.size W wa wl z) ∧ ∀ x ∈ z, I64 x := fun i hi => by
      obtain ⟨hc, ht⟩ := hel i (by omega)
      obtain ⟨wa, wl, wc, z, hv, hw, hx⟩ := intcell_of ht (fun k hk => hz k (by
        simp only [DataW.weights, hu, List.mem_cons, List.mem_append]
        exact .inr (.inl (weights_all _ _ _ _ (List.mem_map_of_mem (List.mem_range.2 hi)) _ hk))))
      rw [hv] at hc
      exact ⟨z, ⟨wa, wl, wc, hc, hw⟩, hx⟩
    by_cases h0 : len = 0
    · exact ⟨[], by simp [h0], by omega, 0, 0, .inl rfl, fun i hi => by simp at hi⟩
    · obtain ⟨b, off, spot⟩ := x
      have hspot : spot = none := by
        obtain ⟨ws, ⟨wa, wl, wc, hp, _⟩, _⟩ := key 0 (by omega)
        simpa [Addr.add] using World.cell?_spot hp
      subst hspot
      have hadd : ∀ i, (⟨b, off, none⟩ : Addr).add i = ⟨b, off + i, none⟩ := fun i => by unfold Addr.add; split <;> simp_all
      refine ⟨(List.range len).map fun i => if h : i < len then (key i h).choose else [], by simp, by omega, b, off, .inr rfl, fun i hi => ?_⟩
      have hi' : i < len := by simpa using hi
      have hs := (key i hi').choose_spec
      generalize hge : (key i hi').choose = p at hs
      rw [hadd] at hs
      obtain ⟨⟨wa, wl, wc, q0, q1⟩, q2⟩ := hs
      simp only [List.getElem_map, List.getElem_range, dif_pos hi', hge]
      exact ⟨World.block_lt_of_cell? W _ q0, ⟨wa, wl, wc, q0, q1⟩, q2⟩
theorem ints_cap {H : Type} {enc : TypeId × Value → H} {W : World} {a : Option Addr} {len cap : Nat} {d : DataW H} {ps : List MemPlace}
    (h : DataW.Trod enc Try.prog W 0 (fun _ => true) true 25 (.slice a len cap) d ps) : len ≤ cap := by
  obtain ⟨fuel, hf⟩ := h
  rcases open_ints Try.underlying25 Try.underlying3 (by kernel_rfl) hf with ⟨hcs, _⟩ | ⟨x, l, c, zs, hcs, _, hl, _⟩
  · simp [Value.cells] at hcs
    obtain ⟨rfl, rfl, rfl⟩ := hcs
    exact Nat.le_refl _
  · simp [Value.cells] at hcs
    obtain ⟨rfl, rfl, rfl⟩ := hcs
    exact hl
end Go.Proofs.Ythchlfoebkachaa
