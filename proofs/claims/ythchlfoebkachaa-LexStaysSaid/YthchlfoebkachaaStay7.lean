/-
  What LexStays keeps: what is left of a flow, and the ways taken out of it.
-/
import Derived.Test.YthchlfoebkachaaTaken7
import Derived.Test.YthchlfoebkachaaFirst7
namespace Go.Proofs.Ythchlfoebkachaa
open Go.RowKit Gm

theorem sub_mem {es : List E} {n : Nat} {m : Int} {l : List Int} (hr : right n es = true) (hw : isWayF n es 0 1 m (l, 1) = true) : (∀ i ∈ l, 0 ≤ i ∧ i < es.length) ∧ (l.map Int.toNat).Nodup := by
  simp only [isWayF, Bool.and_eq_true, decide_eq_true_eq] at hw
  obtain ⟨wk1, wk2, _, _, _⟩ := walkW_is (right_iff.1 hr).2.2.2 l 0 (Gm.start n 0) (by simp [Gm.start]) hw.2
  exact ⟨fun i hi => ⟨(wk1 i hi).1, (wk1 i hi).2.1⟩, wk2⟩
theorem lessF_at {es : List E} {n : Nat} {m : Int} {R l : List Int} (hr : right n es = true) (hl : R.length = es.length) (hw : isWayF n es 0 1 m (l, 1) = true) (e : Nat) : fa (lessF R l) e = fa R e - Gm.load e [(l, 1)] := by
  obtain ⟨h1, h2⟩ := sub_mem hr hw
  have hp := puts_at (-1) (legsW l) R e (fun p hp => by
    obtain ⟨i, hi, rfl⟩ := List.mem_map.1 (show p ∈ l.map (fun i => (i.toNat, true)) from hp)
    have := h1 i hi
    rw [hl]; dsimp only; omega) (by rw [legsW_map]; exact h2)
  unfold lessF
  simp only [Gm.load]
  by_cases hm : e ∈ l.map Int.toNat
  · rw [if_pos hm]
    obtain ⟨i, hi, rfl⟩ := List.mem_map.1 hm
    have h3 := hp.1 true (List.mem_map.2 ⟨i, hi, rfl⟩)
    rw [h3]
    simp [sgn]
    rfl
  · rw [if_neg hm]
    rw [hp.2 (by rw [legsW_map]; exact hm)]
    omega
theorem loads_snoc (wss : List (List WayE)) (ws : List WayE) (e : Nat) : loads (wss ++ [ws]) (wss.length + 1) e = loads wss wss.length e + Gm.load e ws := by
  unfold loads
  simp only [sumN]
  congr 1
  · refine sumN_congr _ _ _ fun i hi => ?_
    rw [List.getElem?_append_left hi]
  · rw [List.getElem?_append_right (Nat.le_refl _)]
    simp
/-- Ways of one unit of a source. -/
def OnesOk (n : Nat) (es : List E) (x : Int) (ws : List WayE) : Prop := ∀ p ∈ ws, isWayF n es 0 1 x p = true ∧ p.2 = 1
theorem OnesOk.snoc {n : Nat} {es : List E} {x : Int} {ws : List WayE} {l : List Int} (h : OnesOk n es x ws) (hw : isWayF n es 0 1 x (l, 1) = true) : OnesOk n es x (ws ++ [(l, 1)]) := fun p hp => by
  rcases List.mem_append.1 hp with hp | hp
  · exact h p hp
  · rw [List.mem_singleton.1 hp]; exact ⟨hw, rfl⟩
structure StayAt (n : Nat) (es : List E) (o : List Int) (P R : List Int) (wss : List (List WayE)) : Prop where
  len : R.length = es.length
  lo : ∀ e, e < es.length → 0 ≤ fa R e
  hi : ∀ e, e < es.length → fa R e ≤ 1000
  sum : ∀ e, e < es.length → fa P e = fa R e + loads wss wss.length e
  ok : ∀ j, j < wss.length → OnesOk n es (o[j]?.getD 0) (wss[j]?.getD []) ∧ (wss[j]?.getD []).length ≤ 1000
structure StayIn (n : Nat) (es : List E) (x : Int) (P R : List Int) (wss : List (List WayE)) (ws : List WayE) : Prop where
  len : R.length = es.length
  lo : ∀ e, e < es.length → 0 ≤ fa R e
  hi : ∀ e, e < es.length → fa R e ≤ 1000
  sum : ∀ e, e < es.length → fa P e = fa R e + loads wss wss.length e + Gm.load e ws
  ok : OnesOk n es x ws
theorem StayAt.inn {n : Nat} {es : List E} {o P R : List Int} {wss : List (List WayE)} (h : StayAt n es o P R wss) (x : Int) : StayIn n es x P R wss [] :=
  ⟨h.len, h.lo, h.hi, fun e he => by have := h.sum e he; simp only [Gm.load]; omega, fun p hp => by simp at hp⟩
theorem StayIn.next {n : Nat} {es : List E} {x : Int} {P R l : List Int} {wss : List (List WayE)} {ws : List WayE} (hr : right n es = true) (h : StayIn n es x P R wss ws) (hw : isWayF n es 0 1 x (l, 1) = true) (hb : Bears R l) : StayIn n es x P (lessF R l) wss (ws ++ [(l, 1)]) := by
  have hat := lessF_at hr h.len hw
  have hload : ∀ e, Gm.load e [(l, 1)] = (if e ∈ l.map Int.toNat then 1 else 0) := fun e => by simp only [Gm.load]; omega
  refine ⟨by rw [lessF_len]; exact h.len, fun e he => ?_, fun e he => ?_, fun e he => ?_, h.ok.snoc hw⟩
  · rw [hat, hload]
    have h0 := h.lo e he
    split
    · rename_i hm
      obtain ⟨i, hi, rfl⟩ := List.mem_map.1 hm
      have := hb i hi
      omega
    · omega
  · rw [hat, hload]
    have h0 := h.hi e he
    split <;> omega
  · have h0 := h.sum e he
    rw [hat, load_app]
    omega
theorem StayIn.out {n : Nat} {es : List E} {o P R R' : List Int} {wss : List (List WayE)} {ws : List WayE} {x : Int} (h : StayIn n es x P R wss ws) (h0 : StayAt n es o P R' wss) (hx : o[wss.length]?.getD 0 = x) (hk : ws.length ≤ 1000) : StayAt n es o P R (wss ++ [ws]) := by
  refine ⟨h.len, h.lo, h.hi, fun e he => ?_, fun j hj => ?_⟩
  · rw [List.length_append, show wss.length + [ws].length = wss.length + 1 from rfl, loads_snoc]
    have := h.sum e he
    omega
  · by_cases e : j < wss.length
    · rw [List.getElem?_append_left e]; exact h0.ok j e
    · have e2 : j = wss.length := by simp at hj; omega
      subst e2
      rw [hx]
      simpa using ⟨h.ok, hk⟩
/-- Rows that are younger than the one that is written. -/
theorem WaysOwn.kept_low {W W' : World} {base : Nat} {row : Option Nat} {lv : Value} {ws : List WayE} (h : WaysOwn W base lv ws) (hg : W.grownBy W' row) (hl : ∀ g, row = some g → g < base) : WaysOwn W' base lv ws := by
  obtain ⟨vs, h1, h2, h3⟩ := h
  refine ⟨vs, h1, own_kept h2 hg (fun g e e2 => ?_), fun i hv hw => own_kept (h3 i hv hw) hg (fun g e e2 => ?_)⟩
  · have := (h2.lt g e).1; have := hl g e2; omega
  · have := ((h3 i hv hw).lt g e).1; have := hl g e2; omega
theorem WayssOwn.kept_low {W W' : World} {base : Nat} {row : Option Nat} {lv : Value} {wss : List (List WayE)} (h : WayssOwn W base lv wss) (hg : W.grownBy W' row) (hl : ∀ g, row = some g → g < base) : WayssOwn W' base lv wss := by
  obtain ⟨vs, h1, h2, h4, h3⟩ := h
  refine ⟨vs, h1, own_kept h2 hg (fun g e e2 => ?_), h4, fun i hv hw => ⟨(h3 i hv hw).1.kept_low hg hl, (h3 i hv hw).2⟩⟩
  have := (h2.lt g e).1; have := hl g e2; omega
theorem WaysOwn.at2 {W : World} {base : Nat} {a : Option Addr} {n c : Nat} {ws : List WayE} (h : WaysOwn W base (.slice a n c) ws) (hb : ws.length ≤ 100000) (hel : ∀ p ∈ ws, p.1.length ≤ 300) : n = ws.length ∧ WaysAt W.heap.size W a n ws := by
  obtain ⟨vs, hl, ha, hb⟩ := h
  rcases ha.2 with ⟨h1, h2⟩ | ⟨g, cap', cur, hv, hbg, hg, hle, hm, hs, ht⟩
  · injection h1 with e1 e2 e3
    subst e1 e2
    exact ⟨by omega, by omega, by omega, 0, 0, .inl h2, fun i hi => by omega⟩
  · injection hv with e1 e2 e3
    subst e1 e2
    refine ⟨rfl, rfl, by omega, g, 0, .inr rfl, fun i hi => ?_⟩
    have hlt : g < W.heap.size := (Array.getElem?_eq_some_iff.1 hg).1
    have hat : ∀ j, j < ws.length * 2 → W.cell? ⟨g, j, none⟩ = (wayCells vs ws)[j]? := fun j hj => by
      rw [cell_of_row W g j cur 44 (0, 0) hg, ← ht, List.getElem?_take_of_lt hj, Array.getElem?_toList]
    have hiv : i < vs.length := by omega
    obtain ⟨f0, f1⟩ := wayCells_at vs ws i hiv hi
    have hrow := hb i hiv hi
    obtain ⟨ea, ec, he⟩ := own_form hrow
    rw [he] at hrow f0
    have hF := (ints_own hrow (by have := hel ws[i] (List.getElem_mem hi); omega)).2
    exact ⟨hlt, ea, ws[i].1.length, ec, by rw [Nat.zero_add, hat _ (by omega), f0], hF, by rw [Nat.zero_add, hat _ (by omega), f1]⟩
theorem WayssOwn.at2 {W : World} {base : Nat} {a : Option Addr} {n c : Nat} {wss : List (List WayE)} (h : WayssOwn W base (.slice a n c) wss) (hk : ∀ ws ∈ wss, ws.length ≤ 100000) (hel : ∀ ws ∈ wss, ∀ p ∈ ws, p.1.length ≤ 300) : n = wss.length ∧ WayssAt W.heap.size W a n wss := by
  obtain ⟨vs, hl, ha, _, hb⟩ := h
  rcases ha.2 with ⟨h1, h2⟩ | ⟨g, cap', cur, hv, hbg, hg, hle, hm, hs, ht⟩
  · injection h1 with e1 e2 e3
    subst e1 e2
    exact ⟨by omega, by omega, 0, 0, .inl h2, fun i hi => by omega⟩
  · injection hv with e1 e2 e3
    subst e1 e2
    refine ⟨rfl, rfl, g, 0, .inr rfl, fun i hi => ?_⟩
    have hlt : g < W.heap.size := (Array.getElem?_eq_some_iff.1 hg).1
    have hiv : i < vs.length := by omega
    obtain ⟨hw, la, ll, lc, he⟩ := hb i hiv hi
    rw [he] at hw
    have hW := (hw.at2 (hk _ (List.getElem_mem hi)) (hel _ (List.getElem_mem hi))).2
    refine ⟨hlt, la, ll, lc, ?_, hW⟩
    rw [Nat.zero_add, cell_of_row W g i cur 42 (0, 0) hg, ← Array.getElem?_toList, ← List.getElem?_take_of_lt (show i < wss.length * 1 by omega), ht, List.getElem?_eq_getElem hiv, he]
theorem StayAt.form {n : Nat} {es : List E} {o P R : List Int} {wss : List (List WayE)} (h : StayAt n es o P R wss) (hr : right n es = true) (ho : o.Perm (srcs es es.length)) (hl : wss.length = o.length) : Gm.Form n es 0 1 o wss :=
  made_form hr ho (by omega) (fun i hi p hp => ((h.ok i hi).1 p hp).1)
theorem StayAt.few {n : Nat} {es : List E} {o P R : List Int} {wss : List (List WayE)} (h : StayAt n es o P R wss) (hn : n ≤ 64) : (∀ ws ∈ wss, ws.length ≤ 100000) ∧ ∀ ws ∈ wss, ∀ p ∈ ws, p.1.length ≤ 300 := by
  refine ⟨fun ws hws => ?_, fun ws hws p hp => ?_⟩
  · obtain ⟨i, hi, rfl⟩ := List.getElem_of_mem hws
    have h1 := (h.ok i hi).2
    rw [List.getElem?_eq_getElem hi] at h1
    have h2 : wss[i].length ≤ 1000 := h1
    omega
  · obtain ⟨i, hi, rfl⟩ := List.getElem_of_mem hws
    have h1 := (h.ok i hi).1
    rw [List.getElem?_eq_getElem hi] at h1
    have h2 := (h1 p hp).1
    simp only [isWayF, Bool.and_eq_true, decide_eq_true_eq] at h2
    omega
theorem StayAt.again {n : Nat} {es : List E} {o R : List Int} {wss0 wss : List (List WayE)} (h : StayAt n es o (fillE n es 0 1 o wss0) R wss) (hf : Gm.Form n es 0 1 o wss0) (hr : right n es = true) (ho : o.Perm (srcs es es.length)) (hl : wss.length = o.length) (hz : ∀ e, e < es.length → fa R e = 0) : fillE n es 0 1 o wss = fillE n es 0 1 o wss0 := by
  refine fillE_again hf (h.form hr ho hl) (fun i p hp => ?_) (fun e he => ?_)
  · by_cases hi : i < wss.length
    · exact ((h.ok i hi).1 p hp).2
    · rw [List.getElem?_eq_none (by omega)] at hp
      simp at hp
  · rw [h.sum e he, hz e he, hl]; omega
theorem StayAt.zero {n : Nat} {es : List E} {o P : List Int} (hl : P.length = es.length) (h : ∀ e, e < es.length → 0 ≤ fa P e ∧ fa P e ≤ 1000) : StayAt n es o P P [] :=
  ⟨hl, fun e he => (h e he).1, fun e he => (h e he).2, fun e _ => by simp [loads, sumN], fun j hj => by simp at hj⟩
end Go.Proofs.Ythchlfoebkachaa
