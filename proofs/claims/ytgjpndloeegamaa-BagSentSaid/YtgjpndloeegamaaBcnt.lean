/-
  What BagSent counts: how many of each of its five texts are under way, and how many in all, as one object beside the bag; its closure.
-/
import Derived.Deep.QuietTactic
import Derived.Deep.DeepCutAuto
import Derived.Test.YtgjpndloeegamaaHeldG
import Derived.Test.YtgjpndloeegamaaBn
namespace Go.Proofs.Ytgjpndloeegamaa
open Go.RowKit Gm

abbrev names5 : Obj := .cells #[.string { data := #[97] }, .string { data := #[98] }, .string { data := #[99] }, .string { data := #[100] }, .string { data := #[101] }] 9 (0, 0)
def undO (E : List Bs) : Obj := .cells #[.int .i64 (cntB E 0), .int .i64 (cntB E 1), .int .i64 (cntB E 2), .int .i64 (cntB E 3), .int .i64 (cntB E 4)] 38 (0, 0)
theorem names5_at {W : World} {g : Nat} (h : W.heap[g]? = some names5) {i : Nat} (hi : i < 5) : W.cell? ⟨g, i, none⟩ = some (.string (S (nmT i))) := by
  rw [cell_of_row _ _ _ _ _ _ h]
  have : i = 0 ∨ i = 1 ∨ i = 2 ∨ i = 3 ∨ i = 4 := by omega
  rcases this with rfl | rfl | rfl | rfl | rfl <;> rfl
theorem und_at {W : World} {g : Nat} {E : List Bs} (h : W.heap[g]? = some (undO E)) {i : Nat} (hi : i < 5) : W.cell? ⟨g, i, none⟩ = some (.int .i64 (cntB E i)) := by
  unfold undO at h
  rw [cell_of_row _ _ _ _ _ _ h]
  have : i = 0 ∨ i = 1 ∨ i = 2 ∨ i = 3 ∨ i = 4 := by omega
  rcases this with rfl | rfl | rfl | rfl | rfl <;> rfl
theorem und_set {W : World} {g : Nat} {E E' : List Bs} (h : W.heap[g]? = some (undO E)) {k : Nat} (hk : k < 5) {n : Int} (hE : ∀ j, j < 5 → cntB E' j = if j = k then cntB E j + n else cntB E j) : (W.setCell ⟨g, k, none⟩ (.int .i64 (cntB E k + n))).heap[g]? = some (undO E') := by
  have h0 := hE 0 (by omega)
  have h1 := hE 1 (by omega)
  have h2 := hE 2 (by omega)
  have h3 := hE 3 (by omega)
  have h4 := hE 4 (by omega)
  unfold undO at h ⊢
  rw [h0, h1, h2, h3, h4]
  have : k = 0 ∨ k = 1 ∨ k = 2 ∨ k = 3 ∨ k = 4 := by omega
  rcases this with rfl | rfl | rfl | rfl | rfl <;> simp [World.setCell, Array.getElem?_modify, h]
theorem blk_frozen {W : World} {g : Nat} {cs : Array Value} {t : TypeId} (h : W.heap[g]? = some (.cells cs t (0, 0))) (i : Nat) : W.frozen? ⟨g, i, none⟩ = false := by simp [World.frozen?, h]
theorem und_frozen {W : World} {g : Nat} {E : List Bs} (h : W.heap[g]? = some (undO E)) (i : Nat) : W.frozen? ⟨g, i, none⟩ = false := blk_frozen h i

/-- BLOCKS q, ga, gx, gr COUNT THE TEXTS E: how many of each, how many in all; the five texts' slice and row. -/
structure CAt (gr gx ga : Nat) (w : World) (q : Nat) (E : List Bs) : Prop where
  r : w.heap[gr]? = some names5
  x : w.heap[gx]? = some (.cells #[.slice (some ⟨gr, 0, none⟩) 5 5] 37 (0, 0))
  u : w.heap[q]? = some (undO E)
  l : w.heap[ga]? = some (.cells #[.int .i64 (E.length : Int)] 3 (0, 0))
def CountK (gr gx ga : Nat) : Kind (List Bs) := fun w q E R => (∀ b, R b ↔ (b = q ∨ b = ga ∨ b = gx ∨ b = gr)) ∧ CAt gr gx ga w q E
theorem lt_of_blk {W : World} {g : Nat} {o : Obj} (h : W.heap[g]? = some o) : g < W.heap.size := (Array.getElem?_eq_some_iff.1 h).1
theorem count_law (gr gx ga : Nat) : Lawful (CountK gr gx ga) where
  lt := fun ⟨hR, h⟩ b hb => by
    rcases (hR b).1 hb with rfl | rfl | rfl | rfl
    · exact lt_of_blk h.u
    · exact lt_of_blk h.l
    · exact lt_of_blk h.x
    · exact lt_of_blk h.r
  keep := fun ⟨hR, h⟩ _ hb => ⟨hR, (hb _ ((hR _).2 (.inr (.inr (.inr rfl))))).trans h.r, (hb _ ((hR _).2 (.inr (.inr (.inl rfl))))).trans h.x, (hb _ ((hR _).2 (.inl rfl))).trans h.u, (hb _ ((hR _).2 (.inr (.inl rfl)))).trans h.l⟩
/-- Blocks of unlike types are not one. -/
theorem ne_type {W : World} {g h : Nat} {cs ds : Array Value} {t u : TypeId} (hg : W.heap[g]? = some (.cells cs t (0, 0))) (hh : W.heap[h]? = some (.cells ds u (0, 0))) (ht : t ≠ u) : g ≠ h := by
  rintro rfl
  rw [hg] at hh
  injection hh with hh
  injection hh with _ hx
  exact ht hx

set_option maxRecDepth 100000 in
set_option maxHeartbeats 4000000 in
theorem count_any (gr gx ga q : Nat) (E E' : List Bs) (R : Nat → Prop) (k : Nat) (n : Int) (w : World) (h : CountK gr gx ga w q E R) (hk : k < 5) (hn : n = 1 ∨ n = -1) (hE : ∀ j, j < 5 → cntB E' j = if j = k then cntB E j + n else cntB E j) (hl : (E'.length : Int) = (E.length : Int) + n) (hpos : 0 ≤ cntB E k + n) (h64 : E.length ≤ 64) :
    Calls Try.prog 22 #[.string (S (nmT k)), .int .i64 n, .pointer (some ⟨gx, 0, none⟩), .pointer (some ⟨q, 0, none⟩), .pointer (some ⟨ga, 0, none⟩)] w fun e w' => e = .returned (.bool true) ∧ Turn (CountK gr gx ga) w w' q E' R := by
  obtain ⟨hR, hc⟩ := h
  have hqa : q ≠ ga := ne_type (show w.heap[q]? = some (.cells _ _ _) from hc.u) hc.l (by decide)
  have hcb := cnt_bd E k
  have hcu := und_at hc.u hk
  have hfu := und_frozen hc.u k
  have hS := und_set hc.u hk hE
  have c0 : w.cell? ⟨gx, 0, none⟩ = some (.slice (some ⟨gr, 0, none⟩) 5 5) := cell_of_row _ _ _ _ _ _ hc.x
  have lr := lt_of_blk hc.r
  have lx := lt_of_blk hc.x
  have lu := lt_of_blk hc.u
  have ll := lt_of_blk hc.l
  obtain ⟨c, hce⟩ : ∃ c, cntB E k = c := ⟨_, rfl⟩
  obtain ⟨m, hm⟩ : ∃ m, c + n = m := ⟨_, rfl⟩
  rw [hce] at hcb hcu hS hpos
  rw [hm] at hS hpos
  obtain ⟨w1, hw1⟩ : ∃ W, w.setCell ⟨q, k, none⟩ (.int .i64 m) = W := ⟨_, rfl⟩
  rw [hw1] at hS
  have hL1 : w1.heap[ga]? = some (.cells #[.int .i64 (E.length : Int)] 3 (0, 0)) := by rw [← hw1]; exact (Below.heap_setCell _ _ _ ga hqa.symm).trans hc.l
  have d0 : w1.cell? ⟨ga, 0, none⟩ = some (.int .i64 (E.length : Int)) := cell_of_row _ _ _ _ _ _ hL1
  have f0 := blk_frozen hL1 0
  have l1 : ga < w1.heap.size := lt_of_blk hL1
  obtain ⟨al, hal⟩ : ∃ a, (E.length : Int) = a := ⟨_, rfl⟩
  obtain ⟨am, ham⟩ : ∃ a, al + n = a := ⟨_, rfl⟩
  rw [hal] at d0 hl hL1
  rw [ham] at hl
  obtain ⟨w2, hw2⟩ : ∃ W, w1.setCell ⟨ga, 0, none⟩ (.int .i64 am) = W := ⟨_, rfl⟩
  have hL2 : w2.heap[ga]? = some (.cells #[.int .i64 am] 3 (0, 0)) := by rw [← hw2]; simp [World.setCell, Array.getElem?_modify, hL1]
  have hS2 : w2.heap[q]? = some (undO E') := by rw [← hw2]; exact (Below.heap_setCell _ _ _ q hqa).trans hS
  have e0 := und_at hS2 hk
  rw [hE k hk, if_pos rfl, hce, hm] at e0
  have l2 := lt_of_blk hS2
  have wm : IntKind.i64.wrap (c + n) = m := by rw [← hm]; exact IntWalk.i64_in _ ⟨by omega, by omega⟩
  have wa : IntKind.i64.wrap (al + n) = am := by rw [← ham]; exact IntWalk.i64_in _ ⟨by omega, by omega⟩
  have hpost : Turn (CountK gr gx ga) w w2 q E' R := by
    have hxq : gx ≠ q := ne_type hc.x (show w.heap[q]? = some (.cells _ _ _) from hc.u) (by decide)
    have hxa : gx ≠ ga := ne_type hc.x hc.l (by decide)
    have hrq : gr ≠ q := ne_type hc.r (show w.heap[q]? = some (.cells _ _ _) from hc.u) (by decide)
    have hra : gr ≠ ga := ne_type hc.r hc.l (by decide)
    have far : ∀ b, b ≠ q → b ≠ ga → w2.heap[b]? = w.heap[b]? := fun b h1 h2 => by
      rw [← hw2, ← hw1]
      exact (Below.heap_setCell _ _ _ b h2).trans (Below.heap_setCell _ _ _ b h1)
    refine ⟨R, ⟨hR, (far gr hrq hra).trans hc.r, (far gx hxq hxa).trans hc.x, hS2, by rw [hL2, hl]⟩, ?_, fun b hb => .inl hb⟩
    rw [← hw2, ← hw1]
    exact (Beside.set w _ ((hR q).2 (.inl rfl))).trans (Beside.set _ _ ((hR ga).2 (.inr (.inl rfl)))) (fun b hb _ => hb)
  have HPOST := Lib.hid hpost
  have HR := Lib.hid hc.r
  have hm0 : decide (0 ≤ m) = true := decide_eq_true hpos
  have HW1 := Lib.hid hw1
  have HW2 := Lib.hid hw2
  have HCU := Lib.hid hcu
  have HK := Lib.hid hk
  have hk5 : (k : Int) < 5 := by omega
  obtain ⟨xk, hxk⟩ : ∃ x, nmT k = x := ⟨_, rfl⟩
  have HXK := Lib.hid hxk
  rw [hxk]
  clear hR hc hS hL1 hL2 hS2 hpost hE hl hw1 hw2 hce hm hal ham hxk hcu hcb hn h64 hqa
  go_enter Try.func22, Try.ntmps22
  go_wp2
  go_loopw [8] (fun iv wr => ∃ j : Nat, j ≤ k ∧ iv = .int .i64 (j : Int) ∧ w = wr) (fun iv _ => 5 - (intOf iv).toNat)
  case atStart => exact ⟨0, Nat.zero_le _, rfl, rfl⟩
  case round =>
    obtain ⟨j, hj, rfl, rfl⟩ := hrel
    have hj5 : j < 5 := by omega
    have hj0 : (0 : Int) ≤ (j : Int) := by omega
    have hj5' : (j : Int) < 5 := by omega
    have x0 := names5_at HR.out hj5
    by_cases hjk : j = k
    · subst hjk
      rw [HXK.out] at x0
      have x1 := HCU.out
      go_upto_region 6 with fail
      rw [HW1.out]
      go_upto_region 7 with fail
      rw [HW2.out]
      go_wp2
      go_ret
      exact ⟨rfl, HPOST.out⟩
    · have hne : ((S (nmT j)).toList == (S xk).toList) = false := by
        rw [S_beq, ← HXK.out]
        exact decide_eq_false fun e => hjk (nmT_inj hj5 HK.out e)
      obtain ⟨y, hy⟩ : ∃ y, nmT j = y := ⟨_, rfl⟩
      rw [hy] at x0 hne
      have hjl : j < k := by omega
      clear hy hjk
      go_wp2
      go_roundw
      case rel => exact ⟨j + 1, by omega, by go_num, by first | trivial | rfl⟩
      case measure => simp [intOf]; omega
section
variable {X : Type} {A : Kind X} {w0 w : World} {p q gr gx ga : Nat} {D : X} {E : List Bs} {bs : List (Nat × Obj)}
/-- One text more is counted. -/
theorem Held.cMore (hA : Lawful A) (h : Held A (CountK gr gx ga) w0 w p D q E bs) {k : Nat} (hk : k < 5) (h64 : E.length ≤ 64) :
    Calls Try.prog 22 #[.string (S (nmT k)), .int .i64 1, .pointer (some ⟨gx, 0, none⟩), .pointer (some ⟨q, 0, none⟩), .pointer (some ⟨ga, 0, none⟩)] w fun e w' => e = .returned (.bool true) ∧ Held A (CountK gr gx ga) w0 w' p D q (E ++ [nmT k]) bs :=
  h.call2 hA fun Q _ g => count_any gr gx ga q E (E ++ [nmT k]) Q k 1 w g.a hk (.inl rfl) (fun j hj => cnt_send E j hk hj) (by simp) (by have := cnt_bd E k; omega) h64
/-- One text less is counted. -/
theorem Held.cLess (hA : Lawful A) (h : Held A (CountK gr gx ga) w0 w p D q E bs) {i k : Nat} (hk : k < 5) (hi : i < E.length) (he : E[i] = nmT k) (h64 : E.length ≤ 64) :
    Calls Try.prog 22 #[.string (S (nmT k)), .int .i64 (-1), .pointer (some ⟨gx, 0, none⟩), .pointer (some ⟨q, 0, none⟩), .pointer (some ⟨ga, 0, none⟩)] w fun e w' => e = .returned (.bool true) ∧ Held A (CountK gr gx ga) w0 w' p D q (cutB E i) bs :=
  h.call2 hA fun Q _ g => count_any gr gx ga q E (cutB E i) Q k (-1) w g.a hk (.inr rfl) (fun j hj => by rw [cnt_cut E j hi hk hj he]; rfl) (by have := cut_len E hi; omega) (by
    have h1 := cnt_cut E k hi hk hk he
    rw [if_pos rfl] at h1
    have h2 := (cnt_bd (cutB E i) k).1
    omega) h64
theorem Held.cAt (h : Held A (CountK gr gx ga) w0 w p D q E bs) : CAt gr gx ga w q E := by
  obtain ⟨R, Q, h⟩ := h
  exact h.b.2
end
theorem CAt.all {w : World} {gr gx ga q : Nat} {E : List Bs} (h : CAt gr gx ga w q E) : w.cell? ⟨ga, 0, none⟩ = some (.int .i64 (E.length : Int)) ∧ ga < w.heap.size := ⟨cell_of_row _ _ _ _ _ _ h.l, lt_of_blk h.l⟩
theorem CAt.five {w : World} {gr gx ga q : Nat} {E : List Bs} (h : CAt gr gx ga w q E) : w.cell? ⟨gx, 0, none⟩ = some (.slice (some ⟨gr, 0, none⟩) 5 5) ∧ gx < w.heap.size ∧ gr < w.heap.size ∧ ∀ i, i < 5 → w.cell? ⟨gr, i, none⟩ = some (.string (S (nmT i))) := ⟨cell_of_row _ _ _ _ _ _ h.x, lt_of_blk h.x, lt_of_blk h.r, fun _ hi => names5_at h.r hi⟩
/-- What the box at ga says. -/
def allN (ga : Nat) (W : World) : Nat := match W.cell? ⟨ga, 0, none⟩ with | some v => (intOf v).toNat | none => 0
theorem CAt.allN {w : World} {gr gx ga q : Nat} {E : List Bs} (h : CAt gr gx ga w q E) : Go.Proofs.Ytgjpndloeegamaa.allN ga w = E.length := by
  unfold Go.Proofs.Ytgjpndloeegamaa.allN
  rw [h.all.1]
  simp [intOf]
theorem old_at {w : World} {o p : Obj} {g : Nat} (h : w.heap[g]? = some p) : (w.alloc o).heap[g]? = some p := by
  have hl := lt_of_blk h
  rw [((Below.refl w.heap.size w).alloc (Nat.le_refl _) o).block g hl]; exact h
theorem four (w : World) (o1 o2 o3 o4 : Obj) : ((((w.alloc o1).alloc o2).alloc o3).alloc o4).heap[w.heap.size]? = some o1 ∧ ((((w.alloc o1).alloc o2).alloc o3).alloc o4).heap[w.heap.size + 1]? = some o2 ∧ ((((w.alloc o1).alloc o2).alloc o3).alloc o4).heap[w.heap.size + 1 + 1]? = some o3 ∧ ((((w.alloc o1).alloc o2).alloc o3).alloc o4).heap[w.heap.size + 1 + 1 + 1]? = some o4 ∧ Below w.heap.size w ((((w.alloc o1).alloc o2).alloc o3).alloc o4) := by
  have hb := ((((Below.refl w.heap.size w).alloc (Nat.le_refl _) o1).alloc (by simp) o2).alloc (by simp; omega) o3).alloc (by simp; omega) o4
  have e1 : (w.alloc o1).heap.size = w.heap.size + 1 := by simp
  have e2 : ((w.alloc o1).alloc o2).heap.size = w.heap.size + 1 + 1 := by simp
  have e3 : (((w.alloc o1).alloc o2).alloc o3).heap.size = w.heap.size + 1 + 1 + 1 := by simp
  have n2 := new_at (w.alloc o1) o2
  have n3 := new_at ((w.alloc o1).alloc o2) o3
  have n4 := new_at (((w.alloc o1).alloc o2).alloc o3) o4
  rw [e1] at n2
  rw [e2] at n3
  rw [e3] at n4
  exact ⟨old_at (old_at (old_at (new_at w o1))), old_at (old_at n2), old_at n3, n4, hb⟩
/-- None is counted yet. -/
theorem Held.counts {X : Type} {A : Kind X} {w0 w : World} {p x : Nat} {D : X} {X0 : List Bs} {bs : List (Nat × Obj)} (hA : Lawful A) (h : Held A Nobody w0 w p D x X0 bs) :
    Held A (CountK w.heap.size (w.heap.size + 1) (w.heap.size + 1 + 1 + 1)) w0 ((((w.alloc names5).alloc (.cells #[.slice (some ⟨w.heap.size, 0, none⟩) 5 5] 37)).alloc (.cells #[.int .i64 0, .int .i64 0, .int .i64 0, .int .i64 0, .int .i64 0] 38)).alloc (.cells #[.int .i64 0] 3)) p D (w.heap.size + 1 + 1) [] bs := by
  obtain ⟨h1, h2, h3, h4, hb⟩ := four w names5 (.cells #[.slice (some ⟨w.heap.size, 0, none⟩) 5 5] 37) (.cells #[.int .i64 0, .int .i64 0, .int .i64 0, .int .i64 0, .int .i64 0] 38) (.cells #[.int .i64 0] 3)
  exact (h.swap.made hA (A := CountK w.heap.size (w.heap.size + 1) (w.heap.size + 1 + 1 + 1)) (R' := fun b => b = w.heap.size + 1 + 1 ∨ b = w.heap.size + 1 + 1 + 1 ∨ b = w.heap.size + 1 ∨ b = w.heap.size) ⟨fun _ => Iff.rfl, h1, h2, by rw [h3]; rfl, by rw [h4]; rfl⟩ (fun b e => by omega) hb).swap
end Go.Proofs.Ytgjpndloeegamaa
