/-
  The document's own leases and books: Until, Holds, Over; a book in memory.
-/
import Derived.Test.YtgkpkegbjkjhiaaLbinds
namespace Go.Proofs.Ytgkpkegbjkjhiaa
open Go.RowKit Gm

theorem row_form {W : World} {base e size n : Nat} {v : Value} {xs : List Value} (h : W.ownsRow base e size v n xs) : ∃ A c, v = .slice A n c := by
  rcases h.2 with ⟨rfl, rfl⟩ | ⟨g, cap, cur, rfl, _⟩
  · exact ⟨_, _, rfl⟩
  · exact ⟨_, _, rfl⟩
theorem row_moved {w w' : World} {base e size n : Nat} {v : Value} {xs : List Value} (h : w.ownsRow base e size v n xs) (hb : ∀ b, v.ownBlock = some b → w'.heap[b]? = w.heap[b]?) : w'.ownsRow base e size v n xs := by
  obtain ⟨h1, h2⟩ := h
  refine ⟨h1, ?_⟩
  rcases h2 with h2 | ⟨g, cap, cur, hv, hg, hh, r⟩
  · exact .inl h2
  · exact .inr ⟨g, cap, cur, hv, hg, (hb g (by rw [hv]; rfl)).trans hh, r⟩
theorem qmin2 (a b : Int) (ts : Array TypeId) (ty : TypeId) (w : World) : (Builtin.min_ ts ty #[.int .i64 a, .int .i64 b]).run Try.prog w = .ok (.int .i64 (min a b)) w := by
  have e : (if b < a then b else a) = min a b := by split <;> omega
  rw [run_min_int2, e]
theorem qmax2 (a b : Int) (ts : Array TypeId) (ty : TypeId) (w : World) : (Builtin.max_ ts ty #[.int .i64 a, .int .i64 b]).run Try.prog w = .ok (.int .i64 (max a b)) w := by
  have e : (if a < b then b else a) = max a b := by split <;> omega
  rw [run_max_int2, e]
theorem qwhen_any (t : Int) (w : World) (_ht : I64 t) : Calls Try.prog 36 #[.int .i64 t] w fun e w' => e = .returned (.int .i64 (whenN t)) ∧ w = w' := by
  have h1 := qmax2 t (-1099511627776)
  obtain ⟨m, hm⟩ : ∃ m, max t (-1099511627776) = m := ⟨_, rfl⟩
  have h2 := qmin2 m 1099511627776
  have HW : Hid (whenN t = min m 1099511627776) := Lib.hid (by unfold whenN; rw [hm])
  rw [hm] at h1
  obtain ⟨r, hr⟩ : ∃ r, min m 1099511627776 = r := ⟨_, rfl⟩
  rw [hr] at h2 HW
  rw [HW.out]
  clear hm hr HW
  go_enter Try.func36, Try.ntmps36
  go_wp2
  go_ret
  exact ⟨rfl, rfl⟩
theorem quntil_any (t : Int) (w : World) (ht : I64 t) : Calls Try.prog 13 #[.int .i64 t] w fun e w' => e = .returned (.int .i64 (untilN t)) ∧ w = w' := by
  have hb := when_bd t
  have HU : Hid (untilN t = whenN t + 20) := Lib.hid rfl
  obtain ⟨r, hr⟩ : ∃ r, whenN t = r := ⟨_, rfl⟩
  rw [hr] at hb HU
  have HR := Lib.hid hr
  rw [HU.out]
  clear hr HU
  go_enter Try.func13, Try.ntmps13
  go_wp2_with (go_at_call 36; (have hc := qwhen_any t w ht; rw [HR.out] at hc; with_reducible refine hc.mono ?_); rintro e w1 ⟨rfl, rfl⟩)
  go_ret
  exact ⟨rfl, rfl⟩
theorem qholds_any (t u : Int) (w : World) (ht : I64 t) (hu : I64 u) : Calls Try.prog 15 #[.int .i64 t, .int .i64 u] w fun e w' => e = .returned (.bool (holdsN t u)) ∧ w = w' := by
  have HP : Hid (holdsN t u = decide (whenN t < whenN u)) := Lib.hid rfl
  obtain ⟨r, hr⟩ : ∃ r, whenN t = r := ⟨_, rfl⟩
  obtain ⟨s, hs⟩ : ∃ r, whenN u = r := ⟨_, rfl⟩
  rw [hr, hs] at HP
  have HR := Lib.hid hr
  have HS := Lib.hid hs
  rw [HP.out]
  clear hr hs HP
  go_enter Try.func15, Try.ntmps15
  go_wp2_with (first
    | (go_at_call 36; (have hc := qwhen_any t w ht; rw [HR.out] at hc; with_reducible refine hc.mono ?_); rintro e w1 ⟨rfl, rfl⟩)
    | (go_at_call 36; (have hc := qwhen_any u w hu; rw [HS.out] at hc; with_reducible refine hc.mono ?_); rintro e w1 ⟨rfl, rfl⟩))
  go_ret
  exact ⟨rfl, rfl⟩
theorem qover_any (t u : Int) (w : World) (ht : I64 t) (hu : I64 u) : Calls Try.prog 17 #[.int .i64 t, .int .i64 u] w fun e w' => e = .returned (.bool (overN t u)) ∧ w = w' := by
  have HP : Hid (overN t u = decide (whenN u + 4 ≤ whenN t)) := Lib.hid rfl
  have b1 := when_bd t
  have b2 := when_bd u
  obtain ⟨r, hr⟩ : ∃ r, whenN t = r := ⟨_, rfl⟩
  obtain ⟨s, hs⟩ : ∃ r, whenN u = r := ⟨_, rfl⟩
  rw [hr] at HP b1
  rw [hs] at HP b2
  have HR := Lib.hid hr
  have HS := Lib.hid hs
  rw [HP.out]
  clear hr hs HP
  go_enter Try.func17, Try.ntmps17
  go_wp2_with (first
    | (go_at_call 36; (have hc := qwhen_any t w ht; rw [HR.out] at hc; with_reducible refine hc.mono ?_); rintro e w1 ⟨rfl, rfl⟩)
    | (go_at_call 36; (have hc := qwhen_any u w hu; rw [HS.out] at hc; with_reducible refine hc.mono ?_); rintro e w1 ⟨rfl, rfl⟩))
  go_ret
  exact ⟨rfl, rfl⟩

/-- Grants, each with the slice of its binds. -/
abbrev GX := List (Gr × Value)
abbrev gxC (y : Gr × Value) : List Value := [.int .i64 y.1.ver, .int .i64 y.1.unt, y.2]
def gxV (l : GX) : List Value := l.flatMap gxC
theorem gxV_cons (f : Gr × Value) (l : GX) : gxV (f :: l) = gxC f ++ gxV l := rfl
theorem gxV_app (l m : GX) : gxV (l ++ m) = gxV l ++ gxV m := by unfold gxV; rw [List.flatMap_append]
theorem gxV_len (l : GX) : (gxV l).length = l.length * 3 := by
  induction l with
  | nil => rfl
  | cons f l ih => rw [gxV_cons, List.length_append, ih]; simp; omega
theorem gxV_at : ∀ (l : GX) (i : Nat) (h : i < l.length), (gxV l)[i * 3]? = some (.int .i64 l[i].1.ver) ∧ (gxV l)[i * 3 + 1]? = some (.int .i64 l[i].1.unt) ∧ (gxV l)[i * 3 + 2]? = some l[i].2
  | [], i, h => by simp at h
  | f :: l, 0, _ => by simp [gxV_cons]
  | f :: l, i + 1, h => by
    have ih := gxV_at l i (by simpa using h)
    have e : ∀ j, (gxV (f :: l))[(i + 1) * 3 + j]? = (gxV l)[i * 3 + j]? := fun j => by
      rw [gxV_cons, List.getElem?_append_right (by simp; omega)]
      congr 1
      simp; omega
    have e0 := e 0
    simp only [Nat.add_zero] at e0
    rw [e0, e 1, e 2]
    exact ih
theorem infoGr : (Try.prog.info? 61).map (fun i => (i.zero, i.size, i.bytes)) = some (some (.agg #[.int .i64 0, .int .i64 0, .slice none 0 0]), 3, 40) := by kernel_rfl

/-- BLOCK p IS THE DOCUMENT's BOOK D; v: its row of grants. -/
structure QAt (w : World) (p : Nat) (v : Value) (gx : GX) (D : Bk) : Prop where
  eq : D.g = gx.map (·.1)
  blk : w.heap[p]? = some (.cells #[.bool D.unknown, .int .i64 D.to, v] 55 (0, 0))
  row : w.ownsRow 0 61 3 v gx.length (gxV gx)
  bnd : ∀ y ∈ gx, w.ownsRow 0 39 3 y.2 y.1.l.length (bdsV y.1.l)
def QBlk (p : Nat) (v : Value) (gx : GX) (b : Nat) : Prop := b = p ∨ v.ownBlock = some b ∨ ∃ y ∈ gx, y.2.ownBlock = some b
def QBook : Kind Bk := fun w p D R => ∃ v gx, (∀ b, R b ↔ QBlk p v gx b) ∧ QAt w p v gx D
theorem QAt.lt {w : World} {p : Nat} {v : Value} {gx : GX} {D : Bk} (h : QAt w p v gx D) {b : Nat} (hb : QBlk p v gx b) : b < w.heap.size := by
  rcases hb with rfl | e | ⟨y, hy, e⟩
  · exact (Array.getElem?_eq_some_iff.1 h.blk).1
  · exact (h.row.lt b e).2
  · exact ((h.bnd y hy).lt b e).2
theorem QAt.keep {w w' : World} {p : Nat} {v : Value} {gx : GX} {D : Bk} (h : QAt w p v gx D) (hb : ∀ b, QBlk p v gx b → w'.heap[b]? = w.heap[b]?) : QAt w' p v gx D :=
  ⟨h.eq, (hb p (.inl rfl)).trans h.blk, row_moved h.row fun b e => hb b (.inr (.inl e)), fun y hy => row_moved (h.bnd y hy) fun b e => hb b (.inr (.inr ⟨y, hy, e⟩))⟩
theorem QAt.below {w w' : World} {p : Nat} {v : Value} {gx : GX} {D : Bk} (h : QAt w p v gx D) (hb : Below w.heap.size w w') : QAt w' p v gx D := h.keep fun b e => hb.block b (h.lt e)
theorem qbook_law : Lawful QBook where
  lt := fun ⟨_, _, hR, h⟩ b hb => h.lt ((hR b).1 hb)
  keep := fun ⟨v, gx, hR, h⟩ _ hb => ⟨v, gx, hR, h.keep fun b e => hb b ((hR b).2 e)⟩
theorem QAt.cells {w : World} {p : Nat} {v : Value} {gx : GX} {D : Bk} (h : QAt w p v gx D) : w.cell? ⟨p, 0, none⟩ = some (.bool D.unknown) ∧ w.cell? ⟨p, 1, none⟩ = some (.int .i64 D.to) ∧ w.cell? ⟨p, 2, none⟩ = some v ∧ (∀ i, w.frozen? ⟨p, i, none⟩ = false) ∧ p < w.heap.size := by
  have hb := h.blk
  refine ⟨by rw [cell_of_row _ _ _ _ _ _ hb]; rfl, by rw [cell_of_row _ _ _ _ _ _ hb]; rfl, by rw [cell_of_row _ _ _ _ _ _ hb]; rfl, fun i => by simp [World.frozen?, hb], h.lt (.inl rfl)⟩
/-- Rows are no part of the book's own block, nor of each other. -/
theorem QAt.far {w : World} {p : Nat} {v : Value} {gx : GX} {D : Bk} (h : QAt w p v gx D) : v.ownBlock ≠ some p ∧ ∀ y ∈ gx, y.2.ownBlock ≠ some p ∧ ∀ b, v.ownBlock = some b → y.2.ownBlock ≠ some b := by
  refine ⟨fun e => ?_, fun y hy => ⟨fun e => ?_, fun b e e' => ?_⟩⟩
  · obtain ⟨cs, hc⟩ := row_blk h.row e
    rw [h.blk] at hc; injection hc with hc; injection hc with _ ht; exact absurd ht (by decide)
  · obtain ⟨cs, hc⟩ := row_blk (h.bnd y hy) e
    rw [h.blk] at hc; injection hc with hc; injection hc with _ ht; exact absurd ht (by decide)
  · obtain ⟨cs, hc⟩ := row_blk h.row e
    obtain ⟨cs', hc'⟩ := row_blk (h.bnd y hy) e'
    rw [hc] at hc'; injection hc' with hc'; injection hc' with _ ht; exact absurd ht (by decide)
/-- Grant i of the row. -/
theorem QAt.grant {w : World} {p : Nat} {v : Value} {gx : GX} {D : Bk} (h : QAt w p v gx D) {i : Nat} (hi : i < gx.length) : ∃ g cap, v = .slice (some ⟨g, 0, none⟩) gx.length cap ∧ g < w.heap.size ∧
    w.cell? ⟨g, i * 3, none⟩ = some (.int .i64 gx[i].1.ver) ∧ w.cell? ⟨g, i * 3 + 1, none⟩ = some (.int .i64 gx[i].1.unt) ∧ w.cell? ⟨g, i * 3 + 2, none⟩ = some gx[i].2 := by
  rcases h.row.2 with ⟨_, h2⟩ | ⟨g, cap, cur, hv, hg, hh, hle, hm, hs, ht⟩
  · omega
  · have hlt : g < w.heap.size := (Array.getElem?_eq_some_iff.1 hh).1
    have hat : ∀ j, j < gx.length * 3 → w.cell? ⟨g, j, none⟩ = (gxV gx)[j]? := fun j hj => by
      rw [cell_of_row w g j cur 61 (0, 0) hh, ← ht, List.getElem?_take_of_lt hj, Array.getElem?_toList]
    obtain ⟨f0, f1, f2⟩ := gxV_at gx i hi
    refine ⟨g, cap, hv, hlt, ?_, ?_, ?_⟩
    · rw [hat _ (by omega), f0]
    · rw [hat _ (by omega), f1]
    · rw [hat _ (by omega), f2]
theorem q_turn {w w' : World} {p : Nat} {v v' : Value} {gx gx' : GX} {D' : Bk} {R : Nat → Prop} (hR : ∀ b, R b ↔ QBlk p v gx b) (h' : QAt w' p v' gx' D') (hb : Beside R w w') (hv : ∀ b, QBlk p v' gx' b → QBlk p v gx b ∨ w.heap.size ≤ b) : Turn QBook w w' p D' R :=
  ⟨QBlk p v' gx', ⟨v', gx', fun _ => Iff.rfl, h'⟩, hb, fun b e => (hv b e).imp (fun e => (hR b).2 e) id⟩
theorem qknown_any (p : Nat) (D : Bk) (R : Nat → Prop) (w : World) (h : QBook w p D R) :
    Calls Try.prog 29 #[.pointer (some ⟨p, 0, none⟩)] w fun e w' => e = .returned (.bool (!D.unknown)) ∧ Below w.heap.size w w' := by
  obtain ⟨v, gx, _, h⟩ := h
  obtain ⟨c0, _, _, _, hl⟩ := h.cells
  obtain ⟨u, hu⟩ : ∃ u, D.unknown = u := ⟨_, rfl⟩
  rw [hu] at c0 ⊢
  clear h hu
  go_enter Try.func29, Try.ntmps29
  go_wp2
  go_ret
  exact ⟨rfl, Below.refl _ _⟩
theorem qnew_any (t : Int) (w : World) (ht : I64 t) : Calls Try.prog 11 #[.int .i64 t] w fun e w' => ∃ p R, e = .returned (.pointer (some ⟨p, 0, none⟩)) ∧ QBook w' p (newB t) R ∧ (∀ b, R b → w.heap.size ≤ b) ∧ Below w.heap.size w w' := by
  have hb := until_bd t
  have HU : Hid (newB t = ⟨true, untilN t + 4, []⟩) := Lib.hid rfl
  obtain ⟨r, hr⟩ : ∃ r, untilN t = r := ⟨_, rfl⟩
  rw [hr] at hb HU
  have HR := Lib.hid hr
  rw [HU.out]
  clear hr HU
  go_enter Try.func11, Try.ntmps11
  go_wp2_with (go_at_call 13; (have hc := quntil_any t w ht; rw [HR.out] at hc; with_reducible refine hc.mono ?_); rintro e w1 ⟨rfl, rfl⟩)
  go_ret
  refine ⟨w.heap.size, QBlk w.heap.size (.slice none 0 0) [], rfl, ⟨_, [], fun _ => Iff.rfl, ⟨rfl, new_at _ _, World.ownsRow_nil _ _ _ _, fun _ hy => absurd hy List.not_mem_nil⟩⟩, fun b e => ?_, (Below.refl _ w).alloc (Nat.le_refl _) _⟩
  rcases e with rfl | e | ⟨y, hy, _⟩
  · exact Nat.le_refl _
  · cases e
  · cases hy
end Go.Proofs.Ytgkpkegbjkjhiaa
