/-
  The program's book in memory: its block, its row of grants, each grant's map of counts.
-/
import Derived.Maps.OwnSet
import Derived.Test.YtgkpkegbjkjhiaaQl
namespace Go.Proofs.Ytgkpkegbjkjhiaa
open Go.RowKit Gm
open Go.Maps (Keyed string_keyed)

/-- How an element of the map reads: as a number. -/
def nR (v : Value) : Option (DataW Unit × List MemPlace) :=
  match v with
  | .int .i64 n => some (.lit (.int .i64 n), [])
  | _ => none
abbrev numL (n : Int) : DataW Unit := .lit (.int .i64 n)
theorem nR_of (n : Int) : nR (.int .i64 n) = some (numL n, []) := rfl
theorem nR_inv {v : Value} {n : Int} {ps : List MemPlace} (h : nR v = some (numL n, ps)) : v = .int .i64 n := by
  unfold nR at h
  split at h
  · simp only [Option.some.injEq, Prod.mk.injEq] at h
    have := h.1
    injection this with this
    injection this with _ this
    rw [this]
  · cases h
theorem slaw : Keyed Try.prog 9 := string_keyed Try.underlying9
theorem nzero (w : World) : (zeroValue 3).run Try.prog w = .ok (.int .i64 0) w := by kernel_rfl
theorem skey (k : Bs) (h : k.length ≤ 140737488351232) : keyOf Try.prog 9 (.string (S k)) = some (.string k) :=
  WideMaps.keyOf_string_mk Try.underlying9 (by rw [S_size]; unfold maxLen; omega)
theorem skeylit (k : Bs) : WideAt.IsKeyLit (.string k) := trivial
theorem str_ne {k j : Bs} (h : k ≠ j) : (Lit.string k) ≠ (Lit.string j) := fun e => h (by injection e)

/-- BLOCK b IS A MAP OF AT MOST n NAMES THAT TELLS HOW MANY OF EACH THERE ARE. -/
def CntAt (w : World) (b n : Nat) (f : Bs → Int) : Prop :=
  ∃ Dm : DataW Unit, w.ownsMap Try.prog 9 nR b n Dm ∧ ∀ k, Dm.atKey (.string k) (numL 0) = numL (f k)
theorem CntAt.lt {w : World} {b n : Nat} {f : Bs → Int} (h : CntAt w b n f) : b < w.heap.size := by obtain ⟨_, h, _⟩ := h; exact h.lt
theorem CntAt.moved {w w' : World} {b n : Nat} {f : Bs → Int} (h : CntAt w b n f) (hb : w'.heap[b]? = w.heap[b]?) : CntAt w' b n f := by
  obtain ⟨Dm, ⟨es, clock, h0, r⟩, h1⟩ := h
  exact ⟨Dm, ⟨es, clock, hb.trans h0, r⟩, h1⟩
theorem CntAt.same {w : World} {b n : Nat} {f g : Bs → Int} (h : CntAt w b n f) (e : ∀ k, f k = g k) : CntAt w b n g := by
  obtain ⟨Dm, h0, h1⟩ := h
  exact ⟨Dm, h0, fun k => by rw [h1, e]⟩
theorem CntAt.wide {w : World} {b n m : Nat} {f : Bs → Int} (h : CntAt w b n f) (e : n ≤ m) : CntAt w b m f := by
  obtain ⟨Dm, ⟨es, clock, h0, hf, hn, r⟩, h1⟩ := h
  exact ⟨Dm, ⟨es, clock, h0, hf, Nat.le_trans hn e, r⟩, h1⟩
/-- A map is no block of cells. -/
theorem CntAt.cells {w : World} {b n : Nat} {f : Bs → Int} (h : CntAt w b n f) {cs : Array Value} {t : TypeId} {r : Nat × Nat} : w.heap[b]? ≠ some (.cells cs t r) := by
  obtain ⟨Dm, ⟨es, clock, h0, _⟩, _⟩ := h
  rw [h0]
  intro e
  injection e with e
  cases e
theorem CntAt.made (w : World) : CntAt (w.alloc (.map #[] 0)) w.heap.size 0 (fun _ => 0) := ⟨.map [], World.ownsMap_made w _ _ _, fun _ => rfl⟩
/-- 'm[k]' -/
theorem CntAt.look {w : World} {b n : Nat} {f : Bs → Int} (h : CntAt w b n f) (k : Bs) (hk : k.length ≤ 140737488351232) : (Instr.lookup 56 (.map (some b)) (.string (S k)) false).run Try.prog w = .ok (.int .i64 (f k)) w := by
  obtain ⟨Dm, h0, h1⟩ := h
  obtain ⟨v, ps, hrun, hv⟩ := h0.lookup slaw Try.underlying56 (nzero w) (nR_of 0) (skey k hk)
  rw [h1 k] at hv
  rw [hrun, nR_inv hv]
/-- 'm[k] = x' -/
theorem CntAt.store {w : World} {b n : Nat} {f : Bs → Int} (h : CntAt w b n f) (hn : n ≤ 1048576) (k : Bs) (hk : k.length ≤ 140737488351232) (x : Int) :
    ∃ w', (Instr.mapUpdate 56 (.map (some b)) (.string (S k)) (.int .i64 x)).run Try.prog w = .ok () w' ∧ CntAt w' b (n + 1) (fun j => if j = k then x else f j) ∧ w.grownBy w' (some b) := by
  obtain ⟨Dm, h0, h1⟩ := h
  obtain ⟨w', hrun, hown, hg⟩ := h0.update slaw Try.underlying56 (by unfold maxLen; omega) (skey k hk) (nR_of x)
  refine ⟨w', hrun, ⟨_, hown, fun j => ?_⟩, hg⟩
  show _ = numL (if j = k then x else f j)
  by_cases e : j = k
  · subst e
    rw [if_pos rfl, Maps.atKey_put_same h0.isMap (skeylit j)]
  · rw [if_neg e, Maps.atKey_put_other (str_ne e), h1]

/-- Grants, each with the block of its map. -/
abbrev PX := List (Gr × Nat)
abbrev pxC (y : Gr × Nat) : List Value := [.int .i64 y.1.ver, .int .i64 y.1.unt, .map (some y.2)]
def pxV (l : PX) : List Value := l.flatMap pxC
theorem pxV_cons (f : Gr × Nat) (l : PX) : pxV (f :: l) = pxC f ++ pxV l := rfl
theorem pxV_app (l m : PX) : pxV (l ++ m) = pxV l ++ pxV m := by unfold pxV; rw [List.flatMap_append]
theorem pxV_len (l : PX) : (pxV l).length = l.length * 3 := by
  induction l with
  | nil => rfl
  | cons f l ih => rw [pxV_cons, List.length_append, ih]; simp; omega
theorem pxV_at : ∀ (l : PX) (i : Nat) (h : i < l.length), (pxV l)[i * 3]? = some (.int .i64 l[i].1.ver) ∧ (pxV l)[i * 3 + 1]? = some (.int .i64 l[i].1.unt) ∧ (pxV l)[i * 3 + 2]? = some (.map (some l[i].2))
  | [], i, h => by simp at h
  | f :: l, 0, _ => by simp [pxV_cons]
  | f :: l, i + 1, h => by
    have ih := pxV_at l i (by simpa using h)
    have e : ∀ j, (pxV (f :: l))[(i + 1) * 3 + j]? = (pxV l)[i * 3 + j]? := fun j => by
      rw [pxV_cons, List.getElem?_append_right (by simp; omega)]
      congr 1
      simp; omega
    have e0 := e 0
    simp only [Nat.add_zero] at e0
    rw [e0, e 1, e 2]
    exact ih
theorem pxV_take (l : PX) (i : Nat) : (pxV l).take (i * 3) = pxV (l.take i) := by
  by_cases h : i ≤ l.length
  · have e : pxV l = pxV (l.take i) ++ pxV (l.drop i) := by rw [← pxV_app, List.take_append_drop]
    rw [e, List.take_left' (by rw [pxV_len, List.length_take]; omega)]
  · rw [List.take_of_length_le (by rw [pxV_len]; omega), List.take_of_length_le (by omega)]
theorem pxV_set : ∀ (l : PX) (i : Nat) (y : Gr × Nat), i < l.length → (((pxV l).set (i * 3) (.int .i64 y.1.ver)).set (i * 3 + 1) (.int .i64 y.1.unt)).set (i * 3 + 2) (.map (some y.2)) = pxV (l.set i y)
  | [], i, _, h => by simp at h
  | f :: l, 0, y, _ => by simp [pxV_cons, List.set_cons_zero]
  | f :: l, i + 1, y, h => by
    have ih := pxV_set l i y (by simpa using h)
    rw [List.set_cons_succ, pxV_cons, pxV_cons, ← ih]
    have e : ∀ (m : List Value) (j : Nat) (u : Value), (pxC f ++ m).set ((i + 1) * 3 + j) u = pxC f ++ m.set (i * 3 + j) u := fun m j u => by
      rw [show (i + 1) * 3 + j = i * 3 + j + 1 + 1 + 1 by omega]
      rfl
    have e0 := fun m u => e m 0 u
    simp only [Nat.add_zero] at e0
    rw [e0, e, e]
theorem infoPg : (Try.prog.info? 58).map (fun i => (i.zero, i.size, i.bytes)) = some (some (.agg #[.int .i64 0, .int .i64 0, .map none]), 3, 24) := by kernel_rfl

/-- BLOCK p IS THE PROGRAM's BOOK D; v: its row of grants. -/
structure PAt (w : World) (p : Nat) (v : Value) (gx : PX) (u : Int) (D : Bk) : Prop where
  eq : D.g = gx.map (·.1)
  to : D.unknown = true → u = D.to
  blk : w.heap[p]? = some (.cells #[.bool (!D.unknown), .int .i64 u, v] 52 (0, 0))
  row : w.ownsRow 0 58 3 v gx.length (pxV gx)
  cnt : ∀ y ∈ gx, CntAt w y.2 1048576 (sumC y.1.l)
def PBlk (p : Nat) (v : Value) (gx : PX) (b : Nat) : Prop := b = p ∨ v.ownBlock = some b ∨ ∃ y ∈ gx, y.2 = b
structure PBook (w : World) (p : Nat) (D : Bk) (R : Nat → Prop) : Prop where
  is : ∃ v gx u, I64 u ∧ (∀ b, R b ↔ PBlk p v gx b) ∧ PAt w p v gx u D
theorem PAt.lt {w : World} {p : Nat} {v : Value} {gx : PX} {u : Int} {D : Bk} (h : PAt w p v gx u D) {b : Nat} (hb : PBlk p v gx b) : b < w.heap.size := by
  rcases hb with rfl | e | ⟨y, hy, rfl⟩
  · exact (Array.getElem?_eq_some_iff.1 h.blk).1
  · exact (h.row.lt b e).2
  · exact (h.cnt y hy).lt
theorem PAt.keep {w w' : World} {p : Nat} {v : Value} {gx : PX} {u : Int} {D : Bk} (h : PAt w p v gx u D) (hb : ∀ b, PBlk p v gx b → w'.heap[b]? = w.heap[b]?) : PAt w' p v gx u D :=
  ⟨h.eq, h.to, (hb p (.inl rfl)).trans h.blk, row_moved h.row fun b e => hb b (.inr (.inl e)), fun y hy => (h.cnt y hy).moved (hb y.2 (.inr (.inr ⟨y, hy, rfl⟩)))⟩
theorem PAt.below {w w' : World} {p : Nat} {v : Value} {gx : PX} {u : Int} {D : Bk} (h : PAt w p v gx u D) (hb : Below w.heap.size w w') : PAt w' p v gx u D := h.keep fun b e => hb.block b (h.lt e)
theorem pbook_law : Lawful PBook where
  lt := fun ⟨_, _, _, _, hR, h⟩ b hb => h.lt ((hR b).1 hb)
  keep := fun ⟨v, gx, u, hu, hR, h⟩ _ hb => ⟨v, gx, u, hu, hR, h.keep fun b e => hb b ((hR b).2 e)⟩
theorem PAt.cells {w : World} {p : Nat} {v : Value} {gx : PX} {u : Int} {D : Bk} (h : PAt w p v gx u D) : w.cell? ⟨p, 0, none⟩ = some (.bool (!D.unknown)) ∧ w.cell? ⟨p, 1, none⟩ = some (.int .i64 u) ∧ w.cell? ⟨p, 2, none⟩ = some v ∧ (∀ i, w.frozen? ⟨p, i, none⟩ = false) ∧ p < w.heap.size := by
  have hb := h.blk
  refine ⟨by rw [cell_of_row _ _ _ _ _ _ hb]; rfl, by rw [cell_of_row _ _ _ _ _ _ hb]; rfl, by rw [cell_of_row _ _ _ _ _ _ hb]; rfl, fun i => by simp [World.frozen?, hb], h.lt (.inl rfl)⟩
/-- Its row is not its own block; maps are neither. -/
theorem PAt.far {w : World} {p : Nat} {v : Value} {gx : PX} {u : Int} {D : Bk} (h : PAt w p v gx u D) : v.ownBlock ≠ some p ∧ ∀ y ∈ gx, y.2 ≠ p ∧ v.ownBlock ≠ some y.2 := by
  refine ⟨fun e => ?_, fun y hy => ⟨fun e => ?_, fun e => ?_⟩⟩
  · obtain ⟨cs, hc⟩ := row_blk h.row e
    rw [h.blk] at hc; injection hc with hc; injection hc with _ ht; exact absurd ht (by decide)
  · exact (h.cnt y hy).cells (by rw [e]; exact h.blk)
  · obtain ⟨cs, hc⟩ := row_blk h.row e
    exact (h.cnt y hy).cells hc
/-- Grant i of the row. -/
theorem PAt.grant {w : World} {p : Nat} {v : Value} {gx : PX} {u : Int} {D : Bk} (h : PAt w p v gx u D) {i : Nat} (hi : i < gx.length) : ∃ g cap, v = .slice (some ⟨g, 0, none⟩) gx.length cap ∧ g < w.heap.size ∧
    w.cell? ⟨g, i * 3, none⟩ = some (.int .i64 gx[i].1.ver) ∧ w.cell? ⟨g, i * 3 + 1, none⟩ = some (.int .i64 gx[i].1.unt) ∧ w.cell? ⟨g, i * 3 + 2, none⟩ = some (.map (some gx[i].2)) := by
  rcases h.row.2 with ⟨_, h2⟩ | ⟨g, cap, cur, hv, hg, hh, hle, hm, hs, ht⟩
  · omega
  · have hlt : g < w.heap.size := (Array.getElem?_eq_some_iff.1 hh).1
    have hat : ∀ j, j < gx.length * 3 → w.cell? ⟨g, j, none⟩ = (pxV gx)[j]? := fun j hj => by
      rw [cell_of_row w g j cur 58 (0, 0) hh, ← ht, List.getElem?_take_of_lt hj, Array.getElem?_toList]
    obtain ⟨f0, f1, f2⟩ := pxV_at gx i hi
    refine ⟨g, cap, hv, hlt, ?_, ?_, ?_⟩
    · rw [hat _ (by omega), f0]
    · rw [hat _ (by omega), f1]
    · rw [hat _ (by omega), f2]
theorem p_turn {w w' : World} {p : Nat} {v v' : Value} {gx gx' : PX} {u : Int} {D' : Bk} {R : Nat → Prop} (hR : ∀ b, R b ↔ PBlk p v gx b) (hu : I64 u) (h' : PAt w' p v' gx' u D') (hb : Beside R w w') (hv : ∀ b, PBlk p v' gx' b → PBlk p v gx b ∨ w.heap.size ≤ b) : Turn PBook w w' p D' R :=
  ⟨PBlk p v' gx', ⟨v', gx', u, hu, fun _ => Iff.rfl, h'⟩, hb, fun b e => (hv b e).imp (fun e => (hR b).2 e) id⟩
end Go.Proofs.Ytgkpkegbjkjhiaa
