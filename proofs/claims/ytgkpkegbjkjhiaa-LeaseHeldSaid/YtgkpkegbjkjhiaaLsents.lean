/-
  What a law keeps of the binds that it has sent: rows of rows, and a row of numbers, as one object beside the book.
-/
import Derived.Test.YtgkpkegbjkjhiaaLbinds
import Derived.Test.YtgkpkegbjkjhiaaLheld
import Derived.Test.YtgkpkegbjkjhiaaQl2
namespace Go.Proofs.Ytgkpkegbjkjhiaa
open Go.RowKit Gm

/-- The binds sent, each with its slice; the ends; the two rows' slices. -/
structure SX where
  rows : List (List Bd × Value)
  us : List Int
  vs : Value
  vu : Value
instance : Inhabited SX := ⟨⟨[], [], default, default⟩⟩
abbrev numV (l : List Int) : List Value := l.map fun x => .int .i64 x
structure SAt (w : World) (X : SX) : Prop where
  s : w.ownsRow 0 23 1 X.vs X.rows.length (X.rows.map (·.2))
  u : w.ownsRow 0 3 1 X.vu X.us.length (numV X.us)
  each : ∀ y ∈ X.rows, w.ownsRow 0 39 3 y.2 y.1.length (bdsV y.1)
def SBlk (X : SX) (b : Nat) : Prop := X.vs.ownBlock = some b ∨ X.vu.ownBlock = some b ∨ ∃ y ∈ X.rows, y.2.ownBlock = some b
def Sents : Kind SX := fun w _ X Q => (∀ b, Q b ↔ SBlk X b) ∧ SAt w X
theorem SAt.lt {w : World} {X : SX} (h : SAt w X) {b : Nat} (hb : SBlk X b) : b < w.heap.size := by
  rcases hb with e | e | ⟨y, hy, e⟩
  · exact (h.s.lt b e).2
  · exact (h.u.lt b e).2
  · exact ((h.each y hy).lt b e).2
theorem SAt.keep {w w' : World} {X : SX} (h : SAt w X) (hb : ∀ b, SBlk X b → w'.heap[b]? = w.heap[b]?) : SAt w' X :=
  ⟨row_moved h.s fun b e => hb b (.inl e), row_moved h.u fun b e => hb b (.inr (.inl e)), fun y hy => row_moved (h.each y hy) fun b e => hb b (.inr (.inr ⟨y, hy, e⟩))⟩
theorem SAt.below {w w' : World} {X : SX} (h : SAt w X) (hb : Below w.heap.size w w') : SAt w' X := h.keep fun b e => hb.block b (h.lt e)
theorem sents_law : Lawful Sents where
  lt := fun ⟨hQ, h⟩ b hb => h.lt ((hQ b).1 hb)
  keep := fun ⟨hQ, h⟩ _ hb => ⟨hQ, h.keep fun b e => hb b ((hQ b).2 e)⟩
/-- Rows of different types share no block. -/
theorem row_ne {w : World} {b1 b2 e1 e2 s1 s2 n1 n2 : Nat} {v1 v2 : Value} {x1 x2 : List Value} (h1 : w.ownsRow b1 e1 s1 v1 n1 x1) (h2 : w.ownsRow b2 e2 s2 v2 n2 x2) (he : e1 ≠ e2) {b : Nat} (hb : v1.ownBlock = some b) : v2.ownBlock ≠ some b := fun hb' => by
  obtain ⟨cs, hc⟩ := row_blk h1 hb
  obtain ⟨cs', hc'⟩ := row_blk h2 hb'
  rw [hc] at hc'; injection hc' with hc'; injection hc' with _ ht; exact he ht
theorem row_base {w : World} {b0 e s n : Nat} {v : Value} {xs : List Value} (h : w.ownsRow b0 e s v n xs) : w.ownsRow 0 e s v n xs := by
  obtain ⟨k1, k2⟩ := h
  refine ⟨k1, ?_⟩
  rcases k2 with k2 | ⟨g, cp, cur, kv, _, kr⟩
  · exact .inl k2
  · exact .inr ⟨g, cp, cur, kv, Nat.zero_le _, kr⟩
/-- One row more was sent: w: ahead of all of it; wb: where the append begins (what was made since is younger). -/
theorem SAt.sent {w wb wc : World} {X : SX} {Q : Nat → Prop} (hQ : ∀ b, Q b ↔ SBlk X b) (h : SAt w X) (hb : Below w.heap.size w wb) {l : List Bd} {lv : Value} {g cap : Nat}
    (hl : wb.ownsRow w.heap.size 39 3 lv l.length (bdsV l)) (hr : wc.ownsRow 0 23 1 (.slice (some ⟨g, 0, none⟩) (X.rows.length + 1) cap) (X.rows.length + 1) (X.rows.map (·.2) ++ [lv]))
    (hg : wb.grownBy wc X.vs.ownBlock) (hat : X.vs.ownBlock = some g ∨ g = wb.heap.size) :
    Turn Sents w wc 0 { X with rows := X.rows ++ [(l, lv)], vs := .slice (some ⟨g, 0, none⟩) (X.rows.length + 1) cap } Q := by
  have hX := h.below hb
  have hmv : ∀ {e : TypeId} {s n b0 : Nat} {v : Value} {xs : List Value}, wb.ownsRow b0 e s v n xs → e ≠ 23 → wc.ownsRow b0 e s v n xs := fun hv he => row_moved hv fun b e' => hg.block b (hv.lt b e').2 (fun e2 => row_ne hv hX.s he e' e2.symm)
  refine ⟨SBlk { X with rows := X.rows ++ [(l, lv)], vs := .slice (some ⟨g, 0, none⟩) (X.rows.length + 1) cap }, ⟨fun _ => Iff.rfl, ?_, hmv hX.u (by decide), fun y hy => ?_⟩, ?_, fun b e => ?_⟩
  · have e1 : (X.rows ++ [(l, lv)]).length = X.rows.length + 1 := by simp
    have e2 : (X.rows ++ [(l, lv)]).map (·.2) = X.rows.map (·.2) ++ [lv] := by simp
    show wc.ownsRow 0 23 1 _ (X.rows ++ [(l, lv)]).length ((X.rows ++ [(l, lv)]).map (·.2))
    rw [e1, e2]; exact hr
  · rcases List.mem_append.1 hy with hy | hy
    · exact hmv (hX.each y hy) (by decide)
    · obtain rfl : y = (l, lv) := by simpa using hy
      exact row_base (hmv hl (by decide))
  · exact (Beside.of_below hb).trans (Beside.grown hg fun b e _ => e) fun b e _ => (hQ b).2 (.inl e)
  · rcases e with e | e | ⟨y, hy, e⟩
    · have e' : g = b := by simpa [Value.ownBlock] using e
      rcases hat with k | k
      · exact .inl ((hQ b).2 (.inl (by rw [← e']; exact k)))
      · exact .inr (by rw [← e', k]; exact hb.size)
    · exact .inl ((hQ b).2 (.inr (.inl e)))
    · rcases List.mem_append.1 hy with hy | hy
      · exact .inl ((hQ b).2 (.inr (.inr ⟨y, hy, e⟩)))
      · obtain rfl : y = (l, lv) := by simpa using hy
        exact .inr (hl.lt b e).1
/-- One end more. -/
theorem SAt.ended {w wb wc : World} {X : SX} {Q : Nat → Prop} (hQ : ∀ b, Q b ↔ SBlk X b) (h : SAt w X) (hb : Below w.heap.size w wb) {u : Int} {g cap : Nat}
    (hr : wc.ownsRow 0 3 1 (.slice (some ⟨g, 0, none⟩) (X.us.length + 1) cap) (X.us.length + 1) (numV X.us ++ [.int .i64 u]))
    (hg : wb.grownBy wc X.vu.ownBlock) (hat : X.vu.ownBlock = some g ∨ g = wb.heap.size) :
    Turn Sents w wc 0 { X with us := X.us ++ [u], vu := .slice (some ⟨g, 0, none⟩) (X.us.length + 1) cap } Q := by
  have hX := h.below hb
  have hmv : ∀ {e : TypeId} {s n b0 : Nat} {v : Value} {xs : List Value}, wb.ownsRow b0 e s v n xs → e ≠ 3 → wc.ownsRow b0 e s v n xs := fun hv he => row_moved hv fun b e' => hg.block b (hv.lt b e').2 (fun e2 => row_ne hv hX.u he e' e2.symm)
  refine ⟨SBlk { X with us := X.us ++ [u], vu := .slice (some ⟨g, 0, none⟩) (X.us.length + 1) cap }, ⟨fun _ => Iff.rfl, hmv hX.s (by decide), ?_, fun y hy => hmv (hX.each y hy) (by decide)⟩, ?_, fun b e => ?_⟩
  · have e1 : (X.us ++ [u]).length = X.us.length + 1 := by simp
    have e2 : numV (X.us ++ [u]) = numV X.us ++ [.int .i64 u] := by simp [numV]
    show wc.ownsRow 0 3 1 _ (X.us ++ [u]).length (numV (X.us ++ [u]))
    rw [e1, e2]; exact hr
  · exact (Beside.of_below hb).trans (Beside.grown hg fun b e _ => e) fun b e _ => (hQ b).2 (.inr (.inl e))
  · rcases e with e | e | e
    · exact .inl ((hQ b).2 (.inl e))
    · have e' : g = b := by simpa [Value.ownBlock] using e
      rcases hat with k | k
      · exact .inl ((hQ b).2 (.inr (.inl (by rw [← e']; exact k))))
      · exact .inr (by rw [← e', k]; exact hb.size)
    · exact .inl ((hQ b).2 (.inr (.inr e)))
/-- Row i. -/
theorem SAt.row {w : World} {X : SX} (h : SAt w X) {i : Nat} (hi : i < X.rows.length) : ∃ g cap, X.vs = .slice (some ⟨g, 0, none⟩) X.rows.length cap ∧ g < w.heap.size ∧ w.cell? ⟨g, i, none⟩ = some X.rows[i].2 ∧
    ∃ a c, X.rows[i].2 = .slice a X.rows[i].1.length c ∧ BindsAt w (fun b => SBlk X b) a X.rows[i].1.length X.rows[i].1 := by
  have he := h.each _ (List.getElem_mem hi)
  obtain ⟨a, c, hv, _, hb⟩ := binds_own he
  rcases h.s.2 with ⟨_, h2⟩ | ⟨g, cap, cur, hv', hg, hh, hle, hm, hs, ht⟩
  · omega
  · refine ⟨g, cap, hv', (Array.getElem?_eq_some_iff.1 hh).1, ?_, a, c, hv, hb.imp fun b e => .inr (.inr ⟨_, List.getElem_mem hi, e⟩)⟩
    rw [cell_of_row w g i cur 23 (0, 0) hh, ← Array.getElem?_toList, ← List.getElem?_take_of_lt (by omega : i < X.rows.length * 1), ht, List.getElem?_map, List.getElem?_eq_getElem hi]
    rfl
/-- End i. -/
theorem SAt.end_ {w : World} {X : SX} (h : SAt w X) {i : Nat} (hi : i < X.us.length) : ∃ g cap, X.vu = .slice (some ⟨g, 0, none⟩) X.us.length cap ∧ g < w.heap.size ∧ w.cell? ⟨g, i, none⟩ = some (.int .i64 X.us[i]) := by
  rcases h.u.2 with ⟨_, h2⟩ | ⟨g, cap, cur, hv', hg, hh, hle, hm, hs, ht⟩
  · omega
  · refine ⟨g, cap, hv', (Array.getElem?_eq_some_iff.1 hh).1, ?_⟩
    rw [cell_of_row w g i cur 3 (0, 0) hh, ← Array.getElem?_toList, ← List.getElem?_take_of_lt (by omega : i < X.us.length * 1), ht, List.getElem?_map, List.getElem?_eq_getElem hi]
    rfl
/-- A slice of one, as it is built. -/
theorem row_one {w : World} {g : Nat} {v : Value} {t : TypeId} (h : w.heap[g]? = some (.cells #[v] t (0, 0))) : w.ownsRow 0 t 1 (.slice (some ⟨g, 0, none⟩) 1 1) 1 [v] :=
  ⟨rfl, .inr ⟨g, 1, #[v], rfl, Nat.zero_le _, h, Nat.le_refl _, by unfold maxLen; omega, rfl, rfl⟩⟩
end Go.Proofs.Ytgkpkegbjkjhiaa
