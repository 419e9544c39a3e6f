/-
  A range over the edges of a network: one law for every loop of package graph.
-/
import Derived.Test.YthchlfoebkachaaAll
namespace Go.Proofs.Ythchlfoebkachaa
open Go.RowKit Gm

/-- The frame of a round: the places p1, p2 of the iterator's values, s for the edge's place, q for the edge's box. -/
def roundF (T : Array Value) (p1 p2 s q : Tmp) (x : At) (B : Nat) : Array Value :=
  (((T.setIfInBounds p1 (.int .i64 (x.1 : Int))).setIfInBounds p2 (edgeV x.2)).setIfInBounds s (.int .i64 (x.1 : Int))).setIfInBounds q (.pointer (some ⟨B, 0, none⟩))
abbrev edgeCells (e : E) : Array Value := #[.int .i64 e.1, .int .i64 e.2.1, .int .i64 e.2.2]

theorem size_own {β : Type} (B k : Nat) : OwnFrom B (fun (_ : β) W => k ≤ W.heap.size) := fun _ _ _ _ hs hg _ => Nat.le_trans hs hg.size

theorem range_edges {n : Nat} {g : Operand} {p1 p2 s q : Tmp} {assign body : Code} {Q : Exit → Act → World → Prop} {a : Act} {w : World} (hn : 3 ≤ n) (Bs n₀ : Nat) (A : Option Addr) (len cap : Nat) (es : List E)
    (hg : a.eval g = .func (.func 54) #[] #[.pointer (some ⟨Bs, 0, none⟩)]) (hBs : Blk w Bs 22 #[.slice A len cap]) (hn₀ : n₀ ≤ w.heap.size) (hE : NetAt n₀ w A len es)
    (I : List (AtOf es) → World → Prop) (Ix : Code → List (AtOf es) → World → Prop) (hI : OwnFrom w.heap.size I) (hIx : ∀ c, OwnFrom w.heap.size (Ix c)) (h0 : I [] w)
    (hassign : ∀ (l : Nat) (x : At) (W : World) (K : Act → World → Prop), K { tmps := roundF a.tmps p1 p2 s q x W.heap.size, defers := [] } (W.alloc (.cells (edgeCells x.2) 50)) →
      assign.wpIn (Fence.wide.inRound l) (n - 1 - 1) Try.prog (Exit.then K (fun _ _ _ => False)) { tmps := (a.tmps.setIfInBounds p1 (.int .i64 (x.1 : Int))).setIfInBounds p2 (edgeV x.2), defers := [] } W)
    (hbody : ∀ (l : Nat) (pre : List (AtOf es)) (x : AtOf es) (W : World) (Bx : Nat), w.heap.size ≤ l → (∃ r, W.heap[l]? = some (.loop r)) → w.heap.size ≤ Bx → w.heap.size ≤ W.heap.size → Blk W Bx 50 (edgeCells x.1.2) → I pre W → pre.length < len →
      body.wpIn (Fence.wide.inRound l) (n - 1 - 1) Try.prog (ownPostG w.heap.size (Below n₀) I Ix (pre ++ [x]) W) { tmps := roundF a.tmps p1 p2 s q x.1 Bx, defers := [] } W)
    (hdone : ∀ (D : Nat) (ys : List (AtOf es)) (W : World), w.heap.size ≤ D → bare ys = placed es → I ys W → W.heap[D]? = some (.deferred (some [])) → Q .normal { a with defers := { target := .collected D, args := #[] } :: a.defers } W)
    (hstop : ∀ (D : Nat) (c : Code) (pre : List (AtOf es)) (W : World), w.heap.size ≤ D → Ix c pre W → W.heap[D]? = some (.deferred (some [])) → c.wpIn Fence.wide n Try.prog Q { a with defers := { target := .collected D, args := #[] } :: a.defers } W) :
    (Code.rangeFunc g #[p1, p2] assign body).wpIn Fence.wide n Try.prog Q a w := by
  refine wpIn_rangeFunc_ownH rfl (by omega) (gf := 54) (lb := #[.pointer (some ⟨Bs, 0, none⟩)]) hg trivial (enters_of Try.func54 (by kernel_rfl) rfl)
    (all_stops (n - 1) (by omega) Bs n₀ A len cap es w hBs.lt hn₀ (by rw [hBs.cell]; rfl) hE) belowK_t (belowK_b hn₀) (Below.refl _ _) (fun _ => rfl)
    (fun pre W => I pre W ∧ w.heap.size ≤ W.heap.size) Ix (hI.and (size_own _ _)) hIx ⟨h0, Nat.le_refl _⟩
    (fun x a' W => ∃ Bx, w.heap.size ≤ Bx ∧ Blk W Bx 50 (edgeCells x.1.2) ∧ a' = { tmps := roundF a.tmps p1 p2 s q x.1 Bx, defers := [] })
    (fun x a' => ?ax) ?assign ?body ?done ?stop
  case ax =>
    rintro _ X Y row ⟨Bx, hb, hk, e⟩ hg hr
    exact ⟨Bx, hb, (Own.from (blk_own (β := Unit) Bx 50 fun _ => edgeCells x.1.2) w.heap.size) () X Y row hk hg hr, e⟩
  case assign =>
    rintro l pre x W K ⟨hi, hz⟩ hK
    have h := hassign l x.1 W K (hK _ _ ((KeepsOthers.alloc _ _).from _) ((Below.refl _ W).alloc (Nat.le_trans hn₀ hz) _) ⟨hI.alloc _ hi, by simp; omega⟩ ⟨W.heap.size, hz, Blk.new W _ _, rfl⟩)
    simpa [atV] using h
  case body =>
    rintro l pre x a' W hl hr ⟨hi, hz⟩ ⟨Bx, hb, hk, rfl⟩ hlt
    refine wpIn_mono (hbody l pre x W Bx hl hr hb hz hk hi hlt) ?_
    rintro e a3 W3 hp
    cases e with
    | normal => exact ⟨hp.1, hp.2.1, hp.2.2, Nat.le_trans hz hp.1.size⟩
    | ret => exact hp
    | exit id => exact hp
    | goto t => exact hp
    | panic ch => exact hp
    | outgrown => exact hp
  case done =>
    rintro D ys W hD hS ⟨hi, _⟩ hK
    exact hdone D ys W hD hS hi hK
  case stop =>
    rintro D c pre W hD _ hi hK
    exact hstop D c pre W hD hi hK
end Go.Proofs.Ythchlfoebkachaa
