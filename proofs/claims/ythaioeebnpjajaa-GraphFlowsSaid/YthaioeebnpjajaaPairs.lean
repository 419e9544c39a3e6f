/-
  A range over graph.residuals whose body never leaves: one law.
-/
import Derived.Test.YthaioeebnpjajaaResid
namespace Go.Proofs.Ythaioeebnpjajaa
open Go.RowKit Gm

/-- But for the blocks r and g all is as it was. -/
structure But (r g : Nat) (W W' : World) : Prop where
  os : W'.os = W.os
  tape : W'.tape = W.tape
  output : W'.output = W.output
  size : W.heap.size ≤ W'.heap.size
  same : ∀ k, k < W.heap.size → k ≠ r → k ≠ g → W'.heap[k]? = W.heap[k]?
theorem But.refl (r g : Nat) (W : World) : But r g W W := ⟨rfl, rfl, rfl, Nat.le_refl _, fun _ _ _ _ => rfl⟩
theorem But.trans {r g : Nat} {A B C : World} (h : But r g A B) (k : But r g B C) : But r g A C :=
  ⟨k.os.trans h.os, k.tape.trans h.tape, k.output.trans h.output, Nat.le_trans h.size k.size, fun i hi h1 h2 => (k.same i (Nat.lt_of_lt_of_le hi h.size) h1 h2).trans (h.same i hi h1 h2)⟩
theorem But.set {r g : Nat} (W : World) (p : Addr) (hp : p.block = r ∨ p.block = g) (u : Value) : But r g W (W.setCell p u) :=
  ⟨rfl, rfl, rfl, by simp [World.setCell], fun k _ h1 h2 => Below.heap_setCell _ _ _ k (fun e => by rcases hp with h | h <;> omega)⟩

def pairF (T : Array Value) (p1 p2 s q : Tmp) (p : Int × Int) : Array Value :=
  (((T.setIfInBounds p1 (.int .i64 p.1)).setIfInBounds p2 (.int .i64 p.2)).setIfInBounds s (.int .i64 p.1)).setIfInBounds q (.int .i64 p.2)

def pairPost (r g : Nat) (J : List (Int × Int) → World → Prop) (ps : List (Int × Int)) (W : World) : Exit → Act → World → Prop
  | .normal, _, W' => But r g W W' ∧ J ps W'
  | _, _, _ => False

theorem range_pairs {n : Nat} {gop : Operand} {p1 p2 s q : Tmp} {assign body : Code} {Q : Exit → Act → World → Prop} {a : Act} {w : World} (hn : 6 ≤ n) (r g Bn Bf n₀ : Nat) (v : Int) (A : Option Addr) (len cap : Nat) (es : List E) (fa : Option Addr) (flen fcap : Nat) (fl : List Int) (hf : fits v es fl = true)
    (hg : a.eval gop = .func (.func 34) #[] #[.pointer (some ⟨Bn, 0, none⟩), .pointer (some ⟨Bf, 0, none⟩)]) (hn₀ : n₀ ≤ w.heap.size) (bN : Blk w Bn 24 #[.int .i64 v, .slice A len cap]) (bF : Blk w Bf 25 #[.slice fa flen fcap]) (hE : NetAt n₀ w A len es) (hF : FlowAt n₀ w fa flen fl)
    (hr : n₀ ≤ r ∧ r < w.heap.size ∧ r ≠ Bn ∧ r ≠ Bf) (hgg : n₀ ≤ g ∧ g < w.heap.size ∧ g ≠ Bn ∧ g ≠ Bf)
    (J : List (Int × Int) → World → Prop) (hJ : OwnFrom w.heap.size J) (h0 : J [] w)
    (hassign : ∀ (l : Nat) (p : Int × Int) (W : World) (K : Act → World → Prop), K { tmps := pairF a.tmps p1 p2 s q p, defers := [] } W →
      assign.wpIn (Fence.wide.inRound l) (n - 1 - 1) Try.prog (Exit.then K (fun _ _ _ => False)) { tmps := (a.tmps.setIfInBounds p1 (.int .i64 p.1)).setIfInBounds p2 (.int .i64 p.2), defers := [] } W)
    (hbody : ∀ (l : Nat) (pre : List (Int × Int)) (p : Int × Int) (W : World), w.heap.size ≤ W.heap.size → J pre W → inR v.toNat p →
      body.wpIn (Fence.wide.inRound l) (n - 1 - 1) Try.prog (pairPost r g J (pre ++ [p]) W) { tmps := pairF a.tmps p1 p2 s q p, defers := [] } W)
    (hdone : ∀ (D : Nat) (W : World), w.heap.size ≤ D → J (pairs (es.zip fl)) W → W.heap[D]? = some (.deferred (some [])) → Q .normal { a with defers := { target := .collected D, args := #[] } :: a.defers } W) :
    (Code.rangeFunc gop #[p1, p2] assign body).wpIn Fence.wide n Try.prog Q a w := by
  refine wpIn_rangeFunc ?_
  intro fn hfn
  rw [show Fence.wide.round = none from rfl]
  obtain ⟨rec, hrec⟩ : ∃ rec : LoopState → Option Code → Loop, rec = fun st pe => { state := st, pending := pe, fn, tmps := a.tmps, params := #[p1, p2], assign, body, defers := w.heap.size } := ⟨_, rfl⟩
  obtain ⟨W1, hW1⟩ : ∃ W1, (w.alloc (.deferred (some []))).alloc (.loop (rec .ready none)) = W1 := ⟨_, rfl⟩
  have hz1 : W1.heap.size = w.heap.size + 2 := by rw [← hW1]; simp
  have hL1 : W1.heap[w.heap.size + 1]? = some (.loop (rec .ready none)) := by
    rw [← hW1]; have := World.alloc_heap_new (w.alloc (.deferred (some []))) (.loop (rec .ready none)); rwa [World.size_alloc] at this
  have hK1 : W1.heap[w.heap.size]? = some (.deferred (some [])) := by
    rw [← hW1]; exact (Below.heap_alloc _ _ _ (by simp)).trans (World.alloc_heap_new w _)
  have hJ1 : J [] W1 := by rw [← hW1]; exact hJ.alloc _ (hJ.alloc _ h0)
  have hb1 : Below w.heap.size w W1 := by
    rw [← hW1]; exact ((Below.refl _ w).alloc (Nat.le_refl _) _).alloc (by simp) _
  have bN1 : Blk W1 Bn 24 #[.int .i64 v, .slice A len cap] := bN.below hb1 bN.lt
  have bF1 : Blk W1 Bf 25 #[.slice fa flen fcap] := bF.below hb1 bF.lt
  refine ⟨w.heap.size + 1, [{ target := .collected w.heap.size, args := #[] }], W1, { target := .fn (.func 34) #[.pointer (some ⟨Bn, 0, none⟩), .pointer (some ⟨Bf, 0, none⟩)], args := #[.func (.yield (w.heap.size + 1)) #[] #[]] }, W1, 34,
    #[.func (.yield (w.heap.size + 1)) #[] #[]] ++ #[.pointer (some ⟨Bn, 0, none⟩), .pointer (some ⟨Bf, 0, none⟩)], W1, ?_, ?_, fun _ _ => trivial, ?_, (fun h => by cases h), ?_⟩
  · rw [← hW1, hrec]; exact run_enterLoop_outer _ _ _ _ _
  · simp only [resolve, hg]
    simp [go_sem]
  · simp [invoke, go_sem]
  · have hR := resid1_in (n - 1 - 1) (n - 1) (w.heap.size + 1) Bn Bf n₀ (by omega) v A len cap es fa flen fcap fl hf W1 (by omega) bN1 bF1 (hE.below (hb1.mono hn₀)) (hF.below (hb1.mono hn₀))
      (fun pre W => J pre W ∧ W.heap[w.heap.size + 1]? = some (.loop (rec .ready none)) ∧ W.heap[w.heap.size]? = some (.deferred (some [])))
      (fun s A B row hs hg' hr' => ⟨hJ s A B row hs.1 hg' (fun r e => ⟨by have := (hr' r e).1; omega, (hr' r e).2⟩),
        (hg'.block _ (Array.getElem?_eq_some_iff.1 hs.2.1).1 (fun e => by have := (hr' _ e.symm).1; omega)).trans hs.2.1,
        (hg'.block _ (Array.getElem?_eq_some_iff.1 hs.2.2).1 (fun e => by have := (hr' _ e.symm).1; omega)).trans hs.2.2⟩)
      ?_ ⟨hJ1, hL1, hK1⟩
    · refine hR.mono ?_
      rintro e W2 ⟨⟨u, rfl⟩, hj, hl, hk⟩
      exact ⟨none, _, by have := run_endLoop (P := Try.prog) hl (by rw [hrec]; simp); rw [hrec] at this; exact this, hdone _ _ (Nat.le_refl _) (hJ.putObj _ hj (by omega) hl rfl) ((World.putObj_heap_other (by omega)).trans hk)⟩
    · rintro pre p W ⟨hj, hl, hk⟩ hin
      have hlt : w.heap.size + 1 < W.heap.size := (Array.getElem?_eq_some_iff.1 hl).1
      have hy := run_yield (P := Try.prog) (args := #[.int .i64 p.1, .int .i64 p.2]) hl (by rw [hrec]; rfl)
      rw [hrec] at hy
      refine ⟨fn, _, assign, body, hy, roundIn_of_wpIn hfn ?_⟩
      clear hy
      have hx : ∀ K : Act → World → Prop, assign.wpIn (Fence.wide.inRound (w.heap.size + 1)) (n - 1 - 1) Try.prog (Exit.then K (fun _ _ _ => False)) { tmps := (a.tmps.setIfInBounds p1 (.int .i64 p.1)).setIfInBounds p2 (.int .i64 p.2), defers := [] } W →
        assign.wpIn (Fence.wide.inRound (w.heap.size + 1)) (n - 1 - 1) Try.prog (Exit.then K (fun _ _ _ => False)) { tmps := (#[p1, p2].zip #[Value.int .i64 p.1, Value.int .i64 p.2]).foldl (fun t (p, v) => t.setIfInBounds p v) a.tmps, defers := [] } W := fun K h => by simpa using h
      dsimp only
      refine hx _ (hassign (w.heap.size + 1) p W _ ?_)
      refine ⟨_, run_beginRound hl (by rw [hrec]), ?_⟩
      have hl2 : (W.putObj (w.heap.size + 1) (.loop { rec .ready none with state := .busy })).heap[w.heap.size + 1]? = some (.loop { rec .ready none with state := .busy }) := World.putObj_heap_same hlt
      have hk2 : (W.putObj (w.heap.size + 1) (.loop { rec .ready none with state := .busy })).heap[w.heap.size]? = some (.deferred (some [])) := (World.putObj_heap_other (by omega)).trans hk
      refine wpIn_mono (hbody _ pre p _ (by simp; omega) (hJ.putObj _ hj (by omega) hl rfl) hin) ?_
      rintro e a3 W3 hp
      cases e with
      | normal =>
        obtain ⟨hbut, hj3⟩ := hp
        have hl3 := (hbut.same (w.heap.size + 1) (by simp; omega) (by omega) (by omega)).trans hl2
        have hk3 := (hbut.same w.heap.size (by simp; omega) (by omega) (by omega)).trans hk2
        have he := run_endRound (P := Try.prog) none hl3
        rw [hrec] at he
        refine ⟨_, _, he, rfl, ⟨hJ.putObj _ hj3 (by omega) hl3 rfl, ?_, (World.putObj_heap_other (by omega)).trans hk3⟩, ?_⟩
        · rw [World.putObj_heap_same (by have := (Array.getElem?_eq_some_iff.1 hl3).1; exact this), hrec]; rfl
        · have hz3 : W.heap.size ≤ W3.heap.size := by have := hbut.size; simpa using this
          refine ⟨⟨hbut.os, hbut.tape, hbut.output, by simpa using hz3, fun k hk' => ?_⟩, fun k hk' hk'' => ?_⟩
          · rw [World.putObj_heap_other (by omega), hbut.same k (by simp; omega) (by omega) (by omega), World.putObj_heap_other (by omega)]
          · have hne : k ≠ w.heap.size + 1 ∧ k ≠ r ∧ k ≠ g := by
              have := bN.lt
              have := bF.lt
              rcases hk' with h | h | h
              · omega
              · omega
              · omega
            rw [World.putObj_heap_other (by omega), hbut.same k (by simp; omega) hne.2.1 hne.2.2, World.putObj_heap_other (by omega)]
      | _ => exact hp.elim
end Go.Proofs.Ythaioeebnpjajaa
