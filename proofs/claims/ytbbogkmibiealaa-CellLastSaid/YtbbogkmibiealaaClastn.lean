/-
  What the statement CellLast keeps: a row of messages that grows, beside the cell; numbers.
-/
import Derived.Test.YtbbogkmibiealaaCcalls
import Derived.Test.YtbbogkmibiealaaCfits
namespace Go.Proofs.Ytbbogkmibiealaa
open Go.RowKit Gm

abbrev msC (y : Ms × Value) : List Value := [.int .i64 y.1.kind, .int .i64 y.1.cell, .int .i64 y.1.boot, .int .i64 y.1.epoch, .int .i64 y.1.ver, .int .i64 y.1.unt, y.2]
def msV (l : List (Ms × Value)) : List Value := l.flatMap msC
theorem msV_cons (f : Ms × Value) (l : List (Ms × Value)) : msV (f :: l) = msC f ++ msV l := rfl
theorem msV_app (l m : List (Ms × Value)) : msV (l ++ m) = msV l ++ msV m := by unfold msV; rw [List.flatMap_append]
theorem msV_len (l : List (Ms × Value)) : (msV l).length = l.length * 7 := by
  induction l with
  | nil => rfl
  | cons f l ih => rw [msV_cons, List.length_append, ih]; simp; omega
theorem msV_at : ∀ (l : List (Ms × Value)) (i : Nat) (h : i < l.length) (j : Nat) (_hj : j < 7), (msV l)[i * 7 + j]? = (msC l[i])[j]?
  | [], i, h, _, _ => by simp at h
  | f :: l, 0, _, j, hj => by
    rw [msV_cons, List.getElem?_append_left (by simp; omega)]
    simp
  | f :: l, i + 1, h, j, hj => by
    have ih := msV_at l i (by simpa using h) j hj
    rw [msV_cons, List.getElem?_append_right (by simp; omega)]
    have e : (i + 1) * 7 + j - (msC f).length = i * 7 + j := by simp; omega
    rw [e]
    exact ih
theorem infoMs : (Try.prog.info? 31).map (fun i => (i.zero, i.size, i.bytes)) = some (some (.agg #[.int .i64 0, .int .i64 0, .int .i64 0, .int .i64 0, .int .i64 0, .int .i64 0, .slice none 0 0]), 7, 72) := by kernel_rfl
/-- A row of messages, each with the slice of its binds; the datum tells the row's slice. -/
def RowsK : Kind (Value × List (Ms × Value)) := fun w _ D R => (∀ b, R b ↔ D.1.ownBlock = some b) ∧ w.ownsRow 0 31 7 D.1 D.2.length (msV D.2)
theorem rows_law : Lawful RowsK where
  lt := fun ⟨hR, h⟩ b hb => (h.lt b ((hR b).1 hb)).2
  keep := fun ⟨hR, h⟩ _ hb => ⟨hR, row_moved h fun b e => hb b ((hR b).2 e)⟩
theorem RowsK.get {w : World} {q : Nat} {v : Value} {E : List (Ms × Value)} {R : Nat → Prop} (h : RowsK w q (v, E) R) {j : Nat} (hj : j < E.length) : ∃ g cap, v = .slice (some ⟨g, 0, none⟩) E.length cap ∧ g < w.heap.size ∧
    w.cell? ⟨g, j * 7, none⟩ = some (.int .i64 E[j].1.kind) ∧ w.cell? ⟨g, j * 7 + 1, none⟩ = some (.int .i64 E[j].1.cell) ∧ w.cell? ⟨g, j * 7 + 2, none⟩ = some (.int .i64 E[j].1.boot) ∧ w.cell? ⟨g, j * 7 + 3, none⟩ = some (.int .i64 E[j].1.epoch) ∧ w.cell? ⟨g, j * 7 + 4, none⟩ = some (.int .i64 E[j].1.ver) ∧ w.cell? ⟨g, j * 7 + 5, none⟩ = some (.int .i64 E[j].1.unt) ∧ w.cell? ⟨g, j * 7 + 6, none⟩ = some E[j].2 := by
  rcases h.2.2 with ⟨_, h2⟩ | ⟨g, cap, cur, hv, hg, hh, hle, hm, hs, ht⟩
  · dsimp only at h2; omega
  · have hlt : g < w.heap.size := (Array.getElem?_eq_some_iff.1 hh).1
    have hat : ∀ i, i < 7 → w.cell? ⟨g, j * 7 + i, none⟩ = (msC E[j])[i]? := fun i hi => by
      rw [cell_of_row w g _ cur 31 (0, 0) hh, ← msV_at E j hj i hi, ← ht, List.getElem?_take_of_lt (by dsimp only; omega), Array.getElem?_toList]
    exact ⟨g, cap, hv, hlt, hat 0 (by omega), hat 1 (by omega), hat 2 (by omega), hat 3 (by omega), hat 4 (by omega), hat 5 (by omega), hat 6 (by omega)⟩
theorem cells_7 (w : World) (x0 x1 x2 x3 x4 x5 x6 : Value) (t : TypeId) : ∀ j u, [x0, x1, x2, x3, x4, x5, x6][j]? = some u → (w.alloc (.cells #[x0, x1, x2, x3, x4, x5, x6] t)).cell? ((⟨w.heap.size, 0, none⟩ : Addr).add j) = some u := by
  intro j u hj
  have hadd : (⟨w.heap.size, 0, none⟩ : Addr).add j = ⟨w.heap.size, j, none⟩ := by unfold Addr.add; split <;> simp_all
  rw [hadd, cell_of_row _ _ _ _ _ _ (new_at w _)]
  match j, hj with
  | 0, h => simpa using h
  | 1, h => simpa using h
  | 2, h => simpa using h
  | 3, h => simpa using h
  | 4, h => simpa using h
  | 5, h => simpa using h
  | 6, h => simpa using h
  | j + 7, h => simp at h
section
variable {X : Type} {A : Kind X} {w0 W : World} {p q : Nat} {D : X} {v : Value} {E : List (Ms × Value)} {bs : List (Nat × Obj)}
/-- One message more. -/
theorem Held.more (hA : Lawful A) (h : Held A RowsK w0 W p D q (v, E) bs) (k c b e vv u : Int) (l : List Bd) (a : Option Addr) (n cap : Nat) (h64 : E.length ≤ 1000) :
    ∃ a' c' w', (∀ ty, (Builtin.append_ #[22, 22] ty #[v, .slice (some ⟨W.heap.size, 0, none⟩) 1 1]).run Try.prog (W.alloc (msgO k c b e vv u a n cap)) = .ok (.slice a' (E.length + 1) c') w') ∧ Held A RowsK w0 w' p D q (.slice a' (E.length + 1) c', E ++ [(⟨k, c, b, e, vv, u, l⟩, .slice a n cap)]) bs := by
  obtain ⟨i0, hi0, hz0, hz1, hz2⟩ := info_parts infoMs
  obtain ⟨R, Q, f⟩ := h
  have hown := f.b.2
  have hr := fun ty => run_append_own_at (P := Try.prog) (W.alloc (msgO k c b e vv u a n cap)) 0 22 ty 31 i0 _ 7 72 Try.underlying22 hi0 hz0 hz1 hz2 rfl (by decide) v E.length (msV E) (hown.alloc _) ⟨W.heap.size, 0, none⟩ 1 1 (msC (⟨k, c, b, e, vv, u, l⟩, .slice a n cap)) rfl (cells_7 W _ _ _ _ _ _ _ 31) (by simp [Value.oneCell']) (by unfold maxLen; omega) (by omega) (Nat.zero_le _)
  obtain ⟨v', w', h1, h2, h3, _, h5⟩ := hr 0
  have h1' : ∀ ty, (Builtin.append_ #[22, 22] ty #[v, .slice (some ⟨W.heap.size, 0, none⟩) 1 1]).run Try.prog (W.alloc (msgO k c b e vv u a n cap)) = .ok v' w' := fun ty => h1
  obtain ⟨a', c', rfl⟩ := row_form h2
  have hba : Below W.heap.size W (W.alloc (msgO k c b e vv u a n cap)) := (Below.refl _ W).alloc (Nat.le_refl _) _
  refine ⟨a', c', w', h1', ?_⟩
  have g : HeldR RowsK A w0 W q (v, E) p D bs Q R := ⟨f.b, f.a, fun b hq hr => f.ne b hr hq, f.qa, f.ra, fun x hx => ⟨(f.own x hx).1, (f.own x hx).2.2.1, (f.own x hx).2.1, (f.own x hx).2.2.2⟩, f.nd, f.below⟩
  have hs : (W.alloc (msgO k c b e vv u a n cap)).heap.size = W.heap.size + 1 := by simp
  refine (g.turn hA (D' := (.slice a' (E.length + 1) c', E ++ [(⟨k, c, b, e, vv, u, l⟩, .slice a n cap)])) ⟨fun b => (Value.slice a' (E.length + 1) c').ownBlock = some b, ⟨fun _ => Iff.rfl, ?_⟩, ?_, fun b e => ?_⟩).swap
  · dsimp only
    rw [List.length_append, msV_app]
    exact h2
  · exact (Beside.of_below hba).trans (Beside.grown (R := Q) h3 fun b e _ => (f.b.1 b).2 e) fun b hb _ => hb
  · rcases h5 with h5 | h5
    · exact .inl ((f.b.1 b).2 (by rw [← h5]; exact e))
    · rw [h5] at e
      right
      injection e with e
      omega
theorem Held.rowAt (h : Held A RowsK w0 W p D q (v, E) bs) {j : Nat} (hj : j < E.length) : ∃ g cap, v = .slice (some ⟨g, 0, none⟩) E.length cap ∧ g < W.heap.size ∧
    W.cell? ⟨g, j * 7, none⟩ = some (.int .i64 E[j].1.kind) ∧ W.cell? ⟨g, j * 7 + 1, none⟩ = some (.int .i64 E[j].1.cell) ∧ W.cell? ⟨g, j * 7 + 2, none⟩ = some (.int .i64 E[j].1.boot) ∧ W.cell? ⟨g, j * 7 + 3, none⟩ = some (.int .i64 E[j].1.epoch) ∧ W.cell? ⟨g, j * 7 + 4, none⟩ = some (.int .i64 E[j].1.ver) ∧ W.cell? ⟨g, j * 7 + 5, none⟩ = some (.int .i64 E[j].1.unt) ∧ W.cell? ⟨g, j * 7 + 6, none⟩ = some E[j].2 := by
  obtain ⟨R, Q, f⟩ := h
  exact f.b.get hj
end
namespace Gm
def lastM (j : Nat) (x : GrE) : Ms := ⟨1, 0, 1, 3, (j : Int) + 1, pk x.unt 60, fitL x.l⟩
/-- The cell that has message t - 1 (none, if t is 0). -/
def cellL (z : List GrE) (t : Nat) : Ce := if t = 0 then newC 0 1 else ⟨0, 1, 3, (t : Int), pk (z[t - 1]?.getD default).unt 60, fitL (z[t - 1]?.getD default).l⟩
theorem lastM_right {j : Nat} (x : GrE) (hj : j < 20) : rightM (lastM j x) = true := by
  have h := pk_bd x.unt 60 (by omega)
  unfold rightM lastM
  dsimp only
  rw [fitL_right, Bool.and_true]
  exact nums_yes (by omega)
theorem recv_last {z : List GrE} {j t : Nat} (hj : j < z.length) (h20 : j < 20) : recvC (cellL z t) (lastM j z[j]) = cellL z (max t (j + 1)) := by
  have hr := lastM_right z[j] h20
  have hset : cellL z (j + 1) = ⟨0, 1, 3, (j : Int) + 1, pk z[j].unt 60, fitL z[j].l⟩ := by
    unfold cellL
    rw [if_neg (by omega)]
    simp [hj]
  unfold recvC tookC
  rw [hr, show (lastM j z[j]).kind = 1 from rfl, show (lastM j z[j]).cell = 0 from rfl]
  have hv : ¬ (lastM j z[j]).ver = 0 := by unfold lastM; dsimp only; omega
  unfold newerC setC
  rw [if_neg hv, if_neg hv]
  by_cases h0 : t = 0
  · subst h0
    rw [show max 0 (j + 1) = j + 1 by omega, hset]
    unfold cellL newC lastM
    simp
  · have hc : cellL z t = ⟨0, 1, 3, (t : Int), pk (z[t - 1]?.getD default).unt 60, fitL (z[t - 1]?.getD default).l⟩ := by unfold cellL; rw [if_neg h0]
    by_cases hjt : t ≤ j
    · rw [show max t (j + 1) = j + 1 by omega, hset, hc]
      unfold lastM
      simp
      omega
    · rw [show max t (j + 1) = t by omega, hc]
      unfold lastM
      simp
      omega
theorem cellL_ok (z : List GrE) {t : Nat} (ht : t ≤ 20) : OkC (cellL z t) := by
  unfold cellL
  split
  · exact OkC.new 0 1 (by unfold I64; omega) (by unfold I64; omega)
  · have h := pk_bd (z[t - 1]?.getD default).unt 60 (by omega)
    have h2 := fitL_few (z[t - 1]?.getD default).l
    refine ⟨by unfold I64; dsimp only; omega, by dsimp only; omega, fun y hy => ?_⟩
    have := h2.2 y hy
    omega
theorem lastM_ok (j : Nat) (x : GrE) (hj : j < 20) : OkM (lastM j x) := by
  have h := pk_bd x.unt 60 (by omega)
  exact ⟨by unfold I64 lastM; dsimp only; omega, fitL_ok x.l⟩
/-- Each is met once. -/
theorem meet_last {m no : Nat} (hm : 0 < m) : ∃ i, i < m ∧ (i + no) % m = m - 1 := by
  have h1 := Nat.mod_lt no hm
  refine ⟨m - 1 - no % m, by omega, ?_⟩
  have h2 : m - 1 - no % m + no = (m - 1) + m * (no / m) := by
    have := Nat.div_add_mod no m
    omega
  rw [h2, Nat.add_mul_mod_self_left, Nat.mod_eq_of_lt (by omega)]
end Gm
end Go.Proofs.Ytbbogkmibiealaa
