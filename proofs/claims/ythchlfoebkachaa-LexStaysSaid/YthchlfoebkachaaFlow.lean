/-
  The laws' own helper Flow: raw numbers brought to flows that are good from 0 to 1.
-/
import Derived.Deep.LoopGhost
import Derived.Test.YthchlfoebkachaaFit
import Derived.Test.YthchlfoebkachaaHold
import Derived.Test.YthchlfoebkachaaMath3
namespace Go.Proofs.Ythchlfoebkachaa
open Go.RowKit Gm

/-- What Flow answers. -/
def FlowPost (n : Nat) (es : List E) (w : World) (e : Ending) (w' : World) : Prop :=
  ∃ g fl, e = .returned (.slice (some ⟨g, 0, none⟩) es.length es.length) ∧ GoodF n es fl ∧ FlowAt w'.heap.size w' (some ⟨g, 0, none⟩) es.length fl ∧ Below w.heap.size w w'
def natsV (l : List Nat) : List Value := l.map fun j : Nat => Value.int .i64 (j : Int)
theorem idx_snoc (l : List Nat) (j : Nat) : natsV (l ++ [j]) = natsV l ++ [.int .i64 (j : Int)] := by simp [natsV]
theorem idx_length (l : List Nat) : (natsV l).length = l.length := by simp [natsV]
/-- An edge by which a walk may go on. -/
def May (es : List E) (fl : List Int) (seen : List Bool) (u : Int) (q : Nat) : Prop := q < es.length ∧ (ed es q).1 = u ∧ has seen (ed es q).2.1 = false ∧ fa fl q < (ed es q).2.2
def FlowRel (w : World) (n : Nat) (a : Option Addr) (len cap : Nat) (es : List E) (wr : World) : Prop :=
  Blk wr w.heap.size 24 #[.int .i64 (n : Int), .slice a len cap] ∧ (∃ fl, Blk wr (w.heap.size + 1) 3 (ints fl).toArray ∧ GoodF n es fl) ∧ Below w.heap.size w wr
def PathRel (n : Nat) (es : List E) (fl : List Int) (S : Nat) (W1 : World) (g : Nat) (wv uv cv : Value) (wr : World) : Prop :=
  ∃ (way : List Nat) (u c : Int) (seen : List Bool), uv = .int .i64 u ∧ cv = .int .i64 c ∧ 0 ≤ c ∧ c ≤ 1048576 ∧ Path n es fl way seen u ∧ n - cnt seen ≤ g ∧ wr.ownsRow (S + 1) 3 1 wv way.length (natsV way) ∧ Blk wr S 4 (boolsA seen) ∧ Below S W1 wr ∧ S + 1 ≤ wr.heap.size
def MayRel (es : List E) (fl : List Int) (seen : List Bool) (u : Int) (W2 : World) (j : Nat) (mv : Value) (wr : World) : Prop :=
  ∃ may : List Nat, (∀ q ∈ may, May es fl seen u q) ∧ wr.ownsRow W2.heap.size 3 1 mv may.length (natsV may) ∧ Below W2.heap.size W2 wr ∧ may.length ≤ j
theorem zip_ed {es : List E} {fl : List Int} (h : fl.length = es.length) {q : Nat} (hq : q < es.length) : (ed es q, fa fl q) ∈ es.zip fl := by
  have e1 : ed es q = es[q] := by unfold ed; rw [List.getElem?_eq_getElem hq]; rfl
  have e2 : fa fl q = fl[q]'(by omega) := by unfold fa; rw [List.getElem?_eq_getElem (by omega)]; rfl
  rw [e1, e2]
  exact List.mem_iff_getElem.2 ⟨q, by rw [List.length_zip]; omega, by rw [List.getElem_zip]⟩
theorem own_below {W W' : World} {base size n : Nat} {e : TypeId} {v : Value} {xs : List Value} (h : W.ownsRow base e size v n xs) (hb : Below W.heap.size W W') : W'.ownsRow base e size v n xs := by
  obtain ⟨h1, h2⟩ := h
  refine ⟨h1, ?_⟩
  rcases h2 with h2 | ⟨g, cap, cur, hv, hg, hh, r⟩
  · exact .inl h2
  · exact .inr ⟨g, cap, cur, hv, hg, (hb.block g (Array.getElem?_eq_some_iff.1 hh).1).trans hh, r⟩
def AlongRel (w : World) (n : Nat) (a : Option Addr) (len cap : Nat) (fl : List Int) (way : List Nat) (S : Nat) (sv : Value) (j : Nat) (wr : World) : Prop :=
  Blk wr w.heap.size 24 #[.int .i64 (n : Int), .slice a len cap] ∧ Blk wr (w.heap.size + 1) 3 (ints (incs fl (way.take j))).toArray ∧ wr.ownsRow (S + 1) 3 1 sv way.length (natsV way) ∧ Below w.heap.size w wr
theorem ints_set (l : List Int) (i : Nat) (x : Int) : ((ints l).toArray).setIfInBounds i (.int .i64 x) = (ints (l.set i x)).toArray := by
  apply Array.toList_inj.1
  simp [List.map_set]
theorem ints_at (l : List Int) (i : Nat) (h : i < l.length) : (ints l).toArray[i]? = some (.int .i64 (fa l i)) := by simp [fa, h]
theorem path_len {n : Nat} {es : List E} {fl : List Int} {way : List Nat} {seen : List Bool} {u : Int} (h : Path n es fl way seen u) : way.length ≤ es.length := by
  have := List.Nodup.length_le_of_subset h.nodup (l₂ := List.range es.length) (fun x hx => by simpa using (h.each x hx).1)
  simpa using this

end Go.Proofs.Ythchlfoebkachaa
