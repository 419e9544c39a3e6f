/-
  A bag in memory: its block, and the row of its texts.
-/
import Derived.Deep.AppendLies
import Derived.Maps.AppendAt
import Derived.Laws.OwnMore
import Derived.OwnWalk
import Derived.Test.YtgjpndloeegamaaHeldG
import Derived.Test.YtgjpndloeegamaaBn
namespace Go.Proofs.Ytgjpndloeegamaa
open Go.RowKit Gm

theorem infoStr : (Try.prog.info? 9).map (fun i => (i.zero, i.size, i.bytes)) = some (some (.string ByteArray.empty), 1, 16) := by kernel_rfl
abbrev strV (l : List Bs) : List Value := l.map fun x => .string (S x)
theorem strV_len (l : List Bs) : (strV l).length = l.length := by simp
theorem strV_at (l : List Bs) {i : Nat} (h : i < l.length) : (strV l)[i]? = some (.string (S l[i])) := by simp [h]
theorem strV_one (l : List Bs) : ∀ u ∈ strV l, u.oneCell' = true := fun u h => by
  obtain ⟨x, _, rfl⟩ := List.mem_map.1 h
  rfl
theorem own_form {W : World} {base e size n : Nat} {v : Value} {xs : List Value} (h : W.ownsRow base e size v n xs) : ∃ A c, v = .slice A n c := by
  rcases h.2 with ⟨rfl, rfl⟩ | ⟨g, cap, cur, rfl, _⟩
  · exact ⟨_, _, rfl⟩
  · exact ⟨_, _, rfl⟩
theorem own_moved {w w' : World} {base e size n : Nat} {v : Value} {xs : List Value} (h : w.ownsRow base e size v n xs) (hb : ∀ b, v.ownBlock = some b → w'.heap[b]? = w.heap[b]?) : w'.ownsRow base e size v n xs := by
  obtain ⟨h1, h2⟩ := h
  refine ⟨h1, ?_⟩
  rcases h2 with h2 | ⟨g, cap, cur, hv, hg, hh, r⟩
  · exact .inl h2
  · exact .inr ⟨g, cap, cur, hv, hg, (hb g (by rw [hv]; rfl)).trans hh, r⟩
theorem own_low {w : World} {base b0 e size n : Nat} {v : Value} {xs : List Value} (h : w.ownsRow base e size v n xs) (hb : b0 ≤ base) : w.ownsRow b0 e size v n xs := by
  obtain ⟨h1, h2⟩ := h
  refine ⟨h1, ?_⟩
  rcases h2 with h2 | ⟨g, cap, cur, hv, hg, r⟩
  · exact .inl h2
  · exact .inr ⟨g, cap, cur, hv, Nat.le_trans hb hg, r⟩

/-- BLOCK p IS A BAG OF THE TEXTS D; v: its row. -/
structure BAt (t : TypeId) (w : World) (p : Nat) (v : Value) (D : List Bs) : Prop where
  blk : w.heap[p]? = some (.cells #[v] t (0, 0))
  row : w.ownsRow 0 9 1 v D.length (strV D)
def BagK (t : TypeId) : Kind (List Bs) := fun w p D R => ∃ v, (∀ b, R b ↔ (b = p ∨ v.ownBlock = some b)) ∧ BAt t w p v D
section
variable {t : TypeId} {w w' : World} {p : Nat} {v v' : Value} {D D' : List Bs} {R : Nat → Prop}
theorem BAt.keep (h : BAt t w p v D) (hb : ∀ b, (b = p ∨ v.ownBlock = some b) → w'.heap[b]? = w.heap[b]?) : BAt t w' p v D :=
  ⟨(hb p (.inl rfl)).trans h.blk, own_moved h.row fun b e => hb b (.inr e)⟩
theorem BAt.lt (h : BAt t w p v D) : p < w.heap.size ∧ ∀ b, v.ownBlock = some b → b < w.heap.size :=
  ⟨(Array.getElem?_eq_some_iff.1 h.blk).1, fun b e => (h.row.lt b e).2⟩
theorem BAt.below (h : BAt t w p v D) (hb : Below w.heap.size w w') : BAt t w' p v D := h.keep fun b e => hb.block b (by
  rcases e with rfl | e
  · exact h.lt.1
  · exact h.lt.2 b e)
theorem BAt.cells (h : BAt t w p v D) : w.cell? ⟨p, 0, none⟩ = some v ∧ w.frozen? ⟨p, 0, none⟩ = false ∧ p < w.heap.size := by
  have hb := h.blk
  exact ⟨by rw [cell_of_row _ _ _ _ _ _ hb]; rfl, by simp [World.frozen?, hb], h.lt.1⟩
theorem BAt.ne (ht : t ≠ 9) (h : BAt t w p v D) : v.ownBlock ≠ some p := by
  intro e
  rcases h.row.2 with ⟨rfl, _⟩ | ⟨g, cap, cur, rfl, _, hh, _⟩
  · simp [Value.ownBlock] at e
  · have : g = p := by simpa [Value.ownBlock] using e
    subst this
    have := h.blk
    rw [hh] at this
    injection this with this
    injection this with _ hx
    exact ht hx.symm
theorem bag_law (t : TypeId) : Lawful (BagK t) where
  lt := fun ⟨v, hR, h⟩ b hb => by
    rcases (hR b).1 hb with rfl | e
    · exact h.lt.1
    · exact h.lt.2 b e
  keep := fun ⟨v, hR, h⟩ _ hb => ⟨v, hR, h.keep fun b e => hb b ((hR b).2 e)⟩
theorem BAt.form (h : BAt t w p v D) : ∃ a cap, v = .slice a D.length cap := own_form h.row
/-- Text i of the row. -/
theorem BAt.text (ht : t ≠ 9) (h : BAt t w p v D) (h0 : 0 < D.length) : ∃ g cap, v = .slice (some ⟨g, 0, none⟩) D.length cap ∧ g < w.heap.size ∧ g ≠ p ∧ D.length ≤ cap ∧ cap ≤ maxLen ∧ ∀ i (hi : i < D.length), w.cell? ⟨g, i, none⟩ = some (.string (S D[i])) := by
  have hne := h.ne ht
  rcases h.row.2 with ⟨_, h2⟩ | ⟨g, cap, cur, hv, hg, hh, hle, hm, hs, ht⟩
  · omega
  · have hlt : g < w.heap.size := (Array.getElem?_eq_some_iff.1 hh).1
    refine ⟨g, cap, hv, hlt, fun e => hne (by rw [hv, e]; rfl), hle, hm, fun i hi => ?_⟩
    rw [cell_of_row w g i cur 9 (0, 0) hh, ← strV_at D hi, ← ht, List.getElem?_take_of_lt (by omega), Array.getElem?_toList]
/-- The bag's row is another one. -/
theorem BAt.set (h : BAt t w p v D) (hr : w.ownsRow 0 9 1 v' D'.length (strV D')) (hne : v'.ownBlock ≠ some p) : BAt t (w.setCell ⟨p, 0, none⟩ v') p v' D' :=
  ⟨by simp [World.setCell, Array.getElem?_modify, h.blk], own_moved hr fun b e => Below.heap_setCell _ _ _ b (fun e' => hne (by rw [e, e']))⟩
theorem b_turn (hR : ∀ b, R b ↔ (b = p ∨ v.ownBlock = some b)) (h' : BAt t w' p v' D') (hb : Beside R w w') (hv : ∀ b, v'.ownBlock = some b → v.ownBlock = some b ∨ w.heap.size ≤ b) : Turn (BagK t) w w' p D' R :=
  ⟨fun b => b = p ∨ v'.ownBlock = some b, ⟨v', fun _ => Iff.rfl, h'⟩, hb, fun b e => by
    rcases e with e | e
    · exact .inl ((hR b).2 (.inl e))
    · rcases hv b e with e | e
      · exact .inl ((hR b).2 (.inr e))
      · exact .inr e⟩
theorem b_same (h : BagK t w p D R) (hb : Below w.heap.size w w') : Turn (BagK t) w w' p D R := by
  obtain ⟨v, hR, hq⟩ := h
  exact ⟨R, ⟨v, hR, hq.below hb⟩, Beside.of_below hb, fun b h => .inl h⟩
end
/-- A row of the call's own, with some texts more. -/
theorem append_s {W : World} {base : Nat} {v : Value} {n : Nat} {xs : List Bs} (hown : W.ownsRow base 9 1 v n (strV xs)) {b off c m : Nat} {ys : List Bs} (hm : ys.length = m) (hc : ∀ i (h : i < ys.length), W.cell? ⟨b, off + i, none⟩ = some (.string (S ys[i]))) (h64 : n + m ≤ 100000) (hbase : base ≤ W.heap.size) (ty : TypeId) :
    ∃ v' w', (Builtin.append_ #[37, 37] ty #[v, .slice (some ⟨b, off, none⟩) m c]).run Try.prog W = .ok v' w' ∧ w'.ownsRow base 9 1 v' (n + m) (strV (xs ++ ys)) ∧ W.grownBy w' v.ownBlock ∧ (v'.ownBlock = v.ownBlock ∨ v'.ownBlock = some W.heap.size) := by
  obtain ⟨i0, hi0, hz0, hz1, hz2⟩ := info_parts infoStr
  obtain ⟨v', w', hr, h2, h3, _, h5⟩ := run_append_own_at (P := Try.prog) W base 37 ty 9 i0 _ 1 16 Try.underlying37 hi0 hz0 hz1 hz2 rfl (by decide) v n (strV xs) hown ⟨b, off, none⟩ m c (strV ys) (by rw [strV_len]; omega) (fun j u hu => by
    have hj : j < ys.length := by
      have := (List.getElem?_eq_some_iff.1 hu).1
      rwa [strV_len] at this
    have hadd : (⟨b, off, none⟩ : Addr).add j = ⟨b, off + j, none⟩ := by unfold Addr.add; split <;> simp_all
    rw [hadd, hc j hj, ← hu, strV_at ys hj]) (strV_one ys) (by simp [maxLen]; omega) (by omega) hbase
  exact ⟨v', w', hr, by rw [show strV (xs ++ ys) = strV xs ++ strV ys by simp]; exact h2, h3, h5⟩
theorem wpList_append_eq {w : World} {ops : Array Oper} {rest : List Oper} {o : Oper} {a : Act} {Q : Exit → Act → World → Prop} (hgd : o.guard = none) (s x : Operand) (t tx : TypeId)
    (ho : o.op = .call { callee := .builtin .append, args := #[s, x], argTypes := #[t, tx] }) (v xv v' : Value) (w' : World) (hs : a.eval s = v) (hx : a.eval x = xv)
    (hr : (Builtin.append_ #[t, tx] o.type #[v, xv]).run Try.prog w = .ok v' w') (h : wpList Try.prog ops Q rest (a.put o.dst v') w') : wpList Try.prog ops Q (o :: rest) a w :=
  wpList_plain hgd fun _ hK => by
    unfold Oper.wp execOp
    simp only [ho, resolve, invoke, builtin, Sem.run_bind, Sem.run_pure, Result.andThen_ok, List.map_toArray, List.map_cons, List.map_nil, hs, hx, hr]
    exact hK _ _ h
theorem news_one {W : World} {g : Nat} {v : Value} {t : TypeId} (h : W.heap[g]? = some (.cells #[v] t (0, 0))) : ∀ j u, [v][j]? = some u → W.cell? ((⟨g, 0, none⟩ : Addr).add j) = some u := by
  intro j u hj
  have hadd : (⟨g, 0, none⟩ : Addr).add j = ⟨g, j, none⟩ := by unfold Addr.add; split <;> simp_all
  rw [hadd, cell_of_row _ _ _ _ _ _ h]
  rw [← hj]
  cases j <;> rfl
theorem BAt.far {W W' : World} {t : TypeId} {p : Nat} {v : Value} {D : List Bs} (ht : t ≠ 9) (h : BAt t W p v D) (hg : W.grownBy W' v.ownBlock) : W'.heap[p]? = some (.cells #[v] t (0, 0)) :=
  (hg.block p h.lt.1 (fun e => h.ne ht e.symm)).trans h.blk
theorem one_cells {W : World} {t : TypeId} {p : Nat} {v : Value} (hb : W.heap[p]? = some (.cells #[v] t (0, 0))) : W.cell? ⟨p, 0, none⟩ = some v ∧ W.frozen? ⟨p, 0, none⟩ = false ∧ p < W.heap.size :=
  ⟨by rw [cell_of_row _ _ _ _ _ _ hb]; rfl, by simp [World.frozen?, hb], (Array.getElem?_eq_some_iff.1 hb).1⟩
/-- One text more, behind its append and the store. -/
theorem send_end {t : TypeId} (ht : t ≠ 9) {w w1 w2 : World} {p g c n : Nat} {v : Value} {D : List Bs} {s : Bs} {R : Nat → Prop} (hR : ∀ b, R b ↔ (b = p ∨ v.ownBlock = some b)) (h : BAt t w p v D) (hn : D.length = n) (hb1 : Below w.heap.size w w1)
    (ho : w2.ownsRow 0 9 1 (.slice (some ⟨g, 0, none⟩) (n + 1) c) (n + 1) (strV D ++ [.string (S s)])) (hg : w1.grownBy w2 v.ownBlock) (hat : v.ownBlock = some g ∨ g = w1.heap.size) :
    Turn (BagK t) w (w2.setCell ⟨p, 0, none⟩ (.slice (some ⟨g, 0, none⟩) (n + 1) c)) p (D ++ [s]) R := by
  have h1 := h.below hb1
  have hblk := h1.far ht hg
  have hgp : g ≠ p := by
    rintro rfl
    rcases hat with e | e
    · exact h.ne ht e
    · have := h1.lt.1; omega
  have hob : ∀ b, (Value.slice (some ⟨g, 0, none⟩) (n + 1) c).ownBlock = some b → b = g := fun b e => by
    have : g = b := by simpa [Value.ownBlock] using e
    exact this.symm
  refine b_turn hR (v' := .slice (some ⟨g, 0, none⟩) (n + 1) c) ⟨by simp [World.setCell, Array.getElem?_modify, hblk], own_moved (w := w2) ?_ (fun b e => Below.heap_setCell _ _ _ b (fun e' => hgp (by rw [← hob b e, e'])))⟩ ?_ (fun b e => ?_)
  · have e1 : (D ++ [s]).length = n + 1 := by simp [hn]
    have e2 : strV (D ++ [s]) = strV D ++ [.string (S s)] := by simp
    rw [e1, e2]; exact ho
  · exact ((Beside.of_below hb1).trans (Beside.grown hg fun b e _ => (hR b).2 (.inr e)) (fun b hb _ => hb)).trans (Beside.set w2 _ ((hR p).2 (.inl rfl))) (fun b hb _ => hb)
  · rw [hob b e]
    rcases hat with e' | e'
    · exact .inl e'
    · right; rw [e']; exact hb1.size
/-- One text less, behind both appends and the store. -/
theorem take_end {t : TypeId} (_ht : t ≠ 9) {w w2 : World} {p : Nat} {v v' : Value} {D D' : List Bs} {R : Nat → Prop} (hR : ∀ b, R b ↔ (b = p ∨ v.ownBlock = some b)) (h : BAt t w p v D) (hb : Below w.heap.size w w2) {n : Nat} (hn : D'.length = n)
    (ho : w2.ownsRow w.heap.size 9 1 v' n (strV D')) : Turn (BagK t) w (w2.setCell ⟨p, 0, none⟩ v') p D' R := by
  have h2 := h.below hb
  have hne : v'.ownBlock ≠ some p := fun e => by
    have h3 := (ho.lt p e).1
    have h4 := h.lt.1
    omega
  subst hn
  refine b_turn hR (h2.set (own_low ho (Nat.zero_le _)) hne) ((Beside.of_below hb).trans (Beside.set w2 _ ((hR p).2 (.inl rfl))) (fun b hb _ => hb)) (fun b e => .inr (ho.lt b e).1)
/-- A row cut at a place. -/
theorem scut_to (a : Option Addr) (len cap m : Nat) (h : m ≤ cap) (w : World) : (Instr.slice 37 (.slice a len cap) none (some (.int .i64 (m : Int))) none).run Try.prog w = .ok (.slice a m cap) w := by
  have hu : Try.prog.underlying 37 = some (.slice (Try.prog.elem 37)) := by kernel_rfl
  have hs : ∀ w, (sizeOf (Try.prog.elem 37)).run Try.prog w = .ok 1 w := fun w => by kernel_rfl
  rw [run_slice_h w 37 a len cap hu .i64 (m : Int) (by omega) (by omega), hs]
  cases a <;> simp [sliced, Result.andThen, Addr.add]
theorem scut_from (g len cap m : Nat) (h : m ≤ len) : ∃ o, (∀ w, (Instr.slice 37 (.slice (some ⟨g, 0, none⟩) len cap) (some (.int .i64 (m : Int))) none none).run Try.prog w = .ok (.slice (some ⟨g, o, none⟩) (len - m) (cap - m)) w) ∧ (cap = m ∨ o = m) := by
  have hu : Try.prog.underlying 37 = some (.slice (Try.prog.elem 37)) := by kernel_rfl
  have hs : ∀ w, (sizeOf (Try.prog.elem 37)).run Try.prog w = .ok 1 w := fun w => by kernel_rfl
  refine ⟨if cap = m then 0 else m, fun w => ?_, ?_⟩
  · rw [run_slice_l w 37 _ len cap hu .i64 (m : Int) (by omega) (by omega), hs]
    simp only [sliced, Result.andThen, Int.toNat_natCast]
    split <;> simp_all [Addr.add]
  · split
    · exact .inl (by assumption)
    · exact .inr rfl
end Go.Proofs.Ytgjpndloeegamaa
