/-
  The program's disk in memory: its block, the map of its files, each file's block and its row of bytes.
-/
import Derived.Maps.OwnSet
import Derived.Maps.RangeWalk
import Derived.Sort.KeysCollected
import Derived.Deep.AppendLies
import Derived.Deep.AppendSrc
import Derived.Laws.OwnMore
import Derived.OwnWalk
import Derived.Test.YtffpmcelelloeaaHelp
namespace Go.Proofs.Ytffpmcelelloeaa
open Go.RowKit Gm
open Go.Maps (Keyed string_keyed)

/-- How an element of the map reads: as the number of its block. -/
def fR (v : Value) : Option (DataW Unit × List MemPlace) :=
  match v with
  | .pointer (some ⟨b, 0, none⟩) => some (.lit (.int .i64 (b : Int)), [])
  | .pointer none => some (.lit (.int .i64 (-1)), [])
  | _ => none
abbrev nilL : DataW Unit := .lit (.int .i64 (-1))
abbrev blkL (b : Nat) : DataW Unit := .lit (.int .i64 (b : Int))
theorem fR_nil : fR (.pointer none) = some (nilL, []) := rfl
theorem fR_some (b : Nat) : fR (.pointer (some ⟨b, 0, none⟩)) = some (blkL b, []) := rfl
theorem fR_inv {v : Value} {b : Nat} {ps : List MemPlace} (h : fR v = some (blkL b, ps)) : v = .pointer (some ⟨b, 0, none⟩) := by
  unfold fR at h
  split at h
  · rename_i c
    simp only [Option.some.injEq, Prod.mk.injEq] at h
    have : (c : Int) = (b : Int) := by have := h.1; injection this with this; injection this
    have e : c = b := by omega
    rw [e]
  · simp only [Option.some.injEq, Prod.mk.injEq] at h
    have : (-1 : Int) = (b : Int) := by have := h.1; injection this with this; injection this
    omega
  · cases h
theorem fR_inv_nil {v : Value} {ps : List MemPlace} (h : fR v = some (nilL, ps)) : v = .pointer none := by
  unfold fR at h
  split at h
  · rename_i c
    simp only [Option.some.injEq, Prod.mk.injEq] at h
    have : (c : Int) = -1 := by have := h.1; injection this with this; injection this
    omega
  · rfl
  · cases h
theorem fR_form {v : Value} {y : DataW Unit × List MemPlace} (h : fR v = some y) : ∃ c : Option Nat, v = .pointer (c.map fun b => ⟨b, 0, none⟩) := by
  unfold fR at h
  split at h
  · exact ⟨some _, rfl⟩
  · exact ⟨none, rfl⟩
  · cases h

theorem slaw : Keyed Try.prog 9 := string_keyed Try.underlying9
theorem pzero (w : World) : (zeroValue 60).run Try.prog w = .ok (.pointer none) w := by kernel_rfl
theorem skey (k : Bs) (h : k.length ≤ 1048576) : keyOf Try.prog 9 (.string (S k)) = some (.string k) :=
  WideMaps.keyOf_string_mk Try.underlying9 (by rw [S_size]; unfold maxLen; omega)
theorem skeylit (k : Bs) : WideAt.IsKeyLit (.string k) := trivial
theorem str_ne {k j : Bs} (h : k ≠ j) : (Lit.string k) ≠ (Lit.string j) := fun e => h (by injection e)

/-- Where a file lies: its block, and its row of bytes. -/
abbrev Loc := Bs → Nat × Value
/-- BLOCK b IS A MAP THAT HAS JUST THESE FILES, EACH AT ITS BLOCK. -/
def MapAt (w : World) (b : Nat) (loc : Loc) (fs : List Fl) : Prop :=
  ∃ Dm : DataW Unit, w.ownsMap Try.prog 9 fR b fs.length Dm ∧ Maps.size Dm = fs.length ∧ ∀ k, Maps.has Dm (.string k) = (findF fs k).isSome ∧ Dm.atKey (.string k) nilL = (match findF fs k with | none => nilL | some _ => blkL (loc k).1)
theorem MapAt.lt {w : World} {b : Nat} {loc : Loc} {fs : List Fl} (h : MapAt w b loc fs) : b < w.heap.size := by obtain ⟨_, h, _⟩ := h; exact h.lt
theorem MapAt.moved {w w' : World} {b : Nat} {loc : Loc} {fs : List Fl} (h : MapAt w b loc fs) (hb : w'.heap[b]? = w.heap[b]?) : MapAt w' b loc fs := by
  obtain ⟨Dm, ⟨es, clock, h0, r⟩, h1⟩ := h
  exact ⟨Dm, ⟨es, clock, hb.trans h0, r⟩, h1⟩
theorem ownsMap_tight {w : World} {b n : Nat} {D : DataW Unit} {R : Value → Option (DataW Unit × List MemPlace)} (h : w.ownsMap Try.prog 9 R b n D) : w.ownsMap Try.prog 9 R b (Maps.size D) D := by
  obtain ⟨es, clock, h0, h1, h2, rfl⟩ := h
  exact ⟨es, clock, h0, h1, by simp [Maps.size, length_sorted], rfl⟩
/-- Which files are where is the same. -/
theorem MapAt.same {w : World} {b : Nat} {loc loc' : Loc} {fs gs : List Fl} (h : MapAt w b loc fs) (hl : gs.length = fs.length) (hf : ∀ k, (findF gs k).isSome = (findF fs k).isSome) (he : ∀ k, (findF fs k).isSome = true → (loc' k).1 = (loc k).1) : MapAt w b loc' gs := by
  obtain ⟨Dm, h0, h1, h2⟩ := h
  refine ⟨Dm, by rw [hl]; exact h0, by rw [hl]; exact h1, fun k => ⟨by rw [hf]; exact (h2 k).1, ?_⟩⟩
  rw [(h2 k).2]
  have hk := hf k
  have ek := he k
  rcases h3 : findF fs k with _ | f
  · rw [h3] at hk
    rcases h4 : findF gs k with _ | g
    · rfl
    · rw [h4] at hk; cases hk
  · rw [h3] at hk ek
    rcases h4 : findF gs k with _ | g
    · rw [h4] at hk; cases hk
    · dsimp only; rw [ek rfl]
/-- 'm[k]' -/
theorem MapAt.look {w : World} {b : Nat} {loc : Loc} {fs : List Fl} (h : MapAt w b loc fs) (k : Bs) (hk : k.length ≤ 1048576) {f : Fl} (hf : findF fs k = some f) : (Instr.lookup 53 (.map (some b)) (.string (S k)) false).run Try.prog w = .ok (.pointer (some ⟨(loc k).1, 0, none⟩)) w := by
  obtain ⟨Dm, h0, h1, h2⟩ := h
  obtain ⟨v, ps, hrun, hv⟩ := h0.lookup slaw Try.underlying53 (pzero w) fR_nil (skey k hk)
  rw [(h2 k).2, hf] at hv
  rw [hrun, fR_inv hv]
theorem MapAt.look_no {w : World} {b : Nat} {loc : Loc} {fs : List Fl} (h : MapAt w b loc fs) (k : Bs) (hk : k.length ≤ 1048576) (hf : findF fs k = none) : (Instr.lookup 53 (.map (some b)) (.string (S k)) false).run Try.prog w = .ok (.pointer none) w := by
  obtain ⟨Dm, h0, h1, h2⟩ := h
  obtain ⟨v, ps, hrun, hv⟩ := h0.lookup slaw Try.underlying53 (pzero w) fR_nil (skey k hk)
  rw [(h2 k).2, hf] at hv
  rw [hrun, fR_inv_nil hv]
/-- 'v, ok := m[k]' -/
theorem MapAt.look2 {w : World} {b : Nat} {loc : Loc} {fs : List Fl} (h : MapAt w b loc fs) (k : Bs) (hk : k.length ≤ 1048576) {f : Fl} (hf : findF fs k = some f) : (Instr.lookup 53 (.map (some b)) (.string (S k)) true).run Try.prog w = .ok (.tuple #[.pointer (some ⟨(loc k).1, 0, none⟩), .bool true]) w := by
  obtain ⟨Dm, h0, h1, h2⟩ := h
  obtain ⟨v, ps, hrun, hv⟩ := h0.look_ok slaw Try.underlying53 (pzero w) fR_nil (skey k hk)
  rw [(h2 k).2, hf] at hv
  rw [(h2 k).1, hf, fR_inv hv] at hrun
  exact hrun
theorem MapAt.look2_no {w : World} {b : Nat} {loc : Loc} {fs : List Fl} (h : MapAt w b loc fs) (k : Bs) (hk : k.length ≤ 1048576) (hf : findF fs k = none) : (Instr.lookup 53 (.map (some b)) (.string (S k)) true).run Try.prog w = .ok (.tuple #[.pointer none, .bool false]) w := by
  obtain ⟨Dm, h0, h1, h2⟩ := h
  obtain ⟨v, ps, hrun, hv⟩ := h0.look_ok slaw Try.underlying53 (pzero w) fR_nil (skey k hk)
  rw [(h2 k).2, hf] at hv
  rw [(h2 k).1, hf, fR_inv_nil hv] at hrun
  exact hrun
/-- 'len(m)' -/
theorem MapAt.len {w : World} {b : Nat} {loc : Loc} {fs : List Fl} (h : MapAt w b loc fs) (ty : TypeId) : (Builtin.len_ #[53] ty #[.map (some b)]).run Try.prog w = .ok (.int .i64 (fs.length : Int)) w := by
  obtain ⟨Dm, h0, h1, h2⟩ := h
  rw [h0.len Try.underlying53 ty, h1]
/-- 'm[k] = f' -/
theorem MapAt.store {w : World} {b : Nat} {loc : Loc} {fs gs : List Fl} (h : MapAt w b loc fs) (hl4 : fs.length ≤ 4) (k : Bs) (hk : k.length ≤ 1048576) (g : Nat) (loc' : Loc) (h1' : (loc' k).1 = g) (he : ∀ j, j ≠ k → loc' j = loc j)
    (hgs : ∀ j, (findF gs j).isSome = (decide (j = k) || (findF fs j).isSome)) (hlen : gs.length = if (findF fs k).isSome then fs.length else fs.length + 1) :
    ∃ w', (Instr.mapUpdate 53 (.map (some b)) (.string (S k)) (.pointer (some ⟨g, 0, none⟩))).run Try.prog w = .ok () w' ∧ MapAt w' b loc' gs ∧ w.grownBy w' (some b) := by
  obtain ⟨Dm, h0, h1, h2⟩ := h
  obtain ⟨w', hrun, hown, hg⟩ := h0.update slaw Try.underlying53 (by unfold maxLen; omega) (skey k hk) (fR_some g)
  have hsz : Maps.size (Dm.put (.string k) (blkL g)) = gs.length := by
    rw [Maps.size_put (h0.tidy slaw), (h2 k).1, hlen, h1]
  refine ⟨w', hrun, ⟨_, by rw [← hsz]; exact ownsMap_tight hown, hsz, fun j => ?_⟩, hg⟩
  have hj := hgs j
  by_cases e : j = k
  · subst e
    rw [decide_eq_true rfl, Bool.true_or] at hj
    refine ⟨by rw [Maps.has_put_same h0.isMap (skeylit j), hj], ?_⟩
    rw [Maps.atKey_put_same h0.isMap (skeylit j)]
    rcases h4 : findF gs j with _ | x
    · rw [h4] at hj; cases hj
    · dsimp only; rw [h1']
  · rw [decide_eq_false e, Bool.false_or] at hj
    rw [Maps.has_put_other (str_ne e), Maps.atKey_put_other (str_ne e), (h2 j).1, (h2 j).2, hj, he j e]
    refine ⟨rfl, ?_⟩
    rcases h3 : findF fs j with _ | x
    · rw [h3] at hj
      rcases h4 : findF gs j with _ | y
      · rfl
      · rw [h4] at hj; cases hj
    · rw [h3] at hj
      rcases h4 : findF gs j with _ | y
      · rw [h4] at hj; cases hj
      · rfl
/-- 'delete(m, k)' -/
theorem MapAt.drop {w : World} {b : Nat} {loc : Loc} {fs gs : List Fl} (h : MapAt w b loc fs) (k : Bs) (hk : k.length ≤ 1048576) (hgs : ∀ j, (findF gs j).isSome = (!decide (j = k) && (findF fs j).isSome)) (hlen : gs.length + (if (findF fs k).isSome then 1 else 0) = fs.length) (ty : TypeId) :
    ∃ w', (Builtin.delete_ #[53, 9] ty #[.map (some b), .string (S k)]).run Try.prog w = .ok (.tuple #[]) w' ∧ MapAt w' b loc gs ∧ w.grownBy w' (some b) := by
  obtain ⟨Dm, h0, h1, h2⟩ := h
  obtain ⟨w', hrun, hown, hg⟩ := h0.drop slaw Try.underlying53 (skey k hk) ty
  have hsz : Maps.size (Dm.del (.string k)) = gs.length := by
    have e := Maps.size_del (k := .string k) (h0.tidy slaw)
    rw [(h2 k).1, h1] at e
    omega
  refine ⟨w', hrun, ⟨_, by rw [← hsz]; exact ownsMap_tight hown, hsz, fun j => ?_⟩, hg.grown⟩
  have hj := hgs j
  by_cases e : j = k
  · subst e
    rw [decide_eq_true rfl, Bool.not_true, Bool.false_and] at hj
    refine ⟨by rw [Maps.has_del_same, hj], ?_⟩
    rw [Maps.atKey_del_same]
    rcases h4 : findF gs j with _ | x
    · rfl
    · rw [h4] at hj; cases hj
  · rw [decide_eq_false e, Bool.not_false, Bool.true_and] at hj
    rw [Maps.has_del_other (str_ne e), Maps.atKey_del_other (str_ne e), (h2 j).1, (h2 j).2, hj]
    refine ⟨rfl, ?_⟩
    rcases h3 : findF fs j with _ | x
    · rw [h3] at hj
      rcases h4 : findF gs j with _ | y
      · rfl
      · rw [h4] at hj; cases hj
    · rw [h3] at hj
      rcases h4 : findF gs j with _ | y
      · rw [h4] at hj; cases hj
      · rfl
/-- 'map[string]*file{}' -/
theorem MapAt.made (w : World) (loc : Loc) : MapAt (w.alloc (.map #[] 0)) w.heap.size loc [] :=
  ⟨.map [], World.ownsMap_made w _ _ _, rfl, fun _ => ⟨rfl, rfl⟩⟩

abbrev byV (l : Bs) : List Value := l.map fun b => Value.int .u8 (b.toNat : Int)
/-- A FILE AT ITS PLACE. -/
structure FileAt (w : World) (x : Nat × Value) (f : Fl) : Prop where
  blk : w.heap[x.1]? = some (.cells #[x.2, .int .i64 (f.sy : Int)] 63 (0, 0))
  row : w.ownsRow 0 5 1 x.2 f.tx.length (byV f.tx)
theorem FileAt.lt {w : World} {x : Nat × Value} {f : Fl} (h : FileAt w x f) : x.1 < w.heap.size ∧ ∀ b, x.2.ownBlock = some b → b < w.heap.size :=
  ⟨(Array.getElem?_eq_some_iff.1 h.blk).1, fun b e => (h.row.lt b e).2⟩
theorem row_moved {w w' : World} {base e size n : Nat} {v : Value} {xs : List Value} (h : w.ownsRow base e size v n xs) (hb : ∀ b, v.ownBlock = some b → w'.heap[b]? = w.heap[b]?) : w'.ownsRow base e size v n xs := by
  obtain ⟨h1, h2⟩ := h
  refine ⟨h1, ?_⟩
  rcases h2 with h2 | ⟨g, cap, cur, hv, hg, hh, r⟩
  · exact .inl h2
  · exact .inr ⟨g, cap, cur, hv, hg, (hb g (by rw [hv]; rfl)).trans hh, r⟩
theorem FileAt.moved {w w' : World} {x : Nat × Value} {f : Fl} (h : FileAt w x f) (hb : w'.heap[x.1]? = w.heap[x.1]?) (hr : ∀ b, x.2.ownBlock = some b → w'.heap[b]? = w.heap[b]?) : FileAt w' x f := ⟨hb.trans h.blk, row_moved h.row hr⟩
theorem FileAt.name {w : World} {x : Nat × Value} {f : Fl} (h : FileAt w x f) (k : Bs) : FileAt w x ⟨k, f.tx, f.sy⟩ := ⟨h.blk, h.row⟩
theorem row_block {w : World} {base e size n : Nat} {v : Value} {xs : List Value} (h : w.ownsRow base e size v n xs) {b : Nat} (hb : v.ownBlock = some b) : ∃ cs, w.heap[b]? = some (.cells cs e (0, 0)) := by
  rcases h.2 with ⟨rfl, _⟩ | ⟨g, cap, cur, rfl, _, hh, _⟩
  · cases hb
  · have : g = b := by simpa [Value.ownBlock] using hb
    exact ⟨cur, this ▸ hh⟩

/-- BLOCK p IS THE PROGRAM's DISK D, whose map is block m; where its files lie. -/
structure PAt (w : World) (p m : Nat) (loc : Loc) (D : Dk) : Prop where
  blk : w.heap[p]? = some (.cells #[.map (some m), .int .i64 (D.acts : Int), .int .i64 ((D.arm - D.acts : Nat) : Int), .bool D.off] 55 (0, 0))
  map : MapAt w m loc D.fs
  file : ∀ f ∈ D.fs, FileAt w (loc f.nm) f
  ne : ∀ f ∈ D.fs, ∀ g ∈ D.fs, f.nm ≠ g.nm → (loc f.nm).1 ≠ (loc g.nm).1 ∧ ∀ b, (loc f.nm).2.ownBlock = some b → (loc g.nm).2.ownBlock ≠ some b
/-- The blocks of a disk. -/
def PBlk (p m : Nat) (loc : Loc) (fs : List Fl) (b : Nat) : Prop := b = p ∨ b = m ∨ ∃ f ∈ fs, b = (loc f.nm).1 ∨ (loc f.nm).2.ownBlock = some b
def PDisk : Kind := fun w p D R => OkD D ∧ ∃ m loc, (∀ b, R b ↔ PBlk p m loc D.fs b) ∧ PAt w p m loc D
theorem PAt.lt {w : World} {p m : Nat} {loc : Loc} {D : Dk} (h : PAt w p m loc D) {b : Nat} (hb : PBlk p m loc D.fs b) : b < w.heap.size := by
  rcases hb with rfl | rfl | ⟨f, hf, rfl | e⟩
  · exact (Array.getElem?_eq_some_iff.1 h.blk).1
  · exact h.map.lt
  · exact (h.file f hf).lt.1
  · exact (h.file f hf).lt.2 b e
theorem PAt.keep {w w' : World} {p m : Nat} {loc : Loc} {D : Dk} (h : PAt w p m loc D) (hb : ∀ b, PBlk p m loc D.fs b → w'.heap[b]? = w.heap[b]?) : PAt w' p m loc D :=
  ⟨(hb p (.inl rfl)).trans h.blk, h.map.moved (hb m (.inr (.inl rfl))), fun f hf => (h.file f hf).moved (hb _ (.inr (.inr ⟨f, hf, .inl rfl⟩))) fun b e => hb b (.inr (.inr ⟨f, hf, .inr e⟩)), h.ne⟩
theorem PAt.below {w w' : World} {p m : Nat} {loc : Loc} {D : Dk} (h : PAt w p m loc D) (hb : Below w.heap.size w w') : PAt w' p m loc D := h.keep fun b e => hb.block b (h.lt e)
theorem PAt.dn {w : World} {p m : Nat} {loc : Loc} {D : Dk} (h : PAt w p m loc D) (n : Nat) : PAt (w.drewN n) p m loc D := h.keep fun _ _ => rfl
theorem pdisk_law : Lawful PDisk where
  lt := fun ⟨_, _, _, hR, h⟩ b hb => h.lt ((hR b).1 hb)
  keep := fun ⟨ok, m, loc, hR, h⟩ _ hb => ⟨ok, m, loc, hR, h.keep fun b e => hb b ((hR b).2 e)⟩
  ok := fun h => h.1
theorem PAt.cells {w : World} {p m : Nat} {loc : Loc} {D : Dk} (h : PAt w p m loc D) : w.cell? ⟨p, 0, none⟩ = some (.map (some m)) ∧ w.cell? ⟨p, 1, none⟩ = some (.int .i64 (D.acts : Int)) ∧ w.cell? ⟨p, 2, none⟩ = some (.int .i64 ((D.arm - D.acts : Nat) : Int)) ∧ w.cell? ⟨p, 3, none⟩ = some (.bool D.off) ∧ (∀ i, w.frozen? ⟨p, i, none⟩ = false) ∧ p < w.heap.size := by
  have hb := h.blk
  refine ⟨by rw [cell_of_row _ _ _ _ _ _ hb]; rfl, by rw [cell_of_row _ _ _ _ _ _ hb]; rfl, by rw [cell_of_row _ _ _ _ _ _ hb]; rfl, by rw [cell_of_row _ _ _ _ _ _ hb]; rfl, fun i => by simp [World.frozen?, hb], h.lt (.inl rfl)⟩
theorem FileAt.cells {w : World} {x : Nat × Value} {f : Fl} (h : FileAt w x f) : w.cell? ⟨x.1, 0, none⟩ = some x.2 ∧ w.cell? ⟨x.1, 1, none⟩ = some (.int .i64 (f.sy : Int)) ∧ (∀ i, w.frozen? ⟨x.1, i, none⟩ = false) ∧ x.1 < w.heap.size := by
  have hb := h.blk
  refine ⟨by rw [cell_of_row _ _ _ _ _ _ hb]; rfl, by rw [cell_of_row _ _ _ _ _ _ hb]; rfl, fun i => by simp [World.frozen?, hb], h.lt.1⟩
theorem FileAt.form {w : World} {x : Nat × Value} {f : Fl} (h : FileAt w x f) : ∃ a cap, x.2 = .slice a f.tx.length cap := by
  rcases h.row.2 with ⟨e, h2⟩ | ⟨g, cap, cur, hv, _⟩
  · exact ⟨none, 0, by rw [e, h2]⟩
  · exact ⟨_, _, hv⟩
/-- Blocks of unlike kinds are two. -/
theorem PAt.far {w : World} {p m : Nat} {loc : Loc} {D : Dk} (h : PAt w p m loc D) : m ≠ p ∧ ∀ f ∈ D.fs, (loc f.nm).1 ≠ p ∧ (loc f.nm).1 ≠ m ∧ ∀ b, (loc f.nm).2.ownBlock = some b → b ≠ p ∧ b ≠ m ∧ ∀ g ∈ D.fs, b ≠ (loc g.nm).1 := by
  obtain ⟨Dm, ⟨es, clock, hm, _⟩, _⟩ := h.map
  have hp := h.blk
  refine ⟨fun e => (by rw [e, hp] at hm; cases hm), fun f hf => ?_⟩
  have hb := (h.file f hf).blk
  refine ⟨fun e => ?_, fun e => (by rw [e, hm] at hb; cases hb), fun b hw => ?_⟩
  · rw [e, hp] at hb
    injection hb with hb; injection hb with _ ht; exact absurd ht (by decide)
  · obtain ⟨cs, hc⟩ := row_block (h.file f hf).row hw
    refine ⟨fun e => ?_, fun e => (by rw [e, hm] at hc; cases hc), fun g hg e => ?_⟩
    · rw [e, hp] at hc
      injection hc with hc; injection hc with _ ht; exact absurd ht (by decide)
    · rw [e, (h.file g hg).blk] at hc
      injection hc with hc; injection hc with _ ht; exact absurd ht (by decide)
/-- A field of the disk is written. -/
theorem PAt.setp {w w' : World} {p m : Nat} {loc : Loc} {D E : Dk} (h : PAt w p m loc D) (he : E.fs = D.fs) (hg : w.grownBy w' (some p)) (hb : w'.heap[p]? = some (.cells #[.map (some m), .int .i64 (E.acts : Int), .int .i64 ((E.arm - E.acts : Nat) : Int), .bool E.off] 55 (0, 0))) : PAt w' p m loc E := by
  have hfar := h.far
  have hk : ∀ b, PBlk p m loc D.fs b → b ≠ p → w'.heap[b]? = w.heap[b]? := fun b hb hn => hg.block b (h.lt hb) (fun e => hn (by injection e))
  refine ⟨hb, ?_, ?_, by rw [he]; exact h.ne⟩
  · rw [he]; exact h.map.moved (hk m (.inr (.inl rfl)) hfar.1)
  · rw [he]
    intro f hf
    obtain ⟨h1, h2, h3⟩ := hfar.2 f hf
    exact (h.file f hf).moved (hk _ (.inr (.inr ⟨f, hf, .inl rfl⟩)) h1) fun b e => hk b (.inr (.inr ⟨f, hf, .inr e⟩)) (h3 b e).1
end Go.Proofs.Ytffpmcelelloeaa
