/-
  A map of numbers by whatever keys: which keys it has, and the number of each.
-/
import Derived.Maps.OwnSet
import Derived.DeepKeys4
import Derived.WideKeyEntry
import Derived.Test.YtjkfiilnogacnaaTexts
namespace Go.Proofs.Ytjkfiilnogacnaa
open Go.RowKit
open Go.Maps (Keyed)
open Go.ChangeMaps (setBlock heap_setBlock_same heap_setBlock_other)

/-- How an element of the map reads: as a number. -/
def cR (v : Value) : Option (DataW Unit × List MemPlace) :=
  match v with
  | .int .i64 n => some (.lit (.int .i64 n), [])
  | _ => none
abbrev cL (n : Int) : DataW Unit := .lit (.int .i64 n)
theorem cR_of (n : Int) : cR (.int .i64 n) = some (cL n, []) := rfl
theorem cR_inv {v : Value} {n : Int} {ps : List MemPlace} (h : cR v = some (cL n, ps)) : v = .int .i64 n := by
  unfold cR at h
  split at h
  · simp only [Option.some.injEq, Prod.mk.injEq] at h
    have := h.1
    injection this with this
    injection this with _ this
    rw [this]
  · cases h
theorem cnt_zero (w : World) : (zeroValue 3).run Try.prog w = .ok (.int .i64 0) w := by kernel_rfl

/-- HOW KEYS OF TYPE k ARE TOLD APART: each has a value and a literal of its own. -/
structure KeysOf (k : TypeId) {κ : Type} (kl : κ → Lit) (kv : κ → Value) (ok : κ → Prop) : Prop where
  law : WideMaps.KeyLaw Try.prog k
  lit : ∀ x, WideAt.IsKeyLit (kl x)
  inj : ∀ x y, ok x → ok y → kl x = kl y → x = y
  is : ∀ x, ok x → keyOf Try.prog k (kv x) = some (kl x)
theorem str_keys (k : TypeId) (hk : Try.prog.underlying k = some .string) : KeysOf k (κ := List UInt8) (fun x => .string x) (fun x => .string (S x)) (fun x => x.length ≤ 140737488351232) where
  law := WideMaps.string_law hk
  lit := fun _ => trivial
  inj := fun _ _ _ _ h => by injection h
  is := fun x h => WideMaps.keyOf_string_mk hk (by rw [S_size]; unfold maxLen; omega)

/-- Behind 'm[x] op= y''s first half the map is as behind 'm[x] = m[x]'. -/
theorem entry_puts {P : Program} {t k e : TypeId} {R : Value → Option (DataW Unit × List MemPlace)} {w : World} {b : Nat} {es : Array MapEntry} {clock : Nat} (K : WideMaps.KeyLaw P k) (ht : P.underlying t = some (.map k e)) {z : Value} (hz : ∀ u : World, (zeroValue e).run P u = .ok z u)
    (hb : w.heap[b]? = some (.map es clock)) (F : WideElems.Fit P k R es clock) {key : Value} {kl : Lit} (hkey : keyOf P k key = some kl) :
    ∃ (v0 st : Value) (w1 : World), (Instr.mapEntry t (.map (some b)) key).run P w = .ok (.tuple #[v0, st]) w1 ∧ (Instr.mapUpdate t (.map (some b)) key v0).run P w = .ok () w1 := by
  rcases K.find w hkey es.toList F.keys with ⟨h1, h2⟩ | ⟨j, e0, h1, h2, h3⟩
  · refine ⟨z, goInt clock, setBlock w b (.map (es.push ⟨key, z, clock⟩) (clock + 1)), ?_, ?_⟩
    · simp [Instr.mapEntry, run_underlying ht, MapKept.run_getObj_map hb, K.check w false hkey, h1, hz, MapKept.run_setObj_map _ hb, Result.andThen, setBlock]
    · simp [Instr.mapUpdate, run_underlying ht, MapKept.run_getObj_map hb, K.check w false hkey, h1, MapKept.run_setObj_map _ hb, Result.andThen, setBlock]
  · have hj : es[j]? = some e0 := by simpa using h2
    have hsame : es.modify j (fun e => { e with key := key }) = es := by
      apply Array.ext'
      rw [Array.toList_modify, ChangeMaps.modify_eq_set _ _ _ _ h2]
      have : ({ e0 with key := key } : MapEntry) = e0 := by rw [← h3]
      rw [this]
      exact WideElems.set_self _ _ _ h2
    have hsame2 : es.modify j (fun e => { e with key := key, val := e0.val }) = es := by
      apply Array.ext'
      rw [Array.toList_modify, ChangeMaps.modify_eq_set _ _ _ _ h2]
      have : ({ e0 with key := key, val := e0.val } : MapEntry) = e0 := by rw [← h3]
      rw [this]
      exact WideElems.set_self _ _ _ h2
    refine ⟨e0.val, goInt e0.born, setBlock w b (.map es clock), ?_, ?_⟩
    · simp [Instr.mapEntry, run_underlying ht, MapKept.run_getObj_map hb, K.check w false hkey, h1, hj, h3, K.stays w hkey, hsame, MapKept.run_setObj_map _ hb, Result.andThen, setBlock]
    · simp [Instr.mapUpdate, run_underlying ht, MapKept.run_getObj_map hb, K.check w false hkey, h1, hj, h3, K.stays w hkey, hsame2, MapKept.run_setObj_map _ hb, Result.andThen, setBlock]

section
variable {κ : Type} {k t : TypeId} {kl : κ → Lit} {kv : κ → Value} {ok : κ → Prop} {w : World} {b n : Nat} {f : κ → Option Int}
/-- BLOCK b IS A MAP OF AT MOST n KEYS: f tells which, and the number of each. -/
def CntM (k : TypeId) (kl : κ → Lit) (ok : κ → Prop) (w : World) (b n : Nat) (f : κ → Option Int) : Prop :=
  ∃ Dm : DataW Unit, w.ownsMap Try.prog k cR b n Dm ∧ ∀ x, ok x → Maps.has Dm (kl x) = (f x).isSome ∧ Dm.atKey (kl x) (cL 0) = cL ((f x).getD 0)
theorem CntM.lt (h : CntM k kl ok w b n f) : b < w.heap.size := by obtain ⟨_, h, _⟩ := h; exact h.lt
theorem CntM.moved {w' : World} (h : CntM k kl ok w b n f) (hb : w'.heap[b]? = w.heap[b]?) : CntM k kl ok w' b n f := by
  obtain ⟨Dm, ⟨es, clock, h0, r⟩, h1⟩ := h
  exact ⟨Dm, ⟨es, clock, hb.trans h0, r⟩, h1⟩
theorem CntM.same {g : κ → Option Int} (h : CntM k kl ok w b n f) (e : ∀ x, f x = g x) : CntM k kl ok w b n g := by
  obtain ⟨Dm, h0, h1⟩ := h
  exact ⟨Dm, h0, fun x hx => by rw [← e]; exact h1 x hx⟩
theorem CntM.wide {m : Nat} (h : CntM k kl ok w b n f) (e : n ≤ m) : CntM k kl ok w b m f := by
  obtain ⟨Dm, ⟨es, clock, h0, hf, hn, r⟩, h1⟩ := h
  exact ⟨Dm, ⟨es, clock, h0, hf, Nat.le_trans hn e, r⟩, h1⟩
/-- A map is no block of cells. -/
theorem CntM.cells (h : CntM k kl ok w b n f) {cs : Array Value} {ty : TypeId} {r : Nat × Nat} : w.heap[b]? ≠ some (.cells cs ty r) := by
  obtain ⟨Dm, ⟨es, clock, h0, _⟩, _⟩ := h
  rw [h0]
  intro e
  injection e with e
  cases e
theorem CntM.made (k : TypeId) (kl : κ → Lit) (ok : κ → Prop) (w : World) : CntM k kl ok (w.alloc (.map #[] 0)) w.heap.size 0 (fun _ => none) := ⟨.map [], World.ownsMap_made w _ _ _, fun _ _ => ⟨rfl, rfl⟩⟩
/-- 'm[x]' -/
theorem CntM.look (K : KeysOf k kl kv ok) (ht : Try.prog.underlying t = some (.map k 3)) (h : CntM k kl ok w b n f) (x : κ) (hx : ok x) : (Instr.lookup t (.map (some b)) (kv x) false).run Try.prog w = .ok (.int .i64 ((f x).getD 0)) w := by
  obtain ⟨Dm, h0, h1⟩ := h
  obtain ⟨v, ps, hrun, hv⟩ := h0.lookup (Keyed.of_law K.law) ht (cnt_zero w) (cR_of 0) (K.is x hx)
  rw [(h1 x hx).2] at hv
  rw [hrun, cR_inv hv]
/-- 'v, ok := m[x]' -/
theorem CntM.look2 (K : KeysOf k kl kv ok) (ht : Try.prog.underlying t = some (.map k 3)) (h : CntM k kl ok w b n f) (x : κ) (hx : ok x) : (Instr.lookup t (.map (some b)) (kv x) true).run Try.prog w = .ok (.tuple #[.int .i64 ((f x).getD 0), .bool (f x).isSome]) w := by
  obtain ⟨Dm, h0, h1⟩ := h
  obtain ⟨v, ps, hrun, hv⟩ := h0.look_ok (Keyed.of_law K.law) ht (cnt_zero w) (cR_of 0) (K.is x hx)
  rw [(h1 x hx).2] at hv
  rw [(h1 x hx).1, cR_inv hv] at hrun
  exact hrun
/-- 'm[x] = y' -/
theorem CntM.store (K : KeysOf k kl kv ok) (ht : Try.prog.underlying t = some (.map k 3)) (h : CntM k kl ok w b n f) (hn : n ≤ 1099511627776) (x : κ) (hx : ok x) (y : Int) [DecidableEq κ] :
    ∃ w', (Instr.mapUpdate t (.map (some b)) (kv x) (.int .i64 y)).run Try.prog w = .ok () w' ∧ CntM k kl ok w' b (n + 1) (fun j => if j = x then some y else f j) ∧ w.grownBy w' (some b) := by
  obtain ⟨Dm, h0, h1⟩ := h
  obtain ⟨w', hrun, hown, hg⟩ := h0.update (Keyed.of_law K.law) ht (by unfold maxLen; omega) (K.is x hx) (cR_of y)
  refine ⟨w', hrun, ⟨_, hown, fun j hj => ?_⟩, hg⟩
  show _ = (if j = x then some y else f j).isSome ∧ _ = cL ((if j = x then some y else f j).getD 0)
  by_cases e : j = x
  · subst e
    rw [if_pos rfl, Maps.has_put_same h0.isMap (K.lit j), Maps.atKey_put_same h0.isMap (K.lit j)]
    exact ⟨rfl, rfl⟩
  · have hne : kl j ≠ kl x := fun h => e (K.inj j x hj hx h)
    rw [if_neg e, Maps.has_put_other hne, Maps.atKey_put_other hne]
    exact h1 j hj
/-- 'delete(m, x)' -/
theorem CntM.drop (K : KeysOf k kl kv ok) (ht : Try.prog.underlying t = some (.map k 3)) (h : CntM k kl ok w b n f) (x : κ) (hx : ok x) [DecidableEq κ] (ty : TypeId) :
    ∃ w' m, (Builtin.delete_ #[t, k] ty #[.map (some b), kv x]).run Try.prog w = .ok (.tuple #[]) w' ∧ CntM k kl ok w' b m (fun j => if j = x then none else f j) ∧ w.grownBy w' (some b) := by
  obtain ⟨Dm, h0, h1⟩ := h
  obtain ⟨w', hrun, hown, hg⟩ := h0.drop (Keyed.of_law K.law) ht (K.is x hx) ty
  refine ⟨w', _, hrun, ⟨_, hown, fun j hj => ?_⟩, hg.grown⟩
  show _ = (if j = x then none else f j).isSome ∧ _ = cL ((if j = x then none else f j).getD 0)
  by_cases e : j = x
  · subst e
    rw [if_pos rfl, Maps.has_del_same, Maps.atKey_del_same]
    exact ⟨rfl, rfl⟩
  · have hne : kl j ≠ kl x := fun h => e (K.inj j x hj hx h)
    rw [if_neg e, Maps.has_del_other hne, Maps.atKey_del_other hne]
    exact h1 j hj
/-- 'm[x] op= y': the entry is taken first, its value stored behind all else. -/
theorem CntM.entry (K : KeysOf k kl kv ok) (ht : Try.prog.underlying t = some (.map k 3)) (h : CntM k kl ok w b n f) (hn : n ≤ 1099511627776) (x : κ) (hx : ok x) [DecidableEq κ] :
    ∃ (st : Nat) (w1 : World), (Instr.mapEntry t (.map (some b)) (kv x)).run Try.prog w = .ok (.tuple #[.int .i64 ((f x).getD 0), .int .i64 (st : Int)]) w1 ∧ w.grownBy w1 (some b) ∧ CntM k kl ok w1 b (n + 1) (fun j => if j = x then some ((f x).getD 0) else f j) ∧
      ∀ (w2 : World) (y : Int), w2.heap[b]? = w1.heap[b]? → ∃ w3, (Instr.entryStore t (.map (some b)) (.int .i64 (st : Int)) (.int .i64 y)).run Try.prog w2 = .ok () w3 ∧ CntM k kl ok w3 b (n + 1) (fun j => if j = x then some y else f j) ∧ w2.grownBy w3 (some b) := by
  have hst := fun y => h.store K ht hn x hx y
  obtain ⟨Dm, ⟨es, clock, h0, F, hle, rfl⟩, h1⟩ := h
  obtain ⟨v0, st, es1, clock1, hrun, hv0, hnext⟩ := WideElems.entry_then_store K.law ht (z := .int .i64 0) (fun u => cnt_zero u) h0 F (K.is x hx)
  have hval : v0 = .int .i64 ((f x).getD 0) := by
    have h2 := (h1 x hx).2
    rcases hv0 with ⟨e0, hm, hk, rfl⟩ | ⟨hno, rfl⟩
    · obtain ⟨y, hy⟩ := F.reads e0 hm
      obtain ⟨z, hz, _⟩ := WideElems.rd_val hy
      have h3 := WideElems.atKey_some K.law F (K.is x hx) hm hk hz (cL 0)
      rw [h2] at h3
      obtain ⟨z1, z2⟩ := z
      obtain rfl : cL ((f x).getD 0) = z1 := h3
      exact cR_inv hz
    · have h3 := WideElems.atKey_none K.law F (K.is x hx) hno (cL 0)
      rw [h2] at h3
      injection h3 with h3
      injection h3 with _ h3
      rw [h3]
  rw [hval] at hrun
  have hgr : ∀ (u : World) (es0 es' : Array MapEntry) (c0 c' : Nat), u.heap[b]? = some (.map es0 c0) → u.grownBy (setBlock u b (.map es' c')) (some b) := fun u es0 es' c0 c' hb =>
    ⟨rfl, rfl, rfl, by simp [setBlock], fun i _ hi => heap_setBlock_other hb _ (fun e => hi (by rw [e]))⟩
  have hin : CntM k kl ok (setBlock w b (.map es1 clock1)) b (n + 1) (fun j => if j = x then some ((f x).getD 0) else f j) := by
    obtain ⟨u0, st', w1, hrun', hup⟩ := entry_puts K.law ht (z := .int .i64 0) (fun u => cnt_zero u) h0 F (K.is x hx)
    rw [hrun] at hrun'
    injection hrun' with hv1 hw1
    injection hv1 with hv1
    have hu0 : u0 = .int .i64 ((f x).getD 0) := by
      have := congrArg (fun a : Array Value => a[0]?) hv1
      simpa using this.symm
    obtain ⟨w', hu', hc, _⟩ := hst ((f x).getD 0)
    rw [← hu0, hup] at hu'
    injection hu' with _ hw'
    rw [hw1, hw']
    exact hc
  refine ⟨st, _, hrun, hgr w _ _ _ _ h0, hin, fun w2 y hw2 => ?_⟩
  rw [heap_setBlock_same h0] at hw2
  obtain ⟨es', clock', hs, hu⟩ := hnext w2 (.int .i64 y) hw2
  obtain ⟨w', hu', hc, _⟩ := hst y
  rw [hu] at hu'
  injection hu' with _ hw'
  subst hw'
  refine ⟨_, hs, hc.moved ?_, hgr w2 _ _ _ _ hw2⟩
  rw [heap_setBlock_same hw2, heap_setBlock_same h0]
end
end Go.Proofs.Ytjkfiilnogacnaa
