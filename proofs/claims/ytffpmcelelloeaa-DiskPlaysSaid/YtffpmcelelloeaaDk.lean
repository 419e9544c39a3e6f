/-
  Disks as the document has them: files by rising names, each with its bytes and how many of them are synced; how many actions there were; with which one the power goes off (0: with none); is it off?
-/
import Derived.Test.YtffpmcelelloeaaKit
namespace Go.Proofs.Ytffpmcelelloeaa.Gm

abbrev Bs := List UInt8
structure Fl where
  nm : Bs
  tx : Bs
  sy : Nat
structure Dk where
  fs : List Fl
  acts : Nat
  arm : Nat
  off : Bool

theorem bs_irr (a : Bs) : ¬ a < a := List.lt_irrefl a
theorem bs_trans {a b c : Bs} (h : a < b) (k : b < c) : a < c := List.lt_trans h k
theorem bs_tri (a b : Bs) : a < b ∨ a = b ∨ b < a := by
  rcases List.le_total a b with h | h
  · by_cases e : b ≤ a
    · exact .inr (.inl (List.le_antisymm h e))
    · exact .inl (List.not_le.1 e)
  · by_cases e : a ≤ b
    · exact .inr (.inl (List.le_antisymm e h))
    · exact .inr (.inr (List.not_le.1 e))
theorem bs_asymm {a b : Bs} (h : a < b) : ¬ b < a := fun k => bs_irr _ (bs_trans h k)
theorem bs_ne {a b : Bs} (h : a < b) : a ≠ b := fun e => bs_irr b (e ▸ h)

/-- By rising names. -/
def Rise (l : List Fl) : Prop := l.Pairwise (fun a b => a.nm < b.nm)
def findF : List Fl → Bs → Option Fl
  | [], _ => none
  | f :: l, k => if f.nm = k then some f else findF l k
def putF : List Fl → Fl → List Fl
  | [], f => [f]
  | g :: l, f => if g.nm < f.nm then g :: putF l f else if g.nm = f.nm then f :: l else f :: g :: l
def dropF (l : List Fl) (k : Bs) : List Fl := l.filter (fun f => !decide (f.nm = k))
def okName (k : Bs) : Bool := decide (1 ≤ k.length) && decide (k.length ≤ 12)

def appendF (l : List Fl) (k s : Bs) : List Fl × Int :=
  if okName k then match findF l k with
    | none => if 4 ≤ l.length ∨ 65536 < s.length then (l, 102) else (putF l ⟨k, s, 0⟩, 0)
    | some f => if 65536 < f.tx.length + s.length then (l, 102) else (putF l ⟨k, f.tx ++ s, f.sy⟩, 0)
  else (l, 1)
def syncF (l : List Fl) (k : Bs) : List Fl × Int :=
  match findF l k with
    | none => (l, 101)
    | some f => (putF l ⟨k, f.tx, f.tx.length⟩, 0)
def renameF (l : List Fl) (a b : Bs) : List Fl × Int :=
  match findF l a with
    | none => (l, 101)
    | some f => if okName b then (putF (dropF l a) ⟨b, f.tx, f.sy⟩, 0) else (l, 1)
def removeF (l : List Fl) (k : Bs) : List Fl × Int :=
  match findF l k with
    | none => (l, 101)
    | some _ => (dropF l k, 0)
def newD : Dk := ⟨[], 0, 0, false⟩
/-- An action is asked; done: is it done? -/
def goesD (d : Dk) : Bool := !d.off && !decide (d.acts + 1 = d.arm)
def actD (d : Dk) : Dk := if d.off then d else { d with acts := d.acts + 1, off := decide (d.acts + 1 = d.arm) }
def doneD (d : Dk) (r : List Fl × Int) : Dk × Int := if goesD d then ({ actD d with fs := r.1 }, r.2) else (actD d, 100)
def appendD (d : Dk) (k s : Bs) : Dk × Int := doneD d (appendF d.fs k s)
def syncD (d : Dk) (k : Bs) : Dk × Int := doneD d (syncF d.fs k)
def renameD (d : Dk) (a b : Bs) : Dk × Int := doneD d (renameF d.fs a b)
def removeD (d : Dk) (k : Bs) : Dk × Int := doneD d (removeF d.fs k)
def readD (d : Dk) (k : Bs) : Bs × Int :=
  if d.off then ([], 100) else match findF d.fs k with
    | none => ([], 101)
    | some f => (f.tx, 0)
def listD (d : Dk) : List Bs := d.fs.map (·.nm)
def armD (d : Dk) (n : Int) : Dk × Int :=
  if n < 0 ∨ 1099511627776 < n then (d, 1) else ({ d with arm := if n = 0 then 0 else d.acts + n.toNat }, 0)
/-- How many of u bytes are kept by the number c. -/
def keepN (c : Int) (u : Nat) : Nat := (if c < 0 then -(c + 1) else c).toNat % (u + 1)
def cutF (f : Fl) (c : Int) : Fl := ⟨f.nm, f.tx.take (f.sy + keepN c (f.tx.length - f.sy)), f.sy + keepN c (f.tx.length - f.sy)⟩
def cutsF (l : List Fl) (keep : List Int) : List Fl := l.mapIdx (fun i f => cutF f (keep[i]?.getD 0))
def restartD (d : Dk) (keep : List Int) : Dk := ⟨cutsF d.fs keep, d.acts, 0, false⟩

/-- A file that may be; a disk that may be. -/
structure OkF (f : Fl) : Prop where
  nm : okName f.nm = true
  sy : f.sy ≤ f.tx.length
  tx : f.tx.length ≤ 65536
structure OkL (l : List Fl) : Prop where
  rise : Rise l
  len : l.length ≤ 4
  fit : ∀ f ∈ l, OkF f
structure OkD (d : Dk) : Prop where
  fs : OkL d.fs
  arm : d.arm ≤ d.acts + 1099511627776

theorem okName_iff {k : Bs} : okName k = true ↔ 1 ≤ k.length ∧ k.length ≤ 12 := by unfold okName; simp
theorem find_cons (f : Fl) (l : List Fl) (k : Bs) : findF (f :: l) k = if f.nm = k then some f else findF l k := rfl
theorem find_mem {l : List Fl} {k : Bs} {f : Fl} (h : findF l k = some f) : f ∈ l ∧ f.nm = k := by
  induction l with
  | nil => cases h
  | cons g l ih =>
    unfold findF at h
    by_cases e : g.nm = k
    · rw [if_pos e] at h; cases h; exact ⟨by simp, e⟩
    · rw [if_neg e] at h; exact ⟨by simp [(ih h).1], (ih h).2⟩
theorem find_none {l : List Fl} {k : Bs} (h : ∀ f ∈ l, f.nm ≠ k) : findF l k = none := by
  induction l with
  | nil => rfl
  | cons g l ih => unfold findF; rw [if_neg (h g (by simp)), ih fun f hf => h f (by simp [hf])]
theorem find_none_iff {l : List Fl} {k : Bs} : findF l k = none ↔ ∀ f ∈ l, f.nm ≠ k := by
  refine ⟨fun h f hf e => ?_, find_none⟩
  induction l with
  | nil => cases hf
  | cons g l ih =>
    unfold findF at h
    by_cases e' : g.nm = k
    · rw [if_pos e'] at h; cases h
    · rw [if_neg e'] at h
      rcases List.mem_cons.1 hf with rfl | hf
      · exact e' e
      · exact ih h hf
theorem rise_cons {g : Fl} {l : List Fl} : Rise (g :: l) ↔ (∀ f ∈ l, g.nm < f.nm) ∧ Rise l := List.pairwise_cons
theorem find_of_mem {l : List Fl} (h : Rise l) {f : Fl} (hf : f ∈ l) : findF l f.nm = some f := by
  induction l with
  | nil => cases hf
  | cons g l ih =>
    obtain ⟨h1, h2⟩ := rise_cons.1 h
    unfold findF
    rcases List.mem_cons.1 hf with rfl | hf
    · rw [if_pos rfl]
    · rw [if_neg (bs_ne (h1 f hf)), ih h2 hf]
theorem put_mem {l : List Fl} {f x : Fl} (h : x ∈ putF l f) : x = f ∨ x ∈ l := by
  induction l with
  | nil => simpa [putF] using h
  | cons g l ih =>
    unfold putF at h
    by_cases e : g.nm < f.nm
    · rw [if_pos e] at h
      rcases List.mem_cons.1 h with rfl | h
      · right; simp
      · rcases ih h with h | h
        · exact .inl h
        · right; simp [h]
    · rw [if_neg e] at h
      by_cases e' : g.nm = f.nm
      · rw [if_pos e'] at h
        rcases List.mem_cons.1 h with h | h
        · exact .inl h
        · right; simp [h]
      · rw [if_neg e'] at h
        rcases List.mem_cons.1 h with h | h
        · exact .inl h
        · exact .inr h
theorem put_rise {l : List Fl} (h : Rise l) (f : Fl) : Rise (putF l f) := by
  induction l with
  | nil => simp [putF, Rise]
  | cons g l ih =>
    obtain ⟨h1, h2⟩ := rise_cons.1 h
    unfold putF
    by_cases e : g.nm < f.nm
    · rw [if_pos e]
      refine rise_cons.2 ⟨fun x hx => ?_, ih h2⟩
      rcases put_mem hx with rfl | hx
      · exact e
      · exact h1 x hx
    · rw [if_neg e]
      by_cases e' : g.nm = f.nm
      · rw [if_pos e']
        exact rise_cons.2 ⟨fun x hx => e' ▸ h1 x hx, h2⟩
      · rw [if_neg e']
        have lt : f.nm < g.nm := by
          rcases bs_tri g.nm f.nm with h | h | h
          · exact absurd h e
          · exact absurd h e'
          · exact h
        refine rise_cons.2 ⟨fun x hx => ?_, h⟩
        rcases List.mem_cons.1 hx with rfl | hx
        · exact lt
        · exact bs_trans lt (h1 x hx)
theorem find_put {l : List Fl} (h : Rise l) (f : Fl) (k : Bs) : findF (putF l f) k = if f.nm = k then some f else findF l k := by
  induction l with
  | nil => simp [putF, findF]
  | cons g l ih =>
    obtain ⟨h1, h2⟩ := rise_cons.1 h
    unfold putF
    by_cases e : g.nm < f.nm
    · rw [if_pos e]
      show (if g.nm = k then some g else findF (putF l f) k) = _
      rw [ih h2]
      by_cases e1 : g.nm = k
      · rw [if_pos e1, if_neg (fun x => bs_ne e (e1.trans x.symm)), find_cons, if_pos e1]
      · rw [if_neg e1, find_cons, if_neg e1]
    · rw [if_neg e]
      by_cases e' : g.nm = f.nm
      · rw [if_pos e']
        show (if f.nm = k then some f else findF l k) = _
        by_cases e1 : f.nm = k
        · rw [if_pos e1, if_pos e1]
        · rw [if_neg e1, if_neg e1, find_cons, if_neg (by rw [e']; exact e1)]
      · rw [if_neg e']
        rfl
theorem put_len {l : List Fl} (f : Fl) : (putF l f).length ≤ l.length + 1 := by
  induction l with
  | nil => simp [putF]
  | cons g l ih =>
    unfold putF
    split
    · simp; omega
    · split <;> simp
theorem put_len_has {l : List Fl} (h : Rise l) {f g : Fl} (hg : findF l f.nm = some g) : (putF l f).length = l.length := by
  induction l with
  | nil => cases hg
  | cons x l ih =>
    obtain ⟨h1, h2⟩ := rise_cons.1 h
    unfold putF
    by_cases e : x.nm < f.nm
    · rw [if_pos e]
      unfold findF at hg
      rw [if_neg (bs_ne e)] at hg
      simp [ih h2 hg]
    · rw [if_neg e]
      by_cases e' : x.nm = f.nm
      · rw [if_pos e']; simp
      · exfalso
        unfold findF at hg
        rw [if_neg e'] at hg
        obtain ⟨m1, m2⟩ := find_mem hg
        rw [← m2] at e
        exact e (h1 g m1)
theorem drop_mem {l : List Fl} {k : Bs} {x : Fl} : x ∈ dropF l k ↔ x ∈ l ∧ x.nm ≠ k := by unfold dropF; simp
theorem drop_rise {l : List Fl} (h : Rise l) (k : Bs) : Rise (dropF l k) := List.Pairwise.filter _ h
theorem find_drop {l : List Fl} (k j : Bs) : findF (dropF l k) j = if k = j then none else findF l j := by
  by_cases e : k = j
  · rw [if_pos e]; exact find_none fun f hf => e ▸ (drop_mem.1 hf).2
  · rw [if_neg e]
    induction l with
    | nil => rfl
    | cons g l ih =>
      unfold dropF at ih ⊢
      by_cases e1 : g.nm = k
      · rw [List.filter_cons_of_neg (by simpa using e1), ih]
        rw [find_cons, if_neg (by rw [e1]; exact e)]
      · rw [List.filter_cons_of_pos (by simpa using e1)]
        show (if g.nm = j then some g else findF (List.filter _ l) j) = (if g.nm = j then some g else findF l j)
        rw [ih]
theorem drop_len (l : List Fl) (k : Bs) : (dropF l k).length ≤ l.length := List.length_filter_le _ _
theorem drop_len_has {l : List Fl} {k : Bs} {f : Fl} (h : findF l k = some f) : (dropF l k).length + 1 ≤ l.length := by
  have := find_mem h
  unfold dropF
  have h1 : (l.filter (fun f => !decide (f.nm = k))).length < l.length := by
    apply List.length_filter_lt_length_iff_exists.2
    exact ⟨f, this.1, by simp [this.2]⟩
  omega

theorem OkL.put {l : List Fl} (h : OkL l) {f : Fl} (hf : OkF f) (hl : (putF l f).length ≤ 4) : OkL (putF l f) :=
  ⟨put_rise h.rise f, hl, fun x hx => by
    rcases put_mem hx with rfl | hx
    · exact hf
    · exact h.fit x hx⟩
theorem OkL.drop {l : List Fl} (h : OkL l) (k : Bs) : OkL (dropF l k) := ⟨drop_rise h.rise k, Nat.le_trans (drop_len l k) h.len, fun x hx => h.fit x (drop_mem.1 hx).1⟩
theorem OkL.of_find {l : List Fl} (h : OkL l) {k : Bs} {f : Fl} (hf : findF l k = some f) : OkF f ∧ f.nm = k := ⟨h.fit f (find_mem hf).1, (find_mem hf).2⟩
theorem OkL.append {l : List Fl} (h : OkL l) (k s : Bs) : OkL (appendF l k s).1 := by
  unfold appendF
  split
  · rename_i hk
    split
    · rename_i hn
      split
      · exact h
      · rename_i hb
        exact h.put (f := ⟨k, s, 0⟩) ⟨hk, Nat.zero_le _, by show s.length ≤ _; omega⟩ (by have := put_len (l := l) ⟨k, s, 0⟩; omega)
    · rename_i f hf
      obtain ⟨h1, h2⟩ := h.of_find hf
      split
      · exact h
      · have := h1.sy
        refine h.put (f := ⟨k, f.tx ++ s, f.sy⟩) ⟨hk, by simp; omega, by simp; omega⟩ ?_
        rw [put_len_has h.rise (g := f) hf]; exact h.len
  · exact h
theorem OkL.sync {l : List Fl} (h : OkL l) (k : Bs) : OkL (syncF l k).1 := by
  unfold syncF
  split
  · exact h
  · rename_i f hf
    obtain ⟨h1, h2⟩ := h.of_find hf
    refine h.put (f := ⟨k, f.tx, f.tx.length⟩) ⟨h2 ▸ h1.nm, Nat.le_refl _, h1.tx⟩ ?_
    rw [put_len_has h.rise (g := f) hf]; exact h.len
theorem OkL.rename {l : List Fl} (h : OkL l) (a b : Bs) : OkL (renameF l a b).1 := by
  unfold renameF
  split
  · exact h
  · rename_i f hf
    obtain ⟨h1, h2⟩ := h.of_find hf
    split
    · rename_i hb
      have := drop_len_has hf
      have := put_len (l := dropF l a) ⟨b, f.tx, f.sy⟩
      have := h.len
      exact (h.drop a).put (f := ⟨b, f.tx, f.sy⟩) ⟨hb, h1.sy, h1.tx⟩ (by omega)
    · exact h
theorem OkL.remove {l : List Fl} (h : OkL l) (k : Bs) : OkL (removeF l k).1 := by
  unfold removeF
  split
  · exact h
  · exact h.drop k
theorem keep_le (c : Int) (u : Nat) : keepN c u ≤ u := by
  unfold keepN
  have := Nat.mod_lt (if c < 0 then -(c + 1) else c).toNat (show 0 < u + 1 by omega)
  omega
theorem OkF.cut {f : Fl} (h : OkF f) (c : Int) : OkF (cutF f c) := by
  have := keep_le c (f.tx.length - f.sy)
  have h1 := h.sy
  have h2 := h.tx
  exact ⟨h.nm, by simp [cutF]; omega, by simp [cutF]; omega⟩
theorem cuts_len (l : List Fl) (keep : List Int) : (cutsF l keep).length = l.length := by unfold cutsF; simp
theorem cuts_get (l : List Fl) (keep : List Int) (i : Nat) (h : i < l.length) : (cutsF l keep)[i]'(by rw [cuts_len]; exact h) = cutF l[i] (keep[i]?.getD 0) := by unfold cutsF; simp
theorem cuts_names (l : List Fl) (keep : List Int) : (cutsF l keep).map (·.nm) = l.map (·.nm) := by
  apply List.ext_getElem
  · simp [cuts_len]
  · intro i h1 h2
    rw [List.getElem_map, List.getElem_map, cuts_get l keep i (by simpa using h2)]; rfl
theorem rise_iff {l : List Fl} : Rise l ↔ (l.map (·.nm)).Pairwise (· < ·) := by unfold Rise; rw [List.pairwise_map]
theorem OkL.cuts {l : List Fl} (h : OkL l) (keep : List Int) : OkL (cutsF l keep) := by
  refine ⟨?_, by rw [cuts_len]; exact h.len, fun f hf => ?_⟩
  · rw [rise_iff, cuts_names, ← rise_iff]; exact h.rise
  · obtain ⟨i, hi, rfl⟩ := List.getElem_of_mem hf
    have hi' : i < l.length := by rw [cuts_len] at hi; exact hi
    rw [cuts_get l keep i hi']
    exact (h.fit _ (List.getElem_mem hi')).cut _
theorem act_acts (d : Dk) : d.acts ≤ (actD d).acts ∧ (actD d).acts ≤ d.acts + 1 := by unfold actD; split <;> simp
theorem act_fs (d : Dk) : (actD d).fs = d.fs := by unfold actD; split <;> rfl
theorem act_arm (d : Dk) : (actD d).arm = d.arm := by unfold actD; split <;> rfl
theorem OkD.act {d : Dk} (h : OkD d) : OkD (actD d) := ⟨by rw [act_fs]; exact h.fs, by rw [act_arm]; have := h.arm; have := act_acts d; omega⟩
theorem OkD.done {d : Dk} (h : OkD d) {r : List Fl × Int} (hr : OkL r.1) : OkD (doneD d r).1 := by
  unfold doneD
  split
  · exact ⟨hr, h.act.arm⟩
  · exact h.act
theorem done_acts (d : Dk) (r : List Fl × Int) : d.acts ≤ (doneD d r).1.acts ∧ (doneD d r).1.acts ≤ d.acts + 1 := by
  unfold doneD
  split <;> exact act_acts d
theorem OkD.append {d : Dk} (h : OkD d) (k s : Bs) : OkD (appendD d k s).1 := h.done (h.fs.append k s)
theorem OkD.sync {d : Dk} (h : OkD d) (k : Bs) : OkD (syncD d k).1 := h.done (h.fs.sync k)
theorem OkD.rename {d : Dk} (h : OkD d) (a b : Bs) : OkD (renameD d a b).1 := h.done (h.fs.rename a b)
theorem OkD.remove {d : Dk} (h : OkD d) (k : Bs) : OkD (removeD d k).1 := h.done (h.fs.remove k)
theorem OkD.armed {d : Dk} (h : OkD d) (n : Int) : OkD (armD d n).1 := by
  unfold armD
  split
  · exact h
  · refine ⟨h.fs, ?_⟩
    dsimp only
    split <;> omega
theorem OkD.restart {d : Dk} (h : OkD d) (keep : List Int) : OkD (restartD d keep) := ⟨h.fs.cuts keep, Nat.zero_le _⟩
theorem OkD.new : OkD newD := ⟨⟨List.Pairwise.nil, by simp [newD], by simp [newD]⟩, by simp [newD]⟩
end Go.Proofs.Ytffpmcelelloeaa.Gm
