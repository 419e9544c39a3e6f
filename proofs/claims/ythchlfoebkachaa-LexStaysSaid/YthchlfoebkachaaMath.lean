/-
  Plain mathematics of flow networks: valid networks, flows that fit, what leaves a vertex, cuts, and the passes by which vertices are reached; nothing of the program is named here.
-/
namespace Go.Proofs.Ythchlfoebkachaa.Gm

/-- An edge: from, to, cap. -/
abbrev E := Int × Int × Int

def vtx (n x : Int) : Bool := decide (0 ≤ x) && decide (x < n)
def okE (n : Int) (e : E) : Bool := vtx n e.1 && vtx n e.2.1 && !decide (e.1 = e.2.1) && decide (0 ≤ e.2.2) && decide (e.2.2 ≤ 1000)
theorem okE_iff {n : Int} {e : E} : okE n e = true ↔ 0 ≤ e.1 ∧ e.1 < n ∧ 0 ≤ e.2.1 ∧ e.2.1 < n ∧ e.1 ≠ e.2.1 ∧ 0 ≤ e.2.2 ∧ e.2.2 ≤ 1000 := by
  simp [okE, vtx]
  omega
def small (n : Int) (len : Nat) : Bool := decide (2 ≤ n) && decide (n ≤ 64) && decide (len ≤ 256)
def right (n : Int) (es : List E) : Bool := small n es.length && es.all (okE n)
theorem right_iff {n : Int} {es : List E} : right n es = true ↔ 2 ≤ n ∧ n ≤ 64 ∧ es.length ≤ 256 ∧ ∀ e ∈ es, okE n e = true := by
  simp [right, small]
  constructor
  · rintro ⟨⟨⟨a, b⟩, c⟩, d⟩; exact ⟨a, b, c, d⟩
  · rintro ⟨a, b, c, d⟩; exact ⟨⟨⟨a, b⟩, c⟩, d⟩

/-- A flow beside its edges. -/
abbrev Z := List (E × Int)
def okF (p : E × Int) : Bool := decide (0 ≤ p.2) && decide (p.2 ≤ p.1.2.2)
def fits (n : Int) (es : List E) (fl : List Int) : Bool := right n es && decide (fl.length = es.length) && (es.zip fl).all okF
theorem fits_iff {n : Int} {es : List E} {fl : List Int} : fits n es fl = true ↔ right n es = true ∧ fl.length = es.length ∧ ∀ p ∈ es.zip fl, 0 ≤ p.2 ∧ p.2 ≤ p.1.2.2 := by
  simp [fits, okF, and_assoc]

/-- What leaves x, less what comes in. -/
def gain : Z → Int → Int
  | [], _ => 0
  | p :: l, x => (if p.1.1 = x then p.2 else 0) - (if p.1.2.1 = x then p.2 else 0) + gain l x
theorem gain_app (l m : Z) (x : Int) : gain (l ++ m) x = gain l x + gain m x := by
  induction l with
  | nil => simp [gain]
  | cons p l ih => simp [gain, ih]; omega
theorem gain_snoc (l : Z) (p : E × Int) (x : Int) : gain (l ++ [p]) x = gain l x + (if p.1.1 = x then p.2 else 0) - (if p.1.2.1 = x then p.2 else 0) := by
  rw [gain_app]; simp [gain]; omega
theorem gain_bd (l : Z) (x : Int) (h : ∀ p ∈ l, 0 ≤ p.2 ∧ p.2 ≤ 1000) : -(1000 * (l.length : Int)) ≤ gain l x ∧ gain l x ≤ 1000 * (l.length : Int) := by
  induction l with
  | nil => simp [gain]
  | cons p l ih =>
    have h1 := h p (by simp)
    have h2 := ih fun q hq => h q (by simp [hq])
    simp only [gain, List.length_cons]
    split <;> split <;> omega

def good (n : Int) (es : List E) (fl : List Int) (s t : Int) : Bool :=
  fits n es fl && vtx n s && vtx n t && !decide (s = t) && (List.range n.toNat).all fun v => decide (gain (es.zip fl) v = 0) || decide ((v : Int) = s) || decide ((v : Int) = t)
theorem good_iff {n : Int} {es : List E} {fl : List Int} {s t : Int} : good n es fl s t = true ↔
    fits n es fl = true ∧ vtx n s = true ∧ vtx n t = true ∧ s ≠ t ∧ ∀ v : Nat, (v : Int) < n → gain (es.zip fl) v = 0 ∨ (v : Int) = s ∨ (v : Int) = t := by
  simp [good]
  constructor
  · rintro ⟨⟨⟨⟨a, b⟩, c⟩, d⟩, e⟩
    refine ⟨a, b, c, d, fun v hv => ?_⟩
    have := e v (by omega)
    rcases this with (h | h) | h <;> simp [h]
  · rintro ⟨a, b, c, d, e⟩
    refine ⟨⟨⟨⟨a, b⟩, c⟩, d⟩, fun v hv => ?_⟩
    have := e v (by omega)
    rcases this with h | h | h <;> simp [h]
def value (n : Int) (es : List E) (fl : List Int) (s : Int) : Int := if fits n es fl && vtx n s then gain (es.zip fl) s else 0

/-- Is x in the list r? -/
def has (r : List Bool) (x : Int) : Bool := r[x.toNat]?.getD false
def cutSum (side : List Bool) : List E → Int
  | [] => 0
  | e :: l => (if has side e.1 && !has side e.2.1 then e.2.2 else 0) + cutSum side l
theorem cutSum_app (side : List Bool) (l m : List E) : cutSum side (l ++ m) = cutSum side l + cutSum side m := by
  induction l with
  | nil => simp [cutSum]
  | cons p l ih => simp [cutSum, ih]; omega
theorem cutSum_snoc (side : List Bool) (l : List E) (e : E) : cutSum side (l ++ [e]) = cutSum side l + (if has side e.1 && !has side e.2.1 then e.2.2 else 0) := by
  rw [cutSum_app]; simp [cutSum]
theorem cutSum_bd (side : List Bool) (l : List E) (h : ∀ e ∈ l, 0 ≤ e.2.2 ∧ e.2.2 ≤ 1000) : 0 ≤ cutSum side l ∧ cutSum side l ≤ 1000 * (l.length : Int) := by
  induction l with
  | nil => simp [cutSum]
  | cons p l ih =>
    have h1 := h p (by simp)
    have h2 := ih fun q hq => h q (by simp [hq])
    simp only [cutSum, List.length_cons]
    split <;> omega
def cut (n : Int) (es : List E) (side : List Bool) : Int := if right n es && decide ((side.length : Int) = n) then cutSum side es else 0

/-! ### passes -/
def mark (r : List Bool) (p : Int × Int) : List Bool := if has r p.1 && !has r p.2 then r.set p.2.toNat true else r
/-- The pairs between which an edge leaves room. -/
def pairsE (p : E × Int) : List (Int × Int) := (if p.2 < p.1.2.2 then [(p.1.1, p.1.2.1)] else []) ++ (if 0 < p.2 then [(p.1.2.1, p.1.1)] else [])
def pairs (z : Z) : List (Int × Int) := z.flatMap pairsE
def marks (ps : List (Int × Int)) (r : List Bool) : List Bool := ps.foldl mark r
theorem marks_snoc (ps : List (Int × Int)) (p : Int × Int) (r : List Bool) : marks (ps ++ [p]) r = mark (marks ps r) p := by simp [marks]
theorem marks_app (ps qs : List (Int × Int)) (r : List Bool) : marks (ps ++ qs) r = marks qs (marks ps r) := by simp [marks]
theorem mark_length (r : List Bool) (p : Int × Int) : (mark r p).length = r.length := by unfold mark; split <;> simp
theorem marks_length (ps : List (Int × Int)) (r : List Bool) : (marks ps r).length = r.length := by
  induction ps generalizing r with
  | nil => rfl
  | cons p ps ih => show (marks ps (mark r p)).length = _; rw [ih, mark_length]
def start (n s : Int) : List Bool := (List.replicate n.toNat false).set s.toNat true
def passN (ps : List (Int × Int)) : Nat → List Bool → List Bool
  | 0, r => r
  | k + 1, r => marks ps (passN ps k r)
theorem passN_length (ps : List (Int × Int)) (k : Nat) (r : List Bool) : (passN ps k r).length = r.length := by
  induction k with
  | zero => rfl
  | succ k ih => show (marks ps _).length = _; rw [marks_length, ih]
/-- Whoever is reached. -/
def reach (n : Int) (z : Z) (s : Int) : List Bool := passN (pairs z) n.toNat (start n s)
theorem reach_length (n : Int) (z : Z) (s : Int) : (reach n z s).length = n.toNat := by
  unfold reach; rw [passN_length]; simp [start]

/-! ### how many are marked -/
def cnt (r : List Bool) : Nat := r.countP id
theorem cnt_le (r : List Bool) : cnt r ≤ r.length := List.countP_le_length
theorem cnt_set (r : List Bool) (i : Nat) (h : i < r.length) (hf : r[i] = false) : cnt (r.set i true) = cnt r + 1 := by
  induction r generalizing i with
  | nil => simp at h
  | cons b r ih =>
    cases i with
    | zero => simp at hf; subst hf; simp [cnt]
    | succ i =>
      have := ih i (by simpa using h) (by simpa using hf)
      simp only [cnt, List.set_cons_succ, List.countP_cons] at this ⊢
      omega
theorem has_set (r : List Bool) (i : Nat) (h : i < r.length) (x : Int) (hx : 0 ≤ x) : has (r.set i true) x = (decide (x = i) || has r x) := by
  unfold has
  rw [List.getElem?_set]
  by_cases e : x = i
  · subst e; simp [h]
  · have : i ≠ x.toNat := by omega
    simp [this, e]
theorem has_lt {r : List Bool} {x : Int} (h : has r x = true) : x.toNat < r.length := by
  unfold has at h
  rcases Nat.lt_or_ge x.toNat r.length with h' | h'
  · exact h'
  · rw [List.getElem?_eq_none h'] at h; simp at h

/-- A pair of vertices. -/
def inR (n : Nat) (p : Int × Int) : Prop := 0 ≤ p.1 ∧ p.1 < n ∧ 0 ≤ p.2 ∧ p.2 < n
theorem mark_cnt {r : List Bool} {p : Int × Int} (h : inR r.length p) : (has r p.1 = true ∧ has r p.2 = false ∧ cnt (mark r p) = cnt r + 1) ∨ ((has r p.1 = true → has r p.2 = true) ∧ mark r p = r) := by
  unfold mark
  by_cases h1 : has r p.1 = true
  · by_cases h2 : has r p.2 = true
    · right; simp [h2]
    · left
      have h2' : has r p.2 = false := by simpa using h2
      refine ⟨h1, h2', ?_⟩
      have hl : p.2.toNat < r.length := by have := h.2.2.2; have := h.2.2.1; omega
      simp only [h1, h2', Bool.not_false, Bool.and_true, if_true]
      refine cnt_set r _ hl ?_
      unfold has at h2'
      rw [List.getElem?_eq_getElem hl] at h2'
      simpa using h2'
  · right; simp [h1]
theorem marks_cnt (ps : List (Int × Int)) : ∀ (r : List Bool), (∀ p ∈ ps, inR r.length p) → cnt r ≤ cnt (marks ps r) ∧ (cnt (marks ps r) = cnt r → marks ps r = r ∧ ∀ p ∈ ps, has r p.1 = true → has r p.2 = true) := by
  induction ps with
  | nil => intro r _; exact ⟨Nat.le_refl _, fun _ => ⟨rfl, by simp⟩⟩
  | cons p ps ih =>
    intro r h
    have h1 := mark_cnt (h p (by simp))
    have h2 := ih (mark r p) (fun q hq => by rw [mark_length]; exact h q (by simp [hq]))
    show cnt r ≤ cnt (marks ps (mark r p)) ∧ (cnt (marks ps (mark r p)) = cnt r → marks ps (mark r p) = r ∧ _)
    rcases h1 with ⟨_, _, hc⟩ | ⟨hp, he⟩
    · rw [hc] at h2
      exact ⟨by omega, fun e => by have := h2.1; omega⟩
    · rw [he] at h2 ⊢
      refine ⟨h2.1, fun e => ⟨(h2.2 e).1, fun q hq => ?_⟩⟩
      rcases List.mem_cons.1 hq with rfl | hq
      · exact hp
      · exact (h2.2 e).2 q hq
theorem passN_fix {ps : List (Int × Int)} {r : List Bool} {k : Nat} (h : marks ps (passN ps k r) = passN ps k r) (j : Nat) : passN ps (k + j) r = passN ps k r := by
  induction j with
  | zero => rfl
  | succ j ih => show marks ps (passN ps (k + j) r) = _; rw [ih, h]
theorem passN_grows {ps : List (Int × Int)} {r : List Bool} (h : ∀ p ∈ ps, inR r.length p) (k : Nat) : marks ps (passN ps k r) = passN ps k r ∨ cnt r + k + 1 ≤ cnt (passN ps (k + 1) r) := by
  induction k with
  | zero =>
    have := marks_cnt ps r h
    by_cases e : cnt (marks ps r) = cnt r
    · exact .inl (this.2 e).1
    · right; show _ ≤ cnt (marks ps r); omega
  | succ k ih =>
    have hm := marks_cnt ps (passN ps (k + 1) r) (by rw [passN_length]; exact h)
    rcases ih with ih | ih
    · left
      show marks ps (passN ps (k + 1) r) = passN ps (k + 1) r
      have e : passN ps (k + 1) r = passN ps k r := ih
      rw [e, ih]
    · by_cases e : cnt (marks ps (passN ps (k + 1) r)) = cnt (passN ps (k + 1) r)
      · exact .inl (hm.2 e).1
      · right; show _ ≤ cnt (marks ps (passN ps (k + 1) r)); omega
/-- As many passes as there are vertices are enough. -/
theorem passN_end {ps : List (Int × Int)} {r : List Bool} (h : ∀ p ∈ ps, inR r.length p) (k : Nat) (hk : r.length ≤ k) : marks ps (passN ps k r) = passN ps k r := by
  rcases passN_grows h k with e | e
  · exact e
  · have := cnt_le (passN ps (k + 1) r)
    rw [passN_length] at this
    omega
/-- Where a pass adds nobody, all are there. -/
theorem passN_same {ps : List (Int × Int)} {r : List Bool} (h : ∀ p ∈ ps, inR r.length p) {k : Nat} (hk : marks ps (passN ps k r) = passN ps k r) : passN ps k r = passN ps r.length r := by
  rcases Nat.le_total k r.length with h1 | h1
  · obtain ⟨j, hj⟩ : ∃ j, r.length = k + j := ⟨r.length - k, by omega⟩
    rw [hj, passN_fix hk]
  · obtain ⟨j, hj⟩ : ∃ j, k = r.length + j := ⟨k - r.length, by omega⟩
    rw [hj, passN_fix (passN_end h _ (Nat.le_refl _))]

/-! ### what a pass keeps -/
theorem mark_mono {r : List Bool} {p : Int × Int} (hp : inR r.length p) {x : Int} (hx : 0 ≤ x) (h : has r x = true) : has (mark r p) x = true := by
  unfold mark
  split
  · rw [has_set _ _ (by have := hp.2.2.2; have := hp.2.2.1; omega) _ hx, h]; simp
  · exact h
theorem mark_new {r : List Bool} {p : Int × Int} (hp : inR r.length p) {x : Int} (hx : 0 ≤ x) (h : has (mark r p) x = true) : has r x = true ∨ (x = p.2 ∧ has r p.1 = true) := by
  unfold mark at h
  split at h
  · rename_i hc
    rw [has_set _ _ (by have := hp.2.2.2; have := hp.2.2.1; omega) _ hx] at h
    have h2 := hp.2.2.1
    simp at h hc
    rcases h with h | h
    · right; exact ⟨by omega, hc.1⟩
    · exact .inl h
  · exact .inl h
/-- What holds of s, and goes along pairs, holds of all who are reached. -/
theorem marks_ind {ps qs : List (Int × Int)} (P : List Bool → Prop) (hs : ∀ p ∈ ps, p ∈ qs) (h1 : ∀ r p, p ∈ qs → P r → P (mark r p)) : ∀ r, P r → P (marks ps r) := by
  induction ps with
  | nil => intro r h; exact h
  | cons p ps ih => intro r h; exact ih (fun q hq => hs q (by simp [hq])) _ (h1 r p (hs p (by simp)) h)
theorem passN_ind {ps : List (Int × Int)} (P : List Bool → Prop) (h1 : ∀ r p, p ∈ ps → P r → P (mark r p)) (k : Nat) (r : List Bool) (h : P r) : P (passN ps k r) := by
  induction k with
  | zero => exact h
  | succ k ih => exact marks_ind P (fun _ h => h) h1 _ ih
theorem start_has {n s : Int} (hs : 0 ≤ s) (hn : s < n) (x : Int) (hx : 0 ≤ x) : has (start n s) x = decide (x = s) := by
  unfold start
  rw [has_set _ _ (by simp; omega) _ hx]
  have : has (List.replicate n.toNat false) x = false := by
    unfold has
    rw [List.getElem?_replicate]
    split <;> rfl
  rw [this]
  have : ((s.toNat : Nat) : Int) = s := by omega
  rw [this]; simp
structure Reached (n : Int) (z : Z) (s : Int) (r : List Bool) : Prop where
  len : r.length = n.toNat
  first : has r s = true
  closed : ∀ p ∈ pairs z, has r p.1 = true → has r p.2 = true
  from' : ∀ x, 0 ≤ x → has r x = true → x = s ∨ ∃ p ∈ pairs z, p.2 = x ∧ has r p.1 = true
  least : ∀ S : Int → Prop, S s → (∀ p ∈ pairs z, S p.1 → S p.2) → ∀ x, 0 ≤ x → has r x = true → S x
theorem pairs_in {n : Int} {z : Z} (hn : 0 ≤ n) (h : ∀ p ∈ z, okE n p.1 = true) : ∀ p ∈ pairs z, inR n.toNat p := by
  intro p hp
  obtain ⟨q, hq, hp⟩ := List.mem_flatMap.1 hp
  have := okE_iff.1 (h q hq)
  unfold pairsE at hp
  rcases List.mem_append.1 hp with hp | hp
  · split at hp
    · simp at hp; subst hp; exact ⟨by simp; omega, by simp; omega, by simp; omega, by simp; omega⟩
    · simp at hp
  · split at hp
    · simp at hp; subst hp; exact ⟨by simp; omega, by simp; omega, by simp; omega, by simp; omega⟩
    · simp at hp
theorem reach_is {n : Int} {z : Z} {s : Int} (hs : 0 ≤ s) (hn : s < n) (h : ∀ p ∈ z, okE n p.1 = true) : Reached n z s (reach n z s) := by
  have hl : (start n s).length = n.toNat := by simp [start]
  have hin : ∀ p ∈ pairs z, inR (start n s).length p := by rw [hl]; exact pairs_in (by omega) h
  have hfix := passN_end hin n.toNat (by omega)
  have hlen := reach_length n z s
  have h0 := start_has hs hn
  have hc := (marks_cnt (pairs z) (reach n z s) (by rw [hlen]; rw [hl] at hin; exact hin)).2 (by unfold reach; rw [hfix])
  have hP : ∀ P : List Bool → Prop, (∀ r p, r.length = n.toNat → p ∈ pairs z → P r → P (mark r p)) → P (start n s) → P (reach n z s) := fun P h1 h2 =>
    (passN_ind (fun r => r.length = n.toNat ∧ P r) (fun r p hp hr => ⟨by rw [mark_length]; exact hr.1, h1 r p hr.1 hp hr.2⟩) _ _ ⟨hl, h2⟩).2
  rw [hl] at hin
  refine ⟨hlen, ?_, hc.2, ?_, ?_⟩
  · exact hP (fun r => has r s = true) (fun r p hr hp hs' => mark_mono (by rw [hr]; exact hin p hp) hs hs') (by rw [h0 s hs]; simp)
  · refine hP (fun r => ∀ x, 0 ≤ x → has r x = true → x = s ∨ ∃ p ∈ pairs z, p.2 = x ∧ has r p.1 = true) (fun r p hr hp h1 x hx h2 => ?_) (fun x hx h2 => ?_)
    · have hir : inR r.length p := by rw [hr]; exact hin p hp
      rcases mark_new hir hx h2 with h3 | ⟨rfl, h3⟩
      · rcases h1 x hx h3 with h4 | ⟨q, hq, e, h4⟩
        · exact .inl h4
        · exact .inr ⟨q, hq, e, mark_mono hir (hin q hq).1 h4⟩
      · exact .inr ⟨p, hp, rfl, mark_mono hir (hin p hp).1 h3⟩
    · rw [h0 x hx] at h2; left; simpa using h2
  · intro S hS hcl
    refine hP (fun r => ∀ x, 0 ≤ x → has r x = true → S x) (fun r p hr hp h1 x hx h2 => ?_) (fun x hx h2 => ?_)
    · have hir : inR r.length p := by rw [hr]; exact hin p hp
      rcases mark_new hir hx h2 with h3 | ⟨rfl, h3⟩
      · exact h1 x hx h3
      · exact hcl p hp (h1 _ (hin p hp).1 h3)
    · rw [h0 x hx] at h2
      have : x = s := by simpa using h2
      rw [this]; exact hS
end Go.Proofs.Ythchlfoebkachaa.Gm
