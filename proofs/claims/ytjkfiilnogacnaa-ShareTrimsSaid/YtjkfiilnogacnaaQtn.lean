/-
  Trim, bind by bind: the numbers.
-/
import Derived.Test.YtjkfiilnogacnaaOncen
import Derived.Test.YtjkfiilnogacnaaQsn
namespace Go.Proofs.Ytjkfiilnogacnaa.Gm

theorem passL_snoc (b : Bd) (m : Int) : ∀ (bs : List Bd) (ms : List Int) (r : Bs → Int), ms.length = bs.length → passL r (bs ++ [b]) (ms ++ [m]) = passL r bs ms ++ [min m (restL r bs ms b.work)]
  | [], [], r, _ => rfl
  | [], _ :: _, _, h => by simp at h
  | _ :: _, [], _, h => by simp at h
  | c :: bs, x :: ms, r, h => by
    simp only [List.cons_append, passL, restL]
    rw [passL_snoc b m bs ms _ (by simpa using h)]
theorem restL_snoc (b : Bd) (m : Int) : ∀ (bs : List Bd) (ms : List Int) (r : Bs → Int), ms.length = bs.length → restL r (bs ++ [b]) (ms ++ [m]) = upd (restL r bs ms) b.work (restL r bs ms b.work - min m (restL r bs ms b.work))
  | [], [], r, _ => rfl
  | [], _ :: _, _, h => by simp at h
  | _ :: _, [], _, h => by simp at h
  | c :: bs, x :: ms, r, h => by
    simp only [List.cons_append, restL]
    rw [restL_snoc b m bs ms _ (by simpa using h)]
/-- What was assigned and what is left behind the first i binds. -/
def passU (r : Bs → Int) (t : List Bd) (ms : List Int) (i : Nat) : List Int := passL r (t.take i) (ms.take i)
def restU (r : Bs → Int) (t : List Bd) (ms : List Int) (i : Nat) : Bs → Int := restL r (t.take i) (ms.take i)
theorem passU_snoc (r : Bs → Int) {t : List Bd} {ms : List Int} {i : Nat} (hl : ms.length = t.length) (h : i < t.length) : passU r t ms (i + 1) = passU r t ms i ++ [min (atN ms i) (restU r t ms i t[i].work)] := by
  unfold passU restU
  have h' : i < ms.length := by omega
  rw [List.take_succ_eq_append_getElem h, List.take_succ_eq_append_getElem h', passL_snoc _ _ _ _ _ (by simp [hl]), atN_of h']
theorem restU_snoc (r : Bs → Int) {t : List Bd} {ms : List Int} {i : Nat} (hl : ms.length = t.length) (h : i < t.length) : restU r t ms (i + 1) = upd (restU r t ms i) t[i].work (restU r t ms i t[i].work - min (atN ms i) (restU r t ms i t[i].work)) := by
  unfold restU
  have h' : i < ms.length := by omega
  rw [List.take_succ_eq_append_getElem h, List.take_succ_eq_append_getElem h', restL_snoc _ _ _ _ _ (by simp [hl]), atN_of h']
theorem passU_len (r : Bs → Int) {t : List Bd} {ms : List Int} (hl : ms.length = t.length) {i : Nat} (h : i ≤ t.length) : (passU r t ms i).length = i := by
  unfold passU
  rw [pass_len _ _ _ (by simp [hl]), List.length_take]
  omega
theorem passU_all (r : Bs → Int) {t : List Bd} {ms : List Int} (hl : ms.length = t.length) : passU r t ms t.length = passL r t ms := by unfold passU; rw [List.take_length, ← hl, List.take_length]
theorem restU_all (r : Bs → Int) {t : List Bd} {ms : List Int} (hl : ms.length = t.length) : restU r t ms t.length = restL r t ms := by unfold restU; rw [List.take_length, ← hl, List.take_length]
def addL : List Int → List Int → List Int
  | z :: Z, a :: A => (z + a) :: addL Z A
  | Z, [] => Z
  | [], _ => []
theorem addL_len : ∀ (Z A : List Int), A.length ≤ Z.length → (addL Z A).length = Z.length
  | [], [], _ => rfl
  | _ :: _, [], _ => rfl
  | [], _ :: _, h => by simp at h
  | z :: Z, a :: A, h => by simp only [addL, List.length_cons]; rw [addL_len Z A (by simpa using h)]
theorem addL_nil (Z : List Int) : addL Z [] = Z := by cases Z <;> rfl
theorem addL_snoc (x : Int) : ∀ (A Z : List Int), A.length < Z.length → addL Z (A ++ [x]) = (addL Z A).set A.length (atN Z A.length + x)
  | [], z :: Z, _ => by simp [addL, addL_nil, atN]
  | [], [], h => by simp at h
  | _ :: _, [], h => by simp at h
  | a :: A, z :: Z, h => by
    simp only [List.cons_append, addL, List.length_cons, List.set_cons_succ]
    rw [addL_snoc x A Z (by simpa using h)]
    simp [atN]
theorem addL_at : ∀ (A Z : List Int) (i : Nat), A.length ≤ i → atN (addL Z A) i = atN Z i
  | [], Z, i, _ => by rw [addL_nil]
  | a :: A, [], i, _ => by simp [addL, atN]
  | a :: A, z :: Z, 0, h => by simp at h
  | a :: A, z :: Z, i + 1, h => by
    have := addL_at A Z i (by simpa using h)
    simpa [addL, atN] using this
theorem addL_zip : ∀ (Z A : List Int), A.length = Z.length → addL Z A = List.zipWith (· + ·) Z A
  | [], [], _ => rfl
  | [], _ :: _, h => by simp at h
  | _ :: _, [], h => by simp at h
  | z :: Z, a :: A, h => by simp only [addL, List.zipWith_cons_cons]; rw [addL_zip Z A (by simpa using h)]
theorem addL_zero : ∀ (A : List Int) (n : Nat), A.length = n → addL (List.replicate n 0) A = A
  | [], n, h => by subst h; rfl
  | a :: A, 0, h => by simp at h
  | a :: A, n + 1, h => by
    simp only [List.replicate_succ, addL, Int.zero_add]
    rw [addL_zero A n (by simpa using h)]
/-- The array of what is left goes with the function of it. -/
def idxN (works : List Bs) (k : Bs) : Option Nat := works.findIdx? (fun x => decide (x = k))
theorem idxN_at {works : List Bs} {k : Bs} {j : Nat} (h : idxN works k = some j) : ∃ hj : j < works.length, works[j] = k := by
  unfold idxN at h
  obtain ⟨hj, hp, _⟩ := List.findIdx?_eq_some_iff_getElem.1 h
  exact ⟨hj, by simpa using hp⟩
structure Inv (works : List Bs) (RA : List Int) (r : Bs → Int) : Prop where
  len : RA.length = works.length
  some : ∀ k j, idxN works k = some j → atN RA j = r k
  none : ∀ k, idxN works k = none → r k = 0
theorem Inv.set {works : List Bs} {RA : List Int} {r : Bs → Int} (h : Inv works RA r) {k : Bs} {j : Nat} (hj : idxN works k = Option.some j) (v : Int) : Inv works (RA.set j v) (upd r k v) where
  len := by rw [List.length_set]; exact h.len
  some := fun k' j' h' => by
    obtain ⟨hl, e⟩ := idxN_at hj
    obtain ⟨hl', e'⟩ := idxN_at h'
    by_cases hk : k' = k
    · subst hk
      obtain rfl : j' = j := Option.some.inj (h'.symm.trans hj)
      rw [upd_at]
      unfold atN
      rw [List.getElem?_set, if_pos rfl, if_pos (by rw [h.len]; exact hl')]
      rfl
    · have hne : j ≠ j' := fun e2 => hk (by subst e2; exact e'.symm.trans e)
      rw [upd_ne _ _ hk, ← h.some k' j' h']
      unfold atN
      rw [List.getElem?_set, if_neg hne]
  none := fun k' h' => by
    have hne : k' ≠ k := fun e => by rw [e, hj] at h'; cases h'
    rw [upd_ne _ _ hne]
    exact h.none k' h'
theorem Inv.skip {works : List Bs} {RA : List Int} {r : Bs → Int} (h : Inv works RA r) {k : Bs} {m : Int} (hk : idxN works k = Option.none) (hm : 0 ≤ m) : min m (r k) = 0 ∧ Inv works RA (upd r k (r k - min m (r k))) := by
  have h0 := h.none k hk
  have e : min m (r k) = 0 := by rw [h0]; omega
  refine ⟨e, h.len, fun k' j' h' => ?_, fun k' h' => ?_⟩
  · have hne : k' ≠ k := fun e => by rw [e, hk] at h'; cases h'
    rw [upd_ne _ _ hne]; exact h.some k' j' h'
  · by_cases hk' : k' = k
    · subst hk'; rw [upd_at, e, h0]; rfl
    · rw [upd_ne _ _ hk']; exact h.none k' h'
theorem inv_start (works : List Bs) (allowed : List Int) (h : works.length = allowed.length) : Inv works (allowed.map numC) (allowN works allowed) := by
  refine ⟨by rw [List.length_map, h], fun k j hj => ?_, fun k hk => ?_⟩
  · obtain ⟨hl, _⟩ := idxN_at hj
    unfold idxN at hj
    unfold allowN
    rw [hj]
    have : j < allowed.length := by omega
    simp [atN, this]
  · unfold idxN at hk
    unfold allowN
    rw [hk]
/-- Where the name is found among the first n. -/
def seekN (works : List Bs) (k : Bs) (n : Nat) : Int := match idxN (works.take n) k with | some j => (j : Int) | none => -1
theorem seekN_bd (works : List Bs) (k : Bs) (n : Nat) : -1 ≤ seekN works k n ∧ seekN works k n < (n : Int) := by
  unfold seekN
  split
  · rename_i j h
    obtain ⟨hl, _⟩ := idxN_at h
    rw [List.length_take] at hl
    omega
  · omega
theorem seekN_snoc {works : List Bs} {k : Bs} {n : Nat} (h : n < works.length) : seekN works k (n + 1) = if seekN works k n < 0 ∧ works[n] = k then (n : Int) else seekN works k n := by
  have e : idxN (works.take (n + 1)) k = (idxN (works.take n) k).or (if works[n] = k then some n else none) := by
    unfold idxN
    rw [List.take_succ_eq_append_getElem h, List.findIdx?_append]
    congr 1
    by_cases hw : works[n] = k
    · simp [hw, List.findIdx?_cons, List.length_take]; omega
    · simp [hw, List.findIdx?_cons]
  unfold seekN
  rw [e]
  cases hi : idxN (works.take n) k with
  | some j =>
    have : ¬ ((j : Int) < 0) := by omega
    simp [this]
  | none =>
    by_cases hw : works[n] = k
    · simp [hw]
    · simp [hw]
theorem seekN_all (works : List Bs) (k : Bs) : (∃ j, idxN works k = some j ∧ seekN works k works.length = (j : Int)) ∨ (idxN works k = none ∧ seekN works k works.length = -1) := by
  unfold seekN
  rw [List.take_length]
  cases h : idxN works k with
  | some j => exact .inl ⟨j, rfl, rfl⟩
  | none => exact .inr ⟨rfl, rfl⟩
theorem wasN_snoc {last : List Bd} {i : Nat} (h : i < last.length) (b : Bd) : wasN (last.take (i + 1)) b = wasN (last.take i) b + if last[i].work = b.work ∧ last[i].node = b.node then numC last[i].cnt else 0 := by
  unfold wasN
  rw [List.take_succ_eq_append_getElem h, List.map_append, List.sum_append]
  simp
theorem outN_snoc (b : Bd) (p : Int) : ∀ (bs : List Bd) (ps : List Int), ps.length = bs.length → outN (bs ++ [b]) (ps ++ [p]) = outN bs ps ++ if 0 < p then [⟨b.work, b.node, p⟩] else []
  | [], [], _ => by simp [outN]
  | [], _ :: _, h => by simp at h
  | _ :: _, [], h => by simp at h
  | c :: bs, q :: ps, h => by
    simp only [List.cons_append, outN]
    rw [outN_snoc b p bs ps (by simpa using h)]
    by_cases hq : 0 < q
    · rw [if_pos hq, if_pos hq]; rfl
    · rw [if_neg hq, if_neg hq]
def outU (t : List Bd) (P : List Int) (i : Nat) : List Bd := outN (t.take i) (P.take i)
theorem outU_snoc {t : List Bd} {P : List Int} {i : Nat} (hl : P.length = t.length) (h : i < t.length) : outU t P (i + 1) = outU t P i ++ if 0 < atN P i then [⟨t[i].work, t[i].node, atN P i⟩] else [] := by
  unfold outU
  have h' : i < P.length := by omega
  rw [List.take_succ_eq_append_getElem h, List.take_succ_eq_append_getElem h', outN_snoc _ _ _ _ (by simp [hl]), atN_of h']
theorem outU_len (t : List Bd) (P : List Int) (i : Nat) : (outU t P i).length ≤ i := by
  unfold outU
  have := outN_len (t.take i) (P.take i)
  rw [List.length_take] at this
  omega
theorem at_rep (n i : Nat) : atN (List.replicate n 0) i = 0 := by
  unfold atN
  rw [List.getElem?_replicate]
  split <;> rfl
def partE (r : Bs → Int) (t last : List Bd) : Nat → List Int
  | 0 => List.replicate t.length 0
  | 1 => part1 r t last
  | _ => partN r t last
def restE (r : Bs → Int) (t last : List Bd) : Nat → (Bs → Int)
  | 0 => r
  | _ => rest1 r t last
def msE (r : Bs → Int) (t last : List Bd) : Nat → List Int
  | 0 => ms1 t last
  | _ => ms2 t (part1 r t last)
section
variable {r : Bs → Int} {t last : List Bd}
theorem msE_len (s : Nat) : (msE r t last s).length = t.length := by
  match s with
  | 0 => exact ms1_len _ _
  | s + 1 => exact ms2_len _ _ _
theorem partE_len (s : Nat) : (partE r t last s).length = t.length := by
  match s with
  | 0 => simp [partE]
  | 1 => exact part1_len _ _ _
  | s + 2 => exact partN_len _ _ _
theorem restE_nn (hr : ∀ k, 0 ≤ r k) (s : Nat) : ∀ k, 0 ≤ restE r t last s k := by
  match s with
  | 0 => exact hr
  | s + 1 => exact rest_nn _ _ _ hr
theorem turn_end (s : Nat) (hs : s < 2) : addL (partE r t last s) (passU (restE r t last s) t (msE r t last s) t.length) = partE r t last (s + 1) := by
  rw [passU_all _ (msE_len s)]
  have : s = 0 ∨ s = 1 := by omega
  rcases this with rfl | rfl
  · exact addL_zero _ _ (part1_len _ _ _)
  · show addL (part1 r t last) (part2 r t last) = partN r t last
    rw [addL_zip _ _ (by rw [part1_len, part2_len])]
    rfl
theorem rest_end {s : Nat} (hs : s = 0) : restU (restE r t last s) t (msE r t last s) t.length = restE r t last (s + 1) := by
  rw [restU_all _ (msE_len s)]
  subst hs
  rfl
theorem restU_bd (hr : ∀ k, 0 ≤ r k ∧ r k ≤ 1000) (s i : Nat) (hs : s < 2) : ∀ k, 0 ≤ restU (restE r t last s) t (msE r t last s) i k ∧ restU (restE r t last s) t (msE r t last s) i k ≤ 1000 := by
  have hr0 : ∀ k, 0 ≤ r k := fun k => (hr k).1
  have hms : ∀ m ∈ msE r t last s, 0 ≤ m := by
    have : s = 0 ∨ s = 1 := by omega
    rcases this with rfl | rfl
    · exact ms1_nn _ _
    · exact ms2_nn hr0
  have hle : ∀ k, restE r t last s k ≤ 1000 := fun k => by
    have : s = 0 ∨ s = 1 := by omega
    rcases this with rfl | rfl
    · exact (hr k).2
    · exact Int.le_trans (rest_le _ _ _ (ms1_nn _ _) hr0 k) (hr k).2
  intro k
  refine ⟨rest_nn _ _ _ (restE_nn hr0 s) k, Int.le_trans (rest_le _ _ _ (fun m hm => hms m (List.mem_of_mem_take hm)) (restE_nn hr0 s) k) (hle k)⟩
theorem msE_at0 {i : Nat} (h : i < t.length) : atN (msE r t last 0) i = min (numC t[i].cnt) (wasN last t[i]) := by
  rw [← atN_of (by rw [msE_len]; exact h)]
  simp [msE, ms1]
theorem msE_at1 {i : Nat} (h : i < t.length) : atN (msE r t last 1) i = numC t[i].cnt - atN (part1 r t last) i := by
  rw [← atN_of (by rw [msE_len]; exact h), ← atN_of (by rw [part1_len]; exact h)]
  simp [msE, ms2]
theorem part1_at (hr : ∀ k, 0 ≤ r k) {i : Nat} (h : i < t.length) : 0 ≤ atN (part1 r t last) i ∧ atN (part1 r t last) i ≤ numC t[i].cnt := by
  rw [← atN_of (by rw [part1_len]; exact h)]
  have := part1_bd hr (last := last) i h (by rw [part1_len]; exact h)
  omega
end
end Go.Proofs.Ytjkfiilnogacnaa.Gm
