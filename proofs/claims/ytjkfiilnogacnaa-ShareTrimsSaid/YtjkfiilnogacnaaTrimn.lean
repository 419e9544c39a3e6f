/-
  What ShareTrims asks: the numbers.
-/
import Derived.Test.YtjkfiilnogacnaaSworks
import Derived.Test.YtjkfiilnogacnaaSafen
namespace Go.Proofs.Ytjkfiilnogacnaa.Gm

def isH (k n : Bs) (b : Bd) : Bool := decide (b.work = k ∧ (n = [] ∨ b.node = n))
theorem isH_nil (k : Bs) : isH k [] = isW k := by funext b; simp [isH, isW]
theorem countN_out (k n : Bs) : ∀ (bs : List Bd) (ps : List Int), ps.length = bs.length → (∀ p ∈ ps, 0 ≤ p) → countN (outN bs ps) k n = zs (isH k n) bs ps
  | [], _, _, _ => by simp [outN, zs, countN]
  | _ :: _, [], h, _ => by simp at h
  | b :: bs, p :: ps, hl, hp => by
    have h0 := hp p (List.mem_cons_self ..)
    have ih := countN_out k n bs ps (by simpa using hl) fun x hx => hp x (List.mem_cons_of_mem _ hx)
    simp only [outN, zs]
    by_cases h : 0 < p
    · rw [if_pos h, countN_cons, ih]
      simp only [hitN, isH, decide_eq_true_eq]
    · rw [if_neg h, ih]
      obtain rfl : p = 0 := by omega
      simp
theorem zs_none (p : Bd → Bool) : ∀ (bs : List Bd) (ps : List Int), (∀ b ∈ bs, p b = false) → zs p bs ps = 0
  | [], _, _ => by simp [zs]
  | _ :: _, [], _ => by simp [zs]
  | b :: bs, m :: ps, h => by
    simp only [zs]
    rw [zs_none p bs ps fun x hx => h x (List.mem_cons_of_mem _ hx), h b (List.mem_cons_self ..)]
    simp
theorem uniq_zs : ∀ (bs : List Bd) (ps : List Int), bs.Pairwise (fun x y => ¬ (x.work = y.work ∧ x.node = y.node)) → (∀ b ∈ bs, b.node ≠ []) → ∀ (j : Nat) (h : j < bs.length) (h' : j < ps.length), zs (isH bs[j].work bs[j].node) bs ps = ps[j]
  | [], _, _, _, j, h, _ => by simp at h
  | _ :: _, [], _, _, j, _, h' => by simp at h'
  | b :: bs, m :: ps, hw, hn, j, h, h' => by
    obtain ⟨h1, h2⟩ := List.pairwise_cons.1 hw
    cases j with
    | zero =>
      simp only [List.getElem_cons_zero, zs]
      rw [zs_none _ bs ps fun x hx => by
        have := h1 x hx
        have hb := hn b (List.mem_cons_self ..)
        simp only [isH, decide_eq_false_iff_not]
        rintro ⟨e1, e2 | e2⟩
        · exact hb e2
        · exact this ⟨e1.symm, e2.symm⟩]
      simp [isH]
    | succ j =>
      simp only [List.getElem_cons_succ, zs]
      have hj : j < bs.length := by simpa using h
      rw [uniq_zs bs ps h2 (fun x hx => hn x (List.mem_cons_of_mem _ hx)) j hj (by simpa using h')]
      have hb := hn bs[j] (List.mem_cons_of_mem _ (List.getElem_mem hj))
      have := h1 bs[j] (List.getElem_mem hj)
      have e : isH bs[j].work bs[j].node b = false := by
        simp only [isH, decide_eq_false_iff_not]
        rintro ⟨e1, e2 | e2⟩
        · exact hb e2
        · exact this ⟨e1, e2⟩
      simp [e]
theorem was_count {V : List Bd} (hV : SmallC V) {b : Bd} (hb : b.node ≠ []) : wasN V b = countN V b.work b.node := by
  induction V with
  | nil => rfl
  | cons x l ih =>
    have hx := hV x (List.mem_cons_self ..)
    have e : numC x.cnt = x.cnt := by unfold numC; omega
    rw [countN_cons, ← ih fun y hy => hV y (List.mem_cons_of_mem _ hy)]
    simp only [wasN, List.map_cons, List.sum_cons, e, hitN, hb, false_or]
theorem zs_take (p : Bd → Bool) : ∀ (bs : List Bd) (ms : List Int) (j : Nat) (h : j < bs.length) (h' : j < ms.length), zs p (bs.take (j + 1)) (ms.take (j + 1)) = zs p (bs.take j) (ms.take j) + if p bs[j] then ms[j] else 0
  | [], _, j, h, _ => by simp at h
  | _ :: _, [], j, _, h' => by simp at h'
  | b :: bs, m :: ms, j, h, h' => by
    cases j with
    | zero => simp [zs]
    | succ j =>
      simp only [List.take_succ_cons, zs, List.getElem_cons_succ]
      rw [zs_take p bs ms j (by simpa using h) (by simpa using h')]
      omega
def sumA (l : List Bd) : Int := (l.map fun x => x.cnt).sum
theorem sumA_snoc {l : List Bd} {i : Nat} (h : i < l.length) : sumA (l.take (i + 1)) = sumA (l.take i) + l[i].cnt := by
  unfold sumA
  rw [List.take_succ_eq_append_getElem h, List.map_append, List.sum_append]
  simp
theorem upN_congr {f g : Nat → Int} : ∀ (n : Nat), (∀ i, i < n → f i = g i) → upN f n = upN g n
  | 0, _ => rfl
  | n + 1, h => by simp only [upN]; rw [upN_congr n fun i hi => h i (by omega), h n (by omega)]
theorem upN_add (f g : Nat → Int) : ∀ (n : Nat), upN (fun i => f i + g i) n = upN f n + upN g n
  | 0 => rfl
  | n + 1 => by simp only [upN]; rw [upN_add f g n]; omega
theorem upN_one (c : Int) {i0 : Nat} : ∀ (n : Nat), upN (fun i => if i0 = i then c else 0) n = if i0 < n then c else 0
  | 0 => by simp [upN]
  | n + 1 => by
    simp only [upN]
    rw [upN_one c n]
    rcases Nat.lt_trichotomy i0 n with h | h | h
    · rw [if_pos h, if_neg (by omega), if_pos (by omega)]; omega
    · rw [if_neg (by omega), if_pos h, if_pos (by omega)]; omega
    · rw [if_neg (by omega), if_neg (by omega), if_neg (by omega)]; omega
theorem sum_works {l : List Bd} (h : ∀ x ∈ l, ∃ i, i < 8 ∧ x.work = nmW i) : sumA l = upN (fun i => countN l (nmW i) []) 8 := by
  induction l with
  | nil => rfl
  | cons x l ih =>
    obtain ⟨i0, hi0, e⟩ := h x (List.mem_cons_self ..)
    have e1 : upN (fun i => countN (x :: l) (nmW i) []) 8 = upN (fun i => (if i0 = i then x.cnt else 0) + countN l (nmW i) []) 8 := by
      refine upN_congr 8 fun i hi => ?_
      rw [countN_cons]
      unfold hitN
      rw [e]
      by_cases h2 : i0 = i
      · rw [if_pos h2, if_pos ⟨by rw [h2], .inl rfl⟩]
      · rw [if_neg h2, if_neg (fun h3 => h2 (nmW_inj hi0 hi h3.1))]
    rw [e1, upN_add, upN_one, if_pos hi0, ← ih fun y hy => h y (List.mem_cons_of_mem _ hy)]
    simp [sumA]
theorem out_mem : ∀ (bs : List Bd) (ps : List Int), ∀ x ∈ outN bs ps, ∃ b ∈ bs, x.work = b.work
  | [], _ => by simp [outN]
  | _ :: _, [] => by simp [outN]
  | b :: bs, p :: ps => by
    intro x hx
    unfold outN at hx
    have key : x ∈ outN bs ps → ∃ c ∈ b :: bs, x.work = c.work := fun h => by
      obtain ⟨c, hc, e⟩ := out_mem bs ps x h
      exact ⟨c, List.mem_cons_of_mem _ hc, e⟩
    split at hx
    · rcases List.mem_cons.1 hx with rfl | hx
      · exact ⟨b, List.mem_cons_self .., rfl⟩
      · exact key hx
    · exact key hx
theorem out_pos : ∀ (bs : List Bd) (ps : List Int) (m : Int), (∀ p ∈ ps, p ≤ m) → ∀ x ∈ outN bs ps, 0 < x.cnt ∧ x.cnt ≤ m
  | [], _, _, _ => by simp [outN]
  | _ :: _, [], _, _ => by simp [outN]
  | b :: bs, p :: ps, m, h => by
    intro x hx
    unfold outN at hx
    have ih := out_pos bs ps m fun q hq => h q (List.mem_cons_of_mem _ hq)
    split at hx
    · rename_i hp
      rcases List.mem_cons.1 hx with rfl | hx
      · exact ⟨hp, h p (List.mem_cons_self ..)⟩
      · exact ih x hx
    · exact ih x hx

/-- What ShareTrims asks of the answer L. -/
structure Trims (U V L : List Bd) (M : List Int) : Prop where
  each : ∀ i, i < 8 → countN L (nmW i) [] = min (atN M i) (countN U (nmW i) [])
  part : ∀ b ∈ U, 0 ≤ countN L b.work b.node ∧ countN L b.work b.node ≤ b.cnt
  kept : ∀ i, i < 8 → zs (isW (nmW i)) U (U.map fun b => min (countN L b.work b.node) (countN V b.work b.node)) = min (atN M i) (zs (isW (nmW i)) U (U.map fun b => min b.cnt (countN V b.work b.node)))
  pos : ∀ x ∈ L, 0 < x.cnt ∧ x.cnt ≤ 4
  len : L.length ≤ U.length
  sum : sumA L = upN (fun i => countN L (nmW i) []) 8
theorem trims_of {U V : List Bd} {M : List Int} (hU : Uniq U) (hV : Uniq V) (hw : ∀ x ∈ U, ∃ i, i < 8 ∧ x.work = nmW i) (hM : M.length = 8) (hb : ∀ i, 0 ≤ atN M i ∧ atN M i ≤ 8) : Trims U V (trimN U V works8 M) M := by
  have hr : ∀ k, 0 ≤ allowN works8 M k := fun k => (allow_bd _ _ k).1
  have hri : ∀ i, i < 8 → allowN works8 M (nmW i) = atN M i := fun i hi => by
    rw [allow8 M hi]
    have := hb i
    unfold atN at this ⊢
    unfold numC
    omega
  have hL : trimN U V works8 M = outN U (partN (allowN works8 M) U V) := by
    unfold trimN
    rw [if_pos (by rw [works8_len, hM])]
  obtain ⟨P, hP⟩ : ∃ P, partN (allowN works8 M) U V = P := ⟨_, rfl⟩
  have hPl : P.length = U.length := hP ▸ partN_len _ _ _
  have hid : ∀ b ∈ U, numC b.cnt = b.cnt := fun b hb => by have := hU.pos b hb; unfold numC; omega
  have hmap : (U.map fun b => numC b.cnt) = U.map fun b => b.cnt := List.map_congr_left hid
  have hPb : ∀ (i : Nat) (h : i < U.length) (h' : i < P.length), 0 ≤ P[i] ∧ P[i] ≤ U[i].cnt := by
    subst hP
    intro i h h'
    have := partN_bd hr (t := U) (last := V) i h h'
    rwa [hid _ (List.getElem_mem h)] at this
  have hPn : ∀ p ∈ P, 0 ≤ p := fun p hp => by
    obtain ⟨i, hi, rfl⟩ := List.getElem_of_mem hp
    exact (hPb i (by omega) hi).1
  have hP4 : ∀ p ∈ P, p ≤ 4 := fun p hp => by
    obtain ⟨i, hi, rfl⟩ := List.getElem_of_mem hp
    have h1 := (hPb i (by omega) hi).2
    have := hU.pos _ (List.getElem_mem (show i < U.length by omega))
    omega
  have hc : ∀ k n, countN (outN U P) k n = zs (isH k n) U P := fun k n => countN_out k n U P hPl hPn
  have hat : ∀ (j : Nat) (h : j < U.length), countN (outN U P) U[j].work U[j].node = P[j]'(by omega) := fun j h => by
    rw [hc]
    exact uniq_zs U P hU.pw (fun b hb => (hU.pos b hb).2.2) j h (by omega)
  rw [hL, hP]
  refine ⟨fun i hi => ?_, fun b hb => ?_, fun i hi => ?_, out_pos U P 4 hP4, outN_len _ _, sum_works fun x hx => ?_⟩
  · rw [hc, isH_nil, ← hP, trim_sum hr (nmW i), hri i hi, ← count_zs U _ hU.small]
  · obtain ⟨j, hj, rfl⟩ := List.getElem_of_mem hb
    rw [hat j hj]
    exact hPb j hj (by omega)
  · have h1 := trim_keeps hr (t := U) (last := V) (nmW i)
    rw [hri i hi] at h1
    have e1 : (U.map fun b => min (countN (outN U P) b.work b.node) (countN V b.work b.node)) = List.zipWith (fun b p => min p (wasN V b)) U (partN (allowN works8 M) U V) := by
      rw [hP]
      apply List.ext_getElem (by simp [hPl])
      intro j g1 g2
      have hj : j < U.length := by simpa using g1
      simp only [List.getElem_map, List.getElem_zipWith]
      rw [hat j hj, was_count hV.small (hU.pos _ (List.getElem_mem hj)).2.2]
    have e2 : (U.map fun b => min b.cnt (countN V b.work b.node)) = ms1 U V := by
      unfold ms1
      refine List.map_congr_left fun b hb => ?_
      rw [hid b hb, was_count hV.small (hU.pos b hb).2.2]
    rw [e1, e2, h1]
  · obtain ⟨b, hb, e⟩ := out_mem U P x hx
    obtain ⟨i, hi, e2⟩ := hw b hb
    exact ⟨i, hi, e.trans e2⟩
end Go.Proofs.Ytjkfiilnogacnaa.Gm
