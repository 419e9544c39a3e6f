/-
  What is trimmed: the numbers.
-/
import Derived.Test.YtjkfiilnogacnaaLn
namespace Go.Proofs.Ytjkfiilnogacnaa.Gm

def upd (r : Bs → Int) (k : Bs) (v : Int) : Bs → Int := fun j => if j = k then v else r j
theorem upd_at (r : Bs → Int) (k : Bs) (v : Int) : upd r k v k = v := by simp [upd]
theorem upd_ne (r : Bs → Int) {k j : Bs} (v : Int) (h : j ≠ k) : upd r k v j = r j := by simp [upd, h]
/-- One pass: what each bind is assigned; and what is left. -/
def passL : (Bs → Int) → List Bd → List Int → List Int
  | r, b :: bs, m :: ms => min m (r b.work) :: passL (upd r b.work (r b.work - min m (r b.work))) bs ms
  | _, _, _ => []
def restL : (Bs → Int) → List Bd → List Int → (Bs → Int)
  | r, b :: bs, m :: ms => restL (upd r b.work (r b.work - min m (r b.work))) bs ms
  | r, _, _ => r
def allowN (works : List Bs) (allowed : List Int) (k : Bs) : Int := match works.findIdx? (fun x => decide (x = k)) with | some i => numC (allowed[i]?.getD 0) | none => 0
def wasN (last : List Bd) (b : Bd) : Int := (last.map fun x => if x.work = b.work ∧ x.node = b.node then numC x.cnt else 0).sum
def ms1 (target last : List Bd) : List Int := target.map fun b => min (numC b.cnt) (wasN last b)
def ms2 (target : List Bd) (p1 : List Int) : List Int := List.zipWith (fun b p => numC b.cnt - p) target p1
def part1 (r : Bs → Int) (target last : List Bd) : List Int := passL r target (ms1 target last)
def rest1 (r : Bs → Int) (target last : List Bd) : Bs → Int := restL r target (ms1 target last)
def part2 (r : Bs → Int) (target last : List Bd) : List Int := passL (rest1 r target last) target (ms2 target (part1 r target last))
def partN (r : Bs → Int) (target last : List Bd) : List Int := List.zipWith (· + ·) (part1 r target last) (part2 r target last)
def outN : List Bd → List Int → List Bd
  | b :: bs, p :: ps => if 0 < p then ⟨b.work, b.node, p⟩ :: outN bs ps else outN bs ps
  | _, _ => []
def trimN (target last : List Bd) (works : List Bs) (allowed : List Int) : List Bd := if works.length = allowed.length then outN target (partN (allowN works allowed) target last) else []

/-- The sum over those binds of which p holds. -/
def zs (p : Bd → Bool) : List Bd → List Int → Int
  | b :: bs, m :: ms => (if p b then m else 0) + zs p bs ms
  | _, _ => 0
def isW (k : Bs) (b : Bd) : Bool := decide (b.work = k)

theorem allow_bd (works : List Bs) (allowed : List Int) (k : Bs) : 0 ≤ allowN works allowed k ∧ allowN works allowed k ≤ 1000 := by
  unfold allowN
  split
  · exact numC_bd _
  · omega
theorem was_bd (last : List Bd) (b : Bd) : 0 ≤ wasN last b ∧ wasN last b ≤ 1000 * (last.length : Int) := by
  unfold wasN
  induction last with
  | nil => simp
  | cons x l ih =>
    have := numC_bd x.cnt
    rw [List.map_cons, List.sum_cons, List.length_cons]
    split <;> omega
theorem pass_len : ∀ (bs : List Bd) (ms : List Int) (r : Bs → Int), ms.length = bs.length → (passL r bs ms).length = bs.length
  | [], _, _, _ => by simp [passL]
  | b :: bs, [], _, h => by simp at h
  | b :: bs, m :: ms, r, h => by
    unfold passL
    rw [List.length_cons, pass_len bs ms _ (by simpa using h), List.length_cons]
theorem ms1_len (target last : List Bd) : (ms1 target last).length = target.length := by simp [ms1]
theorem part1_len (r : Bs → Int) (target last : List Bd) : (part1 r target last).length = target.length := pass_len _ _ _ (ms1_len _ _)
theorem ms2_len (r : Bs → Int) (target last : List Bd) : (ms2 target (part1 r target last)).length = target.length := by simp [ms2, part1_len]
theorem part2_len (r : Bs → Int) (target last : List Bd) : (part2 r target last).length = target.length := pass_len _ _ _ (ms2_len _ _ _)
theorem partN_len (r : Bs → Int) (target last : List Bd) : (partN r target last).length = target.length := by simp [partN, part1_len, part2_len]
theorem outN_len : ∀ (bs : List Bd) (ps : List Int), (outN bs ps).length ≤ bs.length
  | [], _ => by simp [outN]
  | _ :: _, [] => by simp [outN]
  | b :: bs, p :: ps => by
    unfold outN
    have := outN_len bs ps
    split <;> simp <;> omega

/-- Each is assigned no more than it may have. -/
theorem pass_bd : ∀ (bs : List Bd) (ms : List Int) (r : Bs → Int), (∀ k, 0 ≤ r k) → (∀ m ∈ ms, 0 ≤ m) → ∀ (i : Nat) (h : i < (passL r bs ms).length) (h' : i < ms.length), 0 ≤ (passL r bs ms)[i] ∧ (passL r bs ms)[i] ≤ ms[i]
  | [], ms, _, _, _, i, h, _ => by simp [passL] at h
  | b :: bs, [], _, _, _, i, h, _ => by simp [passL] at h
  | b :: bs, m :: ms, r, hr, hm, i, h, h' => by
    have h0 := hr b.work
    have h1 := hm m (List.mem_cons_self ..)
    cases i with
    | zero => simp only [passL, List.getElem_cons_zero]; omega
    | succ i =>
      simp only [passL, List.getElem_cons_succ]
      exact pass_bd bs ms _ (fun k => by unfold upd; split; omega; exact hr k) (fun x hx => hm x (List.mem_cons_of_mem _ hx)) i _ _
theorem rest_nn : ∀ (bs : List Bd) (ms : List Int) (r : Bs → Int), (∀ k, 0 ≤ r k) → ∀ k, 0 ≤ restL r bs ms k
  | [], _, r, hr, k => by simpa [restL] using hr k
  | _ :: _, [], r, hr, k => by simpa [restL] using hr k
  | b :: bs, m :: ms, r, hr, k => by
    unfold restL
    refine rest_nn bs ms _ (fun j => ?_) k
    unfold upd
    have := hr b.work
    split
    · omega
    · exact hr j
theorem rest_le : ∀ (bs : List Bd) (ms : List Int) (r : Bs → Int), (∀ m ∈ ms, 0 ≤ m) → (∀ k, 0 ≤ r k) → ∀ k, restL r bs ms k ≤ r k
  | [], _, r, _, hr, k => by simp [restL]
  | _ :: _, [], r, _, hr, k => by simp [restL]
  | b :: bs, m :: ms, r, hm, hr, k => by
    unfold restL
    have h0 := hr b.work
    have h1 := hm m (List.mem_cons_self ..)
    have := rest_le bs ms (upd r b.work (r b.work - min m (r b.work))) (fun x hx => hm x (List.mem_cons_of_mem _ hx)) (fun j => by unfold upd; split; omega; exact hr j) k
    refine Int.le_trans this ?_
    unfold upd
    split
    · rename_i e; subst e; omega
    · omega
theorem zs_nn (p : Bd → Bool) : ∀ (bs : List Bd) (ms : List Int), (∀ m ∈ ms, 0 ≤ m) → 0 ≤ zs p bs ms
  | [], _, _ => by simp [zs]
  | _ :: _, [], _ => by simp [zs]
  | b :: bs, m :: ms, h => by
    have h1 := h m (List.mem_cons_self ..)
    have := zs_nn p bs ms fun x hx => h x (List.mem_cons_of_mem _ hx)
    unfold zs
    split <;> omega
/-- All of one workload together have as much as there is, or as they may. -/
theorem pass_sum (k : Bs) : ∀ (bs : List Bd) (ms : List Int) (r : Bs → Int), ms.length = bs.length → (∀ m ∈ ms, 0 ≤ m) → 0 ≤ r k → zs (isW k) bs (passL r bs ms) = min (r k) (zs (isW k) bs ms) ∧ restL r bs ms k = r k - min (r k) (zs (isW k) bs ms)
  | [], [], r, _, _, hr => by simp only [restL, zs]; omega
  | [], _ :: _, _, h, _, _ => by simp at h
  | _ :: _, [], _, h, _, _ => by simp at h
  | b :: bs, m :: ms, r, hl, hm, hr => by
    have h1 := hm m (List.mem_cons_self ..)
    have hz := zs_nn (isW k) bs ms fun x hx => hm x (List.mem_cons_of_mem _ hx)
    by_cases e : b.work = k
    · subst e
      have ih := pass_sum b.work bs ms (upd r b.work (r b.work - min m (r b.work))) (by simpa using hl) (fun x hx => hm x (List.mem_cons_of_mem _ hx)) (by rw [upd_at]; omega)
      rw [upd_at] at ih
      have e1 : isW b.work b = true := by simp [isW]
      simp only [passL, restL, zs, e1, if_true]
      rw [ih.1, ih.2]
      generalize zs (isW b.work) bs ms = z at *
      generalize r b.work = q at *
      clear ih
      omega
    · have ih := pass_sum k bs ms (upd r b.work (r b.work - min m (r b.work))) (by simpa using hl) (fun x hx => hm x (List.mem_cons_of_mem _ hx)) (by rw [upd_ne _ _ (Ne.symm e)]; exact hr)
      rw [upd_ne _ _ (Ne.symm e)] at ih
      have e1 : isW k b = false := by simp [isW, e]
      simp only [passL, restL, zs, e1]
      rw [ih.1, ih.2]
      refine ⟨?_, ?_⟩ <;> simp
theorem zs_congr (p : Bd → Bool) : ∀ (bs : List Bd) (ms ns : List Int), ms.length = bs.length → ns.length = bs.length → (∀ i (h : i < bs.length) (h1 : i < ms.length) (h2 : i < ns.length), p bs[i] = true → ms[i] = ns[i]) → zs p bs ms = zs p bs ns
  | [], _, _, _, _, _ => by simp [zs]
  | _ :: _, [], _, h, _, _ => by simp at h
  | _ :: _, _ :: _, [], _, h, _ => by simp at h
  | b :: bs, m :: ms, n :: ns, hm, hn, h => by
    have ih := zs_congr p bs ms ns (by simpa using hm) (by simpa using hn) fun i h0 h1 h2 hp => by
      have := h (i + 1) (by simpa using h0) (by simpa using h1) (by simpa using h2) (by simpa using hp)
      simpa using this
    have h0 := h 0 (by simp) (by simp) (by simp)
    simp only [zs, List.getElem_cons_zero] at *
    rw [ih]
    by_cases hb : p b = true
    · rw [h0 hb]
    · simp [hb]
theorem zs_le (p : Bd → Bool) : ∀ (bs : List Bd) (ms ns : List Int), ms.length = bs.length → ns.length = bs.length → (∀ i (h : i < bs.length) (h1 : i < ms.length) (h2 : i < ns.length), p bs[i] = true → ms[i] ≤ ns[i]) → zs p bs ms ≤ zs p bs ns ∧ (zs p bs ms = zs p bs ns → ∀ i (h : i < bs.length) (h1 : i < ms.length) (h2 : i < ns.length), p bs[i] = true → ms[i] = ns[i])
  | [], _, _, _, _, _ => by simp [zs]
  | _ :: _, [], _, h, _, _ => by simp at h
  | _ :: _, _ :: _, [], _, h, _ => by simp at h
  | b :: bs, m :: ms, n :: ns, hm, hn, h => by
    obtain ⟨ih1, ih2⟩ := zs_le p bs ms ns (by simpa using hm) (by simpa using hn) fun i h0 h1 h2 hp => by
      have := h (i + 1) (by simpa using h0) (by simpa using h1) (by simpa using h2) (by simpa using hp)
      simpa using this
    have h0 := h 0 (by simp) (by simp) (by simp)
    simp only [zs, List.getElem_cons_zero] at *
    by_cases hb : p b = true
    · have := h0 hb
      simp only [hb, if_true]
      refine ⟨by omega, fun he i => ?_⟩
      cases i with
      | zero => intro _ _ _ _; simp only [List.getElem_cons_zero]; omega
      | succ i =>
        intro g0 g1 g2 gp
        simp only [List.getElem_cons_succ] at *
        exact ih2 (by omega) i (by simpa using g0) (by simpa using g1) (by simpa using g2) gp
    · have hb' : p b = false := by simpa using hb
      simp only [hb']
      refine ⟨by simpa using ih1, fun he i => ?_⟩
      cases i with
      | zero => intro _ _ _ hp; simp only [List.getElem_cons_zero] at hp; rw [hb'] at hp; cases hp
      | succ i =>
        intro g0 g1 g2 gp
        simp only [List.getElem_cons_succ] at *
        exact ih2 (by simpa using he) i (by simpa using g0) (by simpa using g1) (by simpa using g2) gp
theorem zs_add (p : Bd → Bool) : ∀ (bs : List Bd) (ms ns : List Int), ms.length = bs.length → ns.length = bs.length → zs p bs (List.zipWith (· + ·) ms ns) = zs p bs ms + zs p bs ns
  | [], _, _, _, _ => by simp [zs]
  | _ :: _, [], _, h, _ => by simp at h
  | _ :: _, _ :: _, [], _, h => by simp at h
  | b :: bs, m :: ms, n :: ns, hm, hn => by
    have ih := zs_add p bs ms ns (by simpa using hm) (by simpa using hn)
    simp only [List.zipWith_cons_cons, zs, ih]
    split <;> omega
theorem zs_ms2 (p : Bd → Bool) : ∀ (bs : List Bd) (ps : List Int), ps.length = bs.length → zs p bs (ms2 bs ps) = zs p bs (bs.map fun b => numC b.cnt) - zs p bs ps
  | [], _, _ => by simp [zs]
  | _ :: _, [], h => by simp at h
  | b :: bs, m :: ms, hm => by
    have ih := zs_ms2 p bs ms (by simpa using hm)
    simp only [ms2, List.zipWith_cons_cons, zs, List.map_cons] at *
    rw [ih]
    split <;> omega

theorem ms1_nn (t last : List Bd) : ∀ m ∈ ms1 t last, 0 ≤ m := by
  intro m hm
  obtain ⟨b, _, rfl⟩ := List.mem_map.1 hm
  have := numC_bd b.cnt
  have := was_bd last b
  omega
theorem partN_at (r : Bs → Int) {t : List Bd} (last : List Bd) (i : Nat) (h : i < t.length) : (partN r t last)[i]'(by rw [partN_len]; exact h) = (part1 r t last)[i]'(by rw [part1_len]; exact h) + (part2 r t last)[i]'(by rw [part2_len]; exact h) := by
  simp [partN]
theorem zs_zero (p : Bd → Bool) : ∀ (bs : List Bd), zs p bs (bs.map fun _ => (0 : Int)) = 0
  | [] => rfl
  | b :: bs => by
    simp only [List.map_cons, zs, zs_zero p bs]
    split <;> rfl
section
variable {r : Bs → Int} {t last : List Bd} (hr : ∀ k, 0 ≤ r k)
include hr
theorem part1_bd (i : Nat) (h : i < t.length) (h' : i < (part1 r t last).length) : 0 ≤ (part1 r t last)[i] ∧ (part1 r t last)[i] ≤ min (numC t[i].cnt) (wasN last t[i]) := by
  have := pass_bd t (ms1 t last) r hr (ms1_nn _ _) i h' (by rw [ms1_len]; exact h)
  simpa [ms1, part1] using this
theorem ms2_nn : ∀ m ∈ ms2 t (part1 r t last), 0 ≤ m := by
  intro m hm
  obtain ⟨i, hi, rfl⟩ := List.getElem_of_mem hm
  have h1 : i < t.length := by rw [ms2_len] at hi; exact hi
  have := part1_bd hr (last := last) i h1 (by rw [part1_len]; exact h1)
  simp only [ms2, List.getElem_zipWith]
  omega
theorem part2_bd (i : Nat) (h : i < t.length) (h' : i < (part2 r t last).length) : 0 ≤ (part2 r t last)[i] ∧ (part2 r t last)[i] ≤ numC t[i].cnt - (part1 r t last)[i]'(by rw [part1_len]; exact h) := by
  have := pass_bd t (ms2 t (part1 r t last)) (rest1 r t last) (rest_nn _ _ _ hr) (ms2_nn hr) i h' (by rw [ms2_len]; exact h)
  simpa [ms2, part2] using this
theorem partN_bd (i : Nat) (h : i < t.length) (h' : i < (partN r t last).length) : 0 ≤ (partN r t last)[i] ∧ (partN r t last)[i] ≤ numC t[i].cnt := by
  have h1 := part1_bd hr (last := last) i h (by rw [part1_len]; exact h)
  have h2 := part2_bd hr (last := last) i h (by rw [part2_len]; exact h)
  rw [partN_at r last i h]
  omega
/-- All of one workload together have what is allowed, or all that they want. -/
theorem trim_sum (k : Bs) : zs (isW k) t (partN r t last) = min (r k) (zs (isW k) t (t.map fun b => numC b.cnt)) := by
  obtain ⟨h1, h2⟩ := pass_sum k t (ms1 t last) r (ms1_len _ _) (ms1_nn _ _) (hr k)
  obtain ⟨h3, _⟩ := pass_sum k t (ms2 t (part1 r t last)) (rest1 r t last) (ms2_len _ _ _) (ms2_nn hr) (rest_nn _ _ _ hr k)
  have h4 := zs_ms2 (isW k) t (part1 r t last) (part1_len _ _ _)
  rw [h4] at h3
  unfold partN
  rw [zs_add _ _ _ _ (part1_len _ _ _) (part2_len _ _ _)]
  change zs (isW k) t (part1 r t last) = _ at h1
  change rest1 r t last k = _ at h2
  change zs (isW k) t (part2 r t last) = _ at h3
  rw [h3, h2, h1]
  have := hr k
  generalize zs (isW k) t (ms1 t last) = a at *
  generalize zs (isW k) t (t.map fun b => numC b.cnt) = c at *
  clear h1 h2 h3 h4
  omega
/-- Of what was last as many are kept as can be. -/
theorem trim_keeps (k : Bs) : zs (isW k) t (List.zipWith (fun b p => min p (wasN last b)) t (partN r t last)) = min (r k) (zs (isW k) t (ms1 t last)) := by
  obtain ⟨h1, h2⟩ := pass_sum k t (ms1 t last) r (ms1_len _ _) (ms1_nn _ _) (hr k)
  obtain ⟨h3, _⟩ := pass_sum k t (ms2 t (part1 r t last)) (rest1 r t last) (ms2_len _ _ _) (ms2_nn hr) (rest_nn _ _ _ hr k)
  have hm2 := zs_nn (isW k) t _ (ms2_nn hr (t := t) (last := last))
  change zs (isW k) t (part1 r t last) = _ at h1
  change rest1 r t last k = _ at h2
  change zs (isW k) t (part2 r t last) = _ at h3
  have hrk := hr k
  have hlen : (List.zipWith (fun b p => min p (wasN last b)) t (partN r t last)).length = t.length := by simp [partN_len]
  rw [← h1]
  refine zs_congr _ _ _ _ hlen (part1_len _ _ _) fun i h g1 g2 hp => ?_
  simp only [List.getElem_zipWith]
  rw [partN_at r last i h]
  have b1 := part1_bd hr (last := last) i h g2
  have b2 := part2_bd hr (last := last) i h (by rw [part2_len]; exact h)
  by_cases hle : zs (isW k) t (ms1 t last) ≤ r k
  · have he : zs (isW k) t (part1 r t last) = zs (isW k) t (ms1 t last) := by rw [h1]; omega
    have := (zs_le (isW k) t (part1 r t last) (ms1 t last) (part1_len _ _ _) (ms1_len _ _) fun j hj j1 j2 _ => by
      have := part1_bd hr (last := last) j hj j1
      simpa [ms1] using this.2).2 he i h g2 (by rw [ms1_len]; exact h) hp
    have e : (ms1 t last)[i]'(by rw [ms1_len]; exact h) = min (numC t[i].cnt) (wasN last t[i]) := by simp [ms1]
    rw [e] at this
    omega
  · have h0 : zs (isW k) t (part2 r t last) = 0 := by rw [h3, h2]; omega
    have hz := zs_zero (isW k) t
    have := (zs_le (isW k) t (t.map fun _ => (0 : Int)) (part2 r t last) (by simp) (part2_len _ _ _) fun j hj j1 j2 _ => by
      have := part2_bd hr (last := last) j hj j2
      simpa using this.1).2 (by rw [hz, h0]) i h (by simpa using h) (by rw [part2_len]; exact h) hp
    rw [List.getElem_map] at this
    omega
/-- Where as many are allowed as are wanted, all are assigned. -/
theorem trim_all (h : ∀ b ∈ t, zs (isW b.work) t (t.map fun b => numC b.cnt) ≤ r b.work) : partN r t last = t.map fun b => numC b.cnt := by
  apply List.ext_getElem (by rw [partN_len, List.length_map])
  intro i h1 h2
  have hi : i < t.length := by rw [partN_len] at h1; exact h1
  have hs := trim_sum hr (last := last) (t := t) t[i].work
  have := h t[i] (List.getElem_mem hi)
  refine (zs_le (isW t[i].work) t _ _ (partN_len _ _ _) (by simp) fun j hj j1 j2 _ => ?_).2 (by rw [hs]; omega) i hi h1 h2 (by simp [isW])
  rw [List.getElem_map]
  exact (partN_bd hr j hj j1).2
end
theorem outN_all : ∀ (bs : List Bd), (∀ b ∈ bs, 0 < b.cnt ∧ b.cnt ≤ 1000) → outN bs (bs.map fun b => numC b.cnt) = bs
  | [], _ => rfl
  | b :: bs, h => by
    have h1 := h b (List.mem_cons_self ..)
    have e : numC b.cnt = b.cnt := by unfold numC; omega
    simp only [List.map_cons, outN, e, if_pos h1.1]
    rw [outN_all bs fun x hx => h x (List.mem_cons_of_mem _ hx)]
end Go.Proofs.Ytjkfiilnogacnaa.Gm
