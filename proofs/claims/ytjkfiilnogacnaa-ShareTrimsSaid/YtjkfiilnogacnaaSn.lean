/-
  How many may be granted: the numbers.
-/
import Derived.Test.YtjkfiilnogacnaaLn
namespace Go.Proofs.Ytjkfiilnogacnaa.Gm

def grantN (r h t : Int) : Int := if h < 0 then 0 else if numC t ≤ numC h then numC t else numC h + min (numC t - numC h) r
def usedN (r h t : Int) : Int := if h < 0 then 0 else if numC t ≤ numC h then 0 else min (numC t - numC h) r
def shareG : Int → List (Int × Int) → List Int
  | _, [] => []
  | r, (h, t) :: l => grantN r h t :: shareG (r - usedN r h t) l
def knownB (held : List Int) : Bool := held.all fun h => decide (0 ≤ h)
def leftN (want : Int) (held : List Int) : Int := numC want - (held.map numC).sum
def roomN (want : Int) (held : List Int) : Int := if knownB held = true then max (leftN want held) 0 else 0
def shareN (want : Int) (held target : List Int) : List Int := if held.length = target.length ∧ held.length ≤ 16 then shareG (roomN want held) (held.zip target) else []

theorem shareG_len : ∀ (l : List (Int × Int)) (r : Int), (shareG r l).length = l.length
  | [], _ => rfl
  | _ :: l, r => by unfold shareG; rw [List.length_cons, shareG_len l, List.length_cons]
theorem shareN_len (want : Int) (held target : List Int) : (shareN want held target).length ≤ 16 := by
  unfold shareN
  split
  · rename_i h; rw [shareG_len, List.length_zip]; omega
  · exact Nat.zero_le _
theorem share_len (want : Int) {held target : List Int} (h : held.length = target.length) (h16 : held.length ≤ 16) : (shareN want held target).length = held.length := by
  unfold shareN
  rw [if_pos ⟨h, h16⟩, shareG_len, List.length_zip]
  omega
theorem grant_bd (r h t : Int) (hr : 0 ≤ r) : 0 ≤ grantN r h t ∧ grantN r h t ≤ 1000 := by
  have h1 := numC_bd t
  have h2 := numC_bd h
  unfold grantN
  split
  · omega
  · split <;> omega
theorem used_bd (r h t : Int) (hr : 0 ≤ r) : 0 ≤ usedN r h t ∧ usedN r h t ≤ r := by
  unfold usedN
  split
  · omega
  · split <;> omega
theorem room_bd (want : Int) (held : List Int) : 0 ≤ roomN want held := by unfold roomN; split <;> omega
theorem shareG_bd : ∀ (l : List (Int × Int)) (r : Int), 0 ≤ r → ∀ x ∈ shareG r l, 0 ≤ x ∧ x ≤ 1000
  | [], _, _ => by simp [shareG]
  | (h, t) :: l, r, hr => by
    intro x hx
    unfold shareG at hx
    rcases List.mem_cons.1 hx with rfl | hx
    · exact grant_bd r h t hr
    · exact shareG_bd l _ (by have := used_bd r h t hr; omega) x hx
theorem share_bd (want : Int) (held target : List Int) : ∀ x ∈ shareN want held target, 0 ≤ x ∧ x ≤ 1000 := by
  intro x hx
  unfold shareN at hx
  split at hx
  · exact shareG_bd _ _ (room_bd _ _) x hx
  · cases hx

/-- What one cell is granted, of small numbers. -/
theorem grant_of {r h t : Int} (hr : 0 ≤ r) (h0 : -1 ≤ h) (h1 : h ≤ 1000) (t0 : 0 ≤ t) (t1 : t ≤ 1000) : ∃ g u, grantN r h t = g ∧ usedN r h t = u ∧ 0 ≤ u ∧ u ≤ r ∧ (h < 0 → g = 0 ∧ u = 0) ∧ (0 ≤ h → t ≤ h → g = t ∧ u = 0) ∧ (0 ≤ h → h < t → g = h + u ∧ u = min (t - h) r) := by
  refine ⟨_, _, rfl, rfl, (used_bd r h t hr).1, (used_bd r h t hr).2, ?_, ?_, ?_⟩
  · intro hh; simp [grantN, usedN, hh]
  · intro hh ht
    have e1 : numC t = t := by unfold numC; omega
    have e2 : numC h = h := by unfold numC; omega
    have : ¬ h < 0 := by omega
    simp [grantN, usedN, e1, e2, ht, this]
  · intro hh ht
    have e1 : numC t = t := by unfold numC; omega
    have e2 : numC h = h := by unfold numC; omega
    have : ¬ h < 0 := by omega
    have h4 : ¬ t ≤ h := by omega
    simp [grantN, usedN, e1, e2, h4, this]
/-- Three cells, of small numbers: the room, and what each is granted and takes of it. -/
theorem share_3 {want a b c x y z : Int} (hw : 0 ≤ want ∧ want ≤ 1000) (ha : -1 ≤ a ∧ a ≤ 300) (hb : -1 ≤ b ∧ b ≤ 300) (hc : -1 ≤ c ∧ c ≤ 300) (hx : 0 ≤ x ∧ x ≤ 1000) (hy : 0 ≤ y ∧ y ≤ 1000) (hz : 0 ≤ z ∧ z ≤ 1000) :
    ∃ r g0 u0 g1 u1 g2 u2, shareN want [a, b, c] [x, y, z] = [g0, g1, g2] ∧ 0 ≤ r ∧ (a < 0 ∨ b < 0 ∨ c < 0 → r = 0) ∧ (0 ≤ a → 0 ≤ b → 0 ≤ c → r = max (want - (a + b + c)) 0) ∧
      (0 ≤ u0 ∧ u0 ≤ r ∧ (a < 0 → g0 = 0 ∧ u0 = 0) ∧ (0 ≤ a → x ≤ a → g0 = x ∧ u0 = 0) ∧ (0 ≤ a → a < x → g0 = a + u0 ∧ u0 = min (x - a) r)) ∧
      (0 ≤ u1 ∧ u1 ≤ r - u0 ∧ (b < 0 → g1 = 0 ∧ u1 = 0) ∧ (0 ≤ b → y ≤ b → g1 = y ∧ u1 = 0) ∧ (0 ≤ b → b < y → g1 = b + u1 ∧ u1 = min (y - b) (r - u0))) ∧
      (0 ≤ u2 ∧ u2 ≤ r - u0 - u1 ∧ (c < 0 → g2 = 0 ∧ u2 = 0) ∧ (0 ≤ c → z ≤ c → g2 = z ∧ u2 = 0) ∧ (0 ≤ c → c < z → g2 = c + u2 ∧ u2 = min (z - c) (r - u0 - u1))) := by
  obtain ⟨r, hr⟩ : ∃ r, roomN want [a, b, c] = r := ⟨_, rfl⟩
  have hr0 : 0 ≤ r := hr ▸ room_bd _ _
  obtain ⟨g0, u0, e0, f0, p0⟩ := grant_of (r := r) hr0 ha.1 (by omega) hx.1 hx.2
  obtain ⟨g1, u1, e1, f1, p1⟩ := grant_of (r := r - u0) (by omega) hb.1 (by omega) hy.1 hy.2
  obtain ⟨g2, u2, e2, f2, p2⟩ := grant_of (r := r - u0 - u1) (by omega) hc.1 (by omega) hz.1 hz.2
  refine ⟨r, g0, u0, g1, u1, g2, u2, ?_, hr0, ?_, ?_, p0, p1, p2⟩
  · unfold shareN
    rw [if_pos ⟨rfl, by simp⟩, hr]
    simp only [List.zip_cons_cons, List.zip_nil_right, shareG, e0, f0, e1, f1, e2]
  · intro h
    rw [← hr]
    unfold roomN knownB
    rw [if_neg]
    simp only [List.all_cons, List.all_nil, Bool.and_eq_true, decide_eq_true_eq]
    omega
  · intro h1 h2 h3
    have e1 : numC want = want := by unfold numC; omega
    have e2 : numC a = a := by unfold numC; omega
    have e3 : numC b = b := by unfold numC; omega
    have e4 : numC c = c := by unfold numC; omega
    rw [← hr]
    unfold roomN knownB leftN
    rw [if_pos (by simp [h1, h2, h3])]
    simp only [List.map_cons, List.map_nil, List.sum_cons, List.sum_nil, e1, e2, e3, e4]
    omega

/-- ShareSafe's numbers. -/
theorem share_safe {want a b c x y z : Int} (hw : 0 ≤ want ∧ want ≤ 19) (ha : -1 ≤ a ∧ a ≤ 7) (hb : -1 ≤ b ∧ b ≤ 7) (hc : -1 ≤ c ∧ c ≤ 7) (hx : 0 ≤ x ∧ x ≤ 8) (hy : 0 ≤ y ∧ y ≤ 8) (hz : 0 ≤ z ∧ z ≤ 8) :
    ∃ g0 g1 g2, shareN want [a, b, c] [x, y, z] = [g0, g1, g2] ∧ (0 ≤ g0 ∧ g0 ≤ x ∧ (a < 0 → g0 = 0)) ∧ (0 ≤ g1 ∧ g1 ≤ y ∧ (b < 0 → g1 = 0)) ∧ (0 ≤ g2 ∧ g2 ≤ z ∧ (c < 0 → g2 = 0)) ∧
      max (max a 0) g0 + max (max b 0) g1 + max (max c 0) g2 ≤ max want (max a 0 + max b 0 + max c 0) ∧ (a < 0 ∨ b < 0 ∨ c < 0 → max (max a 0) g0 + max (max b 0) g1 + max (max c 0) g2 = max a 0 + max b 0 + max c 0) := by
  obtain ⟨r, g0, u0, g1, u1, g2, u2, e, hr, hr1, hr2, p0, p1, p2⟩ := share_3 (want := want) (a := a) (b := b) (c := c) (x := x) (y := y) (z := z) (by omega) (by omega) (by omega) (by omega) (by omega) (by omega) (by omega)
  have A : (0 ≤ g0 ∧ g0 ≤ x ∧ (a < 0 → g0 = 0)) ∧ max (max a 0) g0 ≤ max a 0 + u0 := by clear p1 p2 hr1 hr2 e; omega
  have B : (0 ≤ g1 ∧ g1 ≤ y ∧ (b < 0 → g1 = 0)) ∧ max (max b 0) g1 ≤ max b 0 + u1 := by clear p0 p2 hr1 hr2 e; omega
  have C : (0 ≤ g2 ∧ g2 ≤ z ∧ (c < 0 → g2 = 0)) ∧ max (max c 0) g2 ≤ max c 0 + u2 := by clear p0 p1 hr1 hr2 e; omega
  have hu : 0 ≤ u0 ∧ 0 ≤ u1 ∧ 0 ≤ u2 ∧ u0 + u1 + u2 ≤ r := ⟨p0.1, p1.1, p2.1, by have := p2.2.1; omega⟩
  clear p0 p1 p2
  refine ⟨g0, g1, g2, e, A.1, B.1, C.1, ?_, ?_⟩
  · have hA := A.2
    have hB := B.2
    have hC := C.2
    clear A B C e
    have hr3 : r ≤ max (want - (max a 0 + max b 0 + max c 0)) 0 := by
      by_cases hk : a < 0 ∨ b < 0 ∨ c < 0
      · have := hr1 hk; omega
      · have := hr2 (by omega) (by omega) (by omega)
        clear hr1 hr2 hA hB hC
        omega
    clear hr1 hr2
    generalize max a 0 = m0 at *
    generalize max b 0 = m1 at *
    generalize max c 0 = m2 at *
    generalize max m0 g0 = n0 at *
    generalize max m1 g1 = n1 at *
    generalize max m2 g2 = n2 at *
    omega
  · intro h
    have hr0 := hr1 h
    have hA := A.2
    have hB := B.2
    have hC := C.2
    clear A B C e hr1 hr2 h
    omega
/-- Where nothing is held beyond the targets, and these are want or less. -/
theorem share_fits {want a b c x y z : Int} (hw : x + y + z ≤ want ∧ want ≤ 1000) (ha : 0 ≤ a ∧ a ≤ x) (hb : 0 ≤ b ∧ b ≤ y) (hc : 0 ≤ c ∧ c ≤ z) (hx : x ≤ 300) (hy : y ≤ 300) (hz : z ≤ 300) : shareN want [a, b, c] [x, y, z] = [x, y, z] := by
  obtain ⟨r, g0, u0, g1, u1, g2, u2, e, hr, hr1, hr2, p0, p1, p2⟩ := share_3 (want := want) (a := a) (b := b) (c := c) (x := x) (y := y) (z := z) (by omega) (by omega) (by omega) (by omega) (by omega) (by omega) (by omega)
  have hR := hr2 ha.1 hb.1 hc.1
  rw [e]
  have A : g0 = x ∧ u0 = x - a := by clear p1 p2; omega
  have B : g1 = y ∧ u1 = y - b := by clear p0 p2; omega
  have C : g2 = z := by clear p0 p1; omega
  rw [A.1, B.1, C]
/-- One step, from anywhere: nobody has more than its target. -/
theorem share_step {want a b c x y z : Int} (hw : 0 ≤ want ∧ want ≤ 1000) (ha : 0 ≤ a ∧ a ≤ 300) (hb : 0 ≤ b ∧ b ≤ 300) (hc : 0 ≤ c ∧ c ≤ 300) (hx : 0 ≤ x ∧ x ≤ 300) (hy : 0 ≤ y ∧ y ≤ 300) (hz : 0 ≤ z ∧ z ≤ 300) :
    ∃ g0 g1 g2, shareN want [a, b, c] [x, y, z] = [g0, g1, g2] ∧ (0 ≤ g0 ∧ g0 ≤ x) ∧ (0 ≤ g1 ∧ g1 ≤ y) ∧ (0 ≤ g2 ∧ g2 ≤ z) := by
  obtain ⟨r, g0, u0, g1, u1, g2, u2, e, hr, hr1, hr2, p0, p1, p2⟩ := share_3 (want := want) (a := a) (b := b) (c := c) (x := x) (y := y) (z := z) (by omega) (by omega) (by omega) (by omega) (by omega) (by omega) (by omega)
  exact ⟨g0, g1, g2, e, by clear p1 p2; omega, by clear p0 p2; omega, by clear p0 p1; omega⟩
/-- ShareRoom's numbers: with more wanted nobody is granted less. -/
theorem share_want {want more a b c x y z : Int} (hw : 0 ≤ want ∧ want ≤ 19) (hm : 0 ≤ more ∧ more ≤ 8) (ha : -1 ≤ a ∧ a ≤ 7) (hb : -1 ≤ b ∧ b ≤ 7) (hc : -1 ≤ c ∧ c ≤ 7) (hx : 0 ≤ x ∧ x ≤ 8) (hy : 0 ≤ y ∧ y ≤ 8) (hz : 0 ≤ z ∧ z ≤ 8) :
    ∃ g0 g1 g2 f0 f1 f2, shareN want [a, b, c] [x, y, z] = [g0, g1, g2] ∧ shareN (want + more) [a, b, c] [x, y, z] = [f0, f1, f2] ∧ g0 ≤ f0 ∧ g1 ≤ f1 ∧ g2 ≤ f2 := by
  obtain ⟨r, g0, u0, g1, u1, g2, u2, e, hr, hr1, hr2, p0, p1, p2⟩ := share_3 (want := want) (a := a) (b := b) (c := c) (x := x) (y := y) (z := z) (by omega) (by omega) (by omega) (by omega) (by omega) (by omega) (by omega)
  obtain ⟨s, f0, v0, f1, v1, f2, v2, e', hs, hs1, hs2, q0, q1, q2⟩ := share_3 (want := want + more) (a := a) (b := b) (c := c) (x := x) (y := y) (z := z) (by omega) (by omega) (by omega) (by omega) (by omega) (by omega) (by omega)
  have hrs : r ≤ s := by clear p0 p1 p2 q0 q1 q2; omega
  have A : g0 ≤ f0 ∧ (r - u0 ≤ s - v0) := by clear p1 p2 q1 q2; omega
  have B : g1 ≤ f1 ∧ (r - u0 - u1 ≤ s - v0 - v1) := by clear p0 p2 q0 q2; omega
  have C : g2 ≤ f2 := by clear p0 p1 q0 q1; omega
  exact ⟨g0, g1, g2, f0, f1, f2, e, e', A.1, B.1, C⟩
theorem beyond_1 {r a x g u : Int} (ha : -1 ≤ a ∧ a ≤ 15) (hx : 0 ≤ x ∧ x ≤ 8) (p : 0 ≤ u ∧ u ≤ r ∧ (a < 0 → g = 0 ∧ u = 0) ∧ (0 ≤ a → x ≤ a → g = x ∧ u = 0) ∧ (0 ≤ a → a < x → g = a + u ∧ u = min (x - a) r)) :
    (0 ≤ g ∧ g ≤ 8) ∧ max 0 (g - max 0 a) = u ∧ (0 ≤ a → u = min (max 0 (x - a)) r) := by
  obtain ⟨h1, h2, h3, h4, h5⟩ := p
  by_cases hn : a < 0
  · obtain ⟨rfl, rfl⟩ := h3 hn
    exact ⟨by omega, by omega, fun h => by omega⟩
  · by_cases hl : x ≤ a
    · obtain ⟨rfl, rfl⟩ := h4 (by omega) hl
      clear h3 h4 h5
      exact ⟨by omega, by omega, fun h => by omega⟩
    · obtain ⟨rfl, h6⟩ := h5 (by omega) (by omega)
      clear h3 h4 h5
      exact ⟨by omega, by omega, fun h => by omega⟩
/-- All together are granted beyond what they hold as much as there is room, or as they lack. -/
theorem share_beyond {want a b c x y z : Int} (hw : 0 ≤ want ∧ want ≤ 19) (ha : -1 ≤ a ∧ a ≤ 15) (hb : -1 ≤ b ∧ b ≤ 15) (hc : -1 ≤ c ∧ c ≤ 15) (hx : 0 ≤ x ∧ x ≤ 8) (hy : 0 ≤ y ∧ y ≤ 8) (hz : 0 ≤ z ∧ z ≤ 8) :
    ∃ g0 g1 g2 r, shareN want [a, b, c] [x, y, z] = [g0, g1, g2] ∧ (a < 0 ∨ b < 0 ∨ c < 0 → r = 0) ∧ (0 ≤ a → 0 ≤ b → 0 ≤ c → r = max (want - (a + b + c)) 0) ∧
      (0 ≤ g0 ∧ g0 ≤ 8) ∧ (0 ≤ g1 ∧ g1 ≤ 8) ∧ (0 ≤ g2 ∧ g2 ≤ 8) ∧
      max 0 (g0 - max 0 a) + max 0 (g1 - max 0 b) + max 0 (g2 - max 0 c) = min r (max 0 (x - max 0 a) + max 0 (y - max 0 b) + max 0 (z - max 0 c)) := by
  obtain ⟨r, g0, u0, g1, u1, g2, u2, e, hr, hr1, hr2, p0, p1, p2⟩ := share_3 (want := want) (a := a) (b := b) (c := c) (x := x) (y := y) (z := z) (by omega) (by omega) (by omega) (by omega) (by omega) (by omega) (by omega)
  have A := beyond_1 ha hx p0
  have B := beyond_1 hb hy p1
  have C := beyond_1 hc hz p2
  have hu : 0 ≤ u0 ∧ 0 ≤ u1 ∧ 0 ≤ u2 ∧ u0 + u1 + u2 ≤ r := ⟨p0.1, p1.1, p2.1, by have := p2.2.1; omega⟩
  refine ⟨g0, g1, g2, r, e, hr1, hr2, A.1, B.1, C.1, ?_⟩
  rw [A.2.1, B.2.1, C.2.1]
  have h1 := A.2.2
  have h2 := B.2.2
  have h3 := C.2.2
  clear A B C p0 p1 p2 e
  by_cases hk : a < 0 ∨ b < 0 ∨ c < 0
  · have := hr1 hk
    omega
  · have e1 := h1 (by omega)
    have e2 := h2 (by omega)
    have e3 := h3 (by omega)
    clear h1 h2 h3 hr1 hr2
    omega
end Go.Proofs.Ytjkfiilnogacnaa.Gm
