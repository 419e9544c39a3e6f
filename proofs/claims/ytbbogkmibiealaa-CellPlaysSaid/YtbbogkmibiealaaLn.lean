/-
  Leases and books as the document has them.
-/
import Derived.Test.YtbbogkmibiealaaTexts
namespace Go.Proofs.Ytbbogkmibiealaa.Gm

abbrev Bs := List UInt8
structure Bd where
  work : Bs
  node : Bs
  cnt : Int
instance : Inhabited Bd := ⟨⟨[], [], 0⟩⟩
structure Gr where
  ver : Int
  unt : Int
  l : List Bd
structure Bk where
  unknown : Bool
  to : Int
  g : List Gr
instance : Inhabited Bk := ⟨⟨false, 0, []⟩⟩

/-- A time, within the ends. -/
def whenN (t : Int) : Int := min (max t (-1099511627776)) 1099511627776
def untilN (t : Int) : Int := whenN t + 20
def holdsN (now unt : Int) : Bool := decide (whenN now < whenN unt)
def overN (now unt : Int) : Bool := decide (whenN unt + 4 ≤ whenN now)
theorem when_bd (t : Int) : -1099511627776 ≤ whenN t ∧ whenN t ≤ 1099511627776 := by unfold whenN; omega
theorem until_bd (t : Int) : -1099511627756 ≤ untilN t ∧ untilN t ≤ 1099511627796 := by have := when_bd t; unfold untilN; omega

def newB (now : Int) : Bk := ⟨true, untilN now + 4, []⟩
def sentB (b : Bk) (v u : Int) (l : List Bd) : Bk := { b with g := b.g ++ [⟨v, u, l⟩] }
def learnB (b : Bk) (v u : Int) (l : List Bd) : Bk := { b with unknown := false, g := [⟨v, u, l⟩] }
def ackedB (b : Bk) (v : Int) : Bk := { b with g := b.g.filter fun x => decide (v ≤ x.ver) }
def passB (b : Bk) (now : Int) : Bk := { b with unknown := b.unknown && !overN now b.to, g := b.g.filter fun x => !overN now x.unt }
def numC (n : Int) : Int := min (max n 0) 1000
def sumC (l : List Bd) (k : Bs) : Int := (l.map fun x => if x.work = k then numC x.cnt else 0).sum
def bestG (g : List Gr) (k : Bs) : Int := g.foldl (fun m x => max m (sumC x.l k)) 0
def heldB (b : Bk) (k : Bs) : Int := if b.unknown then -1 else bestG b.g k

/-- As many grants, and binds of one, as ever come up here. -/
structure OkB (b : Bk) : Prop where
  to : -1099511627752 ≤ b.to ∧ b.to ≤ 1099511627800
  len : b.g.length ≤ 1000
  fit : ∀ x ∈ b.g, x.l.length ≤ 1048576 ∧ -9223372036854775808 ≤ x.ver ∧ x.ver ≤ 9223372036854775807 ∧ -9223372036854775808 ≤ x.unt ∧ x.unt ≤ 9223372036854775807 ∧ ∀ y ∈ x.l, -9223372036854775808 ≤ y.cnt ∧ y.cnt ≤ 9223372036854775807
theorem numC_bd (n : Int) : 0 ≤ numC n ∧ numC n ≤ 1000 := by unfold numC; omega
theorem sumC_cons (x : Bd) (l : List Bd) (k : Bs) : sumC (x :: l) k = (if x.work = k then numC x.cnt else 0) + sumC l k := by unfold sumC; rw [List.map_cons, List.sum_cons]
theorem sumC_nil (k : Bs) : sumC [] k = 0 := rfl
theorem sumC_app (l m : List Bd) (k : Bs) : sumC (l ++ m) k = sumC l k + sumC m k := by unfold sumC; rw [List.map_append, List.sum_append]
theorem sumC_bd (l : List Bd) (k : Bs) : 0 ≤ sumC l k ∧ sumC l k ≤ 1000 * (l.length : Int) := by
  induction l with
  | nil => simp [sumC]
  | cons x l ih =>
    rw [sumC_cons]
    have := numC_bd x.cnt
    simp only [List.length_cons]
    split <;> omega
theorem bestG_ge (g : List Gr) (k : Bs) (m : Int) : m ≤ g.foldl (fun m x => max m (sumC x.l k)) m := by
  induction g generalizing m with
  | nil => exact Int.le_refl _
  | cons x g ih => exact Int.le_trans (Int.le_max_left _ _) (ih _)
theorem bestG_snoc (g : List Gr) (x : Gr) (k : Bs) : bestG (g ++ [x]) k = max (bestG g k) (sumC x.l k) := by unfold bestG; rw [List.foldl_append]; rfl
theorem best_bd (g : List Gr) (k : Bs) (n : Int) (hn : 0 ≤ n) (h : ∀ x ∈ g, sumC x.l k ≤ n) : 0 ≤ bestG g k ∧ bestG g k ≤ n := by
  refine ⟨bestG_ge g k 0, ?_⟩
  unfold bestG
  have : ∀ (g : List Gr) (m : Int), m ≤ n → (∀ x ∈ g, sumC x.l k ≤ n) → g.foldl (fun m x => max m (sumC x.l k)) m ≤ n := by
    intro g
    induction g with
    | nil => intro m hm _; exact hm
    | cons x g ih => intro m hm h; exact ih _ (Int.max_le.2 ⟨hm, h x (by simp)⟩) (fun y hy => h y (by simp [hy]))
  exact this g 0 hn h
theorem best_le {g : List Gr} {k : Bs} {x : Gr} (h : x ∈ g) : sumC x.l k ≤ bestG g k := by
  unfold bestG
  have : ∀ (g : List Gr) (m : Int), x ∈ g → sumC x.l k ≤ g.foldl (fun m x => max m (sumC x.l k)) m := by
    intro g
    induction g with
    | nil => intro m h; cases h
    | cons y g ih =>
      intro m h
      rcases List.mem_cons.1 h with rfl | h
      · exact Int.le_trans (Int.le_max_right _ _) (bestG_ge g k _)
      · exact ih _ h
  exact this g 0 h
theorem best_least {g : List Gr} {k : Bs} {n : Int} (hn : 0 ≤ n) (h : ∀ x ∈ g, sumC x.l k ≤ n) : bestG g k ≤ n := (best_bd g k n hn h).2
theorem best_sub {g h : List Gr} {k : Bs} (hs : ∀ x ∈ g, x ∈ h) : bestG g k ≤ bestG h k := best_least (bestG_ge h k 0) fun x hx => best_le (hs x hx)

theorem OkB.new (now : Int) : OkB (newB now) := ⟨by have := until_bd now; unfold newB; dsimp only; omega, by simp [newB], by simp [newB]⟩
def OkL (l : List Bd) : Prop := l.length ≤ 1048576 ∧ ∀ y ∈ l, (-9223372036854775808 ≤ y.cnt ∧ y.cnt ≤ 9223372036854775807) ∧ y.work.length ≤ 140737488351232 ∧ y.node.length ≤ 140737488351232
theorem OkB.sent {b : Bk} (h : OkB b) {v u : Int} {l : List Bd} (hg : b.g.length ≤ 999) (hv : I64 v) (hu : I64 u) (hl : OkL l) : OkB (sentB b v u l) :=
  ⟨h.to, by unfold sentB; simp; omega, fun x hx => by
    rcases List.mem_append.1 hx with hx | hx
    · exact h.fit x hx
    · obtain rfl : x = ⟨v, u, l⟩ := by simpa using hx
      exact ⟨hl.1, hv.1, hv.2, hu.1, hu.2, fun y hy => (hl.2 y hy).1⟩⟩
theorem OkB.learn {b : Bk} (h : OkB b) {v u : Int} {l : List Bd} (hv : I64 v) (hu : I64 u) (hl : OkL l) : OkB (learnB b v u l) :=
  ⟨h.to, by simp [learnB], fun x hx => by
    obtain rfl : x = ⟨v, u, l⟩ := by simpa [learnB] using hx
    exact ⟨hl.1, hv.1, hv.2, hu.1, hu.2, fun y hy => (hl.2 y hy).1⟩⟩
theorem OkB.acked {b : Bk} (h : OkB b) (v : Int) : OkB (ackedB b v) := ⟨h.to, Nat.le_trans (List.length_filter_le _ _) h.len, fun x hx => h.fit x (List.mem_filter.1 hx).1⟩
theorem OkB.pass {b : Bk} (h : OkB b) (now : Int) : OkB (passB b now) := ⟨h.to, Nat.le_trans (List.length_filter_le _ _) h.len, fun x hx => h.fit x (List.mem_filter.1 hx).1⟩
theorem held_bd {b : Bk} (h : OkB b) (k : Bs) : -1 ≤ heldB b k ∧ heldB b k ≤ 1048576000 := by
  unfold heldB
  split
  · omega
  · have := best_bd b.g k 1048576000 (by omega) fun x hx => by have := sumC_bd x.l k; have := (h.fit x hx).1; omega
    omega
end Go.Proofs.Ytbbogkmibiealaa.Gm
