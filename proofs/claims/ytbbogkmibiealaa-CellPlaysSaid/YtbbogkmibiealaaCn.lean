/-
  Messages and cells: the numbers.
-/
import Derived.Sort.Walk0
import Derived.Test.YtbbogkmibiealaaLn
namespace Go.Proofs.Ytbbogkmibiealaa.Gm

structure Ms where
  kind : Int
  cell : Int
  boot : Int
  epoch : Int
  ver : Int
  unt : Int
  l : List Bd
structure Ce where
  n : Int
  boot : Int
  epoch : Int
  ver : Int
  unt : Int
  l : List Bd
instance : DecidableEq Bd := fun x y => if h : x.work = y.work ∧ x.node = y.node ∧ x.cnt = y.cnt then isTrue (by cases x; cases y; simp_all) else isFalse (by rintro rfl; exact h ⟨rfl, rfl, rfl⟩)
instance : DecidableEq Ms := fun x y => if h : x.kind = y.kind ∧ x.cell = y.cell ∧ x.boot = y.boot ∧ x.epoch = y.epoch ∧ x.ver = y.ver ∧ x.unt = y.unt ∧ x.l = y.l then isTrue (by cases x; cases y; simp_all) else isFalse (by rintro rfl; exact h ⟨rfl, rfl, rfl, rfl, rfl, rfl, rfl⟩)
instance : Inhabited Ms := ⟨⟨0, 0, 0, 0, 0, 0, []⟩⟩

def chB (c : UInt8) : Bool := (decide (97 ≤ c.toNat) && decide (c.toNat ≤ 122)) || (decide (48 ≤ c.toNat) && decide (c.toNat ≤ 57))
def nameB (s : Bs) : Bool := decide (1 ≤ s.length) && decide (s.length ≤ 12) && s.all chB
def lsB (x y : Bs) : Bool := Op.bytesLess x y
/-- a stands ahead of b. -/
def upB (a b : Bd) : Bool := lsB a.work b.work || (decide (a.work = b.work) && lsB a.node b.node)
def frB (a n b : Int) : Bool := decide (a ≤ n) && decide (n ≤ b)
def okBd (b : Bd) : Bool := nameB b.work && nameB b.node && frB 1 b.cnt 1000
def stepB (l : List Bd) (i : Nat) : Bool := okBd (l[i]?.getD default) && (decide (i = 0) || upB (l[i - 1]?.getD default) (l[i]?.getD default))
def rightL (l : List Bd) : Bool := decide (l.length ≤ 64) && (List.range l.length).all (stepB l)
def numsM (m : Ms) : Bool := (decide (m.kind = 1) || decide (m.kind = 2)) && frB 0 m.cell 2 && frB 0 m.boot 1099511627776 && frB 0 m.epoch 1099511627776 && frB 0 m.ver 1099511627776 && frB (-2199023255552) m.unt 2199023255552
def rightM (m : Ms) : Bool := numsM m && rightL m.l
/-- Does a cell take a right grant of its own? -/
def newerC (c : Ce) (m : Ms) : Bool := if m.ver = 0 then decide (c.epoch < m.epoch) else decide (m.boot = c.boot) && (decide (c.epoch < m.epoch) || (decide (m.epoch = c.epoch) && decide (c.ver < m.ver)))
def tookC (c : Ce) (m : Ms) : Bool := rightM m && decide (m.kind = 1) && decide (m.cell = c.n) && newerC c m
def setC (c : Ce) (m : Ms) : Ce := if m.ver = 0 then { c with epoch := m.epoch, ver := 0 } else { c with epoch := m.epoch, ver := m.ver, unt := m.unt, l := m.l }
def recvC (c : Ce) (m : Ms) : Ce := if tookC c m = true then setC c m else c
def reportC (c : Ce) : Ms := ⟨2, c.n, c.boot, c.epoch, c.ver, c.unt, c.l⟩
def runC (c : Ce) (now : Int) : List Bd := if holdsN now c.unt = true then c.l else []
def newC (n boot : Int) : Ce := ⟨n, boot, 0, 0, 0, []⟩


/-- Binds as ever come up here. -/
def OkK (l : List Bd) : Prop := l.length ≤ 1048576 ∧ ∀ y ∈ l, I64 y.cnt ∧ y.work.length ≤ 140737488351232 ∧ y.node.length ≤ 140737488351232
structure OkM (m : Ms) : Prop where
  nums : I64 m.kind ∧ I64 m.cell ∧ I64 m.boot ∧ I64 m.epoch ∧ I64 m.ver ∧ I64 m.unt
  fit : OkK m.l
/-- Binds of a right message. -/
def Few (l : List Bd) : Prop := l.length ≤ 64 ∧ ∀ y ∈ l, (1 ≤ y.cnt ∧ y.cnt ≤ 1000) ∧ y.work.length ≤ 12 ∧ y.node.length ≤ 12
structure OkC (c : Ce) : Prop where
  nums : I64 c.n ∧ I64 c.boot ∧ I64 c.epoch ∧ I64 c.ver ∧ I64 c.unt
  few : Few c.l
theorem Few.ok {l : List Bd} (h : Few l) : OkK l := ⟨by have := h.1; omega, fun y hy => by have := h.2 y hy; unfold I64; omega⟩
theorem Few.nil : Few [] := ⟨by simp, by simp⟩
theorem name_len {s : Bs} (h : nameB s = true) : s.length ≤ 12 := by
  unfold nameB at h
  simp only [Bool.and_eq_true, decide_eq_true_eq] at h
  exact h.1.2
theorem okBd_few {b : Bd} (h : okBd b = true) : (1 ≤ b.cnt ∧ b.cnt ≤ 1000) ∧ b.work.length ≤ 12 ∧ b.node.length ≤ 12 := by
  unfold okBd frB at h
  simp only [Bool.and_eq_true, decide_eq_true_eq] at h
  exact ⟨h.2, name_len h.1.1, name_len h.1.2⟩
theorem right_few {l : List Bd} (h : rightL l = true) : Few l := by
  unfold rightL at h
  simp only [Bool.and_eq_true, decide_eq_true_eq, List.all_eq_true, List.mem_range] at h
  refine ⟨h.1, fun y hy => ?_⟩
  obtain ⟨i, hi, rfl⟩ := List.getElem_of_mem hy
  have h2 := h.2 i hi
  unfold stepB at h2
  simp only [Bool.and_eq_true] at h2
  have h3 := h2.1
  rw [List.getElem?_eq_getElem hi] at h3
  exact okBd_few h3
theorem took_right {c : Ce} {m : Ms} (h : tookC c m = true) : rightM m = true ∧ m.kind = 1 ∧ m.cell = c.n ∧ newerC c m = true := by
  unfold tookC at h
  simp only [Bool.and_eq_true, decide_eq_true_eq] at h
  exact ⟨h.1.1.1, h.1.1.2, h.1.2, h.2⟩
theorem rightM_l {m : Ms} (h : rightM m = true) : numsM m = true ∧ rightL m.l = true := by
  unfold rightM at h
  simpa using h
theorem nums_bd {m : Ms} (h : numsM m = true) : (0 ≤ m.epoch ∧ m.epoch ≤ 1099511627776) ∧ (0 ≤ m.ver ∧ m.ver ≤ 1099511627776) ∧ (-2199023255552 ≤ m.unt ∧ m.unt ≤ 2199023255552) := by
  unfold numsM frB at h
  simp only [Bool.and_eq_true, decide_eq_true_eq] at h
  omega
theorem OkC.new (n boot : Int) (h1 : I64 n) (h2 : I64 boot) : OkC (newC n boot) := ⟨⟨h1, h2, by unfold I64 newC; simp, by unfold I64 newC; simp, by unfold I64 newC; simp⟩, Few.nil⟩
theorem OkC.recv {c : Ce} (h : OkC c) (m : Ms) : OkC (recvC c m) := by
  unfold recvC
  split
  · rename_i ht
    obtain ⟨h1, _, _, _⟩ := took_right ht
    obtain ⟨h2, h3⟩ := rightM_l h1
    have h4 := nums_bd h2
    have h5 := right_few h3
    obtain ⟨⟨k1, k2, k3, k4, k5⟩, k6⟩ := h
    unfold setC
    split
    · exact ⟨⟨k1, k2, by unfold I64; dsimp only; omega, by unfold I64; dsimp only; omega, k5⟩, k6⟩
    · exact ⟨⟨k1, k2, by unfold I64; dsimp only; omega, by unfold I64; dsimp only; omega, by unfold I64; dsimp only; omega⟩, h5⟩
  · exact h
theorem OkC.report {c : Ce} (h : OkC c) : OkM (reportC c) := ⟨⟨by unfold I64 reportC; dsimp only; omega, h.nums.1, h.nums.2.1, h.nums.2.2.1, h.nums.2.2.2.1, h.nums.2.2.2.2⟩, h.few.ok⟩

/-- What the numbers of a cell say of a message that comes to it. -/
theorem took_rises {c : Ce} {m : Ms} (h : tookC c m = true) : c.epoch < (setC c m).epoch ∨ (c.epoch = (setC c m).epoch ∧ c.ver < (setC c m).ver) := by
  obtain ⟨_, _, _, hn⟩ := took_right h
  unfold newerC at hn
  unfold setC
  split at hn
  · rename_i hv
    rw [if_pos hv]
    left
    simpa using hn
  · rename_i hv
    rw [if_neg hv]
    dsimp only
    simp only [Bool.and_eq_true, Bool.or_eq_true, decide_eq_true_eq] at hn
    omega
theorem recv_same {c : Ce} {m : Ms} (h : tookC c m = false) : recvC c m = c := if_neg (by rw [h]; decide)
theorem recv_set {c : Ce} {m : Ms} (h : tookC c m = true) : recvC c m = setC c m := if_pos h
theorem recv_keep (c : Ce) (m : Ms) : (recvC c m).n = c.n ∧ (recvC c m).boot = c.boot := by
  unfold recvC setC
  split
  · split <;> exact ⟨rfl, rfl⟩
  · exact ⟨rfl, rfl⟩
/-- Epoch and version never fall together. -/
theorem recv_rises (c : Ce) (m : Ms) : c.epoch < (recvC c m).epoch ∨ (c.epoch = (recvC c m).epoch ∧ c.ver ≤ (recvC c m).ver) := by
  cases h : tookC c m
  · rw [recv_same h]; exact .inr ⟨rfl, Int.le_refl _⟩
  · rw [recv_set h]
    rcases took_rises h with h | ⟨h1, h2⟩
    · exact .inl h
    · exact .inr ⟨h1, Int.le_of_lt h2⟩
/-- What isn't taken isn't taken later. -/
theorem stale_later {c : Ce} {m : Ms} (k : Ms) (h : tookC c m = false) : tookC (recvC c k) m = false := by
  have hr := recv_rises c k
  obtain ⟨e1, e2⟩ := recv_keep c k
  unfold tookC at h ⊢
  rw [e1]
  by_cases hp : (rightM m && decide (m.kind = 1) && decide (m.cell = c.n)) = true
  · rw [hp, Bool.true_and] at h ⊢
    unfold newerC at h ⊢
    rw [e2]
    split
    · rename_i hv
      rw [if_pos hv] at h
      have := of_decide_eq_false h
      exact decide_eq_false (by omega)
    · rename_i hv
      rw [if_neg hv] at h
      by_cases hb : m.boot = c.boot
      · rw [decide_eq_true hb, Bool.true_and] at h ⊢
        simp only [Bool.or_eq_false_iff, Bool.and_eq_false_iff, decide_eq_false_iff_not] at h ⊢
        omega
      · rw [decide_eq_false hb, Bool.false_and]
  · rw [Bool.not_eq_true] at hp
    rw [hp, Bool.false_and]
/-- What was taken isn't taken again. -/
theorem stale_now (c : Ce) (m : Ms) : tookC (recvC c m) m = false := by
  cases h : tookC c m
  · rw [recv_same h]; exact h
  · have hs := took_rises h
    rw [recv_set h]
    unfold tookC
    cases hn : newerC (setC c m) m
    · rw [Bool.and_false]
    · exfalso
      unfold newerC at hn
      split at hn
      · rename_i hv
        have h1 := of_decide_eq_true hn
        unfold setC at h1
        rw [if_pos hv] at h1
        dsimp only at h1
        omega
      · rename_i hv
        unfold setC at hn
        rw [if_neg hv] at hn
        dsimp only at hn
        simp only [Bool.and_eq_true, Bool.or_eq_true, decide_eq_true_eq] at hn
        omega
end Go.Proofs.Ytbbogkmibiealaa.Gm
