/-
  A region that draws its order, of reads and of operations that make memory or write: the reads are taken first, each as soon as it may come; of the rest each way is walked that is left. What is read must stand in a class of worlds that the others don't leave as long as reads are open.
-/
import Derived.Test.YtbbogkmibiealaaBase
import Derived.StillTail
import Derived.Deep.QuietTactic
namespace Go.Proofs.Ytbbogkmibiealaa
open Go.RowKit

section
variable {P : Program} {ops : Array Oper} {md : Region.Mode} {C : World → Prop}

theorem wp_false {o : Oper} {a : Act} {w : World} {K K' : Act → World → Prop} {Q : Exit → Act → World → Prop} (h : ∀ a w, K a w → K' a w) (hh : o.wp P a w K (fun _ _ _ => False)) : o.wp P a w K' Q := by
  unfold Oper.wp at *
  generalize (execOp a.eval o).run P w = r at *
  cases r with
  | ok n w' =>
    cases n <;> simp only [Oper.upon] at hh ⊢ <;>
      first
        | exact h _ _ hh
        | exact Calls.mono hh (fun e w'' he => by
            cases e with
            | returned v => exact h _ _ he
            | panicked c => exact he.elim
            | outgrown => obtain ⟨_, _, h0⟩ := he; exact h0.elim)
        | exact Rows.mono hh (fun _ _ he => h _ _ he)
  | halt x w' =>
    cases x <;> simp only [Oper.upon] at hh ⊢

theorem wpOp_false {i : Nat} {a : Act} {w : World} {K K' : Act → World → Prop} {Q : Exit → Act → World → Prop} (h : ∀ a w, K a w → K' a w) (hh : wpOp P ops (fun _ _ _ => False) i K a w) : wpOp P ops Q i K' a w := by
  unfold wpOp at *
  split
  · rename_i ho; simp only [ho] at hh; exact h _ _ hh
  · rename_i o ho
    simp only [ho] at hh
    split
    · rename_i hw
      simp only [hw, if_true] at hh
      rcases hh with hh | ⟨_, _, _, h0⟩
      · exact .inl (wp_false h hh)
      · exact h0.elim
    · rename_i hw; simp only [hw] at hh; exact h _ _ hh

/-- Whatever order is picked from here on; as long as an operation below n is open the world is one of the class. -/
def MixOn (P : Program) (md : Region.Mode) (ops : Array Oper) (C : World → Prop) (n : Nat) (R : Act → World → Prop) : Nat → Array Bool → Act → World → Prop
  | 0, listed, a, w => Region.ready md ops listed = [] ∧ R a w
  | f + 1, listed, a, w => (Region.ready md ops listed = [] → R a w) ∧ ∀ i ∈ Region.ready md ops listed, wpOp P ops (fun _ _ _ => False) i (fun a' w' => (i < n → C w') ∧ MixOn P md ops C n R f (listed.setIfInBounds i true) a' w') a w

theorem mix_any {n : Nat} {R : Act → World → Prop} {Q : Exit → Act → World → Prop} (hQ : ∀ a w, R a w → Q .normal a w) : ∀ (f : Nat) (listed : Array Bool) (a : Act) (w : World), MixOn P md ops C n R f listed a w → wpAny P md ops Q f listed a w
  | 0, _, _, _, h => ⟨h.1, hQ _ _ h.2⟩
  | f + 1, _, _, _, h => ⟨fun h0 => hQ _ _ (h.1 h0), fun i hi => wpOp_false (fun a' w' h' => mix_any hQ f _ a' w' h'.2) (h.2 i hi)⟩

/-- In state a, in every world of the class, the operation yields v and leaves that world alone. -/
def StillIn (P : Program) (ops : Array Oper) (C : World → Prop) (o : Oper) (v : Value) (a : Act) : Prop :=
  (Region.wanted o (yielded ops a.tmps) = true ∧ ∀ W, C W → o.quietAt P a (fun _ => False) W v) ∨ (Region.wanted o (yielded ops a.tmps) = false ∧ v = undef)

theorem StillIn.of_same {o : Oper} {v : Value} {a a' : Act} (hy : StillIn P ops C o v a) (he : execOp a'.eval o = execOp a.eval o)
    (hw : Region.wanted o (yielded ops a'.tmps) = Region.wanted o (yielded ops a.tmps)) : StillIn P ops C o v a' := by
  unfold StillIn Oper.quietAt at *
  rw [he, hw]
  exact hy

theorem StillIn.wpOp {i : Nat} {o : Oper} {v : Value} {a : Act} {w : World} (hi : ops[i]? = some o) (hy : StillIn P ops C o v a) (hC : C w) {K : Act → World → Prop} {Q : Exit → Act → World → Prop} (h : K (a.put o.dst v) w) : wpOp P ops Q i K a w := by
  unfold Go.wpOp
  simp only [hi]
  rcases hy with ⟨hw, hv⟩ | ⟨hw, rfl⟩
  · rw [if_pos hw]
    refine .inl ?_
    have h3 := hv w hC
    unfold Oper.quietAt at h3
    unfold Oper.wp
    generalize (execOp a.eval o).run P w = r at *
    cases r with
    | ok n w' =>
      cases n <;> simp only [Oper.quietUpon] at h3 <;> simp only [Oper.upon]
      case value u =>
        obtain ⟨e1, e2⟩ := h3
        rw [e1, e2]; exact h
      case skip =>
        obtain ⟨e1, e2⟩ := h3
        rw [e1, ← e2]; exact h
      case enter f args =>
        obtain ⟨rfl, hc⟩ := h3
        exact hc.mono fun _ _ he => he.2.elim
    | halt x w' => simp only [Oper.quietUpon] at h3
  · rw [if_neg (by rw [hw]; exact Bool.false_ne_true)]; exact h

/-- One operation, apart from a read: whether the read's value is already in its slot makes no difference to it, and it makes none to the read. -/
theorem wpOp_put_in {j : Nat} {oi oj : Oper} {v : Value} (hj : ops[j]? = some oj) (hap : oi.apart ops oj = true)
    (hsi : ∀ cs b, oi.op ≠ .select cs b) (hsj : ∀ cs b, oj.op ≠ .select cs b) {K : Act → World → Prop} {a : Act} {w : World}
    (hy : StillIn P ops C oi v a) (h : wpOp P ops (fun _ _ _ => False) j K (a.put oi.dst v) w) :
    wpOp P ops (fun _ _ _ => False) j (fun a' w' => StillIn P ops C oi v a' ∧ K (a'.put oi.dst v) w') a w := by
  obtain ⟨h1, h2, h3⟩ := Oper.apart_spec hap
  have keep : ∀ (a : Act), StillIn P ops C oi v a → ∀ u, StillIn P ops C oi v (a.put oj.dst u) := fun a hy u =>
    hy.of_same (execOp_put oi hsi a oj.dst u h3) (wanted_put oi a oj.dst u h3)
  unfold wpOp at *
  simp only [hj] at *
  rw [wanted_put oj a oi.dst v h1] at h
  split
  · rename_i hw
    simp only [hw, if_true] at h
    rcases h with h | ⟨_, _, _, h0⟩
    · refine .inl ?_
      unfold Oper.wp at *
      rw [execOp_put oj hsj a oi.dst v h1] at h
      generalize (execOp a.eval oj).run P w = r at *
      cases r with
      | ok n w' =>
        cases n <;> simp only [Oper.upon] at h ⊢
        case value u => exact ⟨keep a hy u, by rw [← Act.put_comm a v u h2]; exact h⟩
        case skip => exact ⟨keep a hy _, by rw [← Act.put_comm a v undef h2]; exact h⟩
        case defer d =>
          have hyd : StillIn P ops C oi v { a with defers := d :: a.defers } := hy
          refine ⟨keep _ hyd _, ?_⟩
          rw [Act.put_defers, Act.put_comm _ v undef h2] at h
          exact h
        case enter f args =>
          exact h.mono fun e w'' he => by
            cases e with
            | returned u => exact ⟨keep a hy u, by rw [← Act.put_comm a v u h2]; exact he⟩
            | panicked c => exact he
            | outgrown => exact he
        case row r args => exact h.mono fun u w'' he => ⟨keep a hy u, by rw [← Act.put_comm a v u h2]; exact he⟩
        all_goals exact h
      | halt x w' => cases x <;> simp only [Oper.upon] at h ⊢
    · exact h0.elim
  · rename_i hw
    simp only [hw] at h
    exact ⟨keep a hy _, by rw [← Act.put_comm a v undef h2]; exact h⟩

/-- What stands from n on waits for all that stands ahead of it. -/
def tailB (md : Region.Mode) (ops : Array Oper) (n : Nat) : Bool := decide (n = ops.size) || (Region.sinkB md ops n && Region.chainB md ops n && decide (n < ops.size))
theorem tail_no {n : Nat} {listed : Array Bool} (h : tailB md ops n = true) (inv : HeadInv md ops n listed) {i : Nat} (hi : i < n) (hun : listed.getD i true = false) {j : Nat} (hj : j ∈ Region.ready md ops listed) : j < n := by
  rcases Nat.lt_or_ge j n with h' | h'
  · exact h'
  · unfold tailB at h
    simp only [Bool.or_eq_true, Bool.and_eq_true, decide_eq_true_eq] at h
    rcases h with h | ⟨⟨hs, hc⟩, hn⟩
    · obtain ⟨_, oj, hoj, _⟩ := mem_ready.1 hj
      have := (Array.getElem?_eq_some_iff.1 hoj).1
      omega
    · exact absurd hj (tail_waits hs hc hn inv _ i rfl hi hun j h')

theorem mix_first {n i : Nat} {oi : Oper} {v : Value} {R : Act → World → Prop} (hi : ops[i]? = some oi) (hsel : ∀ (j : Nat) (o : Oper) cs b, ops[j]? = some o → o.op ≠ .select cs b)
    (ht : tailB md ops n = true) (hin : i < n) :
    ∀ (f : Nat) (listed : Array Bool) (a : Act) (w : World), HeadInv md ops n listed →
      (∀ j oj, ops[j]? = some oj → j ≠ i → listed.getD j true = false → (∀ e ∈ oj.after, Region.binds md e = true → e.on ≠ i) → oi.apart ops oj = true) →
      i ∈ Region.ready md ops listed → StillIn P ops C oi v a → C w →
      MixOn P md ops C n R f (listed.setIfInBounds i true) (a.put oi.dst v) w → MixOn P md ops C n R (f + 1) listed a w := by
  intro f
  induction f with
  | zero =>
    intro listed a w inv _ hr hy hC H
    refine ⟨fun h => (by rw [h] at hr; cases hr), fun j hj => ?_⟩
    by_cases hji : j = i
    · subst hji; exact hy.wpOp hi hC ⟨fun _ => hC, H⟩
    · have := ready_mono hj hji
      rw [H.1] at this
      cases this
  | succ f ih =>
    intro listed a w inv hfree hr hy hC H
    have hun := (mem_ready.1 hr).1
    refine ⟨fun h => (by rw [h] at hr; cases hr), fun j hj => ?_⟩
    by_cases hji : j = i
    · subst hji; exact hy.wpOp hi hC ⟨fun _ => hC, H⟩
    · have hjn := tail_no ht inv hin hun hj
      have h1 := H.2 j (ready_mono hj hji)
      obtain ⟨hjun, oj, hoj, hall⟩ := mem_ready.1 hj
      have hnot : ∀ e ∈ oj.after, Region.binds md e = true → e.on ≠ i := fun e he hb heq => by
        have h1 := hall e he hb
        rw [heq, getD_both hun] at h1
        cases h1
      have h2 := wpOp_put_in hoj (hfree j oj hoj hji hjun hnot) (fun cs b => hsel i oi cs b hi) (fun cs b => hsel j oj cs b hoj) hy h1
      have hfree' : ∀ k ok, ops[k]? = some ok → k ≠ i → (listed.setIfInBounds j true).getD k true = false →
          (∀ e ∈ ok.after, Region.binds md e = true → e.on ≠ i) → oi.apart ops ok = true := fun k ok hk hki hun hno => by
        refine hfree k ok hk hki ?_ hno
        by_cases hjk : j = k
        · subst hjk; exact hjun
        · rw [getD_set_ne true hjk] at hun; exact hun
      refine wpOp_false (fun a' w' h3 => ⟨fun _ => h3.2.1 hjn, ih (listed.setIfInBounds j true) a' w' (inv.set hj hjn) hfree' (ready_mono hr (Ne.symm hji)) h3.1 (h3.2.1 hjn) ?_⟩) h2
      rw [Array.setIfInBounds_comm _ _ hji]
      exact h3.2.2

/-- A way through a region: reads, operations that come alone, and two that may come in either order. -/
inductive Plan where
  | stop
  | read (i : Nat) (p : Plan)
  | only (i : Nat) (p : Plan)
  | fork (i : Nat) (p : Plan) (j : Nat) (q : Plan)
  | fork3 (i : Nat) (p : Plan) (j : Nat) (q : Plan) (k : Nat) (r : Plan)
def Plan.reads : List Nat → Plan → Plan
  | [], p => p
  | i :: l, p => .read i (Plan.reads l p)
def Plan.okB (md : Region.Mode) (ops : Array Oper) (n : Nat) : Plan → Nat → Bool → Array Bool → Bool
  | .stop, f, _, listed => (Region.ready md ops listed).isEmpty && decide (f = 0)
  | .read i p, f, pre, listed => pre && decide (i < n) && (Region.ready md ops listed).contains i && Region.free md ops listed i && decide (0 < f) && p.okB md ops n (f - 1) true (listed.setIfInBounds i true)
  | .only i p, f, pre, listed => decide (Region.ready md ops listed = [i]) && decide (0 < f) && p.okB md ops n (f - 1) (pre && decide (i < n)) (listed.setIfInBounds i true)
  | .fork i p j q, f, pre, listed => decide (Region.ready md ops listed = [i, j]) && decide (0 < f) && p.okB md ops n (f - 1) (pre && decide (i < n)) (listed.setIfInBounds i true) && q.okB md ops n (f - 1) (pre && decide (j < n)) (listed.setIfInBounds j true)
  | .fork3 i p j q k r, f, pre, listed => decide (Region.ready md ops listed = [i, j, k]) && decide (0 < f) && p.okB md ops n (f - 1) (pre && decide (i < n)) (listed.setIfInBounds i true) && q.okB md ops n (f - 1) (pre && decide (j < n)) (listed.setIfInBounds j true) && r.okB md ops n (f - 1) (pre && decide (k < n)) (listed.setIfInBounds k true)
def Plan.wp (P : Program) (ops : Array Oper) (C : World → Prop) (n : Nat) (R : Act → World → Prop) : Plan → Act → World → Prop
  | .stop, a, w => R a w
  | .read i p, a, w => ∃ o, ops[i]? = some o ∧ if Region.wanted o (yielded ops a.tmps) then ∃ v, (∀ W, C W → o.quietAt P a (fun _ => False) W v) ∧ p.wp P ops C n R (a.put o.dst v) w else p.wp P ops C n R (a.put o.dst undef) w
  | .only i p, a, w => wpOp P ops (fun _ _ _ => False) i (fun a' w' => (i < n → C w') ∧ p.wp P ops C n R a' w') a w
  | .fork i p j q, a, w => wpOp P ops (fun _ _ _ => False) i (fun a' w' => (i < n → C w') ∧ p.wp P ops C n R a' w') a w ∧ wpOp P ops (fun _ _ _ => False) j (fun a' w' => (j < n → C w') ∧ q.wp P ops C n R a' w') a w
  | .fork3 i p j q k r, a, w => wpOp P ops (fun _ _ _ => False) i (fun a' w' => (i < n → C w') ∧ p.wp P ops C n R a' w') a w ∧ wpOp P ops (fun _ _ _ => False) j (fun a' w' => (j < n → C w') ∧ q.wp P ops C n R a' w') a w ∧ wpOp P ops (fun _ _ _ => False) k (fun a' w' => (k < n → C w') ∧ r.wp P ops C n R a' w') a w

theorem plan_on {n : Nat} {R : Act → World → Prop} (hs : Region.noSelect ops = true) (ht : tailB md ops n = true) : ∀ (p : Plan) (f : Nat) (pre : Bool) (listed : Array Bool) (a : Act) (w : World), (pre = true → HeadInv md ops n listed ∧ C w) →
    p.okB md ops n f pre listed = true → p.wp P ops C n R a w → MixOn P md ops C n R f listed a w := by
  intro p
  induction p with
  | stop =>
    intro f pre listed a w _ hB h
    simp only [Plan.okB, Bool.and_eq_true, List.isEmpty_iff, decide_eq_true_eq] at hB
    obtain ⟨hB, rfl⟩ := hB
    exact ⟨hB, h⟩
  | read i p ih =>
    intro f pre listed a w hp hB h
    simp only [Plan.okB, Bool.and_eq_true, decide_eq_true_eq] at hB
    obtain ⟨⟨⟨⟨⟨hpre, hin⟩, hr⟩, hf⟩, h0⟩, hB⟩ := hB
    obtain ⟨inv, hC⟩ := hp hpre
    obtain ⟨o, ho, h⟩ := h
    have hr' : i ∈ Region.ready md ops listed := by simpa using hr
    obtain ⟨g, rfl⟩ : ∃ g, f = g + 1 := ⟨f - 1, by omega⟩
    have hrec : ∀ v, p.wp P ops C n R (a.put o.dst v) w → MixOn P md ops C n R g (listed.setIfInBounds i true) (a.put o.dst v) w := fun v hv =>
      ih g true _ _ w (fun _ => ⟨inv.set hr' hin, hC⟩) (by simpa using hB) hv
    by_cases hw : Region.wanted o (yielded ops a.tmps) = true
    · rw [if_pos hw] at h
      obtain ⟨v, hv, hk⟩ := h
      exact mix_first ho (Region.noSelect_spec hs) ht hin g listed a w inv (Region.free_spec ho hf) hr' (.inl ⟨hw, hv⟩) hC (hrec v hk)
    · rw [if_neg hw] at h
      exact mix_first ho (Region.noSelect_spec hs) ht hin g listed a w inv (Region.free_spec ho hf) hr' (.inr ⟨by simpa using hw, rfl⟩) hC (hrec undef h)
  | only i p ih =>
    intro f pre listed a w hp hB h
    simp only [Plan.okB, Bool.and_eq_true, decide_eq_true_eq] at hB
    obtain ⟨⟨hr, h0⟩, hB⟩ := hB
    obtain ⟨g, rfl⟩ : ∃ g, f = g + 1 := ⟨f - 1, by omega⟩
    refine ⟨fun h1 => (by rw [h1] at hr; cases hr), fun j hj => ?_⟩
    have hj' := hj
    rw [hr] at hj
    obtain rfl : j = i := by simpa using hj
    exact wpOp_false (fun a' w' h' => ⟨h'.1, ih g (pre && decide (j < n)) (listed.setIfInBounds j true) a' w' (fun hpre => by
      simp only [Bool.and_eq_true, decide_eq_true_eq] at hpre
      exact ⟨(hp hpre.1).1.set hj' hpre.2, h'.1 hpre.2⟩) (by simpa using hB) h'.2⟩) h
  | fork i p j q ihp ihq =>
    intro f pre listed a w hp hB h
    simp only [Plan.okB, Bool.and_eq_true, decide_eq_true_eq] at hB
    obtain ⟨⟨⟨hr, h0⟩, hB1⟩, hB2⟩ := hB
    obtain ⟨g, rfl⟩ : ∃ g, f = g + 1 := ⟨f - 1, by omega⟩
    refine ⟨fun h1 => (by rw [h1] at hr; cases hr), fun k hk => ?_⟩
    have hk' := hk
    rw [hr] at hk
    simp only [List.mem_cons, List.not_mem_nil, or_false] at hk
    rcases hk with rfl | rfl
    · exact wpOp_false (fun a' w' h' => ⟨h'.1, ihp g (pre && decide (k < n)) (listed.setIfInBounds k true) a' w' (fun hpre => by
        simp only [Bool.and_eq_true, decide_eq_true_eq] at hpre
        exact ⟨(hp hpre.1).1.set hk' hpre.2, h'.1 hpre.2⟩) (by simpa using hB1) h'.2⟩) h.1
    · exact wpOp_false (fun a' w' h' => ⟨h'.1, ihq g (pre && decide (k < n)) (listed.setIfInBounds k true) a' w' (fun hpre => by
        simp only [Bool.and_eq_true, decide_eq_true_eq] at hpre
        exact ⟨(hp hpre.1).1.set hk' hpre.2, h'.1 hpre.2⟩) (by simpa using hB2) h'.2⟩) h.2
  | fork3 i p j q k r ihp ihq ihr =>
    intro f pre listed a w hp hB h
    simp only [Plan.okB, Bool.and_eq_true, decide_eq_true_eq] at hB
    obtain ⟨⟨⟨⟨hr, h0⟩, hB1⟩, hB2⟩, hB3⟩ := hB
    obtain ⟨g, rfl⟩ : ∃ g, f = g + 1 := ⟨f - 1, by omega⟩
    refine ⟨fun h1 => (by rw [h1] at hr; cases hr), fun m hm => ?_⟩
    have hm' := hm
    rw [hr] at hm
    simp only [List.mem_cons, List.not_mem_nil, or_false] at hm
    rcases hm with rfl | rfl | rfl
    · exact wpOp_false (fun a' w' h' => ⟨h'.1, ihp g (pre && decide (m < n)) (listed.setIfInBounds m true) a' w' (fun hpre => by
        simp only [Bool.and_eq_true, decide_eq_true_eq] at hpre
        exact ⟨(hp hpre.1).1.set hm' hpre.2, h'.1 hpre.2⟩) (by simpa using hB1) h'.2⟩) h.1
    · exact wpOp_false (fun a' w' h' => ⟨h'.1, ihq g (pre && decide (m < n)) (listed.setIfInBounds m true) a' w' (fun hpre => by
        simp only [Bool.and_eq_true, decide_eq_true_eq] at hpre
        exact ⟨(hp hpre.1).1.set hm' hpre.2, h'.1 hpre.2⟩) (by simpa using hB2) h'.2⟩) h.2.1
    · exact wpOp_false (fun a' w' h' => ⟨h'.1, ihr g (pre && decide (m < n)) (listed.setIfInBounds m true) a' w' (fun hpre => by
        simp only [Bool.and_eq_true, decide_eq_true_eq] at hpre
        exact ⟨(hp hpre.1).1.set hm' hpre.2, h'.1 hpre.2⟩) (by simpa using hB3) h'.2⟩) h.2.2

def planB (md : Region.Mode) (ops : Array Oper) (n : Nat) (p : Plan) : Bool := Region.noSelect ops && tailB md ops n && p.okB md ops n ops.size true (Array.replicate ops.size false)
end

theorem region_mix {P : Program} {id : Nat} {Q : Exit → Act → World → Prop} {a : Act} {w : World} {l : List Oper} (C : World → Prop) (n : Nat) (p : Plan) (hm : P.follows .mixedOrders = true) (hB : planB .any l.toArray n p = true) (hC : C w.drew)
    (h : p.wp P l.toArray C n (fun a' w' => Q .normal a' w') a w.drew) : (Code.region id l.toArray true).wp P Q a w := by
  simp only [planB, Bool.and_eq_true] at hB
  obtain ⟨⟨hs, ht⟩, hB⟩ := hB
  have inv0 : HeadInv .any l.toArray n (Array.replicate l.toArray.size false) :=
    ⟨by simp, fun j oj _ hl => (by rw [getD_replicate_false] at hl; cases hl), fun t _ ht => getD_in (by simpa using ht) (getD_replicate_false _ _)⟩
  exact wp_region_any hm (mix_any (fun _ _ h => h) _ _ _ _ (plan_on hs ht p _ true _ a _ (fun _ => ⟨inv0, hC⟩) hB h))

section
variable {P : Program} {l : List Oper} {C : World → Prop} {n : Nat} {R : Act → World → Prop} {a : Act} {w : World}
theorem plan_read {i : Nat} {p : Plan} {o : Oper} (ho : l[i]? = some o)
    (h : ∀ K : Act → Prop, (∀ a, p.wp P l.toArray C n R a w → K a) → if Region.wanted o (yielded l.toArray a.tmps) then ∃ v, (∀ W, C W → o.quietAt P a (fun _ => False) W v) ∧ K (a.put o.dst v) else K (a.put o.dst undef)) : (Plan.read i p).wp P l.toArray C n R a w :=
  ⟨o, by simpa using ho, h _ fun _ h => h⟩
theorem plan_pos {o : Oper} {K : Act → Prop} {b : Bool} (v : Value) (hb : b = true) (h : ∀ W, C W → o.quietAt P a (fun _ => False) W v) (hk : K (a.put o.dst v)) : if b then ∃ v, (∀ W, C W → o.quietAt P a (fun _ => False) W v) ∧ K (a.put o.dst v) else K (a.put o.dst undef) := by
  rw [if_pos hb]; exact ⟨v, h, hk⟩
theorem plan_neg {o : Oper} {K : Act → Prop} {b : Bool} (hb : b = false) (hk : K (a.put o.dst undef)) : if b then ∃ v, (∀ W, C W → o.quietAt P a (fun _ => False) W v) ∧ K (a.put o.dst v) else K (a.put o.dst undef) := by
  rw [if_neg (by rw [hb]; exact Bool.false_ne_true)]; exact hk
theorem plan_op {i : Nat} {o : Oper} {X : Act → World → Prop} (ho : l[i]? = some o)
    (h : ∀ Q : Exit → Act → World → Prop, (∀ a' w', (i < n → C w') → X a' w' → Q .normal a' w') → wpList P l.toArray Q [o] a w) : wpOp P l.toArray (fun _ _ _ => False) i (fun a' w' => (i < n → C w') ∧ X a' w') a w := by
  have h1 := h (fun e a w => e = .normal ∧ (i < n → C w) ∧ X a w) (fun _ _ h1 h2 => ⟨rfl, h1, h2⟩)
  unfold wpOp
  rw [show l.toArray[i]? = some o by simpa using ho]
  simp only [wpList] at h1
  dsimp only
  split
  · rename_i hw
    rw [if_pos hw] at h1
    rcases h1 with h1 | ⟨_, _, _, h0, _⟩
    · refine .inl ?_
      unfold Oper.wp at *
      generalize (execOp a.eval o).run P w = r at *
      cases r with
      | ok n w' =>
        cases n <;> simp only [Oper.upon] at h1 ⊢ <;>
          first
            | exact h1.2
            | exact Calls.mono h1 (fun e w'' he => by
                cases e with
                | returned v => exact he.2
                | panicked c => cases he.1
                | outgrown => obtain ⟨_, _, h0, _⟩ := he; cases h0)
            | exact Rows.mono h1 (fun _ _ he => he.2)
      | halt x w' =>
        cases x <;> simp only [Oper.upon] at h1 ⊢
        cases h1.1
    · cases h0
  · rename_i hw
    rw [if_neg hw] at h1
    exact h1.2
theorem plan_only {i : Nat} {p : Plan} {o : Oper} (ho : l[i]? = some o)
    (h : ∀ Q : Exit → Act → World → Prop, (∀ a' w', (i < n → C w') → p.wp P l.toArray C n R a' w' → Q .normal a' w') → wpList P l.toArray Q [o] a w) : (Plan.only i p).wp P l.toArray C n R a w := plan_op ho h
theorem plan_fork {i j : Nat} {p q : Plan} {oi oj : Oper} (hi : l[i]? = some oi) (hj : l[j]? = some oj)
    (h1 : ∀ Q : Exit → Act → World → Prop, (∀ a' w', (i < n → C w') → p.wp P l.toArray C n R a' w' → Q .normal a' w') → wpList P l.toArray Q [oi] a w)
    (h2 : ∀ Q : Exit → Act → World → Prop, (∀ a' w', (j < n → C w') → q.wp P l.toArray C n R a' w' → Q .normal a' w') → wpList P l.toArray Q [oj] a w) : (Plan.fork i p j q).wp P l.toArray C n R a w := ⟨plan_op hi h1, plan_op hj h2⟩
theorem plan_fork3 {i j k : Nat} {p q r : Plan} {oi oj ok : Oper} (hi : l[i]? = some oi) (hj : l[j]? = some oj) (hk : l[k]? = some ok)
    (h1 : ∀ Q : Exit → Act → World → Prop, (∀ a' w', (i < n → C w') → p.wp P l.toArray C n R a' w' → Q .normal a' w') → wpList P l.toArray Q [oi] a w)
    (h2 : ∀ Q : Exit → Act → World → Prop, (∀ a' w', (j < n → C w') → q.wp P l.toArray C n R a' w' → Q .normal a' w') → wpList P l.toArray Q [oj] a w)
    (h3 : ∀ Q : Exit → Act → World → Prop, (∀ a' w', (k < n → C w') → r.wp P l.toArray C n R a' w' → Q .normal a' w') → wpList P l.toArray Q [ok] a w) : (Plan.fork3 i p j q k r).wp P l.toArray C n R a w := ⟨plan_op hi h1, plan_op hj h2, plan_op hk h3⟩
/-- An append whose run is known. -/
theorem wpList_append_run {ops : Array Oper} {rest : List Oper} {o : Oper} {Q : Exit → Act → World → Prop} {w' : World} (hgd : o.guard = none) (x y : Operand) (t u : TypeId)
    (ho : o.op = .call { callee := .builtin .append, args := #[x, y], argTypes := #[t, u] }) {vx vy v' : Value} (hx : a.eval x = vx) (hy : a.eval y = vy)
    (hr : (Builtin.append_ #[t, u] o.type #[vx, vy]).run P w = .ok v' w') (h : wpList P ops Q rest (a.put o.dst v') w') : wpList P ops Q (o :: rest) a w := by
  refine wpList_plain hgd fun K hK => ?_
  unfold Oper.wp execOp
  simp only [ho, resolve, invoke, builtin, Sem.run_bind, Sem.run_pure, Result.andThen_ok, List.map_toArray, List.map_cons, List.map_nil, hx, hy, hr]
  exact hK _ _ h
end
end Go.Proofs.Ytbbogkmibiealaa
