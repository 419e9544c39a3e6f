/-
  What the laws call, each by one law.
-/
import Derived.Test.YtbbogkmibiealaaCawake
import Derived.Test.YtbbogkmibiealaaCargs
namespace Go.Proofs.Ytbbogkmibiealaa
open Go.RowKit Gm

namespace Gm
def stN (ms : List Ms) (c : Ce) : Ce := ms.foldl recvC c
theorem st_snoc (ms : List Ms) (m : Ms) (c : Ce) : stN (ms ++ [m]) c = recvC (stN ms c) m := by unfold stN; rw [List.foldl_append]; rfl
theorem st_ok {c : Ce} (h : OkC c) (ms : List Ms) : OkC (stN ms c) := by
  unfold stN
  induction ms generalizing c with
  | nil => exact h
  | cons m ms ih => exact ih (h.recv m)
theorem st_stale {m : Ms} : ∀ (ms : List Ms) (c : Ce), m ∈ ms → tookC (stN ms c) m = false := by
  intro ms c hm
  have keep : ∀ (ms : List Ms) (c : Ce), tookC c m = false → tookC (stN ms c) m = false := by
    intro ms
    induction ms with
    | nil => intro c h; exact h
    | cons k ms ih => intro c h; exact ih _ (stale_later k h)
  induction ms generalizing c with
  | nil => cases hm
  | cons k ms ih =>
    rcases List.mem_cons.1 hm with rfl | h
    · exact keep ms _ (stale_now c m)
    · exact ih (recvC c k) h
end Gm
section
variable {X Y : Type} {A : Kind X} {B : Kind Y} {w0 w : World} {p q : Nat} {D : X} {E : Y} {bs : List (Nat × Obj)}
theorem Held.fit (hA : Lawful A) (hB : Lawful B) (h : Held A B w0 w p D q E bs) (x : GrE) {ka : Option Addr} {kl kc : Nat} (hx : I64 x.kind ∧ I64 x.cell ∧ I64 x.boot ∧ I64 x.epoch ∧ I64 x.ver ∧ I64 x.unt) (hk : KeepB w0.heap.size w ka kl x.l) {k c b e v u : Int} {l : List Bd} (hm : fitM x = ⟨k, c, b, e, v, u, l⟩) :
    Calls Try.prog 19 #[.agg #[.int .i64 x.kind, .int .i64 x.cell, .int .i64 x.boot, .int .i64 x.epoch, .int .i64 x.ver, .int .i64 x.unt, .slice ka kl kc]] w fun r w' => ∃ a cap cs, r = .returned (msgV k c b e v u a l.length cap) ∧ Held A B w0 w' p D q E cs ∧ (∀ y ∈ bs, y ∈ cs) ∧ RowK cs (.slice a l.length cap) l := by
  refine (fit_any x.kind x.cell x.boot x.epoch x.ver x.unt hx w0.heap.size ka kl kc x.l w hk h.size).mono ?_
  rintro r w' ⟨a, cap, h1, h2, h3⟩
  unfold fitM at hm
  injection hm with e1 e2 e3 e4 e5 e6 e7
  rw [e1, e2, e3, e4, e5, e6, e7] at h1
  rw [e7] at h2
  obtain ⟨cs, k1, k2, k3⟩ := h.row hA hB h3 h2
  exact ⟨a, cap, cs, h1, k1, k2, k3⟩
end
section
variable {Y : Type} {B : Kind Y} {w0 w : World} {p q : Nat} {D : Ce} {E : Y} {bs : List (Nat × Obj)}
theorem Held.pR1 (hB : Lawful B) (h : Held PCell B w0 w p D q E bs) (ok : OkC D) (k c b e v u : Int) {a : Option Addr} {n cap : Nat} {l : List Bd} (hm : OkM ⟨k, c, b, e, v, u, l⟩) (hr : RowK bs (.slice a n cap) l) :
    Calls Try.prog 11 #[.pointer (some ⟨p, 0, none⟩), msgV k c b e v u a n cap] w fun x w' => x = .returned (.bool (tookC D ⟨k, c, b, e, v, u, l⟩)) ∧ Held PCell B w0 w' p (recvC D ⟨k, c, b, e, v, u, l⟩) q E bs :=
  h.recv1 pIn hB ok k c b e v u hm fun _ _ g => hr.at g
theorem Held.pP1 (hB : Lawful B) (h : Held PCell B w0 w p D q E bs) (ok : OkC D) :
    Calls Try.prog 15 #[.pointer (some ⟨p, 0, none⟩)] w fun r w' => ∃ a cap, r = .returned (msgV 2 D.n D.boot D.epoch D.ver D.unt a D.l.length cap) ∧ w'.ownsRow w.heap.size 35 3 (.slice a D.l.length cap) D.l.length (bdsV D.l) ∧ Below w.heap.size w w' ∧ Held PCell B w0 w' p D q E bs :=
  h.rep1 pIn hB ok
theorem Held.pU1 (hB : Lawful B) (h : Held PCell B w0 w p D q E bs) (ok : OkC D) (now : Int) (hn : I64 now) :
    Calls Try.prog 17 #[.pointer (some ⟨p, 0, none⟩), .int .i64 now] w fun e w' => ∃ a cap, e = .returned (.slice a (runC D now).length cap) ∧ w'.ownsRow w.heap.size 35 3 (.slice a (runC D now).length cap) (runC D now).length (bdsV (runC D now)) ∧ Below w.heap.size w w' ∧ Held PCell B w0 w' p D q E bs :=
  h.run1 pIn hB ok now hn
end
section
variable {X : Type} {A : Kind X} {w0 w : World} {p q : Nat} {D : X} {E : Ce} {bs : List (Nat × Obj)}
theorem Held.pR2 (hA : Lawful A) (h : Held A PCell w0 w p D q E bs) (ok : OkC E) (k c b e v u : Int) {a : Option Addr} {n cap : Nat} {l : List Bd} (hm : OkM ⟨k, c, b, e, v, u, l⟩) (hr : RowK bs (.slice a n cap) l) :
    Calls Try.prog 11 #[.pointer (some ⟨q, 0, none⟩), msgV k c b e v u a n cap] w fun x w' => x = .returned (.bool (tookC E ⟨k, c, b, e, v, u, l⟩)) ∧ Held A PCell w0 w' p D q (recvC E ⟨k, c, b, e, v, u, l⟩) bs :=
  h.recv2 pIn hA ok k c b e v u hm fun _ _ g => hr.at g
theorem Held.pP2 (hA : Lawful A) (h : Held A PCell w0 w p D q E bs) (ok : OkC E) :
    Calls Try.prog 15 #[.pointer (some ⟨q, 0, none⟩)] w fun r w' => ∃ a cap, r = .returned (msgV 2 E.n E.boot E.epoch E.ver E.unt a E.l.length cap) ∧ w'.ownsRow w.heap.size 35 3 (.slice a E.l.length cap) E.l.length (bdsV E.l) ∧ Below w.heap.size w w' ∧ Held A PCell w0 w' p D q E bs :=
  h.rep2 pIn hA ok
theorem Held.pU2 (hA : Lawful A) (h : Held A PCell w0 w p D q E bs) (ok : OkC E) (now : Int) (hn : I64 now) :
    Calls Try.prog 17 #[.pointer (some ⟨q, 0, none⟩), .int .i64 now] w fun e w' => ∃ a cap, e = .returned (.slice a (runC E now).length cap) ∧ w'.ownsRow w.heap.size 35 3 (.slice a (runC E now).length cap) (runC E now).length (bdsV (runC E now)) ∧ Below w.heap.size w w' ∧ Held A PCell w0 w' p D q E bs :=
  h.run2 pIn hA ok now hn
end
/-- A row that was made ahead, in a later world. -/
theorem later_binds {w w' W : World} {a : Option Addr} {n cap : Nat} {l : List Bd} (hr : w'.ownsRow w.heap.size 35 3 (.slice a n cap) n (bdsV l)) (hb : Below w'.heap.size w' W) : BindsAt W (· < W.heap.size) a n l :=
  ((fresh_binds hr).keep fun _ h => hb.block _ h).imp fun _ h => Nat.lt_of_lt_of_le h hb.size
/-- One raw grant of the argument. -/
theorem GrantsAt.get {B : Nat} {W : World} {a : Option Addr} {len : Nat} {l : List GrE} (h : GrantsAt B W a len l) {i : Nat} (hi : i < len) : ∃ b off, a = some ⟨b, off, none⟩ ∧ b < B ∧ ∃ h : i < l.length, GrantAt B W b (off + i * 7) l[i] := by
  obtain ⟨h0, _, b, off, h1, h2⟩ := h
  have hil : i < l.length := by omega
  rcases h1 with h1 | h1
  · omega
  · exact ⟨b, off, h1, (h2 i hil).1, hil, (h2 i hil).2⟩
end Go.Proofs.Ytbbogkmibiealaa
