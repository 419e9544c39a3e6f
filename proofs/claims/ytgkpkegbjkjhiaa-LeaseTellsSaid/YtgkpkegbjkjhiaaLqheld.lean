/-
  The document's own book as the second of two: each of its methods by one law.
-/
import Derived.Test.YtgkpkegbjkjhiaaLheld
import Derived.Test.YtgkpkegbjkjhiaaQl4
namespace Go.Proofs.Ytgkpkegbjkjhiaa
open Go.RowKit Gm

section
variable {X : Type} {A : Kind X} {w0 w : World} {p q : Nat} {D : X} {E : Bk} {bs : List (Nat × Obj)}
theorem Held.qNew {x : Nat} {X0 : Bk} (hA : Lawful A) (h : Held A Nobody w0 w p D x X0 bs) (t : Int) (ht : I64 t) :
    Calls Try.prog 11 #[.int .i64 t] w fun e w' => ∃ q, e = .returned (.pointer (some ⟨q, 0, none⟩)) ∧ Held A QBook w0 w' p D q (newB t) bs :=
  (qnew_any t w ht).mono fun _ _ ⟨q, _, h1, h2, h3, h4⟩ => ⟨q, h1, (h.swap.made hA h2 h3 h4).swap⟩
theorem Held.qLearn (hA : Lawful A) (h : Held A QBook w0 w p D q E bs) (v u : Int) {a : Option Addr} {len : Nat} {l : List Bd} (cap : Nat) (hv : I64 v) (hu : I64 u) (hl : ∀ R Q, HeldR A QBook w0 w p D q E bs R Q → BindsAt w (fun b => b < w.heap.size ∧ ¬ Q b) a len l) (ok : OkL l) :
    Calls Try.prog 21 #[.pointer (some ⟨q, 0, none⟩), .int .i64 v, .int .i64 u, .slice a len cap] w fun e w' => e = .returned (.tuple #[]) ∧ Held A QBook w0 w' p D q (learnB E v u l) bs :=
  h.call2 hA fun Q R g => qlearn_any q E Q v u a len cap l w g.a hv hu (hl R Q ⟨g.b, g.a, fun b h1 h2 => g.ne b h2 h1, g.qa, g.ra, fun x hx => ⟨(g.own x hx).1, (g.own x hx).2.2.1, (g.own x hx).2.1, (g.own x hx).2.2.2⟩, g.nd, g.below⟩) ok
theorem Held.qSent (hA : Lawful A) (h : Held A QBook w0 w p D q E bs) (hg : E.g.length ≤ 999) (v u : Int) {a : Option Addr} {len : Nat} {l : List Bd} (cap : Nat) (hv : I64 v) (hu : I64 u) (hl : ∀ R Q, HeldR A QBook w0 w p D q E bs R Q → BindsAt w (fun b => b < w.heap.size ∧ ¬ Q b) a len l) (ok : OkL l) :
    Calls Try.prog 23 #[.pointer (some ⟨q, 0, none⟩), .int .i64 v, .int .i64 u, .slice a len cap] w fun e w' => e = .returned (.tuple #[]) ∧ Held A QBook w0 w' p D q (sentB E v u l) bs :=
  h.call2 hA fun Q R g => qsent_any q E Q v u a len cap l w g.a hg hv hu (hl R Q ⟨g.b, g.a, fun b h1 h2 => g.ne b h2 h1, g.qa, g.ra, fun x hx => ⟨(g.own x hx).1, (g.own x hx).2.2.1, (g.own x hx).2.1, (g.own x hx).2.2.2⟩, g.nd, g.below⟩) ok
theorem Held.qAcked (hA : Lawful A) (h : Held A QBook w0 w p D q E bs) (hE : OkB E) (v : Int) (hv : I64 v) :
    Calls Try.prog 25 #[.pointer (some ⟨q, 0, none⟩), .int .i64 v] w fun e w' => e = .returned (.tuple #[]) ∧ Held A QBook w0 w' p D q (ackedB E v) bs :=
  h.call2 hA fun Q _ g => qacked_any q E Q v w g.a hE hv
theorem Held.qPass (hA : Lawful A) (h : Held A QBook w0 w p D q E bs) (hE : OkB E) (t : Int) (ht : I64 t) :
    Calls Try.prog 27 #[.pointer (some ⟨q, 0, none⟩), .int .i64 t] w fun e w' => e = .returned (.tuple #[]) ∧ Held A QBook w0 w' p D q (passB E t) bs :=
  h.call2 hA fun Q _ g => qpass_any q E Q t w g.a hE ht
theorem Held.qKnown (hA : Lawful A) (h : Held A QBook w0 w p D q E bs) :
    Calls Try.prog 29 #[.pointer (some ⟨q, 0, none⟩)] w fun e w' => e = .returned (.bool (!E.unknown)) ∧ Below w.heap.size w w' ∧ Held A QBook w0 w' p D q E bs :=
  h.read2 hA qbook_law fun Q g => qknown_any q E Q w g
theorem Held.qHeld (hA : Lawful A) (h : Held A QBook w0 w p D q E bs) (hE : OkB E) (k : Bs) :
    Calls Try.prog 31 #[.pointer (some ⟨q, 0, none⟩), .string (S k)] w fun e w' => e = .returned (.int .i64 (heldB E k)) ∧ Below w.heap.size w w' ∧ Held A QBook w0 w' p D q E bs :=
  h.read2 hA qbook_law fun Q g => qheld_any q E Q k w g hE
end
end Go.Proofs.Ytgkpkegbjkjhiaa
