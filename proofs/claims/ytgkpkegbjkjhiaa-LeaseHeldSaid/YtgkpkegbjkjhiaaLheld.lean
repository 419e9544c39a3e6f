/-
  The program's book among two: each of its methods by one law.
-/
import Derived.Test.YtgkpkegbjkjhiaaLp
namespace Go.Proofs.Ytgkpkegbjkjhiaa
open Go.RowKit Gm

section
variable {Y : Type} {B : Kind Y} {w0 w : World} {p q : Nat} {D : Bk} {E : Y} {bs : List (Nat × Obj)}
theorem Held.pNew {x : Nat} {X0 : Bk} (hB : Lawful B) (h : Held Nobody B w0 w x X0 q E bs) (t : Int) (ht : I64 t) :
    Calls Try.prog 10 #[.int .i64 t] w fun e w' => ∃ p, e = .returned (.pointer (some ⟨p, 0, none⟩)) ∧ Held PBook B w0 w' p (newB t) q E bs :=
  (new_any t w ht).mono fun _ _ ⟨p, _, h1, h2, h3, h4⟩ => ⟨p, h1, h.made hB h2 h3 h4⟩
theorem Held.pLearn (hB : Lawful B) (h : Held PBook B w0 w p D q E bs) (hD : OkB D) (v u : Int) {a : Option Addr} {len : Nat} {l : List Bd} (cap : Nat) (hv : I64 v) (hu : I64 u) (hl : ∀ R Q, HeldR PBook B w0 w p D q E bs R Q → BindsAt w (fun b => b < w.heap.size ∧ ¬ R b) a len l) (ok : OkL l) :
    Calls Try.prog 20 #[.pointer (some ⟨p, 0, none⟩), .int .i64 v, .int .i64 u, .slice a len cap] w fun e w' => e = .returned (.tuple #[]) ∧ Held PBook B w0 w' p (learnB D v u l) q E bs :=
  h.call hB fun R Q g => learn_any p D R v u a len cap l w g.a hD hv hu (hl R Q g) ok
theorem Held.pSent (hB : Lawful B) (h : Held PBook B w0 w p D q E bs) (hD : OkB D) (hg : D.g.length ≤ 999) (v u : Int) {a : Option Addr} {len : Nat} {l : List Bd} (cap : Nat) (hv : I64 v) (hu : I64 u) (hl : ∀ R Q, HeldR PBook B w0 w p D q E bs R Q → BindsAt w (fun b => b < w.heap.size ∧ ¬ R b) a len l) (ok : OkL l) :
    Calls Try.prog 22 #[.pointer (some ⟨p, 0, none⟩), .int .i64 v, .int .i64 u, .slice a len cap] w fun e w' => e = .returned (.tuple #[]) ∧ Held PBook B w0 w' p (sentB D v u l) q E bs :=
  h.call hB fun R Q g => sent_any p D R v u a len cap l w g.a hD hg hv hu (hl R Q g) ok
theorem Held.pAcked (hB : Lawful B) (h : Held PBook B w0 w p D q E bs) (hD : OkB D) (v : Int) (hv : I64 v) :
    Calls Try.prog 24 #[.pointer (some ⟨p, 0, none⟩), .int .i64 v] w fun e w' => e = .returned (.tuple #[]) ∧ Held PBook B w0 w' p (ackedB D v) q E bs :=
  h.call hB fun R _ g => acked_any p D R v w g.a hD hv
theorem Held.pPass (hB : Lawful B) (h : Held PBook B w0 w p D q E bs) (hD : OkB D) (t : Int) (ht : I64 t) :
    Calls Try.prog 26 #[.pointer (some ⟨p, 0, none⟩), .int .i64 t] w fun e w' => e = .returned (.tuple #[]) ∧ Held PBook B w0 w' p (passB D t) q E bs :=
  h.call hB fun R _ g => pass_any p D R t w g.a hD ht
theorem Held.pKnown (hB : Lawful B) (h : Held PBook B w0 w p D q E bs) :
    Calls Try.prog 28 #[.pointer (some ⟨p, 0, none⟩)] w fun e w' => e = .returned (.bool (!D.unknown)) ∧ Below w.heap.size w w' ∧ Held PBook B w0 w' p D q E bs :=
  h.read pbook_law hB fun R g => known_any p D R w g
theorem Held.pHeld (hB : Lawful B) (h : Held PBook B w0 w p D q E bs) (hD : OkB D) (k : Bs) (hk : k.length ≤ 1048576) :
    Calls Try.prog 30 #[.pointer (some ⟨p, 0, none⟩), .string (S k)] w fun e w' => e = .returned (.int .i64 (heldB D k)) ∧ Below w.heap.size w w' ∧ Held PBook B w0 w' p D q E bs :=
  h.read pbook_law hB fun R g => held_any p D R k w g hD hk
/-- Until, Holds, Over beside the books. -/
theorem Held.pUntil {A : Kind Bk} (hA : Lawful A) (hB : Lawful B) (h : Held A B w0 w p D q E bs) (t : Int) (ht : I64 t) :
    Calls Try.prog 12 #[.int .i64 t] w fun e w' => e = .returned (.int .i64 (untilN t)) ∧ Below w.heap.size w w' ∧ Held A B w0 w' p D q E bs :=
  (until_any t w ht).mono fun _ _ ⟨h1, h2⟩ => ⟨h1, h2, h.below hA hB h2⟩
theorem Held.pHolds {A : Kind Bk} (hA : Lawful A) (hB : Lawful B) (h : Held A B w0 w p D q E bs) (t u : Int) (ht : I64 t) (hu : I64 u) :
    Calls Try.prog 14 #[.int .i64 t, .int .i64 u] w fun e w' => e = .returned (.bool (holdsN t u)) ∧ Below w.heap.size w w' ∧ Held A B w0 w' p D q E bs :=
  (holds_any t u w ht hu).mono fun _ _ ⟨h1, h2⟩ => ⟨h1, h2, h.below hA hB h2⟩
theorem Held.pOver {A : Kind Bk} (hA : Lawful A) (hB : Lawful B) (h : Held A B w0 w p D q E bs) (t u : Int) (ht : I64 t) (hu : I64 u) :
    Calls Try.prog 16 #[.int .i64 t, .int .i64 u] w fun e w' => e = .returned (.bool (overN t u)) ∧ Below w.heap.size w w' ∧ Held A B w0 w' p D q E bs :=
  (over_any t u w ht hu).mono fun _ _ ⟨h1, h2⟩ => ⟨h1, h2, h.below hA hB h2⟩
end
end Go.Proofs.Ytgkpkegbjkjhiaa
