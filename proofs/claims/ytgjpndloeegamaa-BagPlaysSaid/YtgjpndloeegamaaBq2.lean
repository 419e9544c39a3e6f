/-
  The document's own bag: Copy, Drop; all of it lifted.
-/
import Derived.Test.YtgjpndloeegamaaBq
import Derived.Test.YtgjpndloeegamaaCalm
namespace Go.Proofs.Ytgjpndloeegamaa
open Go.RowKit Gm

set_option maxRecDepth 100000 in
set_option maxHeartbeats 2000000 in
theorem qcopy_any (p : Nat) (D : List Bs) (R : Nat → Prop) (i : Int) (w : World) (h : BagK 45 w p D R) (hl : D.length ≤ 64) :
    Calls Try.prog 16 #[.pointer (some ⟨p, 0, none⟩), .int .i64 i] w fun e w' => e = .returned (.bool (inB D i && roomB D)) ∧ Turn (BagK 45) w w' p (copyB D i) R := by
  have HK := Lib.hid h
  obtain ⟨v, hR, hq⟩ := h
  have HQ := Lib.hid hq
  have HL := Lib.hid hl
  unfold copyB
  rcases hin : inB D i with _ | _
  · rw [if_neg (by decide), Bool.false_and]
    have HIN := Lib.hid hin
    obtain ⟨x, hx⟩ : ∃ x, lookB D i = x := ⟨_, rfl⟩
    have HX := Lib.hid hx
    clear hin hq hR hx hl
    go_enter Try.func16, Try.ntmps16
    go_wp2_with (go_at_call 20; (have hc := qlook_any p v D i w HQ.out; rw [HX.out, HIN.out] at hc; with_reducible refine hc.mono ?_); rintro e w1 ⟨rfl, rfl⟩)
    go_ret
    exact ⟨rfl, b_same HK.out (Below.refl _ _)⟩
  · rw [if_pos rfl, Bool.true_and]
    have HIN := Lib.hid hin
    obtain ⟨x, hx⟩ : ∃ x, lookB D i = x := ⟨_, rfl⟩
    rw [hx]
    have HX := Lib.hid hx
    clear hin hq hR hx hl
    go_enter Try.func16, Try.ntmps16
    go_wp2_with (first
      | (go_at_call 20; (have hc := qlook_any p v D i w HQ.out; rw [HX.out, HIN.out] at hc; with_reducible refine hc.mono ?_); rintro e w1 ⟨rfl, rfl⟩)
      | (go_at_call 12; (have hc := qsend_any p D R x w HK.out HL.out; with_reducible refine hc.mono ?_); rintro e w2 ⟨rfl, ht⟩; have HT := Lib.hid ht; clear ht))
    go_ret
    exact ⟨rfl, HT.out⟩
theorem qdrop_any (p : Nat) (D : List Bs) (R : Nat → Prop) (i : Int) (w : World) (h : BagK 45 w p D R) (hl : D.length ≤ 64) :
    Calls Try.prog 18 #[.pointer (some ⟨p, 0, none⟩), .int .i64 i] w fun e w' => e = .returned (.bool (inB D i)) ∧ Turn (BagK 45) w w' p (takeB D i) R := by
  have HK := Lib.hid h
  have HL := Lib.hid hl
  obtain ⟨x, hx⟩ : ∃ x, lookB D i = x := ⟨_, rfl⟩
  have HX := Lib.hid hx
  obtain ⟨y, hy⟩ : ∃ y, inB D i = y := ⟨_, rfl⟩
  rw [hy]
  have HY := Lib.hid hy
  clear h hl hx hy
  go_enter Try.func18, Try.ntmps18
  go_wp2_with (go_at_call 14; (have hc := qtake_any p D R i w HK.out HL.out; rw [HX.out, HY.out] at hc; with_reducible refine hc.mono ?_); rintro e w1 ⟨rfl, ht⟩; have HT := Lib.hid ht; clear ht)
  go_ret
  exact ⟨rfl, HT.out⟩
/-- The document's bag. -/
def QBag : Kind (List Bs) := BagK 45
theorem qbag_law : Lawful QBag := bag_law _
section
variable {X : Type} {A : Kind X} {w0 w : World} {p q : Nat} {D : X} {E : List Bs} {bs : List (Nat × Obj)}
theorem Held.qNew {x : Nat} {X0 : List Bs} (hA : Lawful A) (h : Held A Nobody w0 w p D x X0 bs) :
    Calls Try.prog 8 #[] w fun e w' => ∃ q, e = .returned (.pointer (some ⟨q, 0, none⟩)) ∧ Held A QBag w0 w' p D q [] bs :=
  (qnew_any w).mono fun _ _ ⟨h1, h2, h3⟩ => ⟨_, h1, (h.swap.made hA (A := QBag) (R' := fun b => b = w.heap.size ∨ (Value.slice none 0 0).ownBlock = some b) ⟨_, fun _ => Iff.rfl, h2⟩ (fun b e => by
    rcases e with e | e
    · omega
    · simp [Value.ownBlock] at e) h3).swap⟩
theorem Held.qSend (hA : Lawful A) (h : Held A QBag w0 w p D q E bs) (ok : OkB E) (s : Bs) :
    Calls Try.prog 12 #[.pointer (some ⟨q, 0, none⟩), .string (S s)] w fun e w' => e = .returned (.bool (roomB E)) ∧ Held A QBag w0 w' p D q (sendB E s) bs :=
  h.call2 hA fun Q _ g => qsend_any q E Q s w g.a ok.len
theorem Held.qTake (hA : Lawful A) (h : Held A QBag w0 w p D q E bs) (ok : OkB E) (i : Int) :
    Calls Try.prog 14 #[.pointer (some ⟨q, 0, none⟩), .int .i64 i] w fun e w' => e = .returned (.tuple #[.string (S (lookB E i)), .bool (inB E i)]) ∧ Held A QBag w0 w' p D q (takeB E i) bs :=
  h.call2 hA fun Q _ g => qtake_any q E Q i w g.a ok.len
theorem Held.qCopy (hA : Lawful A) (h : Held A QBag w0 w p D q E bs) (ok : OkB E) (i : Int) :
    Calls Try.prog 16 #[.pointer (some ⟨q, 0, none⟩), .int .i64 i] w fun e w' => e = .returned (.bool (inB E i && roomB E)) ∧ Held A QBag w0 w' p D q (copyB E i) bs :=
  h.call2 hA fun Q _ g => qcopy_any q E Q i w g.a ok.len
theorem Held.qDrop (hA : Lawful A) (h : Held A QBag w0 w p D q E bs) (ok : OkB E) (i : Int) :
    Calls Try.prog 18 #[.pointer (some ⟨q, 0, none⟩), .int .i64 i] w fun e w' => e = .returned (.bool (inB E i)) ∧ Held A QBag w0 w' p D q (takeB E i) bs :=
  h.call2 hA fun Q _ g => qdrop_any q E Q i w g.a ok.len
theorem Held.qLook (hA : Lawful A) (h : Held A QBag w0 w p D q E bs) (i : Int) :
    Calls Try.prog 20 #[.pointer (some ⟨q, 0, none⟩), .int .i64 i] w fun e w' => e = .returned (.tuple #[.string (S (lookB E i)), .bool (inB E i)]) ∧ Below w.heap.size w w' ∧ Held A QBag w0 w' p D q E bs :=
  h.read2 hA qbag_law fun _ ⟨v, _, g⟩ => (qlook_any q v E i w g).mono fun _ _ ⟨h1, h2⟩ => ⟨h1, h2 ▸ Below.refl _ _⟩
theorem Held.qLen (hA : Lawful A) (h : Held A QBag w0 w p D q E bs) :
    Calls Try.prog 10 #[.pointer (some ⟨q, 0, none⟩)] w fun e w' => e = .returned (.int .i64 (E.length : Int)) ∧ Below w.heap.size w w' ∧ Held A QBag w0 w' p D q E bs :=
  h.read2 hA qbag_law fun _ ⟨v, _, g⟩ => (qlen_any q v E w g).mono fun _ _ ⟨h1, h2⟩ => ⟨h1, h2 ▸ Below.refl _ _⟩
end
end Go.Proofs.Ytgjpndloeegamaa
