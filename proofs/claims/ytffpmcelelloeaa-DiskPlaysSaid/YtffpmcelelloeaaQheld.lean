/-
  The document's own disk as the second of two: each of its methods by one law.
-/
import Derived.Test.YtffpmcelelloeaaQapp
import Derived.Test.YtffpmcelelloeaaQarm
import Derived.Test.YtffpmcelelloeaaQlist
import Derived.Test.YtffpmcelelloeaaQrest
namespace Go.Proofs.Ytffpmcelelloeaa
open Go.RowKit Gm

section
variable {A : Kind} {w0 w : World} {p q : Nat} {D E : Dk} {bs : List (Nat × Obj)}
theorem Held.qNew {x : Nat} {X : Dk} (hA : Lawful A) (h : Held A Nobody w0 w p D x X bs) :
    Calls Try.prog 11 #[] w fun e w' => ∃ q, e = .returned (.pointer (some ⟨q, 0, none⟩)) ∧ Held A QDisk w0 w' p D q newD bs :=
  (qnew_any w).mono fun _ _ ⟨h1, h2, h3⟩ => ⟨_, h1, (h.swap.made hA (A := QDisk) (R' := fun b => b = w.heap.size ∨ (Value.slice none 0 0).ownBlock = some b) ⟨OkD.new, _, fun _ => Iff.rfl, h2⟩ (fun b e => by
    rcases e with e | e
    · omega
    · simp [Value.ownBlock] at e) h3).swap⟩
theorem Held.qAppend (hA : Lawful A) (h : Held A QDisk w0 w p D q E bs) (k s : Bs) (ha : E.acts ≤ 1099511627776) (hk : k.length ≤ 1048576) (hs : s.length ≤ 1048576) :
    Calls Try.prog 15 #[.pointer (some ⟨q, 0, none⟩), .string (S k), .string (S s)] w fun e w' => e = .returned (.int .i64 (appendD E k s).2) ∧ Held A QDisk w0 w' p D q (appendD E k s).1 bs :=
  h.call2 hA fun Q _ g => qappend_any q E Q k s w g.a ha hk hs
theorem Held.qSync (hA : Lawful A) (h : Held A QDisk w0 w p D q E bs) (k : Bs) (ha : E.acts ≤ 1099511627776) :
    Calls Try.prog 17 #[.pointer (some ⟨q, 0, none⟩), .string (S k)] w fun e w' => e = .returned (.int .i64 (syncD E k).2) ∧ Held A QDisk w0 w' p D q (syncD E k).1 bs :=
  h.call2 hA fun Q _ g => qsync_any q E Q k w g.a ha
theorem Held.qRename (hA : Lawful A) (h : Held A QDisk w0 w p D q E bs) (k j : Bs) (ha : E.acts ≤ 1099511627776) (hj : j.length ≤ 1048576) :
    Calls Try.prog 19 #[.pointer (some ⟨q, 0, none⟩), .string (S k), .string (S j)] w fun e w' => e = .returned (.int .i64 (renameD E k j).2) ∧ Held A QDisk w0 w' p D q (renameD E k j).1 bs :=
  h.call2 hA fun Q _ g => qrename_any q E Q k j w g.a ha hj
theorem Held.qRemove (hA : Lawful A) (h : Held A QDisk w0 w p D q E bs) (k : Bs) (ha : E.acts ≤ 1099511627776) :
    Calls Try.prog 21 #[.pointer (some ⟨q, 0, none⟩), .string (S k)] w fun e w' => e = .returned (.int .i64 (removeD E k).2) ∧ Held A QDisk w0 w' p D q (removeD E k).1 bs :=
  h.call2 hA fun Q _ g => qremove_any q E Q k w g.a ha
theorem Held.qArm (hA : Lawful A) (h : Held A QDisk w0 w p D q E bs) (n : Int) (ha : E.acts ≤ 1099511627776) (hn : I64 n) :
    Calls Try.prog 23 #[.pointer (some ⟨q, 0, none⟩), .int .i64 n] w fun e w' => e = .returned (.int .i64 (armD E n).2) ∧ Held A QDisk w0 w' p D q (armD E n).1 bs :=
  h.call2 hA fun Q _ g => qarm_any q E Q n w g.a ha hn
theorem Held.qRestart (hA : Lawful A) (h : Held A QDisk w0 w p D q E bs) {a : Option Addr} {len : Nat} {keep : List Int} (cap : Nat) (hk : KeepB w0.heap.size w0 a len keep) :
    Calls Try.prog 25 #[.pointer (some ⟨q, 0, none⟩), .slice a len cap] w fun e w' => e = .returned (.tuple #[]) ∧ Held A QDisk w0 w' p D q (restartD E keep) bs :=
  h.call2 hA fun Q _ g => qrestart_any q E Q a len cap keep w g.a (hk.at g.below g.ra)
theorem Held.qRead (hA : Lawful A) (h : Held A QDisk w0 w p D q E bs) (k : Bs) :
    Calls Try.prog 27 #[.pointer (some ⟨q, 0, none⟩), .string (S k)] w fun e w' => e = .returned (.tuple #[.string (S (readD E k).1), .int .i64 (readD E k).2]) ∧ Below w.heap.size w w' ∧ Held A QDisk w0 w' p D q E bs :=
  h.read2 hA qdisk_law fun _ ⟨ok, v, _, g⟩ => (qread_any q v E k w g ok.fs.len).mono fun _ _ ⟨h1, h2⟩ => ⟨h1, h2 ▸ Below.refl _ _⟩
theorem Held.qOff (hA : Lawful A) (h : Held A QDisk w0 w p D q E bs) :
    Calls Try.prog 32 #[.pointer (some ⟨q, 0, none⟩)] w fun e w' => e = .returned (.bool E.off) ∧ Below w.heap.size w w' ∧ Held A QDisk w0 w' p D q E bs :=
  h.read2 hA qdisk_law fun _ ⟨_, v, _, g⟩ => (qoff_any q v E w g).mono fun _ _ ⟨h1, h2⟩ => ⟨h1, h2 ▸ Below.refl _ _⟩
theorem Held.qActs (hA : Lawful A) (h : Held A QDisk w0 w p D q E bs) :
    Calls Try.prog 34 #[.pointer (some ⟨q, 0, none⟩)] w fun e w' => e = .returned (.int .i64 E.acts) ∧ Below w.heap.size w w' ∧ Held A QDisk w0 w' p D q E bs :=
  h.read2 hA qdisk_law fun _ ⟨_, v, _, g⟩ => (qacts_any q v E w g).mono fun _ _ ⟨h1, h2⟩ => ⟨h1, h2 ▸ Below.refl _ _⟩
theorem Held.qList (hA : Lawful A) (h : Held A QDisk w0 w p D q E bs) :
    Calls Try.prog 30 #[.pointer (some ⟨q, 0, none⟩)] w fun e w' => (∃ a len cap, e = .returned (.slice a len cap) ∧ NamesAt w' a len (listD E)) ∧ Below w.heap.size w w' ∧ Held A QDisk w0 w' p D q E bs := by
  obtain ⟨R, Q, g⟩ := h
  obtain ⟨ok, v, _, gq⟩ := g.b
  exact (qlist_any q v E w gq ok.fs.len).mono fun e w' ⟨h1, h2⟩ => ⟨h1, h2, Held.below hA qdisk_law ⟨R, Q, g⟩ h2⟩
end
end Go.Proofs.Ytffpmcelelloeaa
