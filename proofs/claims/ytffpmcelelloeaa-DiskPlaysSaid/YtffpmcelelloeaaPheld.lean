/-
  The program's disk among two: each of its methods by one law.
-/
import Derived.Test.YtffpmcelelloeaaPd
namespace Go.Proofs.Ytffpmcelelloeaa
open Go.RowKit Gm

section
variable {B : Kind} {w0 w : World} {p q : Nat} {D E : Dk} {bs : List (Nat × Obj)}
theorem Held.pNew {x : Nat} {X : Dk} (hB : Lawful B) (h : Held Nobody B w0 w x X q E bs) :
    Calls Try.prog 10 #[] w fun e w' => ∃ p, e = .returned (.pointer (some ⟨p, 0, none⟩)) ∧ Held PDisk B w0 w' p newD q E bs :=
  (new_any w).mono fun _ _ ⟨p, _, h1, h2, h3, h4⟩ => ⟨p, h1, h.made hB h2 h3 h4⟩
theorem Held.pAppend (hB : Lawful B) (h : Held PDisk B w0 w p D q E bs) (k s : Bs) (ha : D.acts ≤ 1099511627776) (hk : k.length ≤ 1048576) (hs : s.length ≤ 1048576) :
    Calls Try.prog 14 #[.pointer (some ⟨p, 0, none⟩), .string (S k), .string (S s)] w fun e w' => e = .returned (.int .i64 (appendD D k s).2) ∧ Held PDisk B w0 w' p (appendD D k s).1 q E bs :=
  h.call hB fun R _ g => append_any p D R k s w g.a ha hk hs
theorem Held.pSync (hB : Lawful B) (h : Held PDisk B w0 w p D q E bs) (k : Bs) (ha : D.acts ≤ 1099511627776) (hk : k.length ≤ 1048576) :
    Calls Try.prog 16 #[.pointer (some ⟨p, 0, none⟩), .string (S k)] w fun e w' => e = .returned (.int .i64 (syncD D k).2) ∧ Held PDisk B w0 w' p (syncD D k).1 q E bs :=
  h.call hB fun R _ g => sync_any p D R k w g.a ha hk
theorem Held.pRename (hB : Lawful B) (h : Held PDisk B w0 w p D q E bs) (k j : Bs) (ha : D.acts ≤ 1099511627776) (hk : k.length ≤ 1048576) (hj : j.length ≤ 1048576) :
    Calls Try.prog 18 #[.pointer (some ⟨p, 0, none⟩), .string (S k), .string (S j)] w fun e w' => e = .returned (.int .i64 (renameD D k j).2) ∧ Held PDisk B w0 w' p (renameD D k j).1 q E bs :=
  h.call hB fun R _ g => rename_any p D R k j w g.a ha hk hj
theorem Held.pRemove (hB : Lawful B) (h : Held PDisk B w0 w p D q E bs) (k : Bs) (ha : D.acts ≤ 1099511627776) (hk : k.length ≤ 1048576) :
    Calls Try.prog 20 #[.pointer (some ⟨p, 0, none⟩), .string (S k)] w fun e w' => e = .returned (.int .i64 (removeD D k).2) ∧ Held PDisk B w0 w' p (removeD D k).1 q E bs :=
  h.call hB fun R _ g => remove_any p D R k w g.a ha hk
theorem Held.pArm (hB : Lawful B) (h : Held PDisk B w0 w p D q E bs) (n : Int) (ha : D.acts ≤ 1099511627776) (hn : I64 n) :
    Calls Try.prog 22 #[.pointer (some ⟨p, 0, none⟩), .int .i64 n] w fun e w' => e = .returned (.int .i64 (armD D n).2) ∧ Held PDisk B w0 w' p (armD D n).1 q E bs :=
  h.call hB fun R _ g => arm_any p D R n w g.a ha hn
/-- Restart with numbers that came in. -/
theorem Held.pRestart (hB : Lawful B) (h : Held PDisk B w0 w p D q E bs) {a : Option Addr} {len : Nat} {keep : List Int} (cap : Nat) (hk : KeepB w0.heap.size w0 a len keep) :
    Calls Try.prog 24 #[.pointer (some ⟨p, 0, none⟩), .slice a len cap] w fun e w' => e = .returned (.tuple #[]) ∧ Held PDisk B w0 w' p (restartD D keep) q E bs :=
  h.call hB fun R _ g => restart_any p D R a len cap keep w g.a (hk.at g.below g.ra)
theorem Held.pRestart0 (hB : Lawful B) (h : Held PDisk B w0 w p D q E bs) (cap : Nat) :
    Calls Try.prog 24 #[.pointer (some ⟨p, 0, none⟩), .slice none 0 cap] w fun e w' => e = .returned (.tuple #[]) ∧ Held PDisk B w0 w' p (restartD D []) q E bs :=
  h.call hB fun R _ g => restart_any p D R none 0 cap [] w g.a (KeepAt.nil w R)
/-- Restart with one number of the caller's own. -/
theorem Held.pRestart1 (hB : Lawful B) {g : Nat} {t : TypeId} {x : Int} (h : Held PDisk B w0 w p D q E bs) (hg : (g, Obj.cells #[.int .i64 x] t (0, 0)) ∈ bs) (hx : I64 x) (cap : Nat) :
    Calls Try.prog 24 #[.pointer (some ⟨p, 0, none⟩), .slice (some ⟨g, 0, none⟩) 1 cap] w fun e w' => e = .returned (.tuple #[]) ∧ Held PDisk B w0 w' p (restartD D [x]) q E bs :=
  h.call hB fun R _ f => restart_any p D R _ 1 cap [x] w f.a (KeepAt.one (f.own _ hg).1 (f.own _ hg).2.1 hx)
theorem Held.pRead (hB : Lawful B) (h : Held PDisk B w0 w p D q E bs) (k : Bs) (hk : k.length ≤ 1048576) :
    Calls Try.prog 26 #[.pointer (some ⟨p, 0, none⟩), .string (S k)] w fun e w' => e = .returned (.tuple #[.string (S (readD D k).1), .int .i64 (readD D k).2]) ∧ Below w.heap.size w w' ∧ Held PDisk B w0 w' p D q E bs :=
  h.read pdisk_law hB fun R g => read_any p D R k w g hk
theorem Held.pList (hB : Lawful B) (h : Held PDisk B w0 w p D q E bs) :
    Calls Try.prog 29 #[.pointer (some ⟨p, 0, none⟩)] w fun e w' => (∃ a len cap, e = .returned (.slice a len cap) ∧ NamesAt w' a len (listD D)) ∧ Below w.heap.size w w' ∧ Held PDisk B w0 w' p D q E bs := by
  obtain ⟨R, Q, g⟩ := h
  exact (list_any p D R w g.a).mono fun e w' ⟨h1, h2⟩ => ⟨h1, h2, Held.below pdisk_law hB ⟨R, Q, g⟩ h2⟩
theorem Held.pOff (hB : Lawful B) (h : Held PDisk B w0 w p D q E bs) :
    Calls Try.prog 31 #[.pointer (some ⟨p, 0, none⟩)] w fun e w' => e = .returned (.bool D.off) ∧ Below w.heap.size w w' ∧ Held PDisk B w0 w' p D q E bs :=
  h.read pdisk_law hB fun R g => off_any p D R w g
theorem Held.pActs (hB : Lawful B) (h : Held PDisk B w0 w p D q E bs) :
    Calls Try.prog 33 #[.pointer (some ⟨p, 0, none⟩)] w fun e w' => e = .returned (.int .i64 D.acts) ∧ Below w.heap.size w w' ∧ Held PDisk B w0 w' p D q E bs :=
  h.read pdisk_law hB fun R g => acts_any p D R w g
end
end Go.Proofs.Ytffpmcelelloeaa
