/-
  '[]byte(s)': the bytes of a text in a block of its own.
-/
import Derived.Lib.ConvBytes
import Derived.Test.YtbbogkmibiealaaTexts
namespace Go.Proofs.Ytbbogkmibiealaa
open Go.RowKit

theorem bytes_of (l : List UInt8) (w : World) : ∃ cap w1, (convert 9 69 (.string (S l))).run Try.prog w = .ok (.slice (some ⟨w.heap.size, 0, none⟩) l.length cap) w1
    ∧ Below w.heap.size w w1 ∧ w1.heap.size = w.heap.size + 1 ∧ l.length ≤ cap ∧ (∀ j (h : j < l.length), w1.cell? ⟨w.heap.size, j, none⟩ = some (.int .u8 (l[j].toNat : Int))) ∧ (∀ j, j < l.length → w1.frozen? ⟨w.heap.size, j, none⟩ = false) := by
  have hat := Lib.bytesWorld_at_new w 5 (S l)
  have hsz := S_size l
  have hcs : (Lib.bytesCells w 5 (S l)).size = l.length + (grownCap w l.length 0 5 - l.length) := by unfold Lib.bytesCells; rw [hsz]; simp [S]
  refine ⟨grownCap w l.length 0 5, Lib.bytesWorld w 5 (S l), ?_, ⟨rfl, rfl, rfl, ?_, fun k hk => Lib.bytesWorld_at_old w 5 (S l) k hk⟩, Lib.bytesWorld_size _ _ _, ?_, ?_, ?_⟩
  · have e := Lib.run_convert_string_bytes (P := Try.prog) w 9 69 5 (S l) (u := .string) Try.underlying9 Try.underlying69 Try.underlying5
    rw [hsz] at e
    exact e
  · rw [Lib.bytesWorld_size]; omega
  · exact grownCap_ge w l.length 0 5
  · intro j h
    have e := Lib.bytesWorld_cell w 5 (S l) j (by rw [hsz]; exact h)
    rw [S_list, List.getD_eq_getElem?_getD, List.getElem?_eq_getElem h] at e
    exact e
  · intro j h
    simp [World.frozen?, hat, hcs]
    omega

/-- The block b begins with these bytes. -/
def BytesAt (W : World) (b : Nat) (l : List UInt8) : Prop := ∀ j (h : j < l.length), W.cell? ⟨b, j, none⟩ = some (.int .u8 (l[j].toNat : Int))
end Go.Proofs.Ytbbogkmibiealaa
