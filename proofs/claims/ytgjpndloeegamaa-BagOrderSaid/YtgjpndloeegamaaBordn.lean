/-
  What is left of a list of texts: the numbers of BagOrder.
-/
import Derived.Test.YtgjpndloeegamaaBn
namespace Go.Proofs.Ytgjpndloeegamaa.Gm

def segB (z : List Bs) (i out : Nat) : List Bs := (z.take i).drop out
theorem seg_len {z : List Bs} {i out : Nat} (h : i ≤ z.length) : (segB z i out).length = i - out := by
  unfold segB
  rw [List.length_drop, List.length_take]
  omega
theorem seg_send {z : List Bs} {i out : Nat} (h : i < z.length) (ho : out ≤ i) (h64 : i < 64) : sendB (segB z i out) z[i] = segB z (i + 1) out := by
  rw [send_yes (by rw [seg_len (by omega)]; omega)]
  unfold segB
  rw [List.take_succ_eq_append_getElem h, List.drop_append_of_le_length (by rw [List.length_take]; omega)]
theorem seg_room {z : List Bs} {i out : Nat} (h : i ≤ z.length) (h64 : i < 64) : roomB (segB z i out) = true := room_yes (by rw [seg_len h]; omega)
theorem seg_in {z : List Bs} {i out : Nat} (h : i ≤ z.length) (ho : out < i) : inB (segB z i out) 0 = true := in_at _ (k := 0) (by rw [seg_len h]; omega)
theorem seg_look {z : List Bs} {i out : Nat} (h : i ≤ z.length) (ho : out < i) (ho2 : out < z.length) : lookB (segB z i out) 0 = z[out] := by
  have := look_at (segB z i out) (k := 0) (by rw [seg_len h]; omega)
  rw [show ((0 : Nat) : Int) = 0 from rfl] at this
  rw [this]
  unfold segB
  rw [List.getElem_drop, List.getElem_take]
  simp
theorem seg_take {z : List Bs} {i out : Nat} (h : i ≤ z.length) (ho : out < i) : takeB (segB z i out) 0 = segB z i (out + 1) := by
  have := take_at (segB z i out) (k := 0) (by rw [seg_len h]; omega)
  rw [show ((0 : Nat) : Int) = 0 from rfl] at this
  rw [this]
  unfold cutB segB
  rw [List.take_zero, List.nil_append, List.drop_drop]
theorem seg_ok {z : List Bs} {i out : Nat} (h : i ≤ z.length) (h64 : i ≤ 64) (hz : ∀ x ∈ z, x.length ≤ 140737488351232) : OkB (segB z i out) :=
  ⟨by rw [seg_len h]; omega, fun x hx => hz x (List.mem_of_mem_take (List.mem_of_mem_drop hx))⟩
theorem seg_nil (z : List Bs) : segB z 0 0 = [] := by unfold segB; simp
end Go.Proofs.Ytgjpndloeegamaa.Gm
