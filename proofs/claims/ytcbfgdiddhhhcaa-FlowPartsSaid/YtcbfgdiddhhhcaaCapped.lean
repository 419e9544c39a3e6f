/-
  A network that came in has no more edges than there is room for.
-/
import Derived.Test.YtcbfgdiddhhhcaaOpen
namespace Go.Proofs.Ytcbfgdiddhhhcaa
open Go.ChangeShapes Go.WideShapes Go.ChangeAt Go.RowKit Go.Joins Gm

theorem cap_of {H : Type} {enc : TypeId × Value → H} {W : World} {r : Reach} {b0 : Nat} {n : Int} {a : Option Addr} {len cap : Nat} {d : DataW H} {ps : List MemPlace} (hv : Value.okWide Try.prog W r b0 24 (netV n a len cap))
    (h : DataW.Trod enc Try.prog W 0 (fun _ => true) true 24 (netV n a len cap) d ps) : len ≤ cap := by
  obtain ⟨v0, v1, y0, y1, k, he, rfl, _, h0, h1⟩ := open_agg2 Try.underlying24 (by kernel_rfl) (by kernel_rfl) hv h
  have e1 : v1 = .slice a len cap := by
    injection he with he
    simp at he
    exact he.2.symm
  subst e1
  rcases Deep.open_slice Try.underlying22 h1 with ⟨hcs, _⟩ | ⟨x, l, c, m, n, D, Pl, hcs, _, hl, hm, hmm, hx, hel⟩
  · simp at hcs
    omega
  · simp at hcs
    have hmc : m = c := by simpa using hmm
    omega
end Go.Proofs.Ytcbfgdiddhhhcaa
