/-
  A script in memory; texts; binds of two kinds of blocks.
-/
import Derived.Test.YtgjpndloeegamaaBmem
namespace Go.Proofs.Ytgjpndloeegamaa
open Go.RowKit Gm

namespace Gm
structure ActE where
  what : Int
  at_ : Int
  near : Bool
  text : Bs
instance : Inhabited ActE := ⟨⟨0, 0, false, []⟩⟩
end Gm
/-- THE SLICE AT a HOLDS THIS SCRIPT, in a block below B. -/
def ActsAt (B : Nat) (W : World) (a : Option Addr) (len : Nat) (l : List ActE) : Prop :=
  l.length = len ∧ len ≤ 140737488351232 ∧ ∃ b off, (len = 0 ∨ a = some ⟨b, off, none⟩) ∧ ∀ i (h : i < l.length), b < B ∧ (I64 l[i].what ∧ I64 l[i].at_ ∧ l[i].text.length ≤ 140737488351232) ∧
    W.cell? ⟨b, off + i * 4, none⟩ = some (.int .i64 l[i].what) ∧ W.cell? ⟨b, off + i * 4 + 1, none⟩ = some (.int .i64 l[i].at_) ∧ W.cell? ⟨b, off + i * 4 + 2, none⟩ = some (.bool l[i].near) ∧ W.cell? ⟨b, off + i * 4 + 3, none⟩ = some (.string (S l[i].text))
theorem ActsAt.below {B : Nat} {W W' : World} {a : Option Addr} {len : Nat} {l : List ActE} (h : ActsAt B W a len l) (hb : Below B W W') : ActsAt B W' a len l := by
  obtain ⟨h0, hm, b, off, h1, h2⟩ := h
  refine ⟨h0, hm, b, off, h1, fun i hi => ?_⟩
  obtain ⟨k1, k2, k3, k4, k5, k6⟩ := h2 i hi
  exact ⟨k1, k2, (hb.cell (p := ⟨b, off + i * 4, none⟩) k1).trans k3, (hb.cell (p := ⟨b, off + i * 4 + 1, none⟩) k1).trans k4, (hb.cell (p := ⟨b, off + i * 4 + 2, none⟩) k1).trans k5, (hb.cell (p := ⟨b, off + i * 4 + 3, none⟩) k1).trans k6⟩
/-- THE SLICE AT a HOLDS THESE TEXTS, in a block below B. -/
def TextsAt (B : Nat) (W : World) (a : Option Addr) (len : Nat) (l : List Bs) : Prop :=
  l.length = len ∧ len ≤ 140737488351232 ∧ ∃ b off, (len = 0 ∨ a = some ⟨b, off, none⟩) ∧ ∀ i (h : i < l.length), b < B ∧ l[i].length ≤ 140737488351232 ∧ W.cell? ⟨b, off + i, none⟩ = some (.string (S l[i]))
theorem TextsAt.below {B : Nat} {W W' : World} {a : Option Addr} {len : Nat} {l : List Bs} (h : TextsAt B W a len l) (hb : Below B W W') : TextsAt B W' a len l := by
  obtain ⟨h0, hm, b, off, h1, h2⟩ := h
  exact ⟨h0, hm, b, off, h1, fun i hi => ⟨(h2 i hi).1, (h2 i hi).2.1, (hb.cell (p := ⟨b, off + i, none⟩) (h2 i hi).1).trans (h2 i hi).2.2⟩⟩
theorem cells4 {W : World} {g : Nat} {v0 v1 v2 v3 : Value} {t : TypeId} (h : W.heap[g]? = some (.cells #[v0, v1, v2, v3] t (0, 0))) : W.cell? ⟨g, 0, none⟩ = some v0 ∧ W.cell? ⟨g, 1, none⟩ = some v1 ∧ W.cell? ⟨g, 2, none⟩ = some v2 ∧ W.cell? ⟨g, 3, none⟩ = some v3 :=
  ⟨cell_of_row _ _ _ _ _ _ h, cell_of_row _ _ _ _ _ _ h, cell_of_row _ _ _ _ _ _ h, cell_of_row _ _ _ _ _ _ h⟩
end Go.Proofs.Ytgjpndloeegamaa
