/-
  Scripts and binds that came in.
-/
import Derived.Test.YtbbogkmibiealaaLmem
namespace Go.Proofs.Ytbbogkmibiealaa
open Go.RowKit Gm

namespace Gm
structure ActE where
  what : Int
  ver : Int
  at_ : Int
  l : List Int
instance : Inhabited ActE := ⟨⟨0, 0, 0, []⟩⟩
end Gm

/-- THE CELLS FROM off ON OF BLOCK b ARE AN ACT. -/
def ActAt (B : Nat) (W : World) (b off : Nat) (x : ActE) : Prop :=
  (I64 x.what ∧ I64 x.ver ∧ I64 x.at_) ∧
  W.cell? ⟨b, off, none⟩ = some (.int .i64 x.what) ∧ W.cell? ⟨b, off + 1, none⟩ = some (.int .i64 x.ver) ∧ W.cell? ⟨b, off + 2, none⟩ = some (.int .i64 x.at_) ∧
  ∃ ka kl kc, W.cell? ⟨b, off + 3, none⟩ = some (.slice ka kl kc) ∧ KeepB B W ka kl x.l
/-- THE SLICE AT a HOLDS THESE ACTS, in a block below B. -/
def ActsAt (B : Nat) (W : World) (a : Option Addr) (len : Nat) (l : List ActE) : Prop :=
  l.length = len ∧ len ≤ 140737488351232 ∧ ∃ b off, (len = 0 ∨ a = some ⟨b, off, none⟩) ∧ ∀ i (h : i < l.length), b < B ∧ ActAt B W b (off + i * 4) l[i]
theorem ActAt.below {B : Nat} {W W' : World} {b off : Nat} {x : ActE} (h : ActAt B W b off x) (hb : Below B W W') (hl : b < B) : ActAt B W' b off x := by
  obtain ⟨h0, c0, c1, c2, ka, kl, kc, c3, hk⟩ := h
  exact ⟨h0, (hb.cell (p := ⟨b, off, none⟩) hl).trans c0, (hb.cell (p := ⟨b, off + 1, none⟩) hl).trans c1, (hb.cell (p := ⟨b, off + 2, none⟩) hl).trans c2, ka, kl, kc, (hb.cell (p := ⟨b, off + 3, none⟩) hl).trans c3, hk.below hb⟩
theorem ActsAt.below {B : Nat} {W W' : World} {a : Option Addr} {len : Nat} {l : List ActE} (h : ActsAt B W a len l) (hb : Below B W W') : ActsAt B W' a len l := by
  obtain ⟨h0, hm, b, off, h1, h2⟩ := h
  exact ⟨h0, hm, b, off, h1, fun i hi => ⟨(h2 i hi).1, (h2 i hi).2.below hb (h2 i hi).1⟩⟩
/-- THE SLICE AT a HOLDS THESE BINDS, in a block below B. -/
def BindsB (B : Nat) (W : World) (a : Option Addr) (len : Nat) (l : List Bd) : Prop :=
  l.length = len ∧ len ≤ 140737488351232 ∧ ∃ b off, (len = 0 ∨ a = some ⟨b, off, none⟩) ∧ ∀ i (h : i < l.length), b < B ∧ (I64 l[i].cnt ∧ l[i].work.length ≤ 140737488351232 ∧ l[i].node.length ≤ 140737488351232) ∧
    W.cell? ⟨b, off + i * 3, none⟩ = some (.string (S l[i].work)) ∧ W.cell? ⟨b, off + i * 3 + 1, none⟩ = some (.string (S l[i].node)) ∧ W.cell? ⟨b, off + i * 3 + 2, none⟩ = some (.int .i64 l[i].cnt)
theorem BindsB.below {B : Nat} {W W' : World} {a : Option Addr} {len : Nat} {l : List Bd} (h : BindsB B W a len l) (hb : Below B W W') : BindsB B W' a len l := by
  obtain ⟨h0, hm, b, off, h1, h2⟩ := h
  refine ⟨h0, hm, b, off, h1, fun i hi => ?_⟩
  obtain ⟨k1, k2, k3, k4, k5⟩ := h2 i hi
  exact ⟨k1, k2, (hb.cell (p := ⟨b, off + i * 3, none⟩) k1).trans k3, (hb.cell (p := ⟨b, off + i * 3 + 1, none⟩) k1).trans k4, (hb.cell (p := ⟨b, off + i * 3 + 2, none⟩) k1).trans k5⟩
end Go.Proofs.Ytbbogkmibiealaa
