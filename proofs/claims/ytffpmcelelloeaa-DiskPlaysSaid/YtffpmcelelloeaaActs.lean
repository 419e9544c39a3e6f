/-
  Scripts and texts that came in.
-/
import Derived.Test.YtffpmcelelloeaaHelp
namespace Go.Proofs.Ytffpmcelelloeaa
open Go.RowKit Gm

namespace Gm
structure ActE where
  what : Int
  file : Int
  other : Int
  n : Int
  text : Bs
  keep : List Int
instance : Inhabited ActE := ⟨⟨0, 0, 0, 0, [], []⟩⟩
end Gm

/-- THE CELLS FROM off ON OF BLOCK b ARE AN ACT. -/
def ActAt (B : Nat) (W : World) (b off : Nat) (x : ActE) : Prop :=
  (I64 x.what ∧ I64 x.file ∧ I64 x.other ∧ I64 x.n ∧ x.text.length ≤ 140737488351232) ∧
  W.cell? ⟨b, off, none⟩ = some (.int .i64 x.what) ∧ W.cell? ⟨b, off + 1, none⟩ = some (.int .i64 x.file) ∧ W.cell? ⟨b, off + 2, none⟩ = some (.int .i64 x.other) ∧ W.cell? ⟨b, off + 3, none⟩ = some (.int .i64 x.n) ∧
  W.cell? ⟨b, off + 4, none⟩ = some (.string (S x.text)) ∧ ∃ ka kl kc, W.cell? ⟨b, off + 5, none⟩ = some (.slice ka kl kc) ∧ KeepB B W ka kl x.keep
/-- THE SLICE AT a HOLDS THESE ACTS, in a block below B. -/
def ActsAt (B : Nat) (W : World) (a : Option Addr) (len : Nat) (l : List ActE) : Prop :=
  l.length = len ∧ len ≤ 140737488351232 ∧ ∃ b off, (len = 0 ∨ a = some ⟨b, off, none⟩) ∧ ∀ i (h : i < l.length), b < B ∧ ActAt B W b (off + i * 6) l[i]
theorem ActAt.below {B : Nat} {W W' : World} {b off : Nat} {x : ActE} (h : ActAt B W b off x) (hb : Below B W W') (hl : b < B) : ActAt B W' b off x := by
  obtain ⟨h0, c0, c1, c2, c3, c4, ka, kl, kc, c5, hk⟩ := h
  exact ⟨h0, (hb.cell (p := ⟨b, off, none⟩) hl).trans c0, (hb.cell (p := ⟨b, off + 1, none⟩) hl).trans c1, (hb.cell (p := ⟨b, off + 2, none⟩) hl).trans c2, (hb.cell (p := ⟨b, off + 3, none⟩) hl).trans c3, (hb.cell (p := ⟨b, off + 4, none⟩) hl).trans c4, ka, kl, kc, (hb.cell (p := ⟨b, off + 5, none⟩) hl).trans c5, hk.below hb⟩
theorem ActsAt.below {B : Nat} {W W' : World} {a : Option Addr} {len : Nat} {l : List ActE} (h : ActsAt B W a len l) (hb : Below B W W') : ActsAt B W' a len l := by
  obtain ⟨h0, hm, b, off, h1, h2⟩ := h
  exact ⟨h0, hm, b, off, h1, fun i hi => ⟨(h2 i hi).1, (h2 i hi).2.below hb (h2 i hi).1⟩⟩
/-- THE SLICE AT a HOLDS THESE TEXTS, in a block below B. -/
def TextsAt (B : Nat) (W : World) (a : Option Addr) (len : Nat) (l : List Bs) : Prop :=
  l.length = len ∧ len ≤ 140737488351232 ∧ ∃ b off, (len = 0 ∨ a = some ⟨b, off, none⟩) ∧ ∀ i (h : i < l.length), b < B ∧ l[i].length ≤ 140737488351232 ∧ W.cell? ⟨b, off + i, none⟩ = some (.string (S l[i]))
theorem TextsAt.below {B : Nat} {W W' : World} {a : Option Addr} {len : Nat} {l : List Bs} (h : TextsAt B W a len l) (hb : Below B W W') : TextsAt B W' a len l := by
  obtain ⟨h0, hm, b, off, h1, h2⟩ := h
  exact ⟨h0, hm, b, off, h1, fun i hi => ⟨(h2 i hi).1, (h2 i hi).2.1, (hb.cell (p := ⟨b, off + i, none⟩) (h2 i hi).1).trans (h2 i hi).2.2⟩⟩
end Go.Proofs.Ytffpmcelelloeaa
