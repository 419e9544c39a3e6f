/-
  Grants and messages that came in.
-/
import Derived.Test.YtbbogkmibiealaaCfit
namespace Go.Proofs.Ytbbogkmibiealaa
open Go.RowKit Gm

/-- THE CELLS FROM off ON OF BLOCK b ARE A RAW GRANT. -/
def GrantAt (B : Nat) (W : World) (b off : Nat) (x : GrE) : Prop :=
  (I64 x.kind ∧ I64 x.cell ∧ I64 x.boot ∧ I64 x.epoch ∧ I64 x.ver ∧ I64 x.unt) ∧
  W.cell? ⟨b, off, none⟩ = some (.int .i64 x.kind) ∧ W.cell? ⟨b, off + 1, none⟩ = some (.int .i64 x.cell) ∧ W.cell? ⟨b, off + 2, none⟩ = some (.int .i64 x.boot) ∧ W.cell? ⟨b, off + 3, none⟩ = some (.int .i64 x.epoch) ∧ W.cell? ⟨b, off + 4, none⟩ = some (.int .i64 x.ver) ∧ W.cell? ⟨b, off + 5, none⟩ = some (.int .i64 x.unt) ∧
  ∃ ka kl kc, W.cell? ⟨b, off + 6, none⟩ = some (.slice ka kl kc) ∧ KeepB B W ka kl x.l
def GrantsAt (B : Nat) (W : World) (a : Option Addr) (len : Nat) (l : List GrE) : Prop :=
  l.length = len ∧ len ≤ 140737488351232 ∧ ∃ b off, (len = 0 ∨ a = some ⟨b, off, none⟩) ∧ ∀ i (h : i < l.length), b < B ∧ GrantAt B W b (off + i * 7) l[i]
theorem GrantAt.below {B : Nat} {W W' : World} {b off : Nat} {x : GrE} (h : GrantAt B W b off x) (hb : Below B W W') (hl : b < B) : GrantAt B W' b off x := by
  obtain ⟨h0, c0, c1, c2, c3, c4, c5, ka, kl, kc, c6, hk⟩ := h
  exact ⟨h0, (hb.cell (p := ⟨b, off, none⟩) hl).trans c0, (hb.cell (p := ⟨b, off + 1, none⟩) hl).trans c1, (hb.cell (p := ⟨b, off + 2, none⟩) hl).trans c2, (hb.cell (p := ⟨b, off + 3, none⟩) hl).trans c3, (hb.cell (p := ⟨b, off + 4, none⟩) hl).trans c4, (hb.cell (p := ⟨b, off + 5, none⟩) hl).trans c5, ka, kl, kc, (hb.cell (p := ⟨b, off + 6, none⟩) hl).trans c6, hk.below hb⟩
theorem GrantsAt.below {B : Nat} {W W' : World} {a : Option Addr} {len : Nat} {l : List GrE} (h : GrantsAt B W a len l) (hb : Below B W W') : GrantsAt B W' a len l := by
  obtain ⟨h0, hm, b, off, h1, h2⟩ := h
  exact ⟨h0, hm, b, off, h1, fun i hi => ⟨(h2 i hi).1, (h2 i hi).2.below hb (h2 i hi).1⟩⟩
/-- THE CELLS FROM off ON OF BLOCK b ARE A MESSAGE. -/
def MsgAt (B : Nat) (W : World) (b off : Nat) (x : Ms) : Prop :=
  (I64 x.kind ∧ I64 x.cell ∧ I64 x.boot ∧ I64 x.epoch ∧ I64 x.ver ∧ I64 x.unt) ∧
  W.cell? ⟨b, off, none⟩ = some (.int .i64 x.kind) ∧ W.cell? ⟨b, off + 1, none⟩ = some (.int .i64 x.cell) ∧ W.cell? ⟨b, off + 2, none⟩ = some (.int .i64 x.boot) ∧ W.cell? ⟨b, off + 3, none⟩ = some (.int .i64 x.epoch) ∧ W.cell? ⟨b, off + 4, none⟩ = some (.int .i64 x.ver) ∧ W.cell? ⟨b, off + 5, none⟩ = some (.int .i64 x.unt) ∧
  ∃ ka kl kc, W.cell? ⟨b, off + 6, none⟩ = some (.slice ka kl kc) ∧ BindsB B W ka kl x.l
def MsgsAt (B : Nat) (W : World) (a : Option Addr) (len : Nat) (l : List Ms) : Prop :=
  l.length = len ∧ len ≤ 140737488351232 ∧ ∃ b off, (len = 0 ∨ a = some ⟨b, off, none⟩) ∧ ∀ i (h : i < l.length), b < B ∧ MsgAt B W b (off + i * 7) l[i]
theorem MsgAt.below {B : Nat} {W W' : World} {b off : Nat} {x : Ms} (h : MsgAt B W b off x) (hb : Below B W W') (hl : b < B) : MsgAt B W' b off x := by
  obtain ⟨h0, c0, c1, c2, c3, c4, c5, ka, kl, kc, c6, hk⟩ := h
  exact ⟨h0, (hb.cell (p := ⟨b, off, none⟩) hl).trans c0, (hb.cell (p := ⟨b, off + 1, none⟩) hl).trans c1, (hb.cell (p := ⟨b, off + 2, none⟩) hl).trans c2, (hb.cell (p := ⟨b, off + 3, none⟩) hl).trans c3, (hb.cell (p := ⟨b, off + 4, none⟩) hl).trans c4, (hb.cell (p := ⟨b, off + 5, none⟩) hl).trans c5, ka, kl, kc, (hb.cell (p := ⟨b, off + 6, none⟩) hl).trans c6, hk.below hb⟩
theorem MsgsAt.below {B : Nat} {W W' : World} {a : Option Addr} {len : Nat} {l : List Ms} (h : MsgsAt B W a len l) (hb : Below B W W') : MsgsAt B W' a len l := by
  obtain ⟨h0, hm, b, off, h1, h2⟩ := h
  exact ⟨h0, hm, b, off, h1, fun i hi => ⟨(h2 i hi).1, (h2 i hi).2.below hb (h2 i hi).1⟩⟩
/-- Binds of the caller's, as the calls take them. -/
theorem bindsB_at {B : Nat} {W : World} {a : Option Addr} {len : Nat} {l : List Bd} (h : BindsB B W a len l) {P : Nat → Prop} (hP : ∀ b, b < B → P b) : BindsAt W P a len l := by
  obtain ⟨h0, _, b, off, h1, h2⟩ := h
  by_cases h3 : len = 0
  · exact ⟨h0, b, off, .inl h3, fun i hi => (h2 i hi).2.2⟩
  · rcases h1 with h1 | h1
    · exact absurd h1 h3
    · exact ⟨h0, b, off, .inr ⟨h1, hP b (h2 0 (by omega)).1⟩, fun i hi => (h2 i hi).2.2⟩
theorem bindsB_ok {B : Nat} {W : World} {a : Option Addr} {len : Nat} {l : List Bd} (h : BindsB B W a len l) (hl : len ≤ 1048576) : OkK l := by
  obtain ⟨h0, _, b, off, _, h2⟩ := h
  refine ⟨by omega, fun y hy => ?_⟩
  obtain ⟨i, hi, rfl⟩ := List.getElem_of_mem hy
  exact (h2 i hi).2.1
end Go.Proofs.Ytbbogkmibiealaa
