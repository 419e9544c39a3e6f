/-
  How ways lie in memory.
-/
import Derived.Test.YthchlfoebkachaaOwn
import Derived.Test.YthchlfoebkachaaNumbers7
namespace Go.Proofs.Ythchlfoebkachaa
open Go.RowKit Gm

/-- THE SLICE AT a HOLDS THE WAYS ws, and each its edges, in blocks below B. -/
def WaysAt (B : Nat) (W : World) (a : Option Addr) (len : Nat) (ws : List WayE) : Prop :=
  ws.length = len ∧ len ≤ 8796093022208 ∧ ∃ b off, (ws.length = 0 ∨ a = some ⟨b, off, none⟩) ∧ ∀ i (h : i < ws.length), b < B ∧ ∃ ea el ec, W.cell? ⟨b, off + i * 2, none⟩ = some (.slice ea el ec) ∧ FlowAt B W ea el ws[i].1 ∧ W.cell? ⟨b, off + i * 2 + 1, none⟩ = some (.int .i64 ws[i].2)
theorem WaysAt.below {B : Nat} {W W' : World} {a : Option Addr} {len : Nat} {ws : List WayE} (h : WaysAt B W a len ws) (hb : Below B W W') : WaysAt B W' a len ws := by
  obtain ⟨hl, hm, b, off, h0, h1⟩ := h
  refine ⟨hl, hm, b, off, h0, fun i hi => ?_⟩
  obtain ⟨hl, ea, el, ec, c0, hf, c1⟩ := h1 i hi
  exact ⟨hl, ea, el, ec, (hb.cell (p := ⟨b, off + i * 2, none⟩) hl).trans c0, hf.below hb, (hb.cell (p := ⟨b, off + i * 2 + 1, none⟩) hl).trans c1⟩
theorem WaysAt.more {B B' : Nat} {W : World} {a : Option Addr} {len : Nat} {ws : List WayE} (h : WaysAt B W a len ws) (hb : B ≤ B') : WaysAt B' W a len ws := by
  obtain ⟨hl, hm, b, off, h0, h1⟩ := h
  refine ⟨hl, hm, b, off, h0, fun i hi => ?_⟩
  obtain ⟨hl, ea, el, ec, c0, hf, c1⟩ := h1 i hi
  exact ⟨Nat.lt_of_lt_of_le hl hb, ea, el, ec, c0, hf.more hb, c1⟩
/-- THE SLICE AT a HOLDS LISTS OF WAYS. -/
def WayssAt (B : Nat) (W : World) (a : Option Addr) (len : Nat) (wss : List (List WayE)) : Prop :=
  wss.length = len ∧ ∃ b off, (wss.length = 0 ∨ a = some ⟨b, off, none⟩) ∧ ∀ i (h : i < wss.length), b < B ∧ ∃ wa wl wc, W.cell? ⟨b, off + i, none⟩ = some (.slice wa wl wc) ∧ WaysAt B W wa wl wss[i]
theorem WayssAt.below {B : Nat} {W W' : World} {a : Option Addr} {len : Nat} {wss : List (List WayE)} (h : WayssAt B W a len wss) (hb : Below B W W') : WayssAt B W' a len wss := by
  obtain ⟨hl, b, off, h0, h1⟩ := h
  refine ⟨hl, b, off, h0, fun i hi => ?_⟩
  obtain ⟨hl, wa, wl, wc, c0, hf⟩ := h1 i hi
  exact ⟨hl, wa, wl, wc, (hb.cell (p := ⟨b, off + i, none⟩) hl).trans c0, hf.below hb⟩
theorem WayssAt.more {B B' : Nat} {W : World} {a : Option Addr} {len : Nat} {wss : List (List WayE)} (h : WayssAt B W a len wss) (hb : B ≤ B') : WayssAt B' W a len wss := by
  obtain ⟨hl, b, off, h0, h1⟩ := h
  refine ⟨hl, b, off, h0, fun i hi => ?_⟩
  obtain ⟨hl, wa, wl, wc, c0, hf⟩ := h1 i hi
  exact ⟨Nat.lt_of_lt_of_le hl hb, wa, wl, wc, c0, hf.more hb⟩
theorem wayss_on {w4 W : World} {a : Option Addr} {len : Nat} {wss : List (List WayE)} (h : WayssAt w4.heap.size w4 a len wss) (hb : Below w4.heap.size w4 W) : WayssAt W.heap.size W a len wss := (h.below hb).more hb.size
end Go.Proofs.Ythchlfoebkachaa
