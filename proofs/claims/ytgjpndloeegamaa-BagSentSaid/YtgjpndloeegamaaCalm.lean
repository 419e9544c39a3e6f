/-
  A region that draws its order and whose operations read and call what leaves a class of worlds: the library's law at that class, one walk in the text's order.
-/
import Derived.Test.YtgjpndloeegamaaBase
import Derived.Deep.QuietTactic
namespace Go.Proofs.Ytgjpndloeegamaa

theorem region_calm {P : Program} {id : Nat} {Q : Exit → Act → World → Prop} {a : Act} {w : World} {l : List Oper} (C : World → Prop) (hm : P.follows .mixedOrders = true) (hB : Region.lexB .any l.toArray = true) (hC : C w.drew)
    (h : wpQuiet P l.toArray C (fun a' => ∀ w', C w' → Q .normal a' w') l a) : (Code.region id l.toArray true).wp P Q a w :=
  wp_region_quiet (C := C) hm hB hC (by simpa using h)

theorem calm_pos {P : Program} {o : Oper} {a : Act} {C : World → Prop} {K : Act → Prop} {b : Bool} (v : Value) (hb : b = true) (h : ∀ W, C W → o.quietAt P a C W v) (hk : K (a.put o.dst v)) : if b then o.quiet P a C K else K (a.put o.dst undef) := by
  rw [if_pos hb]; exact ⟨v, h, hk⟩
theorem calm_neg {P : Program} {o : Oper} {a : Act} {C : World → Prop} {K : Act → Prop} {b : Bool} (hb : b = false) (hk : K (a.put o.dst undef)) : if b then o.quiet P a C K else K (a.put o.dst undef) := by
  rw [if_neg (by rw [hb]; exact Bool.false_ne_true)]; exact hk

end Go.Proofs.Ytgjpndloeegamaa
