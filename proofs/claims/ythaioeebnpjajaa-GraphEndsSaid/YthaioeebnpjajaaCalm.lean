/-
  A region that draws its order and whose operations read and call what leaves a class of worlds: the library's law at that class, one walk in the text's order.
-/
import Derived.Test.YthaioeebnpjajaaBase
import Derived.Deep.QuietTactic
namespace Go.Proofs.Ythaioeebnpjajaa

theorem region_calm {P : Program} {id : Nat} {Q : Exit → Act → World → Prop} {a : Act} {w : World} {l : List Oper} (C : World → Prop) (hm : P.follows .mixedOrders = true) (hB : Region.lexB .any l.toArray = true) (hC : C w.drew)
    (h : wpQuiet P l.toArray C (fun a' => ∀ w', C w' → Q .normal a' w') l a) : (Code.region id l.toArray true).wp P Q a w :=
  wp_region_quiet (C := C) hm hB hC (by simpa using h)

theorem calm_pos {P : Program} {o : Oper} {a : Act} {C : World → Prop} {K : Act → Prop} {b : Bool} (v : Value) (hb : b = true) (h : ∀ W, C W → o.quietAt P a C W v) (hk : K (a.put o.dst v)) : if b then o.quiet P a C K else K (a.put o.dst undef) := by
  rw [if_pos hb]; exact ⟨v, h, hk⟩
theorem calm_neg {P : Program} {o : Oper} {a : Act} {C : World → Prop} {K : Act → Prop} {b : Bool} (hb : b = false) (hk : K (a.put o.dst undef)) : if b then o.quiet P a C K else K (a.put o.dst undef) := by
  rw [if_neg (by rw [hb]; exact Bool.false_ne_true)]; exact hk

/-- One operation: 'facts' lays what holds in the world W of the class (hW), 'tac' closes a call. -/
macro "calm_step " "(" facts:tacticSeq ")" "(" tac:tacticSeq ")" : tactic => `(tactic|
  (refine wpQuiet_step (fun K hK => ?_)
   first
     | (refine calm_neg ?_ ?_
        focus (go_simp; done)
        go_simp
        refine hK _ ?_
        clear hK K)
     | (apply calm_pos
        focus (go_simp; done)
        focus (
          intro $(Lean.mkIdent `W):ident $(Lean.mkIdent `hW):ident
          ($facts)
          go_simp
          first
            | done
            | exact rfl
            | ($tac))
        go_simp
        refine hK _ ?_
        clear hK K)))
macro "go_calm " "(" C:term ")" "(" hC:term ")" "(" facts:tacticSeq ")" "(" tac:tacticSeq ")" : tactic => `(tactic|
  (refine region_calm $C (by kernel_rfl) (by kernel_rfl) $hC ?_
   repeat (calm_step ($facts) ($tac))
   refine wpQuiet_nil ?_))
end Go.Proofs.Ythaioeebnpjajaa
