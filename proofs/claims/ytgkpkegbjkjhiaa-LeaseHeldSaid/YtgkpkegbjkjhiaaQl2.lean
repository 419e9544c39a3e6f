/-
  The document's own book: Sent, Learn.
-/
import Derived.Test.YtgkpkegbjkjhiaaQl
namespace Go.Proofs.Ytgkpkegbjkjhiaa
open Go.RowKit Gm

theorem wpList_append_any {w : World} {ops : Array Oper} {rest : List Oper} {o : Oper} {a : Act} {Q : Exit → Act → World → Prop} (hgd : o.guard = none) (s x : Operand) (t tx : TypeId)
    (ho : o.op = .call { callee := .builtin .append, args := #[s, x], argTypes := #[t, tx] }) (v xv v' : Value) (w' : World) (hs : a.eval s = v) (hx : a.eval x = xv)
    (hr : ∀ ty, (Builtin.append_ #[t, tx] ty #[v, xv]).run Try.prog w = .ok v' w') (h : wpList Try.prog ops Q rest (a.put o.dst v') w') : wpList Try.prog ops Q (o :: rest) a w :=
  wpList_plain hgd fun _ hK => by
    unfold Oper.wp execOp
    simp only [ho, resolve, invoke, builtin, Sem.run_bind, Sem.run_pure, Result.andThen_ok, List.map_toArray, List.map_cons, List.map_nil, hs, hx, hr]
    exact hK _ _ h
theorem bdC_one (l : List Bd) : ∀ u ∈ bdsV l, u.oneCell' = true := by
  intro u hu
  obtain ⟨f, _, hf⟩ := List.mem_flatMap.1 hu
  simp at hf
  rcases hf with rfl | rfl | rfl <;> rfl
theorem bds_cells {W : World} {b off : Nat} {l : List Bd} (h : ∀ i (h : i < l.length), W.cell? ⟨b, off + i * 3, none⟩ = some (.string (S l[i].work)) ∧ W.cell? ⟨b, off + i * 3 + 1, none⟩ = some (.string (S l[i].node)) ∧ W.cell? ⟨b, off + i * 3 + 2, none⟩ = some (.int .i64 l[i].cnt)) :
    ∀ j u, (bdsV l)[j]? = some u → W.cell? ((⟨b, off, none⟩ : Addr).add j) = some u := by
  intro j u hj
  have hjl : j < l.length * 3 := by rw [← bdsV_len]; exact (List.getElem?_eq_some_iff.1 hj).1
  have hi : j / 3 < l.length := by omega
  have hadd : (⟨b, off, none⟩ : Addr).add j = ⟨b, off + j, none⟩ := by unfold Addr.add; split <;> simp_all
  obtain ⟨f0, f1, f2⟩ := bdsV_at l (j / 3) hi
  obtain ⟨k0, k1, k2⟩ := h (j / 3) hi
  rw [hadd]
  rcases (show j = j / 3 * 3 ∨ j = j / 3 * 3 + 1 ∨ j = j / 3 * 3 + 2 by omega) with e | e | e
  · rw [e] at hj ⊢
    rw [f0] at hj; rw [← hj]; exact k0
  · have e' : off + j = off + j / 3 * 3 + 1 := by omega
    rw [e'] ; rw [e, show (j / 3 * 3 + 1) = j / 3 * 3 + 1 from rfl, f1] at hj; rw [← hj]; exact k1
  · have e' : off + j = off + j / 3 * 3 + 2 := by omega
    rw [e'] ; rw [e, f2] at hj; rw [← hj]; exact k2
theorem gbt' {A B C : World} {row : Option Nat} (h : A.grownBy B row) (k : B.grownBy C row) : A.grownBy C row :=
  ⟨k.os.trans h.os, k.tape.trans h.tape, k.output.trans h.output, Nat.le_trans h.size k.size, fun j hj hr => (k.block j (Nat.lt_of_lt_of_le hj h.size) hr).trans (h.block j hj hr)⟩
theorem gbb' {A B : World} {row : Option Nat} (h : Below A.heap.size A B) : A.grownBy B row := ⟨h.os, h.tape, h.output, h.size, fun j hj _ => h.block j hj⟩
/-- 'append(own, l...)' to none. -/
theorem append_binds {w : World} {P : Nat → Prop} {a : Option Addr} {len cap : Nat} {l : List Bd} (h : BindsAt w P a len l) (hl : len ≤ 1048576) :
    ∃ v' w', (∀ ty, (Builtin.append_ #[23, 23] ty #[.slice none 0 0, .slice a len cap]).run Try.prog w = .ok v' w') ∧ w'.ownsRow w.heap.size 39 3 v' l.length (bdsV l) ∧ w.grownBy w' none := by
  obtain ⟨i0, hi0, hz0, hz1, hz2⟩ := info_parts infoBd
  obtain ⟨h0, b, off, h1, h2⟩ := h
  by_cases hn : len = 0
  · subst hn
    have : l = [] := List.eq_nil_of_length_eq_zero h0
    subst this
    refine ⟨.slice none 0 0, w, fun ty => ?_, World.ownsRow_nil _ _ _ _, World.grownBy.refl w _⟩
    cases a <;> simp [Builtin.append_, run_underlying Try.underlying23, sizeOf, typeInfo, hi0, Builtin.lenOf, Builtin.firstCells, loadCells, loadCellsFrom]
  · have ha : a = some ⟨b, off, none⟩ := by
      rcases h1 with h | h
      · exact absurd h hn
      · exact h.1
    subst ha
    have hr := fun ty => run_append_own (P := Try.prog) w w.heap.size 23 ty 39 i0 _ 3 40 Try.underlying23 hi0 hz0 hz1 hz2 rfl (by decide) (.slice none 0 0) 0 [] (World.ownsRow_nil _ _ _ _) ⟨b, off, none⟩ len cap (bdsV l) (by rw [bdsV_len, h0]) (bds_cells h2) (bdC_one l) (by unfold maxLen; omega) (by omega) (Nat.le_refl _)
    obtain ⟨v', w', h3, h4, h5, _⟩ := hr 0
    have h3' : ∀ ty, (Builtin.append_ #[23, 23] ty #[.slice none 0 0, .slice (some ⟨b, off, none⟩) len cap]).run Try.prog w = .ok v' w' := fun ty => h3
    refine ⟨v', w', h3', ?_, h5⟩
    rw [Nat.zero_add, List.nil_append, ← h0] at h4
    exact h4
/-- A grant more. -/
theorem QAt.pushed {w wc : World} {p : Nat} {v v' ov : Value} {gx : GX} {D : Bk} (h : QAt w p v gx D) {x : Gr} (hb : w.grownBy wc v.ownBlock) (hr : wc.ownsRow 0 61 3 v' (gx.length + 1) (gxV gx ++ gxC (x, ov))) (ho : wc.ownsRow 0 39 3 ov x.l.length (bdsV x.l)) :
    QAt (wc.setCell ⟨p, 2, none⟩ v') p v' (gx ++ [(x, ov)]) { D with g := D.g ++ [x] } := by
  obtain ⟨f1, f2⟩ := h.far
  have hp : wc.heap[p]? = some (.cells #[.bool D.unknown, .int .i64 D.to, v] 55 (0, 0)) := (hb.block p (h.lt (.inl rfl)) fun e => f1 e.symm).trans h.blk
  have hne : ∀ {e : TypeId} {size n : Nat} {u : Value} {xs : List Value}, wc.ownsRow 0 e size u n xs → e ≠ 55 → u.ownBlock ≠ some p := fun hu he e' => by
    obtain ⟨cs, hc⟩ := row_blk hu e'
    rw [hp] at hc; injection hc with hc; injection hc with _ ht; exact he ht.symm
  have hset : ∀ b, b ≠ p → (wc.setCell ⟨p, 2, none⟩ v').heap[b]? = wc.heap[b]? := fun b hn => Below.heap_setCell _ _ _ b hn
  refine ⟨by rw [List.map_append, h.eq]; rfl, ?_, ?_, fun y hy => ?_⟩
  · simp [World.setCell, Array.getElem?_modify, hp]
  · have e1 : (gx ++ [(x, ov)]).length = gx.length + 1 := by simp
    have e2 : gxV (gx ++ [(x, ov)]) = gxV gx ++ gxC (x, ov) := by rw [gxV_app]; rfl
    rw [e1, e2]
    exact row_moved hr fun b e => hset b fun e' => hne hr (by decide) (by rw [e, e'])
  · rcases List.mem_append.1 hy with hy | hy
    · have hyb := h.bnd y hy
      exact row_moved (row_moved hyb fun b e => hb.block b (hyb.lt b e).2 fun e' => (f2 y hy).2 b e'.symm e) fun b e => hset b fun e' => (f2 y hy).1 (by rw [e, e'])
    · obtain rfl : y = (x, ov) := by simpa using hy
      exact row_moved ho fun b e => hset b fun e' => hne ho (by decide) (by rw [e, e'])

set_option maxRecDepth 100000 in
set_option maxHeartbeats 4000000 in
theorem qsent_any (p : Nat) (D : Bk) (R : Nat → Prop) (v u : Int) (a : Option Addr) (len cap : Nat) (l : List Bd) (w : World) (h : QBook w p D R) (hg : D.g.length ≤ 999) (_hv : I64 v) (_hu : I64 u) (hl : BindsAt w (fun b => b < w.heap.size ∧ ¬ R b) a len l) (ok : OkL l) :
    Calls Try.prog 23 #[.pointer (some ⟨p, 0, none⟩), .int .i64 v, .int .i64 u, .slice a len cap] w fun e w' => e = .returned (.tuple #[]) ∧ Turn QBook w w' p (sentB D v u l) R := by
  obtain ⟨rv, gx, hR, hq⟩ := h
  obtain ⟨i0, hi0, hz0, hz1, hz2⟩ := info_parts infoGr
  obtain ⟨_, _, c2, hfz, hpl⟩ := hq.cells
  have f2 := hfz 2
  have hgl : gx.length ≤ 999 := by have := congrArg List.length hq.eq; rw [List.length_map] at this; omega
  have hlen : len ≤ 1048576 := by have := ok.1; have := hl.1; omega
  have HQ := Lib.hid hq
  have HR := Lib.hid hR
  obtain ⟨ra, rc, hrv⟩ := row_form hq.row
  subst hrv
  have hl' : BindsAt w.drew (fun b => b < w.heap.size ∧ ¬ R b) a len l := hl
  obtain ⟨ov, wa, hap, hown, hga⟩ := append_binds (cap := cap) hl' hlen
  obtain ⟨oa, oc, hov⟩ := row_form hown
  subst hov
  have HAP := Lib.hid hap
  have HOW := Lib.hid hown
  have HGA := Lib.hid hga
  have c2' : w.drew.cell? ⟨p, 2, none⟩ = some (.slice ra gx.length rc) := c2
  clear hq hR hfz hap hown hga hl hl' c2
  go_enter Try.func23, Try.ntmps23
  go_wp2
  refine region_mix (fun W => W.cell? ⟨p, 2, none⟩ = some (.slice ra gx.length rc)) (13) (.reads [0, 1, 2, 3, 4, 5, 6, 7, 8] (.only 9 (.reads [10] (.only 11 (.only 12 (.only 13 (.only 14 (.only 15 (.stop))))))))) (by kernel_rfl) (by kernel_rfl) (c2') ?_
  repeat (
    refine plan_read rfl (fun K hK => ?_)
    first
      | (refine plan_neg ?_ ?_
         focus (go_simp; done)
         go_simp
         refine hK _ ?_
         clear hK K)
      | (apply plan_pos
         focus (go_simp; done)
         focus (
           intro W hW
           (have c2 := hW)
           go_simp
           first
             | done
             | exact rfl)
         go_simp
         refine hK _ ?_
         clear hK K))
  refine plan_only rfl (fun Q hQ => ?_)
  refine wpList_append_any (by rfl) _ _ _ _ (by rfl) _ _ _ _ (by rfl) (by rfl) HAP.out ?_
  have d2 : wa.cell? ⟨p, 2, none⟩ = some (.slice ra gx.length rc) := HGA.out.cell c2' (fun e => by cases e)
  have hpl2 : p < wa.heap.size := Nat.lt_of_lt_of_le hpl HGA.out.size
  have f2a : wa.frozen? ⟨p, 2, none⟩ = false := (World.frozen?_of_block (a := ⟨p, 2, none⟩) (HGA.out.block p hpl (fun e => by cases e))).trans f2
  go_wp2
  refine hQ _ _ (fun _ => d2) ?_
  clear hQ Q
  repeat (
    refine plan_read rfl (fun K hK => ?_)
    first
      | (refine plan_neg ?_ ?_
         focus (go_simp; done)
         go_simp
         refine hK _ ?_
         clear hK K)
      | (apply plan_pos
         focus (go_simp; done)
         focus (
           intro W hW
           (have c2 := hW)
           go_simp
           first
             | done
             | exact rfl)
         go_simp
         refine hK _ ?_
         clear hK K))
  refine plan_only rfl (fun Q hQ => ?_)
  go_wp2
  have hws : w.heap.size ≤ wa.heap.size := HGA.out.size
  obtain ⟨ga, hga⟩ : ∃ g, wa.heap.size = g := ⟨_, rfl⟩
  have d3 : (wa.alloc (.cells #[.int .i64 v, .int .i64 u, .slice oa l.length oc] 61)).cell? ⟨p, 2, none⟩ = some (.slice ra gx.length rc) := by
    rw [World.cell?_alloc_lt wa _ ⟨p, 2, none⟩ hpl2]; exact d2
  refine hQ _ _ (fun _ => d3) ?_
  clear hQ Q
  have cuts := cells_3 wa (.int .i64 v) (.int .i64 u) (.slice oa l.length oc) 61
  have hgw : w.grownBy (wa.alloc (.cells #[.int .i64 v, .int .i64 u, .slice oa l.length oc] 61)) none := gbt' (gbt' (gbb' (Below.refl _ w).drew) HGA.out) (World.grownBy_alloc wa _ none)
  have HOW2 : Hid ((wa.alloc (.cells #[.int .i64 v, .int .i64 u, .slice oa l.length oc] 61)).ownsRow w.heap.size 39 3 (.slice oa l.length oc) l.length (bdsV l)) := Lib.hid (HOW.out.alloc _)
  have hrow1 := HQ.out.row.kept hgw (Classical.em _)
  have HQ1 := Lib.hid (HQ.out.keep fun b e => hgw.block b (HQ.out.lt e) fun e' => by cases e')
  have f3 : (wa.alloc (.cells #[.int .i64 v, .int .i64 u, .slice oa l.length oc] 61)).frozen? ⟨p, 2, none⟩ = false := (World.frozen?_of_block (a := ⟨p, 2, none⟩) (hgw.block p hpl (fun e => by cases e))).trans f2
  have hz1' : (wa.alloc (.cells #[.int .i64 v, .int .i64 u, .slice oa l.length oc] 61)).heap.size = wa.heap.size + 1 := by simp
  generalize (wa.alloc (.cells #[.int .i64 v, .int .i64 u, .slice oa l.length oc] 61)) = wb at *
  refine plan_only rfl (fun Q hQ => ?_)
  refine wpList_append_lies _ (by rfl) (.tmp 13) (.tmp 20) 53 (by rfl) 0 61 i0 _ 3 40 Try.underlying53 hi0 hz0 hz1 hz2 rfl (by decide) (.slice ra gx.length rc) gx.length (gxV gx) (by rfl) hrow1 ⟨wa.heap.size, 0, none⟩ 1 1 [.int .i64 v, .int .i64 u, .slice oa l.length oc] (by rfl) (by rfl) cuts (by simp [Value.oneCell']) (by omega) (by unfold maxLen; omega) (by omega) (Nat.zero_le _) wb.heap.size rfl ?_
  intro gg cap' wc hownc hgrow hat hltc
  have hfar := HQ1.out.far
  have d4 : wc.cell? ⟨p, 2, none⟩ = some (.slice ra gx.length rc) := hgrow.cell d3 (fun e => hfar.1 e.symm)
  have hpb : p < wb.heap.size := Nat.lt_of_lt_of_le hpl hgw.size
  have f4 : wc.frozen? ⟨p, 2, none⟩ = false := (hgrow.frozen_far ⟨p, 2, none⟩ hpb (fun e => hfar.1 e.symm)).trans f3
  have hpc : p < wc.heap.size := Nat.lt_of_lt_of_le hpb hgrow.size
  have HOC : Hid (wc.ownsRow 0 39 3 (.slice oa l.length oc) l.length (bdsV l)) := Lib.hid (by
    have h := HOW2.out.kept hgrow (by
      by_cases e : (Value.slice oa l.length oc).ownBlock = none
      · exact .inl e
      · refine .inr fun e' => ?_
        obtain ⟨b, hb⟩ := Option.ne_none_iff_exists'.1 e
        obtain ⟨cs, hc⟩ := row_blk HOW2.out hb
        obtain ⟨cs', hc'⟩ := row_blk hrow1 (e' ▸ hb)
        rw [hc] at hc'; injection hc' with hc'; injection hc' with _ ht; exact absurd ht (by decide))
    obtain ⟨k1, k2⟩ := h
    refine ⟨k1, ?_⟩
    rcases k2 with k2 | ⟨g, cp, cur, kv, _, kh, kr⟩
    · exact .inl k2
    · exact .inr ⟨g, cp, cur, kv, Nat.zero_le _, kh, kr⟩)
  have HROWC := Lib.hid hownc
  have HGR := Lib.hid hgrow
  have HAT := Lib.hid hat
  have HNEWO : Hid (∀ b, (Value.slice oa l.length oc).ownBlock = some b → w.heap.size ≤ b) := Lib.hid (fun b e => (HOW2.out.lt b e).1)
  have HWB : Hid (w.heap.size ≤ wb.heap.size) := Lib.hid hgw.size
  have HGW := Lib.hid hgw
  clear d2 d3 f2 f2a f3 hfar cuts hrow1 hownc hgrow hat hltc hgw hz1' c2' hws
  go_wp2
  refine hQ _ _ (fun _ => d4) ?_
  clear hQ Q
  refine plan_only rfl (fun Q hQ => ?_)
  go_wp2
  refine hQ _ _ (fun h => absurd h (by omega)) ?_
  clear hQ Q
  refine plan_only rfl (fun Q hQ => ?_)
  go_wp2
  refine hQ _ _ (fun h => absurd h (by omega)) ?_
  clear hQ Q
  refine plan_only rfl (fun Q hQ => ?_)
  go_wp2
  refine hQ _ _ (fun h => absurd h (by omega)) ?_
  clear hQ Q
  unfold Plan.wp
  go_wp2
  go_end0
  have hfin := HQ1.out.pushed (x := ⟨v, u, l⟩) HGR.out HROWC.out HOC.out
  refine ⟨rfl, q_turn HR.out hfin ?_ fun b e => ?_⟩
  · refine ((Beside.grown (R := R) HGW.out fun b e => by cases e).trans (Beside.grown (R := R) HGR.out fun b e _ => (HR.out b).2 (.inr (.inl e))) fun b hb _ => hb).trans (Beside.set wc _ ((HR.out p).2 (.inl rfl))) fun b hb _ => hb
  · rcases e with e | e | ⟨y, hy, e⟩
    · exact .inl (.inl e)
    · have e' : gg = b := by simpa [Value.ownBlock] using e
      rcases HAT.out with h | h
      · exact .inl (.inr (.inl (by rw [← e']; exact h)))
      · exact .inr (by rw [← e', h]; exact HWB.out)
    · rcases List.mem_append.1 hy with hy | hy
      · exact .inl (.inr (.inr ⟨y, hy, e⟩))
      · obtain rfl : y = (⟨v, u, l⟩, .slice oa l.length oc) := by simpa using hy
        exact .inr (HNEWO.out b e)

set_option maxRecDepth 100000 in
set_option maxHeartbeats 4000000 in
theorem qlearn_any (p : Nat) (D : Bk) (R : Nat → Prop) (v u : Int) (a : Option Addr) (len cap : Nat) (l : List Bd) (w : World) (h : QBook w p D R) (hv : I64 v) (hu : I64 u) (hl : BindsAt w (fun b => b < w.heap.size ∧ ¬ R b) a len l) (ok : OkL l) :
    Calls Try.prog 21 #[.pointer (some ⟨p, 0, none⟩), .int .i64 v, .int .i64 u, .slice a len cap] w fun e w' => e = .returned (.tuple #[]) ∧ Turn QBook w w' p (learnB D v u l) R := by
  obtain ⟨rv, gx, hR, hq⟩ := h
  obtain ⟨c0, _, c2, hfz, hpl⟩ := hq.cells
  have f0 := hfz 0
  have f2 := hfz 2
  obtain ⟨ra, rc, hrv⟩ := row_form hq.row
  have HRP := (hR p).2 (.inl rfl)
  have hbs : Beside R w ((w.setCell ⟨p, 0, none⟩ (.bool false)).setCell ⟨p, 2, none⟩ (.slice none 0 0)) := (Beside.set w _ HRP).trans (Beside.set _ _ HRP) fun b hb _ => hb
  have hblk : ((w.setCell ⟨p, 0, none⟩ (.bool false)).setCell ⟨p, 2, none⟩ (.slice none 0 0)).heap[p]? = some (.cells #[.bool false, .int .i64 D.to, .slice none 0 0] 55 (0, 0)) := by simp [World.setCell, Array.getElem?_modify, hq.blk]
  have hq2 : QAt ((w.setCell ⟨p, 0, none⟩ (.bool false)).setCell ⟨p, 2, none⟩ (.slice none 0 0)) p (.slice none 0 0) [] ⟨false, D.to, []⟩ := ⟨rfl, hblk, World.ownsRow_nil _ _ _ _, fun _ hy => absurd hy List.not_mem_nil⟩
  have hsub : ∀ b, QBlk p (.slice none 0 0) [] b → R b := fun b e => by
    rcases e with rfl | e | ⟨y, hy, _⟩
    · exact HRP
    · cases e
    · cases hy
  have HL2 : Hid (BindsAt ((w.setCell ⟨p, 0, none⟩ (.bool false)).setCell ⟨p, 2, none⟩ (.slice none 0 0)) (fun b => b < ((w.setCell ⟨p, 0, none⟩ (.bool false)).setCell ⟨p, 2, none⟩ (.slice none 0 0)).heap.size ∧ ¬ QBlk p (.slice none 0 0) [] b) a len l) :=
    Lib.hid ((hl.keep fun b hb => hbs.block b hb.1 hb.2).imp fun b hb => ⟨Nat.lt_of_lt_of_le hb.1 hbs.size, fun e => hb.2 (hsub b e)⟩)
  have HQ2 : Hid (QBook ((w.setCell ⟨p, 0, none⟩ (.bool false)).setCell ⟨p, 2, none⟩ (.slice none 0 0)) p ⟨false, D.to, []⟩ (QBlk p (.slice none 0 0) [])) := Lib.hid ⟨_, [], fun _ => Iff.rfl, hq2⟩
  have HBS := Lib.hid hbs
  have HSUB := Lib.hid hsub
  rw [hrv] at c2
  clear hR hq hfz hl hq2 hbs hblk hsub hrv
  go_enter Try.func21, Try.ntmps21
  go_wp2_with (go_at_call 23; (with_reducible refine (qsent_any p ⟨false, D.to, []⟩ (QBlk p (.slice none 0 0) []) v u a len cap l _ HQ2.out (Nat.zero_le _) hv hu HL2.out ok).mono ?_); rintro e w1 ⟨rfl, ht⟩; have HT := Lib.hid ht; clear ht)
  go_end0
  obtain ⟨R', h1, h2, h3⟩ := HT.out
  refine ⟨rfl, R', h1, HBS.out.trans h2 fun b hb _ => HSUB.out b hb, fun b hb => ?_⟩
  rcases h3 b hb with h | h
  · exact .inl (HSUB.out b h)
  · exact .inr (Nat.le_trans HBS.out.size h)
end Go.Proofs.Ytgkpkegbjkjhiaa
