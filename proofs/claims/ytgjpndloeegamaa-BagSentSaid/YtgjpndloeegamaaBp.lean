/-
  The program's bag: its operations: Copy, Drop, Take.
-/
import Derived.Test.YtgjpndloeegamaaBp1
namespace Go.Proofs.Ytgjpndloeegamaa
open Go.RowKit Gm

theorem copy_any (p : Nat) (D : List Bs) (R : Nat → Prop) (i : Int) (w : World) (h : PBag w p D R) (ok : OkB D) (_hi : I64 i) :
    Calls Try.prog 15 #[.pointer (some ⟨p, 0, none⟩), .int .i64 i] w fun e w' => e = .returned (.bool (inB D i && roomB D)) ∧ Turn PBag w w' p (copyB D i) R := by
  have hRl : ∀ b, R b → b < w.heap.size := fun b e => pbag_law.lt h b e
  have hb0 : Below w.heap.size w (w.alloc (.cells #[.pointer (some ⟨p, 0, none⟩)] 24)) := (Below.refl _ w).alloc (Nat.le_refl _) _
  have hb1 : Below w.heap.size w ((w.alloc (.cells #[.pointer (some ⟨p, 0, none⟩)] 24)).alloc (.cells #[.bool false] 4)) := hb0.alloc hb0.size _
  have hB0 := new_at w (.cells #[.pointer (some ⟨p, 0, none⟩)] 24)
  have hC := new_at (w.alloc (.cells #[.pointer (some ⟨p, 0, none⟩)] 24)) (.cells #[.bool false] 4)
  rw [show (w.alloc (.cells #[.pointer (some ⟨p, 0, none⟩)] 24)).heap.size = w.heap.size + 1 by simp] at hC
  have hB := ((Below.refl _ (w.alloc (.cells #[.pointer (some ⟨p, 0, none⟩)] 24))).alloc (Nat.le_refl _) (.cells #[.bool false] 4)).block w.heap.size (by simp)
  rw [hB0] at hB
  have h1 := pbag_law.keep h hb1.size fun b hr => hb1.block b (hRl b hr)
  obtain ⟨v, hR1, hq1⟩ := id h1
  have HK := Lib.hid h
  have HB1 := Lib.hid hb1
  have HQ1 := Lib.hid hq1
  obtain ⟨m0, m1, m2⟩ := one_cells hB
  obtain ⟨n0, n1, n2⟩ := one_cells hC
  have HNC : Hid (¬ R (w.heap.size + 1)) := Lib.hid fun e => by have := hRl _ e; omega
  unfold copyB
  rcases hin : inB D i with _ | _
  · rw [if_neg (by decide), Bool.false_and]
    have HIN := Lib.hid hin
    clear hin h hq1 hR1 h1 hb0 hb1 hB0 hB hC ok hRl
    go_enter Try.func15, Try.ntmps15
    go_wp2_with (go_at_call 25; (with_reducible refine (with_no _ p v D i _ HQ1.out HIN.out).mono ?_); rintro e w1 ⟨rfl, rfl⟩)
    go_ret
    exact ⟨rfl, b_same HK.out HB1.out⟩
  · rw [if_pos rfl, Bool.true_and]
    obtain ⟨k, rfl, hk⟩ := in_yes hin
    obtain ⟨W, hW⟩ : ∃ W, (w.alloc (.cells #[.pointer (some ⟨p, 0, none⟩)] 24)).alloc (.cells #[.bool false] 4) = W := ⟨_, rfl⟩
    have HWT : Hid (Calls Try.prog 25 #[.pointer (some ⟨p, 0, none⟩), .int .i64 (k : Int), .func (.func 26) #[] #[.pointer (some ⟨w.heap.size, 0, none⟩), .pointer (some ⟨w.heap.size + 1, 0, none⟩)]] W fun e w' => e = .returned (.bool true) ∧ ∃ w1, Turn PBag W w1 p (sendB D (lookB D (k : Int))) R ∧ w' = w1.setCell ⟨w.heap.size + 1, 0, none⟩ (.bool (roomB D))) :=
      Lib.hid (by subst hW; exact with_yes 26 _ eg_copy _ p v D k _ hq1 ok.len hk (copyc_any p D R _ w.heap.size (w.heap.size + 1) _ _ h1 ok.len hB hC HNC.out))
    obtain ⟨D', hD'⟩ : ∃ D', sendB D (lookB D (k : Int)) = D' := ⟨_, rfl⟩
    obtain ⟨r, hr⟩ : ∃ r, roomB D = r := ⟨_, rfl⟩
    rw [hD', hr] at HWT
    rw [hD', hr]
    have hend : ∀ w1, Turn PBag W w1 p D' R → Turn PBag w (w1.setCell ⟨w.heap.size + 1, 0, none⟩ (.bool r)) p D' R ∧ (w1.setCell ⟨w.heap.size + 1, 0, none⟩ (.bool r)).heap[w.heap.size + 1]? = some (.cells #[.bool r] 4 (0, 0)) := fun w1 ht => by
      subst hW
      refine ⟨turn_set pbag_law HB1.out (by omega) n2 hRl ht _, ?_⟩
      have h3 := ((turn_beside ht).block _ n2 HNC.out).trans hC
      simp [World.setCell, Array.getElem?_modify, h3]
    have HE := Lib.hid hend
    have HWW := Lib.hid hW
    clear hin h hq1 hR1 h1 hb0 hb1 hB0 hB hC ok hRl hend hk hD' hr hW
    go_enter Try.func15, Try.ntmps15
    go_wp2_with (go_at_call 25; rw [HWW.out]; (with_reducible refine HWT.out.mono ?_); rintro e w1 ⟨rfl, w2, h2, rfl⟩; obtain ⟨h3, h4⟩ := HE.out w2 h2; have HT3 := Lib.hid h3; obtain ⟨f0, f1, f2⟩ := one_cells h4; clear h2 h3 h4)
    go_ret
    exact ⟨rfl, HT3.out⟩
/-- One text less in the same row, behind Delete and the store. -/
theorem cut_end {t : TypeId} (ht : t ≠ 9) {w w2 : World} {p g c n m : Nat} {D D' : List Bs} {R : Nat → Prop} (hR : ∀ b, R b ↔ (b = p ∨ (Value.slice (some ⟨g, 0, none⟩) n c).ownBlock = some b)) (h : BAt t w p (.slice (some ⟨g, 0, none⟩) n c) D) (hm : D'.length = m)
    (hr : w2.ownsRow 0 9 1 (.slice (some ⟨g, 0, none⟩) m c) m (strV D')) (hg : w.grownBy w2 (some g)) : Turn (BagK t) w (w2.setCell ⟨p, 0, none⟩ (.slice (some ⟨g, 0, none⟩) m c)) p D' R := by
  subst hm
  have hblk := h.far ht (W' := w2) hg
  have hgp : g ≠ p := fun e => h.ne ht (by rw [e]; rfl)
  have hob : ∀ b k, (Value.slice (some ⟨g, 0, none⟩) k c).ownBlock = some b → b = g := fun b k e => by
    have : g = b := by simpa [Value.ownBlock] using e
    exact this.symm
  refine b_turn hR (v' := .slice (some ⟨g, 0, none⟩) D'.length c) ⟨by simp [World.setCell, Array.getElem?_modify, hblk], own_moved (w := w2) hr (fun b e => Below.heap_setCell _ _ _ b (fun e' => hgp (by rw [← hob b _ e, e'])))⟩ ?_ (fun b e => .inl (by rw [hob b _ e]; rfl))
  exact (Beside.grown (R := R) hg fun b e _ => (hR b).2 (.inr e)).trans (Beside.set w2 _ ((hR p).2 (.inl rfl))) (fun b hb _ => hb)
theorem row_ne {w : World} {g n c B : Nat} {xs : List Value} {cs : Array Value} {t : TypeId} (hr : w.ownsRow 0 9 1 (.slice (some ⟨g, 0, none⟩) n c) n xs) (hB : w.heap[B]? = some (.cells cs t (0, 0))) (ht : t ≠ 9) : B ≠ g := by
  rintro rfl
  rcases hr.2 with ⟨h', _⟩ | ⟨g', cap', cur, hv, _, hh, _⟩
  · simp at h'
  · have e : B = g' := by injection hv with h1; injection h1 with h1; injection h1
    subst e
    rw [hB] at hh
    injection hh with hh
    injection hh with _ hx
    exact ht hx
set_option maxRecDepth 100000 in
set_option maxHeartbeats 2000000 in
theorem dropc_any (p : Nat) (v : Value) (D : List Bs) (R : Nat → Prop) (x : Bs) (k B I : Nat) (w : World) (hR : ∀ b, R b ↔ (b = p ∨ v.ownBlock = some b)) (h : BAt 43 w p v D) (hl : D.length ≤ 64) (hk : k < D.length)
    (hB : w.heap[B]? = some (.cells #[.pointer (some ⟨p, 0, none⟩)] 24 (0, 0))) (hI : w.heap[I]? = some (.cells #[.int .i64 (k : Int)] 3 (0, 0))) :
    Calls Try.prog 27 #[.string (S x), .pointer (some ⟨B, 0, none⟩), .pointer (some ⟨I, 0, none⟩)] w fun e w' => e = .returned (.tuple #[]) ∧ Turn PBag w w' p (cutB D k) R := by
  obtain ⟨g, cap, rfl, hg, hgp, hcap, hmax, _⟩ := h.text tp_ne (by omega)
  obtain ⟨c0, _, hpl⟩ := h.cells
  obtain ⟨b0, _, _⟩ := one_cells hB
  obtain ⟨i0, _, _⟩ := one_cells hI
  have hrow := h.row
  have hcl := cut_len D hk
  obtain ⟨n, hn⟩ : ∃ n, D.length = n := ⟨_, rfl⟩
  have hd : BAt 43 w.drew p (.slice (some ⟨g, 0, none⟩) n cap) D := by rw [← hn]; exact h.keep fun _ _ => rfl
  have hR' : ∀ b, R b ↔ (b = p ∨ (Value.slice (some ⟨g, 0, none⟩) n cap).ownBlock = some b) := by rw [← hn]; exact hR
  rw [hn] at hrow c0 hk hl hcl
  have HDEL : Hid (Calls Try.prog 28 #[.slice (some ⟨g, 0, none⟩) n cap, .int .i64 (k : Int), .int .i64 ((k : Int) + 1)] w.drew fun e w' => e = .returned (.slice (some ⟨g, 0, none⟩) (n - 1) cap) ∧ w'.ownsRow 0 9 1 (.slice (some ⟨g, 0, none⟩) (n - 1) cap) (n - 1) (strV (cutB D k)) ∧ w.drew.grownBy w' (some g)) :=
    Lib.hid (del_any g n cap k D w.drew hn hk hrow.drew)
  have hkw : IntKind.i64.wrap ((k : Int) + 1) = (k : Int) + 1 := IntWalk.i64_in _ ⟨by omega, by omega⟩
  have k0 : w.drew.cell? ⟨p, 0, none⟩ = some (.slice (some ⟨g, 0, none⟩) n cap) := c0
  have k1 : w.drew.cell? ⟨B, 0, none⟩ = some (.pointer (some ⟨p, 0, none⟩)) := b0
  have k2 : w.drew.cell? ⟨I, 0, none⟩ = some (.int .i64 (k : Int)) := i0
  have HD := Lib.hid hd
  have HR := Lib.hid hR'
  have HCL : Hid ((cutB D k).length = n - 1) := Lib.hid (by omega)
  have hnB : B ≠ g := row_ne hrow hB (by decide)
  have hnI : I ≠ g := row_ne hrow hI (by decide)
  have HNE : Hid (B ≠ g ∧ I ≠ g) := Lib.hid ⟨hnB, hnI⟩
  have K : Hid (w.drew.cell? ⟨B, 0, none⟩ = some (.pointer (some ⟨p, 0, none⟩)) ∧ w.drew.cell? ⟨I, 0, none⟩ = some (.int .i64 (k : Int))) := Lib.hid ⟨k1, k2⟩
  have HW : Hid (∀ w2, Turn PBag w.drew w2 p (cutB D k) R → Turn PBag w w2 p (cutB D k) R) := Lib.hid fun w2 ht => turn_after (Below.refl _ w).drew ht
  clear hnB hnI h hl hk hB hI hrow hcl hn hd hR hR' hg hgp hcap hmax c0 b0 i0 hpl
  go_enter Try.func27, Try.ntmps27
  refine region_mix (fun W => W.cell? ⟨p, 0, none⟩ = some (.slice (some ⟨g, 0, none⟩) n cap) ∧ W.cell? ⟨B, 0, none⟩ = some (.pointer (some ⟨p, 0, none⟩)) ∧ W.cell? ⟨I, 0, none⟩ = some (.int .i64 (k : Int))) (9) (.reads [0, 1, 2, 3, 4, 5, 6, 7] (.only 8 (.only 9 (.only 10 (.only 11 (.stop)))))) (by kernel_rfl) (by kernel_rfl) (⟨k0, k1, k2⟩) ?_
  repeat (
    refine plan_read rfl (fun K hK => ?_)
    first
      | (refine plan_neg ?_ ?_
         focus (go_simp; done)
         go_simp
         refine hK _ ?_
         clear hK K)
      | (apply plan_pos
         focus (go_simp; done)
         focus (
           intro W hW
           (obtain ⟨q0, q1, q2⟩ := hW)
           go_simp
           first
             | done
             | exact rfl)
         go_simp
         refine hK _ ?_
         clear hK K))
  refine plan_only rfl (fun Q hQ => ?_)
  go_wp2_with (go_at_call 28; (with_reducible refine HDEL.out.mono ?_); rintro e w5 ⟨rfl, ho, hg⟩; have HO := Lib.hid ho; have HG := Lib.hid hg; obtain ⟨f0, f1, f2⟩ := one_cells (HD.out.far tp_ne hg); clear ho hg)
  refine hQ _ _ (fun _ => ⟨f0, HG.out.cell K.out.1 (a := ⟨B, 0, none⟩) (fun e => HNE.out.1 (by injection e with e)), HG.out.cell K.out.2 (a := ⟨I, 0, none⟩) (fun e => HNE.out.2 (by injection e with e))⟩) ?_
  clear hQ Q
  refine plan_only rfl (fun Q hQ => ?_)
  go_wp2
  refine hQ _ _ (fun h => absurd h (by omega)) ?_
  clear hQ Q
  refine plan_only rfl (fun Q hQ => ?_)
  go_wp2
  refine hQ _ _ (fun h => absurd h (by omega)) ?_
  clear hQ Q
  refine plan_only rfl (fun Q hQ => ?_)
  go_wp2
  refine hQ _ _ (fun h => absurd h (by omega)) ?_
  clear hQ Q
  unfold Plan.wp
  go_wp2
  go_end0
  exact ⟨rfl, HW.out _ (cut_end tp_ne HR.out HD.out HCL.out HO.out HG.out)⟩
theorem drop_any (p : Nat) (D : List Bs) (R : Nat → Prop) (i : Int) (w : World) (h : PBag w p D R) (ok : OkB D) (_hi : I64 i) :
    Calls Try.prog 17 #[.pointer (some ⟨p, 0, none⟩), .int .i64 i] w fun e w' => e = .returned (.bool (inB D i)) ∧ Turn PBag w w' p (takeB D i) R := by
  have hRl : ∀ b, R b → b < w.heap.size := fun b e => pbag_law.lt h b e
  have hb0 : Below w.heap.size w (w.alloc (.cells #[.pointer (some ⟨p, 0, none⟩)] 24)) := (Below.refl _ w).alloc (Nat.le_refl _) _
  have hb1 : Below w.heap.size w ((w.alloc (.cells #[.pointer (some ⟨p, 0, none⟩)] 24)).alloc (.cells #[.int .i64 i] 3)) := hb0.alloc hb0.size _
  have hB0 := new_at w (.cells #[.pointer (some ⟨p, 0, none⟩)] 24)
  have hC := new_at (w.alloc (.cells #[.pointer (some ⟨p, 0, none⟩)] 24)) (.cells #[.int .i64 i] 3)
  rw [show (w.alloc (.cells #[.pointer (some ⟨p, 0, none⟩)] 24)).heap.size = w.heap.size + 1 by simp] at hC
  have hB := ((Below.refl _ (w.alloc (.cells #[.pointer (some ⟨p, 0, none⟩)] 24))).alloc (Nat.le_refl _) (.cells #[.int .i64 i] 3)).block w.heap.size (by simp)
  rw [hB0] at hB
  have h1 := pbag_law.keep h hb1.size fun b hr => hb1.block b (hRl b hr)
  obtain ⟨v, hR1, hq1⟩ := id h1
  have HK := Lib.hid h
  have HB1 := Lib.hid hb1
  have HQ1 := Lib.hid hq1
  obtain ⟨m0, m1, m2⟩ := one_cells hB
  obtain ⟨n0, n1, n2⟩ := one_cells hC
  rcases hin : inB D i with _ | _
  · rw [take_no hin]
    have HIN := Lib.hid hin
    clear hin h hq1 hR1 h1 hb0 hb1 hB0 hB hC ok hRl
    go_enter Try.func17, Try.ntmps17
    go_wp2_with (go_at_call 25; (with_reducible refine (with_no _ p v D i _ HQ1.out HIN.out).mono ?_); rintro e w1 ⟨rfl, rfl⟩)
    go_ret
    exact ⟨rfl, b_same HK.out HB1.out⟩
  · obtain ⟨k, rfl, hk⟩ := in_yes hin
    rw [take_at D hk]
    obtain ⟨W, hW⟩ : ∃ W, (w.alloc (.cells #[.pointer (some ⟨p, 0, none⟩)] 24)).alloc (.cells #[.int .i64 (k : Int)] 3) = W := ⟨_, rfl⟩
    have HWT : Hid (Calls Try.prog 25 #[.pointer (some ⟨p, 0, none⟩), .int .i64 (k : Int), .func (.func 27) #[] #[.pointer (some ⟨w.heap.size, 0, none⟩), .pointer (some ⟨w.heap.size + 1, 0, none⟩)]] W fun e w' => e = .returned (.bool true) ∧ Turn PBag W w' p (cutB D k) R) :=
      Lib.hid (by subst hW; exact with_yes 27 _ eg_drop _ p v D k _ hq1 ok.len hk (dropc_any p v D R _ k w.heap.size (w.heap.size + 1) _ hR1 hq1 ok.len hk hB hC))
    obtain ⟨D', hD'⟩ : ∃ D', cutB D k = D' := ⟨_, rfl⟩
    rw [hD'] at HWT
    rw [hD']
    have HE : Hid (∀ w1, Turn PBag W w1 p D' R → Turn PBag w w1 p D' R) := Lib.hid fun w1 ht => by
      subst hW
      exact turn_after HB1.out ht
    have HWW := Lib.hid hW
    clear hin h hq1 hR1 h1 hb0 hb1 hB0 hB hC ok hRl hk hD' hW
    go_enter Try.func17, Try.ntmps17
    go_wp2_with (go_at_call 25; rw [HWW.out]; (with_reducible refine HWT.out.mono ?_); rintro e w1 ⟨rfl, h2⟩; have HT3 := Lib.hid h2; clear h2)
    go_ret
    exact ⟨rfl, HE.out _ HT3.out⟩
theorem take_any (p : Nat) (D : List Bs) (R : Nat → Prop) (i : Int) (w : World) (h : PBag w p D R) (ok : OkB D) (hi : I64 i) :
    Calls Try.prog 13 #[.pointer (some ⟨p, 0, none⟩), .int .i64 i] w fun e w' => e = .returned (.tuple #[.string (S (lookB D i)), .bool (inB D i)]) ∧ Turn PBag w w' p (takeB D i) R := by
  have HK := Lib.hid h
  have HO := Lib.hid ok
  have HI := Lib.hid hi
  obtain ⟨x, hx⟩ : ∃ x, lookB D i = x := ⟨_, rfl⟩
  have HX := Lib.hid hx
  obtain ⟨y, hy⟩ : ∃ y, inB D i = y := ⟨_, rfl⟩
  have HY := Lib.hid hy
  rw [hx, hy]
  clear h ok hi hx hy
  go_enter Try.func13, Try.ntmps13
  go_wp2_with (first
    | (go_at_call 19; (have hc := look_any p D R i _ HK.out HO.out HI.out; rw [HX.out, HY.out] at hc; with_reducible refine hc.mono ?_); rintro e w1 ⟨rfl, hb1⟩; have HB1 := Lib.hid hb1; clear hb1 hc)
    | (go_at_call 17; (have hc := drop_any p D R i _ (pbag_law.keep HK.out HB1.out.size fun b hr => HB1.out.block b (pbag_law.lt HK.out b hr)) HO.out HI.out; with_reducible refine hc.mono ?_); rintro e w2 ⟨rfl, ht⟩; have HT := Lib.hid ht; clear ht hc))
  go_ret2
  exact ⟨rfl, turn_after HB1.out HT.out⟩
end Go.Proofs.Ytgjpndloeegamaa
