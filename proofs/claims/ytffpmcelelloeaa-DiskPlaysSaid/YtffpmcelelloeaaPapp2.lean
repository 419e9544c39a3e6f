/-
  The program's disk: Append, whole.
-/
import Derived.Test.YtffpmcelelloeaaPapp
namespace Go.Proofs.Ytffpmcelelloeaa
open Go.RowKit Gm

theorem blk_add {p m : Nat} {loc : Loc} {D : Dk} (hr : Rise D.fs) {k s : Bs} {B n : Nat} {v' : Value} (hB : n ≤ B) (hv : ∀ b, v'.ownBlock = some b → n ≤ b) {b : Nat} (hb : PBlk p m (updL loc k (B, v')) (putF D.fs ⟨k, s, 0⟩) b) : PBlk p m loc D.fs b ∨ n ≤ b := by
  rcases hb with rfl | rfl | ⟨g, hg, e⟩
  · exact .inl (.inl rfl)
  · exact .inl (.inr (.inl rfl))
  · rcases put_mem' hr hg with rfl | ⟨g1, g2⟩
    · dsimp only at e
      rw [updL_same] at e
      rcases e with e | e
      · exact .inr (by rw [e]; exact hB)
      · exact .inr (hv b e)
    · rw [updL_other _ _ g2] at e
      exact .inl (.inr (.inr ⟨g, g1, e⟩))
theorem updL_twice (loc : Loc) (k : Bs) (x y : Nat × Value) : updL (updL loc k x) k y = updL loc k y := by
  funext j
  unfold updL
  split <;> rfl
/-- What a file more leaves, as one step. -/
theorem new_beside {R : Nat → Prop} {p m : Nat} {loc : Loc} {fs : List Fl} {w w1 w2 w3 : World} {B : Nat} {v' : Value} (hR : ∀ b, PBlk p m loc fs b → R b) (h1 : w.grownBy w1 (some p)) (h2 : w1.grownBy w2 (some m)) (hB : w1.heap.size ≤ B) (hg : w2.grownBy w3 none) : Beside R w (w3.setCell ⟨B, 0, none⟩ v') := by
  have a : Beside R w w1 := Beside.grown h1 fun b e _ => hR b (.inl (by injection e with e; exact e.symm))
  have b : Beside R w1 w2 := Beside.grown h2 fun b e _ => hR b (.inr (.inl (by injection e with e; exact e.symm)))
  have c : Beside (fun b => b = B) w2 (w3.setCell ⟨B, 0, none⟩ v') := (Beside.grown hg fun b e => by cases e).trans (Beside.set (R := fun b => b = B) (a := ⟨B, 0, none⟩) w3 v' rfl) fun b e _ => e
  refine (a.trans b fun b e _ => e).trans c fun b e hb => ?_
  have e' : b = B := e
  have := h1.size
  omega

set_option maxRecDepth 100000 in
set_option maxHeartbeats 4000000 in
/-- There is no room for a file more. -/
theorem append_full (p : Nat) (D : Dk) (R : Nat → Prop) (k s : Bs) (w : World) (h : PDisk w p D R) (ha : D.acts ≤ 1099511627776) (hk : k.length ≤ 1048576) (hs : s.length ≤ 1048576) (hf : findF D.fs k = none) (hg : goesD D = true) (hn : okName k = true) (hfull : 4 ≤ D.fs.length ∨ 65536 < s.length) :
    Calls Try.prog 14 #[.pointer (some ⟨p, 0, none⟩), .string (S k), .string (S s)] w fun e w' => e = .returned (.int .i64 (appendD D k s).2) ∧ Turn PDisk w w' p (appendD D k s).1 R := by
  obtain ⟨ok, m, loc, hR, hp⟩ := h
  have HR := Lib.hid hR
  have HP := Lib.hid hp
  have HK := Lib.hid ok
  have hok' := ok.append k s
  unfold appendD at hok' ⊢
  rw [done_ok hg] at hok' ⊢
  have hr : appendF D.fs k s = (D.fs, 102) := by unfold appendF; rw [hn, hf]; simp only [if_true]; rw [if_pos hfull]
  rw [hr] at hok' ⊢
  have HO := Lib.hid hok'
  have HF := Lib.hid hf
  have HG := Lib.hid hg
  have HN := Lib.hid hn
  have hss := S_size s
  have hb : ((S s).size : Int) ≤ 1048576 := by rw [hss]; omega
  by_cases h4 : 4 ≤ D.fs.length
  · have i1 : decide ((4 : Int) ≤ (D.fs.length : Int)) = true := decide_eq_true (by omega)
    clear hg hok' hR hp ok hr hf hn hfull hss h4
    go_enter Try.func14, Try.ntmps14
    go_wp2_with (first
      | (go_at_call 35; (have hc := pact_any p m loc D w HP.out HK.out ha; rw [HG.out, goes_act HG.out] at hc; with_reducible refine hc.mono ?_); rintro e w1 ⟨rfl, q1, g1⟩; have Q1 := Lib.hid q1
         obtain ⟨c0, _, _, _, _, hl⟩ := q1.cells
         have hlk := q1.map.look2_no k hk HF.out
         have hlen : ∀ o ty, (Builtin.len_ #[53] ty #[.map (some m)]).run Try.prog (w1.alloc o) = .ok (.int .i64 (D.fs.length : Int)) (w1.alloc o) := fun o ty => (Q1.out.map.moved (((Below.refl w1.heap.size w1).alloc (Nat.le_refl _) o).block m Q1.out.map.lt)).len ty
         clear q1)
      | (go_at_call 36; (have hc := pname_any k w1 hk; rw [HN.out] at hc; with_reducible refine hc.mono ?_); rintro e w2 ⟨rfl, rfl⟩))
    go_ret
    have hb1 := (Below.refl w1.heap.size w1).alloc (Nat.le_refl _) (.cells #[.slice none 0 0, .int .i64 0] 63 (0, 0))
    exact ⟨rfl, p_same HR.out HO.out (Q1.out.below hb1) rfl (gb_new g1 hb1)⟩
  · have i1 : decide ((4 : Int) ≤ (D.fs.length : Int)) = false := decide_eq_false (by omega)
    have i2 : decide ((65536 : Int) < ((S s).size : Int)) = true := decide_eq_true (by rw [hss]; omega)
    clear hg hok' hR hp ok hr hf hn hfull hss h4
    go_enter Try.func14, Try.ntmps14
    go_wp2_with (first
      | (go_at_call 35; (have hc := pact_any p m loc D w HP.out HK.out ha; rw [HG.out, goes_act HG.out] at hc; with_reducible refine hc.mono ?_); rintro e w1 ⟨rfl, q1, g1⟩; have Q1 := Lib.hid q1
         obtain ⟨c0, _, _, _, _, hl⟩ := q1.cells
         have hlk := q1.map.look2_no k hk HF.out
         have hlen : ∀ o ty, (Builtin.len_ #[53] ty #[.map (some m)]).run Try.prog (w1.alloc o) = .ok (.int .i64 (D.fs.length : Int)) (w1.alloc o) := fun o ty => (Q1.out.map.moved (((Below.refl w1.heap.size w1).alloc (Nat.le_refl _) o).block m Q1.out.map.lt)).len ty
         clear q1)
      | (go_at_call 36; (have hc := pname_any k w1 hk; rw [HN.out] at hc; with_reducible refine hc.mono ?_); rintro e w2 ⟨rfl, rfl⟩))
    go_ret
    have hb1 := (Below.refl w1.heap.size w1).alloc (Nat.le_refl _) (.cells #[.slice none 0 0, .int .i64 0] 63 (0, 0))
    exact ⟨rfl, p_same HR.out HO.out (Q1.out.below hb1) rfl (gb_new g1 hb1)⟩

set_option maxRecDepth 100000 in
set_option maxHeartbeats 4000000 in
/-- A file more. -/
theorem append_new (p : Nat) (D : Dk) (R : Nat → Prop) (k s : Bs) (w : World) (h : PDisk w p D R) (ha : D.acts ≤ 1099511627776) (hk : k.length ≤ 1048576) (hs : s.length ≤ 1048576) (hf : findF D.fs k = none) (hg : goesD D = true) (hn : okName k = true) (hfull : ¬ (4 ≤ D.fs.length ∨ 65536 < s.length)) :
    Calls Try.prog 14 #[.pointer (some ⟨p, 0, none⟩), .string (S k), .string (S s)] w fun e w' => e = .returned (.int .i64 (appendD D k s).2) ∧ Turn PDisk w w' p (appendD D k s).1 R := by
  obtain ⟨ok, m, loc, hR, hp⟩ := h
  have HR := Lib.hid hR
  have HP := Lib.hid hp
  have HK := Lib.hid ok
  have hok' := ok.append k s
  unfold appendD at hok' ⊢
  rw [done_ok hg] at hok' ⊢
  have hr : appendF D.fs k s = (putF D.fs ⟨k, s, 0⟩, 0) := by unfold appendF; rw [hn, hf]; simp only [if_true]; rw [if_neg hfull]
  rw [hr] at hok' ⊢
  have HO := Lib.hid hok'
  have HF := Lib.hid hf
  have HG := Lib.hid hg
  have HN := Lib.hid hn
  have hss := S_size s
  have hb : ((S s).size : Int) ≤ 1048576 := by rw [hss]; omega
  have i1 : decide ((4 : Int) ≤ (D.fs.length : Int)) = false := decide_eq_false (by omega)
  have i2 : decide ((65536 : Int) < ((S s).size : Int)) = false := decide_eq_false (by rw [hss]; omega)
  clear hg hok' hR hp ok hr hf hn hfull hss
  go_enter Try.func14, Try.ntmps14
  go_wp2_with (first
    | (go_at_call 35; (have hc := pact_any p m loc D w HP.out HK.out ha; rw [HG.out, goes_act HG.out] at hc; with_reducible refine hc.mono ?_); rintro e w1 ⟨rfl, q1, g1⟩; have Q1 := Lib.hid q1
       obtain ⟨c0, _, _, _, _, hl⟩ := q1.cells
       have hlk := q1.map.look2_no k hk HF.out
       have hlen : ∀ o ty, (Builtin.len_ #[53] ty #[.map (some m)]).run Try.prog (w1.alloc o) = .ok (.int .i64 (D.fs.length : Int)) (w1.alloc o) := fun o ty => (Q1.out.map.moved (((Below.refl w1.heap.size w1).alloc (Nat.le_refl _) o).block m Q1.out.map.lt)).len ty
       clear q1)
    | (go_at_call 36; (have hc := pname_any k w1 hk; rw [HN.out] at hc; with_reducible refine hc.mono ?_); rintro e w2 ⟨rfl, rfl⟩))
  have hb1 := (Below.refl w1.heap.size w1).alloc (Nat.le_refl _) (.cells #[.slice none 0 0, .int .i64 0] 63 (0, 0))
  have hn1 := new_at w1 (.cells #[.slice none 0 0, .int .i64 0] 63 (0, 0))
  obtain ⟨B, hBe⟩ : ∃ B, w1.heap.size = B := ⟨_, rfl⟩
  have HBE := Lib.hid hBe
  rw [hBe] at hb1 hn1 hl ⊢
  obtain ⟨wA, hwA⟩ : ∃ W, w1.alloc (.cells #[.slice none 0 0, .int .i64 0] 63 (0, 0)) = W := ⟨_, rfl⟩
  rw [hwA] at hb1 hn1 ⊢
  have HB1 := Lib.hid hb1
  have HN1 := Lib.hid hn1
  have hBl : B < wA.heap.size := (Array.getElem?_eq_some_iff.1 hn1).1
  have HCE : Hid (∀ W, Below wA.heap.size wA W → W.cell? ⟨p, 0, none⟩ = some (.map (some m))) := Lib.hid (fun W hW => by
    rw [hW.cell (p := ⟨p, 0, none⟩) (by show p < _; omega), HB1.out.cell (p := ⟨p, 0, none⟩) hl]
    exact c0)
  have hl2 : p < wA.heap.size := by omega
  clear c0 hlk hlen hBe hwA hb1 hn1 i1 i2
  have hB : Below wA.heap.size wA wA.drew := (Below.refl _ _).drew
  refine region_mix (fun W => Below wA.heap.size wA W) (7) (.reads [0, 1, 2, 3, 4, 6] (.only 5 (.only 7 (.stop)))) (by kernel_rfl) (by kernel_rfl) (hB) ?_
  obtain ⟨wc, hwc⟩ : ∃ W, wA.drew = W := ⟨_, rfl⟩
  rw [hwc] at hB ⊢
  clear hwc
  repeat (
    refine plan_read rfl (fun K hK => ?_)
    first
      | (refine plan_neg ?_ ?_
         focus (go_simp; done)
         go_simp
         refine hK _ ?_
         clear hK K)
      | (apply plan_pos
         focus (go_simp; done)
         focus (
           intro W hW
           (have d0 := HCE.out W hW)
           go_simp
           first
             | done
             | exact rfl)
         go_simp
         refine hK _ ?_
         clear hK K))
  refine plan_only rfl (fun Q hQ => ?_)
  go_wp2_with (go_at_call 37; (with_reducible refine (sclone_any k hk _).mono ?_); rintro e0 wd ⟨rfl, hb⟩)
  replace hB := hB.trans (hb.mono hB.size)
  refine hQ _ _ (fun _ => hB) ?_
  clear hQ Q
  refine plan_only rfl (fun Q hQ => ?_)
  have QA : Hid (PAt wA p m loc ⟨D.fs, D.acts + 1, D.arm, false⟩) := Lib.hid (Q1.out.below (by rw [HBE.out]; exact HB1.out))
  have FA : Hid (FileAt wA (B, .slice none 0 0) ⟨k, [], 0⟩) := Lib.hid ⟨HN1.out, World.ownsRow_nil _ _ _ _⟩
  obtain ⟨w3, hst, hm3, hg3⟩ := (QA.out.map.moved (hB.block m QA.out.map.lt)).store (gs := putF D.fs ⟨k, [], 0⟩) HK.out.fs.len k hk B (updL loc k (B, .slice none 0 0)) (by rw [updL_same]) (fun i hi => updL_other _ _ hi) (fun i => put_some HK.out.fs.rise _ i) (put_len_eq HK.out.fs.rise _)
  have G3 : Hid (wA.grownBy w3 (some m)) := Lib.hid (gbt (gbb _ hB) hg3)
  have Q3 := Lib.hid (QA.out.added HK.out.fs.rise FA.out (fun f hf e => by
    have := (Q1.out.file f hf).lt.1
    rw [e, HBE.out] at this
    omega) hm3 G3.out)
  have hF3 : findF (putF D.fs ⟨k, [], 0⟩) k = some ⟨k, [], 0⟩ := by rw [find_put HK.out.fs.rise, if_pos rfl]
  have X3 := Q3.out.file ⟨k, [], 0⟩ (find_mem hF3).1
  obtain ⟨v', w4, hap, hrow4, hg4, hnew4⟩ := append_str (s := s) X3.row (by simp) hs
  obtain ⟨sA, sC, hsf⟩ := row_form hrow4
  subst hsf
  have hlB : (updL loc k (B, .slice none 0 0) k) = (B, .slice none 0 0) := updL_same _ _ _
  obtain ⟨e0, e1, ef, el⟩ := X3.cells
  dsimp only at e0 e1 ef el hap hrow4 hg4 hnew4
  rw [hlB] at e0 e1 ef el hap hg4 hnew4
  have f0 := hg4.cell e0 (fun e => by cases e)
  have ff : w4.frozen? ⟨B, 0, none⟩ = false := (hg4.frozen_far ⟨B, 0, none⟩ el (fun e => by cases e)).trans (ef 0)
  have fl : B < w4.heap.size := Nat.lt_of_lt_of_le el hg4.size
  have ROW := Lib.hid hrow4
  have G4 := Lib.hid hg4
  have NEW := Lib.hid hnew4
  have HF3 := Lib.hid hF3
  have HLB := Lib.hid hlB
  dsimp only [List.length_nil] at hap e0 f0
  clear hm3 hg3 hF3 X3 hrow4 hg4 hnew4 hlB ef e1 hb
  go_wp2
  refine hQ _ _ (fun h => absurd h (by omega)) ?_
  clear hQ Q
  unfold Plan.wp
  go_wp2_with (at_builtin; refine wpList_append_any rfl _ _ _ _ rfl _ _ _ _ rfl rfl hap ?_)
  go_ret
  have hfin := Q3.out.appended (put_rise HK.out.fs.rise _) HF3.out ROW.out (by rw [HLB.out]; exact G4.out) (by rw [HLB.out]; exact NEW.out)
  rw [HLB.out, updL_twice] at hfin
  dsimp only at hfin
  rw [put_put HK.out.fs.rise ⟨k, [], 0⟩ ⟨k, [] ++ s, 0⟩ rfl, List.nil_append] at hfin
  refine ⟨rfl, p_turn HR.out HO.out hfin (new_beside (fun b e => (HR.out b).2 e) g1 (gbt (gbb _ (by rw [HBE.out]; exact HB1.out)) G3.out) (Nat.le_of_eq HBE.out) G4.out) fun b e => blk_add HK.out.fs.rise (by have := g1.size; have := HBE.out; omega) (fun b e => ?_) e⟩
  rcases NEW.out b e with e | e
  · cases e
  · have := g1.size; have := HBE.out; have := G3.out.size; omega
end Go.Proofs.Ytffpmcelelloeaa
