/-
  The law's own Fit: a raw grant as a message.
-/
import Derived.Test.YtbbogkmibiealaaCfit16
namespace Go.Proofs.Ytbbogkmibiealaa
open Go.RowKit Gm

namespace Gm
structure GrE where
  kind : Int
  cell : Int
  boot : Int
  epoch : Int
  ver : Int
  unt : Int
  l : List Int
instance : Inhabited GrE := ⟨⟨0, 0, 0, 0, 0, 0, []⟩⟩
def fitM (g : GrE) : Ms := ⟨if pk g.kind 9 = 8 then 2 else 1, if pk g.cell 9 = 8 then 1 else 0, pk g.boot 3, pk g.epoch 5, pk g.ver 7, pk g.unt 60, fitL g.l⟩
theorem fitM_ok (g : GrE) : OkM (fitM g) := by
  have h1 := pk_bd g.boot 3 (by omega)
  have h2 := pk_bd g.epoch 5 (by omega)
  have h3 := pk_bd g.ver 7 (by omega)
  have h4 := pk_bd g.unt 60 (by omega)
  refine ⟨?_, fitL_ok g.l⟩
  unfold I64 fitM
  dsimp only
  refine ⟨?_, ?_, by omega, by omega, by omega, by omega⟩ <;> split <;> omega
end Gm
abbrev grO (k c b e v u : Int) (a : Option Addr) (n cap : Nat) : Obj := .cells #[.int .i64 k, .int .i64 c, .int .i64 b, .int .i64 e, .int .i64 v, .int .i64 u, .slice a n cap] 42 (0, 0)
theorem gr_cells {W : World} {g : Nat} {k c b e v u : Int} {a : Option Addr} {n cap : Nat} (h : W.heap[g]? = some (grO k c b e v u a n cap)) :
    W.cell? ⟨g, 0, none⟩ = some (.int .i64 k) ∧ W.cell? ⟨g, 1, none⟩ = some (.int .i64 c) ∧ W.cell? ⟨g, 2, none⟩ = some (.int .i64 b) ∧ W.cell? ⟨g, 3, none⟩ = some (.int .i64 e) ∧ W.cell? ⟨g, 4, none⟩ = some (.int .i64 v) ∧ W.cell? ⟨g, 5, none⟩ = some (.int .i64 u) ∧ W.cell? ⟨g, 6, none⟩ = some (.slice a n cap) ∧ g < W.heap.size :=
  ⟨cell_of_row _ _ _ _ _ _ h, cell_of_row _ _ _ _ _ _ h, cell_of_row _ _ _ _ _ _ h, cell_of_row _ _ _ _ _ _ h, cell_of_row _ _ _ _ _ _ h, cell_of_row _ _ _ _ _ _ h, cell_of_row _ _ _ _ _ _ h, (Array.getElem?_eq_some_iff.1 h).1⟩
set_option maxRecDepth 100000 in
set_option maxHeartbeats 8000000 in
theorem fit_any (k c b e v u : Int) (hnum : I64 k ∧ I64 c ∧ I64 b ∧ I64 e ∧ I64 v ∧ I64 u) (B : Nat) (az : Option Addr) (nz capz : Nat) (z : List Int) (w : World) (hz : KeepB B w az nz z) (hBw : B ≤ w.heap.size) :
    Calls Try.prog 19 #[.agg #[.int .i64 k, .int .i64 c, .int .i64 b, .int .i64 e, .int .i64 v, .int .i64 u, .slice az nz capz]] w fun x w' => ∃ a cap, x = .returned (msgV (if pk k 9 = 8 then 2 else 1) (if pk c 9 = 8 then 1 else 0) (pk b 3) (pk e 5) (pk v 7) (pk u 60) a (fitL z).length cap) ∧ w'.ownsRow w.heap.size 35 3 (.slice a (fitL z).length cap) (fitL z).length (bdsV (fitL z)) ∧ Below w.heap.size w w' := by
  have HP1 := Lib.hid (fun W => pick_any k 9 W hnum.1 (by omega) (by omega))
  have HP2 := Lib.hid (fun W => pick_any c 9 W hnum.2.1 (by omega) (by omega))
  have HP3 := Lib.hid (fun W => pick_any b 3 W hnum.2.2.1 (by omega) (by omega))
  have HP4 := Lib.hid (fun W => pick_any e 5 W hnum.2.2.2.1 (by omega) (by omega))
  have HP5 := Lib.hid (fun W => pick_any v 7 W hnum.2.2.2.2.1 (by omega) (by omega))
  have HP6 := Lib.hid (fun W => pick_any u 60 W hnum.2.2.2.2.2 (by omega) (by omega))
  obtain ⟨p1, hp1⟩ : ∃ p, pk k 9 = p := ⟨_, rfl⟩
  obtain ⟨p2, hp2⟩ : ∃ p, pk c 9 = p := ⟨_, rfl⟩
  obtain ⟨p3, hp3⟩ : ∃ p, pk b 3 = p := ⟨_, rfl⟩
  obtain ⟨p4, hp4⟩ : ∃ p, pk e 5 = p := ⟨_, rfl⟩
  obtain ⟨p5, hp5⟩ : ∃ p, pk v 7 = p := ⟨_, rfl⟩
  obtain ⟨p6, hp6⟩ : ∃ p, pk u 60 = p := ⟨_, rfl⟩
  rw [hp1] at HP1
  rw [hp2] at HP2
  rw [hp3] at HP3
  rw [hp4] at HP4
  rw [hp5] at HP5
  rw [hp6] at HP6
  rw [hp1, hp2, hp3, hp4, hp5, hp6]
  obtain ⟨K, hK⟩ : ∃ K, (if p1 = 8 then (2 : Int) else 1) = K := ⟨_, rfl⟩
  obtain ⟨C, hC⟩ : ∃ C, (if p2 = 8 then (1 : Int) else 0) = C := ⟨_, rfl⟩
  rw [hK, hC]
  have HKV : Hid ((p1 = 8 → K = 2) ∧ (¬ p1 = 8 → K = 1)) := Lib.hid ⟨fun h => by rw [← hK, if_pos h], fun h => by rw [← hK, if_neg h]⟩
  have HCV : Hid ((p2 = 8 → C = 1) ∧ (¬ p2 = 8 → C = 0)) := Lib.hid ⟨fun h => by rw [← hC, if_pos h], fun h => by rw [← hC, if_neg h]⟩
  clear hK hC
  have hb0 : Below w.heap.size w ((w.alloc (grO k c b e v u az nz capz)).alloc zmsg) := ((Below.refl _ w).alloc (Nat.le_refl _) _).alloc (by simp) _
  have hm0 := new_at w (grO k c b e v u az nz capz)
  have hm1 := (((Below.refl _ (w.alloc (grO k c b e v u az nz capz))).alloc (Nat.le_refl _) zmsg).block w.heap.size (by simp)).trans hm0
  have hr1 := new_at (w.alloc (grO k c b e v u az nz capz)) zmsg
  rw [show (w.alloc (grO k c b e v u az nz capz)).heap.size = w.heap.size + 1 by simp] at hr1
  have hs0 : ((w.alloc (grO k c b e v u az nz capz)).alloc zmsg).heap.size = w.heap.size + 2 := by simp
  obtain ⟨zl, hzl⟩ : ∃ l, fitL z = l := ⟨_, rfl⟩
  rw [hzl]
  have HF16 : Hid (Calls Try.prog 28 #[msgV 0 0 0 0 0 0 none 0 0, .slice az nz capz] ((w.alloc (grO k c b e v u az nz capz)).alloc zmsg) fun x w' => ∃ q1 q2 q3 q4 q5 q6 a cap, x = .returned (msgV q1 q2 q3 q4 q5 q6 a zl.length cap) ∧ w'.ownsRow ((w.alloc (grO k c b e v u az nz capz)).alloc zmsg).heap.size 35 3 (.slice a zl.length cap) zl.length (bdsV zl) ∧ Below ((w.alloc (grO k c b e v u az nz capz)).alloc zmsg).heap.size ((w.alloc (grO k c b e v u az nz capz)).alloc zmsg) w') := Lib.hid (by
    rw [← hzl]
    have h0 : I64 0 := by unfold I64; omega
    exact (fit16_any 0 0 0 0 0 0 ⟨h0, h0, h0, h0, h0, h0⟩ none 0 0 B az nz capz z _ (hz.below (hb0.mono hBw)) (Nat.le_trans hBw hb0.size)).mono fun x w' ⟨a, cap, h1, h2, h3⟩ => ⟨_, _, _, _, _, _, a, cap, h1, h2, h3⟩)
  obtain ⟨c0, c1, c2, c3, c4, c5, c6, cl⟩ := gr_cells hm1
  obtain ⟨n, hn⟩ : ∃ n, zl.length = n := ⟨_, rfl⟩
  rw [hn] at HF16 ⊢
  have HM1 := Lib.hid hm1
  have HR1 := Lib.hid hr1
  have HS0 := Lib.hid hs0
  have HB0 := Lib.hid hb0
  clear hnum hz hBw hp1 hp2 hp3 hp4 hp5 hp6 hb0 hm0 hm1 hr1 hs0 hzl hn
  go_enter Try.func19, Try.ntmps19
  go_upto_region 1 with fail
  obtain ⟨W0, hW0⟩ : ∃ W, (w.alloc (grO k c b e v u az nz capz)).alloc zmsg = W := ⟨_, rfl⟩
  rw [hW0] at HF16 HM1 HR1 HS0 HB0 c0 c1 c2 c3 c4 c5 c6 cl ⊢
  clear hW0
  go_upto_region 2 with (go_at_call 28; (with_reducible refine HF16.out.mono ?_); rintro x w1 ⟨q1, q2, q3, q4, q5, q6, a, cap, rfl, ho1, hb1⟩; have HO1 := Lib.hid ho1; have HB1 := Lib.hid hb1; clear ho1 hb1)
  have hrl : w.heap.size + 1 < W0.heap.size := by have := HS0.out; omega
  have hg1 := (HB1.out.block w.heap.size cl).trans HM1.out
  have hz1 := (HB1.out.block (w.heap.size + 1) hrl).trans HR1.out
  have hgl := (Array.getElem?_eq_some_iff.1 hg1).1
  have hzl := (Array.getElem?_eq_some_iff.1 hz1).1
  have hold : ∀ (o : Obj) b, b < w1.heap.size → (w1.alloc o).heap[b]? = w1.heap[b]? := fun o b hb => ((Below.refl w1.heap.size w1).alloc (Nat.le_refl _) o).block b hb
  have g0 : ∀ o, (w1.alloc o).cell? ⟨w.heap.size, 0, none⟩ = some (.int .i64 k) := fun o => (gr_cells ((hold o _ hgl).trans hg1)).1
  have g1 : ∀ o, (w1.alloc o).cell? ⟨w.heap.size, 1, none⟩ = some (.int .i64 c) := fun o => (gr_cells ((hold o _ hgl).trans hg1)).2.1
  have g2 : ∀ o, (w1.alloc o).cell? ⟨w.heap.size, 2, none⟩ = some (.int .i64 b) := fun o => (gr_cells ((hold o _ hgl).trans hg1)).2.2.1
  have g3 : ∀ o, (w1.alloc o).cell? ⟨w.heap.size, 3, none⟩ = some (.int .i64 e) := fun o => (gr_cells ((hold o _ hgl).trans hg1)).2.2.2.1
  have g4 : ∀ o, (w1.alloc o).cell? ⟨w.heap.size, 4, none⟩ = some (.int .i64 v) := fun o => (gr_cells ((hold o _ hgl).trans hg1)).2.2.2.2.1
  have g5 : ∀ o, (w1.alloc o).cell? ⟨w.heap.size, 5, none⟩ = some (.int .i64 u) := fun o => (gr_cells ((hold o _ hgl).trans hg1)).2.2.2.2.2.1
  have z0 : w1.cell? ⟨w.heap.size + 1, 0, none⟩ = some (.int .i64 0) := (msg_cells hz1).1
  have z1 : w1.cell? ⟨w.heap.size + 1, 1, none⟩ = some (.int .i64 0) := (msg_cells hz1).2.1
  have z2 : w1.cell? ⟨w.heap.size + 1, 2, none⟩ = some (.int .i64 0) := (msg_cells hz1).2.2.1
  have z3 : w1.cell? ⟨w.heap.size + 1, 3, none⟩ = some (.int .i64 0) := (msg_cells hz1).2.2.2.1
  have z4 : w1.cell? ⟨w.heap.size + 1, 4, none⟩ = some (.int .i64 0) := (msg_cells hz1).2.2.2.2.1
  have z5 : w1.cell? ⟨w.heap.size + 1, 5, none⟩ = some (.int .i64 0) := (msg_cells hz1).2.2.2.2.2.1
  have z6 : w1.cell? ⟨w.heap.size + 1, 6, none⟩ = some (.slice none 0 0) := (msg_cells hz1).2.2.2.2.2.2.1
  have zf0 : w1.frozen? ⟨w.heap.size + 1, 0, none⟩ = false := (msg_cells hz1).2.2.2.2.2.2.2.1 0
  have zf1 : w1.frozen? ⟨w.heap.size + 1, 1, none⟩ = false := (msg_cells hz1).2.2.2.2.2.2.2.1 1
  have zf2 : w1.frozen? ⟨w.heap.size + 1, 2, none⟩ = false := (msg_cells hz1).2.2.2.2.2.2.2.1 2
  have zf3 : w1.frozen? ⟨w.heap.size + 1, 3, none⟩ = false := (msg_cells hz1).2.2.2.2.2.2.2.1 3
  have zf4 : w1.frozen? ⟨w.heap.size + 1, 4, none⟩ = false := (msg_cells hz1).2.2.2.2.2.2.2.1 4
  have zf5 : w1.frozen? ⟨w.heap.size + 1, 5, none⟩ = false := (msg_cells hz1).2.2.2.2.2.2.2.1 5
  have zf6 : w1.frozen? ⟨w.heap.size + 1, 6, none⟩ = false := (msg_cells hz1).2.2.2.2.2.2.2.1 6
  have HFIN : Hid (∀ K C : Int, ((((((((w1.setCell ⟨w.heap.size + 1, 0, none⟩ (.int .i64 K)).setCell ⟨w.heap.size + 1, 1, none⟩ (.int .i64 C)).setCell ⟨w.heap.size + 1, 2, none⟩ (.int .i64 p3)).setCell ⟨w.heap.size + 1, 3, none⟩ (.int .i64 p4)).setCell ⟨w.heap.size + 1, 4, none⟩ (.int .i64 p5)).setCell ⟨w.heap.size + 1, 5, none⟩ (.int .i64 p6)).setCell ⟨w.heap.size + 1, 6, none⟩ (.slice a n cap)).alloc (msgO K C p3 p4 p5 p6 a n cap)).heap[w.heap.size + 1]? = some (msgO K C p3 p4 p5 p6 a n cap) ∧
      ((((((((w1.setCell ⟨w.heap.size + 1, 0, none⟩ (.int .i64 K)).setCell ⟨w.heap.size + 1, 1, none⟩ (.int .i64 C)).setCell ⟨w.heap.size + 1, 2, none⟩ (.int .i64 p3)).setCell ⟨w.heap.size + 1, 3, none⟩ (.int .i64 p4)).setCell ⟨w.heap.size + 1, 4, none⟩ (.int .i64 p5)).setCell ⟨w.heap.size + 1, 5, none⟩ (.int .i64 p6)).setCell ⟨w.heap.size + 1, 6, none⟩ (.slice a n cap)).alloc (msgO K C p3 p4 p5 p6 a n cap)).ownsRow w.heap.size 35 3 (.slice a n cap) n (bdsV zl) ∧
      Below w.heap.size w ((((((((w1.setCell ⟨w.heap.size + 1, 0, none⟩ (.int .i64 K)).setCell ⟨w.heap.size + 1, 1, none⟩ (.int .i64 C)).setCell ⟨w.heap.size + 1, 2, none⟩ (.int .i64 p3)).setCell ⟨w.heap.size + 1, 3, none⟩ (.int .i64 p4)).setCell ⟨w.heap.size + 1, 4, none⟩ (.int .i64 p5)).setCell ⟨w.heap.size + 1, 5, none⟩ (.int .i64 p6)).setCell ⟨w.heap.size + 1, 6, none⟩ (.slice a n cap)).alloc (msgO K C p3 p4 p5 p6 a n cap))) := Lib.hid fun K C => by
    have hbw := seven_set (HB0.out.trans (HB1.out.mono HB0.out.size)) (show w.heap.size ≤ w.heap.size + 1 by omega) (.int .i64 K) (.int .i64 C) (.int .i64 p3) (.int .i64 p4) (.int .i64 p5) (.int .i64 p6) (.slice a n cap)
    have hms := msg_set (k := K) (c := C) (b := p3) (e := p4) (v := p5) (u := p6) (a := a) (n := n) (cap := cap) hz1 rfl
    refine ⟨(((Below.refl _ _).alloc (Nat.le_refl _) _).block _ (Array.getElem?_eq_some_iff.1 hms).1).trans hms, own_low ((row_moved HO1.out fun b e => seven_far _ _ _ (fun e' => by have := (HO1.out.lt b e).1; omega) _ _ _ _ _ _ _).alloc _) HB0.out.size, hbw.alloc hbw.size _⟩
  clear hold hg1 hz1 hrl
  by_cases h1 : p1 = 8
  · have f1 : (p1 == 8) = true := by simpa using h1
    have HK : Hid (K = 2) := Lib.hid (HKV.out.1 h1)
    clear h1
    by_cases h2 : p2 = 8
    · have f3 : (p2 == 8) = true := by simpa using h2
      have HC : Hid (C = 1) := Lib.hid (HCV.out.1 h2)
      clear h2
      go_wp2_with (first
        | (go_at_call 20; (with_reducible refine (HP1.out _).mono ?_); rintro x w2 ⟨rfl, rfl⟩)
        | (go_at_call 20; (with_reducible refine (HP2.out _).mono ?_); rintro x w2 ⟨rfl, rfl⟩)
        | (go_at_call 20; (with_reducible refine (HP3.out _).mono ?_); rintro x w2 ⟨rfl, rfl⟩)
        | (go_at_call 20; (with_reducible refine (HP4.out _).mono ?_); rintro x w2 ⟨rfl, rfl⟩)
        | (go_at_call 20; (with_reducible refine (HP5.out _).mono ?_); rintro x w2 ⟨rfl, rfl⟩)
        | (go_at_call 20; (with_reducible refine (HP6.out _).mono ?_); rintro x w2 ⟨rfl, rfl⟩))
      (try simp only [Exit.inBlock, Exit.then])
      refine bodyPost_ret (results_cell_row (cs := #[.int .i64 2, .int .i64 1, .int .i64 p3, .int .i64 p4, .int .i64 p5, .int .i64 p6, .slice a n cap]) rfl _ _ (w.heap.size + 1) 31 (0, 0) _ rfl (HFIN.out 2 1).1 Try.underlying31 rfl (by kernel_rfl)) rfl ?_
      rw [HK.out, HC.out]
      exact ⟨a, cap, rfl, (HFIN.out 2 1).2.1, (HFIN.out 2 1).2.2⟩
    · have f3 : (p2 == 8) = false := by simpa using h2
      have HC : Hid (C = 0) := Lib.hid (HCV.out.2 h2)
      clear h2
      go_wp2_with (first
        | (go_at_call 20; (with_reducible refine (HP1.out _).mono ?_); rintro x w2 ⟨rfl, rfl⟩)
        | (go_at_call 20; (with_reducible refine (HP2.out _).mono ?_); rintro x w2 ⟨rfl, rfl⟩)
        | (go_at_call 20; (with_reducible refine (HP3.out _).mono ?_); rintro x w2 ⟨rfl, rfl⟩)
        | (go_at_call 20; (with_reducible refine (HP4.out _).mono ?_); rintro x w2 ⟨rfl, rfl⟩)
        | (go_at_call 20; (with_reducible refine (HP5.out _).mono ?_); rintro x w2 ⟨rfl, rfl⟩)
        | (go_at_call 20; (with_reducible refine (HP6.out _).mono ?_); rintro x w2 ⟨rfl, rfl⟩))
      (try simp only [Exit.inBlock, Exit.then])
      refine bodyPost_ret (results_cell_row (cs := #[.int .i64 2, .int .i64 0, .int .i64 p3, .int .i64 p4, .int .i64 p5, .int .i64 p6, .slice a n cap]) rfl _ _ (w.heap.size + 1) 31 (0, 0) _ rfl (HFIN.out 2 0).1 Try.underlying31 rfl (by kernel_rfl)) rfl ?_
      rw [HK.out, HC.out]
      exact ⟨a, cap, rfl, (HFIN.out 2 0).2.1, (HFIN.out 2 0).2.2⟩
  · have f1 : (p1 == 8) = false := by simpa using h1
    have HK : Hid (K = 1) := Lib.hid (HKV.out.2 h1)
    clear h1
    by_cases h2 : p2 = 8
    · have f3 : (p2 == 8) = true := by simpa using h2
      have HC : Hid (C = 1) := Lib.hid (HCV.out.1 h2)
      clear h2
      go_wp2_with (first
        | (go_at_call 20; (with_reducible refine (HP1.out _).mono ?_); rintro x w2 ⟨rfl, rfl⟩)
        | (go_at_call 20; (with_reducible refine (HP2.out _).mono ?_); rintro x w2 ⟨rfl, rfl⟩)
        | (go_at_call 20; (with_reducible refine (HP3.out _).mono ?_); rintro x w2 ⟨rfl, rfl⟩)
        | (go_at_call 20; (with_reducible refine (HP4.out _).mono ?_); rintro x w2 ⟨rfl, rfl⟩)
        | (go_at_call 20; (with_reducible refine (HP5.out _).mono ?_); rintro x w2 ⟨rfl, rfl⟩)
        | (go_at_call 20; (with_reducible refine (HP6.out _).mono ?_); rintro x w2 ⟨rfl, rfl⟩))
      (try simp only [Exit.inBlock, Exit.then])
      refine bodyPost_ret (results_cell_row (cs := #[.int .i64 1, .int .i64 1, .int .i64 p3, .int .i64 p4, .int .i64 p5, .int .i64 p6, .slice a n cap]) rfl _ _ (w.heap.size + 1) 31 (0, 0) _ rfl (HFIN.out 1 1).1 Try.underlying31 rfl (by kernel_rfl)) rfl ?_
      rw [HK.out, HC.out]
      exact ⟨a, cap, rfl, (HFIN.out 1 1).2.1, (HFIN.out 1 1).2.2⟩
    · have f3 : (p2 == 8) = false := by simpa using h2
      have HC : Hid (C = 0) := Lib.hid (HCV.out.2 h2)
      clear h2
      go_wp2_with (first
        | (go_at_call 20; (with_reducible refine (HP1.out _).mono ?_); rintro x w2 ⟨rfl, rfl⟩)
        | (go_at_call 20; (with_reducible refine (HP2.out _).mono ?_); rintro x w2 ⟨rfl, rfl⟩)
        | (go_at_call 20; (with_reducible refine (HP3.out _).mono ?_); rintro x w2 ⟨rfl, rfl⟩)
        | (go_at_call 20; (with_reducible refine (HP4.out _).mono ?_); rintro x w2 ⟨rfl, rfl⟩)
        | (go_at_call 20; (with_reducible refine (HP5.out _).mono ?_); rintro x w2 ⟨rfl, rfl⟩)
        | (go_at_call 20; (with_reducible refine (HP6.out _).mono ?_); rintro x w2 ⟨rfl, rfl⟩))
      (try simp only [Exit.inBlock, Exit.then])
      refine bodyPost_ret (results_cell_row (cs := #[.int .i64 1, .int .i64 0, .int .i64 p3, .int .i64 p4, .int .i64 p5, .int .i64 p6, .slice a n cap]) rfl _ _ (w.heap.size + 1) 31 (0, 0) _ rfl (HFIN.out 1 0).1 Try.underlying31 rfl (by kernel_rfl)) rfl ?_
      rw [HK.out, HC.out]
      exact ⟨a, cap, rfl, (HFIN.out 1 0).2.1, (HFIN.out 1 0).2.2⟩
end Go.Proofs.Ytbbogkmibiealaa
