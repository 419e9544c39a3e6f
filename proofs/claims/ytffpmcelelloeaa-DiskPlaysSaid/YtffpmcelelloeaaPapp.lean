/-
  The program's disk: Append.
-/
import Derived.Test.YtffpmcelelloeaaAppstr
import Derived.Test.YtffpmcelelloeaaPren
namespace Go.Proofs.Ytffpmcelelloeaa
open Go.RowKit Gm

namespace Gm
theorem put_put : ∀ {l : List Fl} (_ : Rise l) (f g : Fl), g.nm = f.nm → putF (putF l f) g = putF l g
  | [], _, f, g, e => by
    show (if f.nm < g.nm then f :: putF [] g else if f.nm = g.nm then g :: [] else g :: f :: []) = [g]
    rw [e, if_neg (bs_irr _), if_pos rfl]
  | h :: l, hr, f, g, e => by
    obtain ⟨h1, h2⟩ := rise_cons.1 hr
    show putF (if h.nm < f.nm then h :: putF l f else if h.nm = f.nm then f :: l else f :: h :: l) g = (if h.nm < g.nm then h :: putF l g else if h.nm = g.nm then g :: l else g :: h :: l)
    rw [e]
    by_cases c : h.nm < f.nm
    · rw [if_pos c, if_pos c]
      show (if h.nm < g.nm then h :: putF (putF l f) g else _) = _
      rw [e, if_pos c, put_put h2 f g e]
    · rw [if_neg c, if_neg c]
      by_cases c' : h.nm = f.nm
      · rw [if_pos c', if_pos c']
        show (if f.nm < g.nm then f :: putF l g else if f.nm = g.nm then g :: l else g :: f :: l) = _
        rw [e, if_neg (bs_irr _), if_pos rfl]
      · rw [if_neg c', if_neg c']
        show (if f.nm < g.nm then f :: putF (h :: l) g else if f.nm = g.nm then g :: h :: l else g :: f :: h :: l) = _
        rw [e, if_neg (bs_irr _), if_pos rfl]
end Gm

theorem row_form {W : World} {base e size n : Nat} {v : Value} {xs : List Value} (h : W.ownsRow base e size v n xs) : ∃ A c, v = .slice A n c := by
  rcases h.2 with ⟨rfl, rfl⟩ | ⟨g, cap, cur, rfl, _⟩
  · exact ⟨_, _, rfl⟩
  · exact ⟨_, _, rfl⟩
/-- A file more, without bytes. -/
theorem PAt.added {w w' : World} {p m : Nat} {loc : Loc} {D : Dk} (h : PAt w p m loc D) (hr : Rise D.fs) {k : Bs} {B : Nat} (hx : FileAt w (B, .slice none 0 0) ⟨k, [], 0⟩) (hn : ∀ f ∈ D.fs, (loc f.nm).1 ≠ B)
    (hm : MapAt w' m (updL loc k (B, .slice none 0 0)) (putF D.fs ⟨k, [], 0⟩)) (hg : w.grownBy w' (some m)) : PAt w' p m (updL loc k (B, .slice none 0 0)) { D with fs := putF D.fs ⟨k, [], 0⟩ } := by
  refine h.mapped hm hg (fun g hg => ?_) fun g hg i hi hne => ?_
  · rcases put_mem' hr hg with rfl | ⟨g1, g2⟩
    · rw [updL_same]; exact hx
    · rw [updL_other _ _ g2]; exact h.file g g1
  · rcases put_mem' hr hg with rfl | ⟨g1, g2⟩
    · rcases put_mem' hr hi with rfl | ⟨i1, i2⟩
      · exact absurd rfl hne
      · rw [updL_same, updL_other _ _ i2]
        exact ⟨fun e => hn i i1 e.symm, fun b e => by cases e⟩
    · rcases put_mem' hr hi with rfl | ⟨i1, i2⟩
      · rw [updL_same, updL_other _ _ g2]
        exact ⟨hn g g1, fun b _ e => by cases e⟩
      · rw [updL_other _ _ g2, updL_other _ _ i2]; exact h.ne g g1 i i1 hne
/-- A file has bytes more. -/
theorem PAt.appended {w w1 : World} {p m : Nat} {loc : Loc} {D : Dk} (h : PAt w p m loc D) (hr : Rise D.fs) {k : Bs} {f : Fl} (hf : findF D.fs k = some f) {s : Bs} {v' : Value} (hrow : w1.ownsRow 0 5 1 v' (f.tx ++ s).length (byV (f.tx ++ s))) (hg : w.grownBy w1 (loc k).2.ownBlock)
    (hv : ∀ b, v'.ownBlock = some b → (loc k).2.ownBlock = some b ∨ w.heap.size ≤ b) : PAt (w1.setCell ⟨(loc k).1, 0, none⟩ v') p m (updL loc k ((loc k).1, v')) { D with fs := putF D.fs ⟨k, f.tx ++ s, f.sy⟩ } := by
  obtain ⟨h1, h2⟩ := find_mem hf
  subst h2
  have hx := h.file f h1
  have hb1 : w1.heap[(loc f.nm).1]? = some (.cells #[(loc f.nm).2, .int .i64 (f.sy : Int)] 63 (0, 0)) := (hg.block _ hx.lt.1 fun e => hx.apart e.symm rfl).trans hx.blk
  refine h.put hr hf ⟨?_, row_moved hrow fun b e => Below.heap_setCell _ _ _ b fun e' => ?_⟩ (fun b hb hn hw => (Below.heap_setCell _ _ _ b hn).trans (hg.block b hb fun e => hw e.symm)) hv
  · simp [World.setCell, Array.getElem?_modify, hb1]
  · rcases hv b e with e2 | e2
    · exact hx.apart e2 e'
    · have := hx.lt.1
      have e3 : b = (loc f.nm).1 := e'
      omega
theorem app_beside {R : Nat → Prop} {p m : Nat} {loc : Loc} {fs : List Fl} {w w1 : World} {k : Bs} {f : Fl} {v' : Value} (hR : ∀ b, PBlk p m loc fs b → R b) (hf : findF fs k = some f) (hg : w.grownBy w1 (loc k).2.ownBlock) : Beside R w (w1.setCell ⟨(loc k).1, 0, none⟩ v') := by
  obtain ⟨h1, h2⟩ := find_mem hf
  subst h2
  exact (Beside.grown hg fun b e _ => hR b (.inr (.inr ⟨f, h1, .inr e⟩))).trans (Beside.set w1 v' (hR _ (.inr (.inr ⟨f, h1, .inl rfl⟩)))) fun b e _ => e

set_option maxRecDepth 100000 in
set_option maxHeartbeats 4000000 in
/-- A file that is there. -/
theorem append_has (p : Nat) (D : Dk) (R : Nat → Prop) (k s : Bs) (w : World) (h : PDisk w p D R) (ha : D.acts ≤ 1099511627776) (hk : k.length ≤ 1048576) (hs : s.length ≤ 1048576) {f : Fl} (hf : findF D.fs k = some f) (hg : goesD D = true) (hn : okName k = true) :
    Calls Try.prog 14 #[.pointer (some ⟨p, 0, none⟩), .string (S k), .string (S s)] w fun e w' => e = .returned (.int .i64 (appendD D k s).2) ∧ Turn PDisk w w' p (appendD D k s).1 R := by
  obtain ⟨ok, m, loc, hR, hp⟩ := h
  have HR := Lib.hid hR
  have HP := Lib.hid hp
  have HK := Lib.hid ok
  have hok' := ok.append k s
  have hft := (ok.fs.fit f (find_mem hf).1).tx
  unfold appendD at hok' ⊢
  rw [done_ok hg] at hok' ⊢
  have HF := Lib.hid hf
  have HG := Lib.hid hg
  have HN := Lib.hid hn
  have hss := S_size s
  have hb : ((S s).size : Int) ≤ 1048576 := by rw [hss]; omega
  have hft' : (f.tx.length : Int) ≤ 65536 := by omega
  by_cases hfull : 65536 < f.tx.length + s.length
  · have hr : appendF D.fs k s = (D.fs, 102) := by unfold appendF; rw [hn, hf]; simp only [if_true]; rw [if_pos hfull]
    rw [hr] at hok' ⊢
    have HO := Lib.hid hok'
    have i1 : decide ((65536 : Int) < (f.tx.length : Int) + ((S s).size : Int)) = true := decide_eq_true (by rw [hss]; omega)
    clear hg hok' hR hp ok hr hf hn hfull hss hft
    go_enter Try.func14, Try.ntmps14
    go_wp2_with (first
      | (go_at_call 35; (have hc := pact_any p m loc D w HP.out HK.out ha; rw [HG.out, goes_act HG.out] at hc; with_reducible refine hc.mono ?_); rintro e w1 ⟨rfl, q1, g1⟩; have Q1 := Lib.hid q1
         obtain ⟨c0, _, _, _, _, hl⟩ := q1.cells
         have hlk := q1.map.look2 k hk HF.out
         obtain ⟨m1, m2⟩ := find_mem HF.out
         have hfa := q1.file f m1
         rw [m2] at hfa
         obtain ⟨d0, d1, df, dl⟩ := hfa.cells
         obtain ⟨a, cap, hv⟩ := hfa.form
         rw [hv] at d0
         clear q1 hfa df hv m1 m2)
      | (go_at_call 36; (have hc := pname_any k w1 hk; rw [HN.out] at hc; with_reducible refine hc.mono ?_); rintro e w2 ⟨rfl, rfl⟩))
    go_ret
    exact ⟨rfl, p_same HR.out HO.out Q1.out rfl g1⟩
  · have hr : appendF D.fs k s = (putF D.fs ⟨k, f.tx ++ s, f.sy⟩, 0) := by unfold appendF; rw [hn, hf]; simp only [if_true]; rw [if_neg hfull]
    rw [hr] at hok' ⊢
    have HO := Lib.hid hok'
    have i1 : decide ((65536 : Int) < (f.tx.length : Int) + ((S s).size : Int)) = false := decide_eq_false (by rw [hss]; omega)
    clear hg hok' hR hp ok hr hf hn hfull hss
    go_enter Try.func14, Try.ntmps14
    go_wp2_with (first
      | (go_at_call 35; (have hc := pact_any p m loc D w HP.out HK.out ha; rw [HG.out, goes_act HG.out] at hc; with_reducible refine hc.mono ?_); rintro e w1 ⟨rfl, q1, g1⟩; have Q1 := Lib.hid q1
         obtain ⟨c0, _, _, _, _, hl⟩ := q1.cells
         have hlk := q1.map.look2 k hk HF.out
         obtain ⟨m1, m2⟩ := find_mem HF.out
         have hfa := q1.file f m1
         rw [m2] at hfa
         obtain ⟨d0, d1, df, dl⟩ := hfa.cells
         obtain ⟨v', w2, hap, hrow2, hg2, hnew2⟩ := append_str (s := s) hfa.row hft hs
         obtain ⟨sA, sC, hsf⟩ := row_form hrow2
         subst hsf
         have e0 := hg2.cell d0 (fun e => hfa.apart e.symm rfl)
         have ef : w2.frozen? ⟨(loc k).1, 0, none⟩ = false := (hg2.frozen_far ⟨(loc k).1, 0, none⟩ dl (fun e => hfa.apart e.symm rfl)).trans (df 0)
         have el : (loc k).1 < w2.heap.size := Nat.lt_of_lt_of_le dl hg2.size
         have ROW := Lib.hid hrow2
         have G2 := Lib.hid hg2
         have NEW := Lib.hid hnew2
         obtain ⟨a, cap, hv⟩ := hfa.form
         rw [hv] at d0 e0 hap
         clear q1 hfa df hv m1 m2 hrow2 hg2 hnew2)
      | (at_builtin; refine wpList_append_any rfl _ _ _ _ rfl _ _ _ _ rfl rfl hap ?_)
      | (go_at_call 36; (have hc := pname_any k w1 hk; rw [HN.out] at hc; with_reducible refine hc.mono ?_); rintro e w2 ⟨rfl, rfl⟩))
    go_ret
    rw [← List.length_append]
    exact ⟨rfl, p_turn HR.out HO.out (Q1.out.appended HK.out.fs.rise HF.out ROW.out G2.out NEW.out) ((beside_p HR.out (.inl rfl) g1).trans (app_beside (R := R) (fun b e => (HR.out b).2 e) HF.out G2.out) fun b hb _ => hb) fun b e => (blk_put HK.out.fs.rise HF.out NEW.out e).imp id (fun h => Nat.le_trans g1.size h)⟩
end Go.Proofs.Ytffpmcelelloeaa
