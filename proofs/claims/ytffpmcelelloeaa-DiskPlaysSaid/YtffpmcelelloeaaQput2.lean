/-
  The document's own disk: put, walked.
-/
import Derived.Test.YtffpmcelelloeaaQput
namespace Go.Proofs.Ytffpmcelelloeaa
open Go.RowKit Gm

theorem QAt.fileg {w : World} {p g n cap : Nat} {D : Dk} (h : QAt w p (.slice (some ⟨g, 0, none⟩) n cap) D) {i : Nat} (hi : i < D.fs.length) {x : Fl} (hx : D.fs[i] = x) : g < w.heap.size ∧ g ≠ p ∧
    w.cell? ⟨g, i * 3, none⟩ = some (.string (S x.nm)) ∧ w.cell? ⟨g, i * 3 + 1, none⟩ = some (.string (S x.tx)) ∧ w.cell? ⟨g, i * 3 + 2, none⟩ = some (.int .i64 (x.sy : Int)) := by
  obtain ⟨g', cap', hv, hg, hgp, f0, f1, f2, _⟩ := h.file hi
  injection hv with e1 e2 e3
  injection e1 with e1
  injection e1 with e1
  subst e1
  rw [hx] at f0 f1 f2
  exact ⟨hg, hgp, f0, f1, f2⟩
theorem own_form {W : World} {base e size n : Nat} {v : Value} {xs : List Value} (h : W.ownsRow base e size v n xs) : ∃ A c, v = .slice A n c := by
  rcases h.2 with ⟨rfl, rfl⟩ | ⟨g, cap, cur, rfl, _⟩
  · exact ⟨_, _, rfl⟩
  · exact ⟨_, _, rfl⟩
theorem own_base0 {W : World} {B e size n : Nat} {v : Value} {xs : List Value} (h : W.ownsRow B e size v n xs) : W.ownsRow 0 e size v n xs := by
  obtain ⟨h1, h2⟩ := h
  refine ⟨h1, ?_⟩
  rcases h2 with h2 | ⟨g, cap, cur, hv, _, r⟩
  · exact .inl h2
  · exact .inr ⟨g, cap, cur, hv, Nat.zero_le _, r⟩


/-- Behind i files, the row ov from a block behind the box. -/
structure PutB (w wr : World) (p : Nat) (v : Value) (D : Dk) (f : Fl) (out : List Fl) (ov : Value) : Prop where
  q : QAt wr p v D
  box : wr.heap[w.heap.size]? = some (.cells #[.string (S f.nm), .string (S f.tx), .int .i64 (f.sy : Int)] 67 (0, 0))
  own : wr.ownsRow (w.heap.size + 1) 67 3 ov out.length (filesV out)
  low : Below w.heap.size w wr
  small : out.length ≤ 10
theorem PutB.size {w wr : World} {p : Nat} {v : Value} {D : Dk} {f : Fl} {out : List Fl} {ov : Value} (h : PutB w wr p v D f out ov) : w.heap.size + 1 ≤ wr.heap.size := (Array.getElem?_eq_some_iff.1 h.box).1
theorem PutB.dn {w wr : World} {p : Nat} {v : Value} {D : Dk} {f : Fl} {out : List Fl} {ov : Value} (h : PutB w wr p v D f out ov) (n : Nat) : PutB w (wr.drewN n) p v D f out ov :=
  ⟨h.q.dn n, h.box, own_moved h.own fun _ _ => rfl, below_dn h.low n, h.small⟩
/-- One file more is out. -/
theorem PutB.more {w wr w1 w2 : World} {p : Nat} {v : Value} {D : Dk} {f x : Fl} {out : List Fl} {ov ov' : Value} (h : PutB w wr p v D f out ov) (hq : QAt w p v D) (h1 : w1 = wr.alloc (.cells #[.string (S x.nm), .string (S x.tx), .int .i64 (x.sy : Int)] 67)) (ho : w2.ownsRow (w.heap.size + 1) 67 3 ov' (out.length + 1) (filesV out ++ [.string (S x.nm), .string (S x.tx), .int .i64 (x.sy : Int)])) (hg : w1.grownBy w2 ov.ownBlock) (hs : out.length < 10) : PutB w w2 p v D f (out ++ [x]) ov' := by
  have hz := h.size
  have hne : ∀ k, ov.ownBlock = some k → w.heap.size + 1 ≤ k := fun k e => (h.own.lt k e).1
  have hb1 : Below (w.heap.size + 1) wr w1 := by rw [h1]; exact (Below.refl _ wr).alloc hz _
  have hb2 : Below (w.heap.size + 1) wr w2 := hb1.grown hg (Nat.le_trans hz hb1.size) hne
  have hb : Below w.heap.size w w2 := h.low.trans (hb2.mono (Nat.le_succ _))
  refine ⟨hq.below hb, (hb2.block _ (Nat.lt_succ_self _)).trans h.box, ?_, hb, by rw [List.length_append]; simp; omega⟩
  rw [filesV_app, List.length_append]
  exact ho

/-- The disk's row is now what is out. -/
theorem PutB.ends {w wr : World} {p : Nat} {v : Value} {D : Dk} {f : Fl} {out : List Fl} {ov : Value} (h : PutB w wr p v D f out ov) (hp : p < w.heap.size) : ∃ v', ov = v' ∧ QAt (wr.setCell ⟨p, 0, none⟩ ov) p v' { D with fs := out } ∧ w.grownBy (wr.setCell ⟨p, 0, none⟩ ov) (some p) ∧ (∀ b, v'.ownBlock = some b → w.heap.size ≤ b) :=
  ⟨ov, rfl, h.q.set0 (own_base0 h.own) (fun e => by have := (h.own.lt p e).1; omega), gbt (gbb _ h.low) (gbs _ _ _ _), fun b e => by have := (h.own.lt b e).1; omega⟩
set_option maxRecDepth 100000 in
set_option maxHeartbeats 4000000 in
theorem qput_any (p : Nat) (v : Value) (D : Dk) (f : Fl) (w : World) (h : QAt w p v D) (hr : Rise D.fs) (hl4 : D.fs.length ≤ 4) :
    Calls Try.prog 40 #[.pointer (some ⟨p, 0, none⟩), fileV f] w fun e w' => e = .returned (.tuple #[]) ∧ ∃ v', QAt w' p v' { D with fs := putF D.fs f } ∧ w.grownBy w' (some p) ∧ (∀ b, v'.ownBlock = some b → w.heap.size ≤ b) := by
  have HQ := Lib.hid h
  have HRISE := Lib.hid hr
  obtain ⟨a, cap, hv⟩ := h.form
  subst hv
  have hcl := h.lt.1
  obtain ⟨n, hn⟩ : ∃ n, D.fs.length = n := ⟨_, rfl⟩
  rw [hn] at hl4
  have hvn : (Value.slice a D.fs.length cap) = .slice a n cap := by rw [hn]
  rw [hvn] at HQ
  have HN := Lib.hid hn
  obtain ⟨i0, hi0, hz0, hz1, hz2⟩ := info_parts infoFile
  have hB0 : Below w.heap.size w (w.alloc (.cells #[.string (S f.nm), .string (S f.tx), .int .i64 (f.sy : Int)] 67)) := (Below.refl _ w).alloc (Nat.le_refl _) _
  have HP0 : Hid (PutB w (w.alloc (.cells #[.string (S f.nm), .string (S f.tx), .int .i64 (f.sy : Int)] 67)) p (.slice a n cap) D f (outN D.fs f 0) (.slice none 0 0)) := Lib.hid ⟨HQ.out.below hB0, new_at w _, World.ownsRow_nil _ _ _ _, hB0, by simp [outN, ptN]⟩
  clear h hr hn hvn hB0
  go_enter Try.func40, Try.ntmps40
  go_wp2
  go_loopw [4, 5, 6] (fun ov pv iv wr => ∃ i : Nat, i ≤ n ∧ iv = .int .i64 (i : Int) ∧ pv = .bool (ptN D.fs f i) ∧ PutB w wr p (.slice a n cap) D f (outN D.fs f i) ov) (fun _ _ iv _ => n - (intOf iv).toNat)
  case atStart => exact ⟨0, Nat.zero_le _, rfl, rfl, HP0.out⟩
  case round =>
    obtain ⟨i, hi, rfl, rfl, hp⟩ := hrel
    clear HP0
    have hsz := hp.size
    have HP := Lib.hid hp
    obtain ⟨c0, _, _, _, hfz, hpl⟩ := hp.q.cells
    obtain ⟨b0, b1, b2, hbl⟩ := box_at hp.box
    by_cases hlt : i < n
    · have hil : i < D.fs.length := by rw [HN.out]; exact hlt
      obtain ⟨g, cap', hv, _⟩ := hp.q.file hil
      have hva : a = some ⟨g, 0, none⟩ := by injection hv
      subst hva
      obtain ⟨x, hx⟩ : ∃ x, D.fs[i] = x := ⟨_, rfl⟩
      obtain ⟨hg, hgp, f0, f1, f2⟩ := hp.q.fileg hil hx
      have hol := out_len D.fs f i
      have hi0' : (0 : Int) ≤ (i : Int) := by omega
      have hi1 : (i : Int) < (n : Int) := by omega
      have HX := Lib.hid hx
      have hA := fun h => out_put HRISE.out (f := f) hil h
      have hB := fun h h' => out_less (f := f) hil h h'
      have hC := fun h h' => out_same (f := f) hil h h'
      have hDD := fun h h' => out_more (f := f) hil h h'
      rw [hx] at hA hB hC hDD
      have HA := Lib.hid hA
      have HB := Lib.hid hB
      have HC := Lib.hid hC
      have HDD := Lib.hid hDD
      obtain ⟨out, ho⟩ : ∃ o, outN D.fs f i = o := ⟨_, rfl⟩
      rw [ho] at HP hol HA HB HC HDD
      rw [HN.out] at hol
      clear hv hA hB hC hDD hp ho hfz
      rcases hpt : ptN D.fs f i with _ | _
      · have HIL := Lib.hid hil
        have HPT := Lib.hid hpt
        clear hpt
        rcases bs_tri x.nm f.nm with ht | ht | ht
        · have t1 : Op.bytesLess (S x.nm).toList (S f.nm).toList = true := by rw [less_S]; simpa using ht
          have t2 : ((S x.nm).toList == (S f.nm).toList) = false := by rw [S_beq]; simpa using bs_ne ht
          have HE := Lib.hid (HB.out HPT.out ht)
          clear ht
          go_wp2
          go_quiet (fail)
          obtain ⟨w1, hwq⟩ : ∃ W, wr.drewN nq = W := ⟨_, rfl⟩
          have HP1 : Hid (PutB w w1 p (.slice (some ⟨g, 0, none⟩) n cap) D f out u4) := Lib.hid (by have := HP.out.dn nq; rw [hwq] at this; exact this)
          rw [hwq]
          clear hwq
          clear c0 b0 b1 b2 f0 f1 f2 hpl hbl hg hgp
          obtain ⟨c0, _, _, _, _, hpl⟩ := HP1.out.q.cells
          obtain ⟨b0, b1, b2, hbl⟩ := box_at HP1.out.box
          obtain ⟨hg, hgp, f0, f1, f2⟩ := HP1.out.q.fileg HIL.out HX.out
          go_wp2
          go_quiet (fail)
          obtain ⟨w2, hwq⟩ : ∃ W, w1.drewN nq = W := ⟨_, rfl⟩
          have HP2 : Hid (PutB w w2 p (.slice (some ⟨g, 0, none⟩) n cap) D f out u4) := Lib.hid (by have := HP1.out.dn nq; rw [hwq] at this; exact this)
          rw [hwq]
          clear hwq
          clear c0 b0 b1 b2 f0 f1 f2 hpl hbl hg hgp
          obtain ⟨c0, _, _, _, _, hpl⟩ := HP2.out.q.cells
          obtain ⟨b0, b1, b2, hbl⟩ := box_at HP2.out.box
          obtain ⟨hg, hgp, f0, f1, f2⟩ := HP2.out.q.fileg HIL.out HX.out
          go_wp2_with (
             at_builtin
             refine wpList_append_own _ rfl _ _ 56 rfl (w.heap.size + 1) 67 i0 _ 3 40 Try.underlying56 hi0 hz0 hz1 hz2 rfl (by decide) _ _ _ rfl (HP2.out.own.alloc _) ⟨w2.heap.size, 0, none⟩ 1 1 [.string (S x.nm), .string (S x.tx), .int .i64 (x.sy : Int)] rfl rfl (by have := cells_three w2 (.string (S x.nm)) (.string (S x.tx)) (.int .i64 (x.sy : Int)) 67; simpa using this) (by simp [Value.oneCell']) (by have := HP2.out.small; simp [maxLen]; omega) (by have := HP2.out.small; omega) (by have := HP2.out.size; simp; omega) ?_
             intro v3 w3 hown3 hgrow3 hnil3)
          have HP3 := Lib.hid (HP2.out.more HQ.out rfl hown3 hgrow3 (by omega))
          clear hown3 hgrow3 hnil3
          go_roundw
          case rel => exact ⟨i + 1, by omega, by go_num, by rw [HE.out.1], by rw [HE.out.2]; exact HP3.out⟩
          case measure => simp [intOf]; omega
        · have t1 : Op.bytesLess (S x.nm).toList (S f.nm).toList = false := by rw [less_S, ht]; exact decide_eq_false (bs_irr f.nm)
          have t2 : ((S x.nm).toList == (S f.nm).toList) = true := by rw [S_beq]; simpa using ht
          have HE := Lib.hid (HC.out HPT.out ht)
          clear ht
          go_wp2
          go_quiet (fail)
          obtain ⟨w1, hwq⟩ : ∃ W, wr.drewN nq = W := ⟨_, rfl⟩
          have HP1 : Hid (PutB w w1 p (.slice (some ⟨g, 0, none⟩) n cap) D f out u4) := Lib.hid (by have := HP.out.dn nq; rw [hwq] at this; exact this)
          rw [hwq]
          clear hwq
          clear c0 b0 b1 b2 f0 f1 f2 hpl hbl hg hgp
          obtain ⟨c0, _, _, _, _, hpl⟩ := HP1.out.q.cells
          obtain ⟨b0, b1, b2, hbl⟩ := box_at HP1.out.box
          obtain ⟨hg, hgp, f0, f1, f2⟩ := HP1.out.q.fileg HIL.out HX.out
          go_wp2_with (
             at_builtin
             refine wpList_append_own _ rfl _ _ 56 rfl (w.heap.size + 1) 67 i0 _ 3 40 Try.underlying56 hi0 hz0 hz1 hz2 rfl (by decide) _ _ _ rfl (HP1.out.own.alloc _) ⟨w1.heap.size, 0, none⟩ 1 1 [.string (S f.nm), .string (S f.tx), .int .i64 (f.sy : Int)] rfl rfl (by have := cells_three w1 (.string (S f.nm)) (.string (S f.tx)) (.int .i64 (f.sy : Int)) 67; simpa using this) (by simp [Value.oneCell']) (by have := HP1.out.small; simp [maxLen]; omega) (by have := HP1.out.small; omega) (by have := HP1.out.size; simp; omega) ?_
             intro v3 w3 hown3 hgrow3 hnil3)
          have HP3 := Lib.hid (HP1.out.more HQ.out rfl hown3 hgrow3 (by omega))
          clear hown3 hgrow3 hnil3
          clear c0 b0 b1 b2 f0 f1 f2 hpl hbl hg hgp
          obtain ⟨c0, _, _, _, _, hpl⟩ := HP3.out.q.cells
          obtain ⟨b0, b1, b2, hbl⟩ := box_at HP3.out.box
          obtain ⟨hg, hgp, f0, f1, f2⟩ := HP3.out.q.fileg HIL.out HX.out
          go_wp2
          go_quiet (fail)
          obtain ⟨w4, hwq⟩ : ∃ W, w3.drewN nq = W := ⟨_, rfl⟩
          have HP4 : Hid (PutB w w4 p (.slice (some ⟨g, 0, none⟩) n cap) D f (out ++ [f]) v3) := Lib.hid (by have := HP3.out.dn nq; rw [hwq] at this; exact this)
          rw [hwq]
          clear hwq
          go_wp2
          go_roundw
          case rel => exact ⟨i + 1, by omega, by go_num, by rw [HE.out.1], by rw [HE.out.2]; exact HP4.out⟩
          case measure => simp [intOf]; omega
        · have t1 : Op.bytesLess (S x.nm).toList (S f.nm).toList = false := by rw [less_S]; simpa using bs_asymm ht
          have t2 : ((S x.nm).toList == (S f.nm).toList) = false := by rw [S_beq]; simp; exact fun e => bs_ne ht e.symm
          have HE := Lib.hid (HDD.out HPT.out ht)
          clear ht
          go_wp2
          go_quiet (fail)
          obtain ⟨w1, hwq⟩ : ∃ W, wr.drewN nq = W := ⟨_, rfl⟩
          have HP1 : Hid (PutB w w1 p (.slice (some ⟨g, 0, none⟩) n cap) D f out u4) := Lib.hid (by have := HP.out.dn nq; rw [hwq] at this; exact this)
          rw [hwq]
          clear hwq
          clear c0 b0 b1 b2 f0 f1 f2 hpl hbl hg hgp
          obtain ⟨c0, _, _, _, _, hpl⟩ := HP1.out.q.cells
          obtain ⟨b0, b1, b2, hbl⟩ := box_at HP1.out.box
          obtain ⟨hg, hgp, f0, f1, f2⟩ := HP1.out.q.fileg HIL.out HX.out
          go_wp2_with (
             at_builtin
             refine wpList_append_own _ rfl _ _ 56 rfl (w.heap.size + 1) 67 i0 _ 3 40 Try.underlying56 hi0 hz0 hz1 hz2 rfl (by decide) _ _ _ rfl (HP1.out.own.alloc _) ⟨w1.heap.size, 0, none⟩ 1 1 [.string (S f.nm), .string (S f.tx), .int .i64 (f.sy : Int)] rfl rfl (by have := cells_three w1 (.string (S f.nm)) (.string (S f.tx)) (.int .i64 (f.sy : Int)) 67; simpa using this) (by simp [Value.oneCell']) (by have := HP1.out.small; simp [maxLen]; omega) (by have := HP1.out.small; omega) (by have := HP1.out.size; simp; omega) ?_
             intro v3 w3 hown3 hgrow3 hnil3)
          have HP3 := Lib.hid (HP1.out.more HQ.out rfl hown3 hgrow3 (by omega))
          clear hown3 hgrow3 hnil3
          clear c0 b0 b1 b2 f0 f1 f2 hpl hbl hg hgp
          obtain ⟨c0, _, _, _, _, hpl⟩ := HP3.out.q.cells
          obtain ⟨b0, b1, b2, hbl⟩ := box_at HP3.out.box
          obtain ⟨hg, hgp, f0, f1, f2⟩ := HP3.out.q.fileg HIL.out HX.out
          go_wp2
          go_quiet (fail)
          obtain ⟨w4, hwq⟩ : ∃ W, w3.drewN nq = W := ⟨_, rfl⟩
          have HP4 : Hid (PutB w w4 p (.slice (some ⟨g, 0, none⟩) n cap) D f (out ++ [f]) v3) := Lib.hid (by have := HP3.out.dn nq; rw [hwq] at this; exact this)
          rw [hwq]
          clear hwq
          clear c0 b0 b1 b2 f0 f1 f2 hpl hbl hg hgp
          obtain ⟨c0, _, _, _, _, hpl⟩ := HP4.out.q.cells
          obtain ⟨b0, b1, b2, hbl⟩ := box_at HP4.out.box
          obtain ⟨hg, hgp, f0, f1, f2⟩ := HP4.out.q.fileg HIL.out HX.out
          go_wp2_with (
             at_builtin
             refine wpList_append_own _ rfl _ _ 56 rfl (w.heap.size + 1) 67 i0 _ 3 40 Try.underlying56 hi0 hz0 hz1 hz2 rfl (by decide) _ _ _ rfl (HP4.out.own.alloc _) ⟨w4.heap.size, 0, none⟩ 1 1 [.string (S x.nm), .string (S x.tx), .int .i64 (x.sy : Int)] rfl rfl (by have := cells_three w4 (.string (S x.nm)) (.string (S x.tx)) (.int .i64 (x.sy : Int)) 67; simpa using this) (by simp [Value.oneCell']) (by have := HP4.out.small; simp [maxLen]; omega) (by have := HP4.out.small; omega) (by have := HP4.out.size; simp; omega) ?_
             intro v5 w5 hown5 hgrow5 hnil5)
          have HP5 := Lib.hid (HP4.out.more HQ.out rfl hown5 hgrow5 (by simp; omega))
          clear hown5 hgrow5 hnil5
          go_roundw
          case rel => exact ⟨i + 1, by omega, by go_num, by rw [HE.out.1], by rw [HE.out.2]; exact HP5.out⟩
          case measure => simp [intOf]; omega
      · have HIL := Lib.hid hil
        have HE0 := HA.out hpt
        have t2 : ((S x.nm).toList == (S f.nm).toList) = false := by rw [S_beq]; simpa using HE0.2.1
        have HE := Lib.hid (And.intro HE0.1 HE0.2.2)
        clear hpt HE0
        go_wp2
        go_quiet (fail)
        obtain ⟨w1, hwq⟩ : ∃ W, wr.drewN nq = W := ⟨_, rfl⟩
        have HP1 : Hid (PutB w w1 p (.slice (some ⟨g, 0, none⟩) n cap) D f out u4) := Lib.hid (by have := HP.out.dn nq; rw [hwq] at this; exact this)
        rw [hwq]
        clear hwq
        clear c0 b0 b1 b2 f0 f1 f2 hpl hbl hg hgp
        obtain ⟨c0, _, _, _, _, hpl⟩ := HP1.out.q.cells
        obtain ⟨b0, b1, b2, hbl⟩ := box_at HP1.out.box
        obtain ⟨hg, hgp, f0, f1, f2⟩ := HP1.out.q.fileg HIL.out HX.out
        go_wp2
        go_quiet (fail)
        obtain ⟨w2, hwq⟩ : ∃ W, w1.drewN nq = W := ⟨_, rfl⟩
        have HP2 : Hid (PutB w w2 p (.slice (some ⟨g, 0, none⟩) n cap) D f out u4) := Lib.hid (by have := HP1.out.dn nq; rw [hwq] at this; exact this)
        rw [hwq]
        clear hwq
        clear c0 b0 b1 b2 f0 f1 f2 hpl hbl hg hgp
        obtain ⟨c0, _, _, _, _, hpl⟩ := HP2.out.q.cells
        obtain ⟨b0, b1, b2, hbl⟩ := box_at HP2.out.box
        obtain ⟨hg, hgp, f0, f1, f2⟩ := HP2.out.q.fileg HIL.out HX.out
        go_wp2_with (
           at_builtin
           refine wpList_append_own _ rfl _ _ 56 rfl (w.heap.size + 1) 67 i0 _ 3 40 Try.underlying56 hi0 hz0 hz1 hz2 rfl (by decide) _ _ _ rfl (HP2.out.own.alloc _) ⟨w2.heap.size, 0, none⟩ 1 1 [.string (S x.nm), .string (S x.tx), .int .i64 (x.sy : Int)] rfl rfl (by have := cells_three w2 (.string (S x.nm)) (.string (S x.tx)) (.int .i64 (x.sy : Int)) 67; simpa using this) (by simp [Value.oneCell']) (by have := HP2.out.small; simp [maxLen]; omega) (by have := HP2.out.small; omega) (by have := HP2.out.size; simp; omega) ?_
           intro v3 w3 hown3 hgrow3 hnil3)
        have HP3 := Lib.hid (HP2.out.more HQ.out rfl hown3 hgrow3 (by omega))
        clear hown3 hgrow3 hnil3
        go_roundw
        case rel => exact ⟨i + 1, by omega, by go_num, by rw [HE.out.1], by rw [HE.out.2]; exact HP3.out⟩
        case measure => simp [intOf]; omega
    · obtain rfl : i = n := by omega
      have hend := out_end (l := D.fs) (f := f)
      rw [HN.out] at hend
      have hol := out_len D.fs f i
      rw [HN.out] at hol
      obtain ⟨out, ho⟩ : ∃ o, outN D.fs f i = o := ⟨_, rfl⟩
      rw [ho] at HP hol hend
      have HEND := Lib.hid hend
      obtain ⟨sA, sC, hsf⟩ := own_form HP.out.own
      subst hsf
      clear hp ho hend hlt
      rcases hpt : ptN D.fs f i with _ | _
      · have HE := Lib.hid (HEND.out.2 hpt)
        clear hpt
        go_wp2_with (
           at_builtin
           refine wpList_append_own _ rfl _ _ 56 rfl (w.heap.size + 1) 67 i0 _ 3 40 Try.underlying56 hi0 hz0 hz1 hz2 rfl (by decide) _ _ _ rfl (HP.out.own.alloc _) ⟨wr.heap.size, 0, none⟩ 1 1 [.string (S f.nm), .string (S f.tx), .int .i64 (f.sy : Int)] rfl rfl (by have := cells_three wr (.string (S f.nm)) (.string (S f.tx)) (.int .i64 (f.sy : Int)) 67; simpa using this) (by simp [Value.oneCell']) (by have := HP.out.small; simp [maxLen]; omega) (by have := HP.out.small; omega) (by have := HP.out.size; simp; omega) ?_
           intro v3 w3 hown3 hgrow3 hnil3
           obtain ⟨tA, tC, hsf⟩ := own_form hown3
           subst hsf
           have HP3 := Lib.hid (HP.out.more HQ.out rfl hown3 hgrow3 (by omega))
           clear hown3 hgrow3 hnil3 c0 b0 b1 b2 hbl hpl hfz
           obtain ⟨c0, _, _, _, hfz, hpl⟩ := HP3.out.q.cells
           have hf0 := hfz 0
           clear hfz)
        go_wp2
        go_end0
        obtain ⟨v', rfl, q1, q2, q3⟩ := HP3.out.ends hcl
        rw [HE.out]
        exact ⟨rfl, _, q1, q2, q3⟩
      · have HE := Lib.hid (HEND.out.1 hpt)
        have hf0 := hfz 0
        clear hpt hfz
        go_wp2
        go_end0
        obtain ⟨v', rfl, q1, q2, q3⟩ := HP.out.ends hcl
        rw [HE.out]
        exact ⟨rfl, _, q1, q2, q3⟩
end Go.Proofs.Ytffpmcelelloeaa
