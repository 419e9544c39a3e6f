/-
  The document's own book: Acked, Pass.
-/
import Derived.Test.YtgkpkegbjkjhiaaQl2
namespace Go.Proofs.Ytgkpkegbjkjhiaa
open Go.RowKit Gm

theorem qover_is (t u : Int) (w : World) (ht : I64 t) (hu : I64 u) {x : Bool} (hx : overN t u = x) : Calls Try.prog 17 #[.int .i64 t, .int .i64 u] w fun e w' => e = .returned (.bool x) ∧ w = w' := hx ▸ qover_any t u w ht hu
/-- The row of grants is another one, of some of them. -/
theorem QAt.filtered {w : World} {p : Nat} {v ov : Value} {gx : GX} {D : Bk} (h : QAt w p v gx D) (c : Gr → Bool) (hr : w.ownsRow 0 61 3 ov (gx.filter fun y => c y.1).length (gxV (gx.filter fun y => c y.1))) :
    QAt (w.setCell ⟨p, 2, none⟩ ov) p ov (gx.filter fun y => c y.1) { D with g := D.g.filter c } := by
  have hset : ∀ b, b ≠ p → (w.setCell ⟨p, 2, none⟩ ov).heap[b]? = w.heap[b]? := fun b hn => Below.heap_setCell _ _ _ b hn
  have hne : ∀ b, ov.ownBlock = some b → b ≠ p := fun b e e' => by
    obtain ⟨cs, hc⟩ := row_blk hr e
    rw [e', h.blk] at hc; injection hc with hc; injection hc with _ ht; exact absurd ht (by decide)
  refine ⟨?_, ?_, row_moved hr fun b e => hset b (hne b e), fun y hy => row_moved (h.bnd y (List.mem_filter.1 hy).1) fun b e => hset b fun e' => (h.far.2 y (List.mem_filter.1 hy).1).1 (by rw [e, e'])⟩
  · show D.g.filter c = _
    rw [h.eq, List.filter_map]; rfl
  · simp [World.setCell, Array.getElem?_modify, h.blk]
theorem QAt.opened {w : World} {p : Nat} {v : Value} {gx : GX} {D : Bk} (h : QAt w p v gx D) (u : Bool) : QAt (w.setCell ⟨p, 0, none⟩ (.bool u)) p v gx { D with unknown := u } := by
  have hset : ∀ b, b ≠ p → (w.setCell ⟨p, 0, none⟩ (.bool u)).heap[b]? = w.heap[b]? := fun b hn => Below.heap_setCell _ _ _ b hn
  refine ⟨h.eq, ?_, row_moved h.row fun b e => hset b fun e' => h.far.1 (by rw [e, e']), fun y hy => row_moved (h.bnd y hy) fun b e => hset b fun e' => (h.far.2 y hy).1 (by rw [e, e'])⟩
  simp [World.setCell, Array.getElem?_modify, h.blk]
theorem filt_snoc {gx : GX} (c : Gr → Bool) {i : Nat} (hi : i < gx.length) : ((gx.take (i + 1)).filter fun y => c y.1) = ((gx.take i).filter fun y => c y.1) ++ (if c gx[i].1 then [gx[i]] else []) := by
  rw [List.take_succ_eq_append_getElem hi, List.filter_append]
  congr 1
  by_cases e : c gx[i].1
  · rw [if_pos e]; simp [e]
  · rw [if_neg e]; simp [e]
/-- On the way through the grants: these are out. -/
structure FiltAt (w wr : World) (p : Nat) (v : Value) (gx : GX) (D : Bk) (c : Gr → Bool) (i : Nat) (ov : Value) : Prop where
  q : QAt wr p v gx D
  own : wr.ownsRow w.heap.size 61 3 ov ((gx.take i).filter fun y => c y.1).length (gxV ((gx.take i).filter fun y => c y.1))
  low : Below w.heap.size w wr
theorem FiltAt.end {w wr : World} {p : Nat} {v ov : Value} {gx : GX} {D : Bk} {c : Gr → Bool} {R : Nat → Prop} (h : FiltAt w wr p v gx D c gx.length ov) (hR : ∀ b, R b ↔ QBlk p v gx b) :
    QAt (wr.setCell ⟨p, 2, none⟩ ov) p ov (gx.filter fun y => c y.1) { D with g := D.g.filter c } ∧ Beside R w (wr.setCell ⟨p, 2, none⟩ ov) ∧ ∀ b, QBlk p ov (gx.filter fun y => c y.1) b → QBlk p v gx b ∨ w.heap.size ≤ b := by
  have ho := h.own
  rw [List.take_length] at ho
  refine ⟨h.q.filtered c ?_, (Beside.of_below h.low).trans (Beside.set wr ov ((hR p).2 (.inl rfl))) fun b hb _ => hb, fun b e => ?_⟩
  · obtain ⟨k1, k2⟩ := ho
    refine ⟨k1, ?_⟩
    rcases k2 with k2 | ⟨g, cp, cur, kv, _, kh, kr⟩
    · exact .inl k2
    · exact .inr ⟨g, cp, cur, kv, Nat.zero_le _, kh, kr⟩
  · rcases e with e | e | ⟨y, hy, e⟩
    · exact .inl (.inl e)
    · exact .inr (ho.lt b e).1
    · exact .inl (.inr (.inr ⟨y, (List.mem_filter.1 hy).1, e⟩))

set_option maxRecDepth 100000 in
set_option maxHeartbeats 4000000 in
theorem qacked_any (p : Nat) (D : Bk) (R : Nat → Prop) (t : Int) (w : World) (h : QBook w p D R) (hD : OkB D) (_ht : I64 t) :
    Calls Try.prog 25 #[.pointer (some ⟨p, 0, none⟩), .int .i64 t] w fun e w' => e = .returned (.tuple #[]) ∧ Turn QBook w w' p (ackedB D t) R := by
  obtain ⟨v, gx, hR, hq⟩ := h
  have HR := Lib.hid hR
  have HQ := Lib.hid hq
  have HD := Lib.hid hD
  obtain ⟨i0, hi0, hz0, hz1, hz2⟩ := info_parts infoGr
  obtain ⟨a, cap, hv⟩ := row_form hq.row
  subst hv
  have hgl : gx.length ≤ 1000 := by have := congrArg List.length hq.eq; rw [List.length_map] at this; have := hD.len; omega
  have HP0 : Hid (FiltAt w w p (.slice a gx.length cap) gx D (fun x => decide (t ≤ x.ver)) 0 (.slice none 0 0)) := Lib.hid ⟨hq, World.ownsRow_nil _ _ _ _, Below.refl _ _⟩
  obtain ⟨n, hn⟩ : ∃ n, gx.length = n := ⟨_, rfl⟩
  rw [hn] at hgl
  have HN := Lib.hid hn
  have hvn : (Value.slice a gx.length cap) = .slice a n cap := by rw [hn]
  rw [hvn] at HR HQ HP0
  clear hR hq hD hn hvn
  go_enter Try.func25, Try.ntmps25
  go_wp2
  go_loopw [4, 5] (fun ov iv wr => ∃ i : Nat, i ≤ n ∧ iv = .int .i64 (i : Int) ∧ FiltAt w wr p (.slice a n cap) gx D (fun x => decide (t ≤ x.ver)) i ov) (fun _ iv _ => n - (intOf iv).toNat)
  case atStart => exact ⟨0, Nat.zero_le _, rfl, HP0.out⟩
  case round =>
    obtain ⟨i, hi, rfl, hf⟩ := hrel
    clear HP0
    obtain ⟨c0, c1, c2, hfz, hpl⟩ := hf.q.cells
    have hsz := hf.low.size
    have HF := Lib.hid hf
    by_cases hlt : i < n
    · have hil : i < gx.length := by rw [HN.out]; exact hlt
      obtain ⟨g, cap', hve, hgl2, d0, d1, d2⟩ := hf.q.grant hil
      obtain rfl : a = some ⟨g, 0, none⟩ := by injection hve
      obtain ⟨y, hy⟩ : ∃ y, gx[i] = y := ⟨_, rfl⟩
      have hym : y ∈ gx := hy ▸ List.getElem_mem hil
      have hyb := hf.q.bnd y hym
      obtain ⟨ya, yc, hys⟩ := row_form hyb
      rw [hy] at d0 d1 d2
      rw [hys] at d2
      have hsn := filt_snoc (fun x => decide (t ≤ x.ver)) hil
      rw [hy] at hsn
      have hfl : ((gx.take i).filter fun y => decide (t ≤ y.1.ver)).length ≤ 1000 := by
        have := List.length_filter_le (fun y : Gr × Value => decide (t ≤ y.1.ver)) (gx.take i)
        rw [List.length_take] at this; omega
      have hyo : y = (y.1, .slice ya y.1.l.length yc) := by rw [← hys]
      have hi0' : (0 : Int) ≤ (i : Int) := by omega
      have hi1 : (i : Int) < (n : Int) := by omega
      have hown := hf.own
      have hfit := HD.out.fit y.1 (by rw [HQ.out.eq]; exact List.mem_map.2 ⟨y, hym, rfl⟩)
      have HU : Hid (I64 y.1.unt) := Lib.hid ⟨hfit.2.2.2.1, hfit.2.2.2.2.1⟩
      clear hfit hve hym hyb hf hfz c0 c1 hy hil
      have HY := Lib.hid hyo
      have HSN := Lib.hid hsn
      clear hyo hsn
      by_cases hx : t ≤ y.1.ver
      · have HT : Hid ((gx.take (i + 1)).filter (fun y => decide (t ≤ y.1.ver)) = ((gx.take i).filter fun y => decide (t ≤ y.1.ver)) ++ [y]) := Lib.hid (by rw [HSN.out, decide_eq_true hx]; rfl)
        have i1 : decide (t ≤ y.1.ver) = true := decide_eq_true hx
        clear hx
        go_wp2_with (at_builtin
                     refine wpList_append_own _ rfl _ _ 53 rfl w.heap.size 61 i0 _ 3 40 Try.underlying53 hi0 hz0 hz1 hz2 rfl (by decide) _ _ _ rfl (hown.alloc _) ⟨wr.heap.size, 0, none⟩ 1 1 [.int .i64 y.1.ver, .int .i64 y.1.unt, .slice ya y.1.l.length yc] rfl rfl (cells_3 wr (.int .i64 y.1.ver) (.int .i64 y.1.unt) (.slice ya y.1.l.length yc) 61) (by simp [Value.oneCell']) (by unfold maxLen; omega) (by omega) (by simp; omega) ?_
                     intro v4 w4 hown4 hg4 _)
        have hrow1 := hown.alloc (.cells #[.int .i64 y.1.ver, .int .i64 y.1.unt, .slice ya y.1.l.length yc] 61)
        have hb4 := (HF.out.low.alloc hsz (.cells #[.int .i64 y.1.ver, .int .i64 y.1.unt, .slice ya y.1.l.length yc] 61)).grown hg4 (by simp; omega) (fun j e => (hrow1.lt j e).1)
        have HQ3 : Hid (FiltAt w w4 p (.slice (some ⟨g, 0, none⟩) n cap) gx D (fun x => decide (t ≤ x.ver)) (i + 1) v4) := Lib.hid ⟨HQ.out.below hb4, by
          rw [HT.out, List.length_append, gxV_app, HY.out]; exact hown4, hb4⟩
        clear hown4 hg4 hrow1 hb4
        go_roundw
        case rel => exact ⟨i + 1, by omega, by go_num, HQ3.out⟩
        case measure => simp [intOf]; omega
      · have HT : Hid ((gx.take (i + 1)).filter (fun y => decide (t ≤ y.1.ver)) = ((gx.take i).filter fun y => decide (t ≤ y.1.ver))) := Lib.hid (by rw [HSN.out, decide_eq_false hx]; exact List.append_nil _)
        have HQ3 : Hid (FiltAt w wr p (.slice (some ⟨g, 0, none⟩) n cap) gx D (fun x => decide (t ≤ x.ver)) (i + 1) u4) := Lib.hid ⟨HF.out.q, by rw [HT.out]; exact HF.out.own, HF.out.low⟩
        have i1 : decide (t ≤ y.1.ver) = false := decide_eq_false hx
        clear hx
        go_wp2
        go_roundw
        case rel => exact ⟨i + 1, by omega, by go_num, HQ3.out⟩
        case measure => simp [intOf]; omega
    · obtain rfl : i = n := by omega
      have hend := HF.out
      rw [← HN.out] at hend
      obtain ⟨e1, e2, e3⟩ := hend.end (R := R) (by rw [HN.out]; exact HR.out)
      have E1 := Lib.hid e1
      have E2 := Lib.hid e2
      have E3 := Lib.hid e3
      have f2 := hfz 2
      have f0 := hfz 0
      obtain ⟨sa, sc, hs⟩ := row_form HF.out.own
      rw [hs] at E1 E2 E3
      clear hlt hend e1 e2 e3 hf hfz
      subst hs
      go_wp2
      go_end0
      exact ⟨rfl, q_turn HR.out E1.out E2.out (fun b e => by have := E3.out b e; rwa [HN.out] at this)⟩

set_option maxRecDepth 100000 in
set_option maxHeartbeats 4000000 in
theorem qpass_any (p : Nat) (D : Bk) (R : Nat → Prop) (t : Int) (w : World) (h : QBook w p D R) (hD : OkB D) (ht : I64 t) :
    Calls Try.prog 27 #[.pointer (some ⟨p, 0, none⟩), .int .i64 t] w fun e w' => e = .returned (.tuple #[]) ∧ Turn QBook w w' p (passB D t) R := by
  obtain ⟨v, gx, hR, hq⟩ := h
  have HR := Lib.hid hR
  have HQ := Lib.hid hq
  have HD := Lib.hid hD
  obtain ⟨i0, hi0, hz0, hz1, hz2⟩ := info_parts infoGr
  obtain ⟨a, cap, hv⟩ := row_form hq.row
  subst hv
  have hgl : gx.length ≤ 1000 := by have := congrArg List.length hq.eq; rw [List.length_map] at this; have := hD.len; omega
  have HP0 : Hid (FiltAt w w p (.slice a gx.length cap) gx D (fun x => !overN t x.unt) 0 (.slice none 0 0)) := Lib.hid ⟨hq, World.ownsRow_nil _ _ _ _, Below.refl _ _⟩
  obtain ⟨n, hn⟩ : ∃ n, gx.length = n := ⟨_, rfl⟩
  rw [hn] at hgl
  have HN := Lib.hid hn
  have hvn : (Value.slice a gx.length cap) = .slice a n cap := by rw [hn]
  rw [hvn] at HR HQ HP0
  clear hR hq hD hn hvn
  go_enter Try.func27, Try.ntmps27
  go_wp2
  go_loopw [4, 5] (fun ov iv wr => ∃ i : Nat, i ≤ n ∧ iv = .int .i64 (i : Int) ∧ FiltAt w wr p (.slice a n cap) gx D (fun x => !overN t x.unt) i ov) (fun _ iv _ => n - (intOf iv).toNat)
  case atStart => exact ⟨0, Nat.zero_le _, rfl, HP0.out⟩
  case round =>
    obtain ⟨i, hi, rfl, hf⟩ := hrel
    clear HP0
    obtain ⟨c0, c1, c2, hfz, hpl⟩ := hf.q.cells
    have hsz := hf.low.size
    have HF := Lib.hid hf
    by_cases hlt : i < n
    · have hil : i < gx.length := by rw [HN.out]; exact hlt
      obtain ⟨g, cap', hve, hgl2, d0, d1, d2⟩ := hf.q.grant hil
      obtain rfl : a = some ⟨g, 0, none⟩ := by injection hve
      obtain ⟨y, hy⟩ : ∃ y, gx[i] = y := ⟨_, rfl⟩
      have hym : y ∈ gx := hy ▸ List.getElem_mem hil
      have hyb := hf.q.bnd y hym
      obtain ⟨ya, yc, hys⟩ := row_form hyb
      rw [hy] at d0 d1 d2
      rw [hys] at d2
      have hsn := filt_snoc (fun x => !overN t x.unt) hil
      rw [hy] at hsn
      have hfl : ((gx.take i).filter fun y => !overN t y.1.unt).length ≤ 1000 := by
        have := List.length_filter_le (fun y : Gr × Value => !overN t y.1.unt) (gx.take i)
        rw [List.length_take] at this; omega
      have hyo : y = (y.1, .slice ya y.1.l.length yc) := by rw [← hys]
      have hi0' : (0 : Int) ≤ (i : Int) := by omega
      have hi1 : (i : Int) < (n : Int) := by omega
      have hown := hf.own
      have hfit := HD.out.fit y.1 (by rw [HQ.out.eq]; exact List.mem_map.2 ⟨y, hym, rfl⟩)
      have HU : Hid (I64 y.1.unt) := Lib.hid ⟨hfit.2.2.2.1, hfit.2.2.2.2.1⟩
      clear hfit hve hym hyb hf hfz c0 c1 hy hil
      obtain ⟨x, hx⟩ : ∃ x, overN t y.1.unt = x := ⟨_, rfl⟩
      have HX := Lib.hid hx
      have HY := Lib.hid hyo
      have HSN := Lib.hid hsn
      clear hyo hsn
      rcases x with _ | _
      · have HT : Hid ((gx.take (i + 1)).filter (fun y => !overN t y.1.unt) = ((gx.take i).filter fun y => !overN t y.1.unt) ++ [y]) := Lib.hid (by rw [HSN.out, hx]; rfl)
        clear hx
        go_wp2_with (first
          | (go_at_call 17; (with_reducible refine (qover_is t y.1.unt _ ht HU.out HX.out).mono ?_); rintro e w1 ⟨rfl, rfl⟩)
          | (at_builtin
             refine wpList_append_own _ rfl _ _ 53 rfl w.heap.size 61 i0 _ 3 40 Try.underlying53 hi0 hz0 hz1 hz2 rfl (by decide) _ _ _ rfl (hown.alloc _) ⟨wr.heap.size, 0, none⟩ 1 1 [.int .i64 y.1.ver, .int .i64 y.1.unt, .slice ya y.1.l.length yc] rfl rfl (cells_3 wr (.int .i64 y.1.ver) (.int .i64 y.1.unt) (.slice ya y.1.l.length yc) 61) (by simp [Value.oneCell']) (by unfold maxLen; omega) (by omega) (by simp; omega) ?_
             intro v4 w4 hown4 hg4 _))
        have hrow1 := hown.alloc (.cells #[.int .i64 y.1.ver, .int .i64 y.1.unt, .slice ya y.1.l.length yc] 61)
        have hb4 := (HF.out.low.alloc hsz (.cells #[.int .i64 y.1.ver, .int .i64 y.1.unt, .slice ya y.1.l.length yc] 61)).grown hg4 (by simp; omega) (fun j e => (hrow1.lt j e).1)
        have HQ3 : Hid (FiltAt w w4 p (.slice (some ⟨g, 0, none⟩) n cap) gx D (fun x => !overN t x.unt) (i + 1) v4) := Lib.hid ⟨HQ.out.below hb4, by
          rw [HT.out, List.length_append, gxV_app, HY.out]; exact hown4, hb4⟩
        clear hown4 hg4 hrow1 hb4
        go_roundw
        case rel => exact ⟨i + 1, by omega, by go_num, HQ3.out⟩
        case measure => simp [intOf]; omega
      · have HT : Hid ((gx.take (i + 1)).filter (fun y => !overN t y.1.unt) = ((gx.take i).filter fun y => !overN t y.1.unt)) := Lib.hid (by rw [HSN.out, hx]; exact List.append_nil _)
        have HQ3 : Hid (FiltAt w wr p (.slice (some ⟨g, 0, none⟩) n cap) gx D (fun x => !overN t x.unt) (i + 1) u4) := Lib.hid ⟨HF.out.q, by rw [HT.out]; exact HF.out.own, HF.out.low⟩
        clear hx
        go_wp2_with (go_at_call 17; (with_reducible refine (qover_is t y.1.unt _ ht HU.out HX.out).mono ?_); rintro e w1 ⟨rfl, rfl⟩)
        go_roundw
        case rel => exact ⟨i + 1, by omega, by go_num, HQ3.out⟩
        case measure => simp [intOf]; omega
    · obtain rfl : i = n := by omega
      have hend := HF.out
      rw [← HN.out] at hend
      obtain ⟨e1, e2, e3⟩ := hend.end (R := R) (by rw [HN.out]; exact HR.out)
      have E1 := Lib.hid e1
      have E2 := Lib.hid e2
      have E3 := Lib.hid e3
      have f2 := hfz 2
      have f0 := hfz 0
      obtain ⟨sa, sc, hs⟩ := row_form HF.out.own
      rw [hs] at E1 E2 E3
      clear hlt hend e1 e2 e3 hf hfz
      subst hs
      obtain ⟨u, hu⟩ : ∃ u, overN t D.to = u := ⟨_, rfl⟩
      have HU := Lib.hid hu
      have HTO : Hid (I64 D.to) := Lib.hid (by have := HD.out.to; unfold I64; omega)
      have c1' : (wr.setCell ⟨p, 2, none⟩ (.slice sa ((gx.take i).filter fun y => !overN t y.1.unt).length sc)).cell? ⟨p, 1, none⟩ = some (.int .i64 D.to) := by
        rw [World.cell?_setCell_other (h := fun e => by injection e with _ e; cases e)]; exact c1
      obtain ⟨d0, _, _, dz, dl⟩ := E1.out.cells
      have dz0 := dz 0
      have e1 := E1.out
      have e2 := E2.out
      have e3 := E3.out
      clear dz hu
      rcases u with _ | _
      · have HE : Hid ({ D with g := D.g.filter (fun x => !overN t x.unt) } = passB D t) := Lib.hid (by unfold passB; rw [HU.out]; simp)
        have HFIN : Hid (Turn QBook w (wr.setCell ⟨p, 2, none⟩ (.slice sa ((gx.take i).filter fun y => !overN t y.1.unt).length sc)) p (passB D t) R) := Lib.hid (by
          rw [← HE.out]; exact q_turn HR.out e1 e2 (fun b e => by have := e3 b e; rwa [HN.out] at this))
        clear e1 e2 e3
        obtain ⟨m, hm⟩ : ∃ m, ((gx.take i).filter fun y => !overN t y.1.unt).length = m := ⟨_, rfl⟩
        rw [hm] at c1' d0 dl dz0 HFIN
        rw [hm]
        go_wp2_with (go_at_call 17; (with_reducible refine (qover_is t D.to _ ht HTO.out HU.out).mono ?_); rintro e w1 ⟨rfl, rfl⟩)
        go_end0
        exact ⟨rfl, HFIN.out⟩
      · have HE : Hid ({ D with unknown := false, g := D.g.filter (fun x => !overN t x.unt) } = passB D t) := Lib.hid (by unfold passB; rw [HU.out]; simp)
        have HFIN : Hid (Turn QBook w ((wr.setCell ⟨p, 2, none⟩ (.slice sa ((gx.take i).filter fun y => !overN t y.1.unt).length sc)).setCell ⟨p, 0, none⟩ (.bool false)) p (passB D t) R) := Lib.hid (by
          rw [← HE.out]
          exact q_turn HR.out (e1.opened false) (e2.trans (Beside.set _ _ ((HR.out p).2 (.inl rfl))) fun b hb _ => hb) (fun b e => by have := e3 b e; rwa [HN.out] at this))
        clear e1 e2 e3
        obtain ⟨m, hm⟩ : ∃ m, ((gx.take i).filter fun y => !overN t y.1.unt).length = m := ⟨_, rfl⟩
        rw [hm] at c1' d0 dl dz0 HFIN
        rw [hm]
        go_wp2_with (go_at_call 17; (with_reducible refine (qover_is t D.to _ ht HTO.out HU.out).mono ?_); rintro e w1 ⟨rfl, rfl⟩)
        go_end0
        exact ⟨rfl, HFIN.out⟩
end Go.Proofs.Ytgkpkegbjkjhiaa
