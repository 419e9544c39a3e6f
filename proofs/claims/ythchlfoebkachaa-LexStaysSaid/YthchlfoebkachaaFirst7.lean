/-
  What the laws' Order and Ways make may be: its form is right.
  The laws' own awake of layer 7.
  What the laws of layer 7 share: what Fill answers where all may be; a slice cut at both ends.
  A source with a greater Cap, as numbers.
-/
import Derived.Test.YthchlfoebkachaaOrder
import Derived.Test.YthchlfoebkachaaNumbers7
import Derived.Test.YthchlfoebkachaaFill7
import Derived.Test.YthchlfoebkachaaInts
import Derived.Test.YthchlfoebkachaaSlices7
namespace Go.Proofs.Ythchlfoebkachaa
open Gm

theorem order_src {es : List E} {o : List Int} (h : o.Perm (srcs es es.length)) : ∀ x ∈ o, isSrc es 0 x = true := fun x hx => by
  have h1 := srcs_mem.1 (h.mem_iff.1 hx)
  exact isSrc_iff.2 ⟨by omega, by omega, h1.2.2⟩
theorem order_len {es : List E} {o : List Int} (h : o.Perm (srcs es es.length)) : o.length ≤ es.length := by
  rw [h.length_eq]; exact srcs_len es _
theorem made_form {n : Nat} {es : List E} {o : List Int} {wss : List (List WayE)} (hr : right n es = true) (ho : o.Perm (srcs es es.length)) (hl : wss.length ≤ o.length)
    (hw : ∀ i, i < wss.length → ∀ w ∈ wss[i]?.getD [], isWayF n es 0 1 (o[i]?.getD 0) w = true) : Gm.Form n es 0 1 o wss := by
  have h2 := (right_iff.1 hr).1
  exact ⟨hr, by omega, by omega, by omega, by omega, by omega, order_src ho, ho.nodup_iff.2 (srcs_nodup es _), hl, hw⟩
end Go.Proofs.Ythchlfoebkachaa

namespace Go.Proofs.Ythchlfoebkachaa
open Go.RowKit Gm

theorem wayss_none (B : Nat) (W : World) : WayssAt B W none 0 [] := ⟨rfl, 0, 0, .inl rfl, fun i hi => by simp at hi⟩

set_option maxRecDepth 100000 in
set_option maxHeartbeats 4000000 in
theorem awake7_any (w : World) : Calls Try.prog 9 #[] w fun e w' => e = .returned (.bool true) ∧ Below w.heap.size w w' := by
  have HX2 := Lib.hid ex7_a
  have HX3 := Lib.hid ex7_b
  have HX4 := Lib.hid ex7_c
  have hE0 : ∀ W : World, Blk W w.heap.size 50 (flat ex7).toArray → NetAt W.heap.size W (some ⟨w.heap.size, 0, none⟩) 5 ex7 := fun W b =>
    edges_blk (es := ex7) (fun i hi => by
      have : i = 0 ∨ i = 1 ∨ i = 2 ∨ i = 3 ∨ i = 4 := by simp at hi; omega
      rcases this with rfl | rfl | rfl | rfl | rfl <;> exact ⟨by rw [b.cell]; rfl, by rw [b.cell]; rfl, by rw [b.cell]; rfl⟩) b.lt (by simp)
  have HE0 := Lib.hid hE0
  clear hE0
  go_enter Try.func9, Try.ntmps9
  go_upto_region 2 with fail
  obtain ⟨w1, hw1⟩ : ∃ W, (w.alloc (.cells #[.int .i64 0, .int .i64 1, .int .i64 2, .int .i64 0, .int .i64 2, .int .i64 2, .int .i64 1, .int .i64 3, .int .i64 1, .int .i64 2, .int .i64 3, .int .i64 2, .int .i64 1, .int .i64 2, .int .i64 2] 50)).alloc (.cells #[.int .i64 4, .slice (some ⟨w.heap.size, 0, none⟩) 5 5] 24) = W := ⟨_, rfl⟩
  have bE1 : Blk w1 w.heap.size 50 (flat ex7).toArray := hw1 ▸ (Blk.new w _ _).alloc _
  have bN1 : Blk w1 (w.heap.size + 1) 24 #[.int .i64 4, .slice (some ⟨w.heap.size, 0, none⟩) 5 5] := by
    rw [← hw1]; have := Blk.new (w.alloc (.cells #[.int .i64 0, .int .i64 1, .int .i64 2, .int .i64 0, .int .i64 2, .int .i64 2, .int .i64 1, .int .i64 3, .int .i64 1, .int .i64 2, .int .i64 3, .int .i64 2, .int .i64 1, .int .i64 2, .int .i64 2] 50)) 24 #[.int .i64 4, .slice (some ⟨w.heap.size, 0, none⟩) 5 5]
    rwa [World.size_alloc] at this
  have hB1 : Below w.heap.size w w1 := hw1 ▸ ((Below.refl _ w).alloc (Nat.le_refl _) _).alloc (by simp) _
  rw [hw1]
  clear hw1
  obtain ⟨lN1, n10, n11⟩ := bN1.two
  have hflow2 : ∀ (W : World) (x y : Int), FlowAt (W.alloc (.cells #[.int .i64 x, .int .i64 y] 3)).heap.size (W.alloc (.cells #[.int .i64 x, .int .i64 y] 3)) (some ⟨W.heap.size, 0, none⟩) 2 [x, y] := fun W x y =>
    flow_blk (l := [x, y]) (Blk.new W _ _) (by simp)
  have hflow1 : ∀ (W : World) (x : Int), FlowAt (W.alloc (.cells #[.int .i64 x] 3)).heap.size (W.alloc (.cells #[.int .i64 x] 3)) (some ⟨W.heap.size, 0, none⟩) 1 [x] := fun W x =>
    flow_blk (l := [x]) (Blk.new W _ _) (by simp)
  have HFL2 := Lib.hid hflow2
  have HFL1 := Lib.hid hflow1
  have HN1 := Lib.hid (HE0.out w1 bE1)
  have HB1 := Lib.hid hB1
  have hz1 := hB1.size
  clear hflow2 hflow1 hB1 bE1
  go_wp2_with (first
    | (go_at_call 10; (with_reducible refine (fill_any _ _ _ _ ex7 0 3 _ 2 2 [1, 0] none 0 0 [] _ (net_on HN1.out ((Below.refl _ w1).alloc (Nat.le_refl _) _)) (HFL2.out w1 1 0) (wayss_none _ _)).mono ?_); rw [HX2.out]; rintro e w2 ⟨fa2, fl2, fc2, ga2, gl2, gc2, he, hF2, hG2, _, hb2⟩
       dsimp only at he hF2 hG2
       subst he
       have hbb2 := ((Below.refl w1.heap.size w1).alloc (Nat.le_refl _) (.cells #[.int .i64 1, .int .i64 0] 3)).trans (hb2.mono (by simp))
       have bN2 := bN1.below hbb2 lN1
       obtain ⟨lN2, n20, n21⟩ := bN2.two
       have HN2 := Lib.hid (net_on HN1.out hbb2)
       have HB2 := Lib.hid (HB1.out.trans (hbb2.mono hz1))
       have hz2 := HB2.out.size
       have HG2 := Lib.hid hG2
       clear hF2 hG2 hb2 hbb2)
    | (go_at_call 10; (with_reducible refine (fill_any _ _ _ _ ex7 0 3 _ 2 2 [0, 1] none 0 0 [] _ (net_on HN2.out ((Below.refl _ w2).alloc (Nat.le_refl _) _)) (HFL2.out w2 0 1) (wayss_none _ _)).mono ?_); rw [HX3.out]; rintro e w3 ⟨fa3, fl3, fc3, ga3, gl3, gc3, he, hF3, hG3, _, hb3⟩
       dsimp only at he hF3 hG3
       subst he
       have hbb3 := ((Below.refl w2.heap.size w2).alloc (Nat.le_refl _) (.cells #[.int .i64 0, .int .i64 1] 3)).trans (hb3.mono (by simp))
       have bN3 := bN2.below hbb3 lN2
       obtain ⟨lN3, n30, n31⟩ := bN3.two
       have HN3 := Lib.hid (net_on HN2.out hbb3)
       have HB3 := Lib.hid (HB2.out.trans (hbb3.mono hz2))
       have hz3 := HB3.out.size
       have HG3 := Lib.hid hG3
       have HG23 := Lib.hid (flow_on HG2.out hbb3)
       clear hF3 hG3 hb3 hbb3)
    | (go_at_call 10; (with_reducible refine (fill_any _ _ _ _ ex7 0 3 _ 1 1 [2] none 0 0 [] _ (net_on HN3.out ((Below.refl _ w3).alloc (Nat.le_refl _) _)) (HFL1.out w3 2) (wayss_none _ _)).mono ?_); rw [HX4.out]; rintro e w4 ⟨fa4, fl4, fc4, ga4, gl4, gc4, he, hF4, hG4, _, hb4⟩
       dsimp only at he hF4 hG4
       subst he
       have hbb4 := ((Below.refl w3.heap.size w3).alloc (Nat.le_refl _) (.cells #[.int .i64 2] 3)).trans (hb4.mono (by simp))
       have bN4 := bN3.below hbb4 lN3
       obtain ⟨lN4, n40, n41⟩ := bN4.two
       have HN4 := Lib.hid (net_on HN3.out hbb4)
       have HB4 := Lib.hid (HB3.out.trans (hbb4.mono hz3))
       have hz4 := HB4.out.size
       have HG4 := Lib.hid hG4
       have HG24 := Lib.hid (flow_on HG23.out hbb4)
       have HG34 := Lib.hid (flow_on HG3.out hbb4)
       clear hF4 hG4 hb4 hbb4)
    | (go_at_call 12; (with_reducible refine (intsame_yes _ _ _ _ _ _ [2, 1] _ (flow_on HG24.out ((Below.refl _ w4).alloc (Nat.le_refl _) _)) (HFL2.out w4 2 1)).mono ?_); rintro e w5 ⟨rfl, hd5⟩
       have hbb5 := ((Below.refl w4.heap.size w4).alloc (Nat.le_refl _) (.cells #[.int .i64 2, .int .i64 1] 3)).trans (hd5.low _)
       have HG35 := Lib.hid (flow_on HG34.out hbb5)
       have HB5 := Lib.hid (HB4.out.trans (hbb5.mono hz4))
       have hz5 := HB5.out.size
       clear hd5 hbb5)
    | (go_at_call 12; (with_reducible refine (intsame_yes _ _ _ _ _ _ [2, 1] _ (flow_on HG35.out ((Below.refl _ w5).alloc (Nat.le_refl _) _)) (HFL2.out w5 2 1)).mono ?_); rintro e w6 ⟨rfl, hd6⟩))
  go_ret
  exact ⟨rfl, (HB5.out.alloc hz5 _).trans (hd6.low _)⟩
end Go.Proofs.Ythchlfoebkachaa

namespace Go.Proofs.Ythchlfoebkachaa
open Go.RowKit Gm

theorem fillF_form {n : Nat} {es : List E} {s t : Int} {order : List Int} {wss : List (List WayE)} (h : Gm.Form n es s t order wss) : fillF n es s t order wss = (fillE n es s t order wss, gotF (fillE n es s t order wss) order, 0) := by
  unfold fillF
  rw [formF_iff.2 h, if_pos rfl, Int.toNat_natCast]; rfl
theorem form_nil {n : Nat} {es : List E} {o : List Int} (hr : right n es = true) (ho : o.Perm (srcs es es.length)) : Gm.Form n es 0 1 o [] :=
  made_form hr ho (by simp) (fun i hi => by simp at hi)
theorem got_at (F order : List Int) {i : Nat} (hi : i < order.length) : (gotF F order)[i]?.getD 0 = fa F (order[i]?.getD 0).toNat := by
  unfold gotF
  rw [List.getElem?_map, List.getElem?_eq_getElem hi]; rfl
theorem got_same {n : Nat} {es : List E} {o : List Int} (h : Gm.Form n es 0 1 o []) {k : Nat} (hk : k ≤ o.length) : gotF (fillE n es 0 1 (o.take k) []) (o.take k) = (gotF (fillE n es 0 1 o []) o).take k := by
  have hl1 : (gotF (fillE n es 0 1 (o.take k) []) (o.take k)).length = k := by rw [gotF_len, List.length_take]; omega
  have hl2 : ((gotF (fillE n es 0 1 o []) o).take k).length = k := by rw [List.length_take, gotF_len]; omega
  apply List.ext_getElem (by rw [hl1, hl2])
  intro i h1 h2
  rw [hl1] at h1
  have e1 := got_at (fillE n es 0 1 (o.take k) []) (o.take k) (i := i) (by rw [List.length_take]; omega)
  have e2 := got_at (fillE n es 0 1 o []) o (i := i) (by omega)
  rw [List.getElem?_eq_getElem (by rw [hl1]; exact h1)] at e1
  rw [List.getElem?_eq_getElem (by rw [gotF_len]; omega)] at e2
  rw [List.getElem_take]
  have e1' : (gotF (fillE n es 0 1 (o.take k) []) (o.take k))[i]'(by rw [hl1]; exact h1) = fa (fillE n es 0 1 (o.take k) []) ((o.take k)[i]?.getD 0).toNat := e1
  have e2' : (gotF (fillE n es 0 1 o []) o)[i]'(by rw [gotF_len]; omega) = fa (fillE n es 0 1 o []) (o[i]?.getD 0).toNat := e2
  rw [e1', e2', List.getElem?_take_of_lt h1]
  exact got_take h hk h1
theorem cut_mid (a : Option Addr) (len cap lo hi : Nat) (h1 : lo ≤ hi) (h2 : hi ≤ cap) (w : World) : (Instr.slice 25 (.slice a len cap) (some (.int .i64 (lo : Int))) (some (.int .i64 (hi : Int))) none).run Try.prog w = .ok (.slice (cutA a cap lo) (hi - lo) (cap - lo)) w := by
  have hu : Try.prog.underlying 25 = some (.slice (Try.prog.elem 25)) := by kernel_rfl
  have hs : ∀ w, (sizeOf (Try.prog.elem 25)).run Try.prog w = .ok 1 w := fun w => by kernel_rfl
  rw [run_slice_lh w 25 a len cap hu .i64 .i64 (lo : Int) (hi : Int) (by omega) (by omega) (by omega), hs]
  simp [sliced, Result.andThen, cutA]
theorem flow_one {B : Nat} {W : World} {a : Option Addr} {len cap i : Nat} {l : List Int} (h : FlowAt B W a len l) (hi : i < len) (hc : len ≤ cap) : FlowAt B W (cutA a cap i) 1 [l[i]?.getD 0] := by
  have h1 := flow_take (flow_drop (cap := cap) h (Nat.le_of_lt hi) hc) (show 1 ≤ len - i by omega)
  have hl := h.1
  have e : (l.drop i).take 1 = [l[i]?.getD 0] := by
    rw [List.drop_eq_getElem_cons (by omega), List.getElem?_eq_getElem (by omega)]; rfl
  rwa [e] at h1
theorem fes_len {n : Nat} {es : List E} (h : right n es = true) : es.length ≤ 256 := (right_iff.1 h).2.2.1
end Go.Proofs.Ythchlfoebkachaa

namespace Go.Proofs.Ythchlfoebkachaa.Gm
open Go.Proofs.Ythchlfoebkachaa

theorem wider_form {n : Nat} {es : List E} {o : List Int} {x : Nat} {d : Int} (h : Form n es 0 1 o []) (hx : x < es.length) (d0 : 0 ≤ d) (d1 : (ed es x).2.2 + d ≤ 1000) : Form n (wider es x d) 0 1 o [] := by
  refine ⟨right_wider h.net hx d0 d1, h.s0, h.s1, h.t0, h.t1, h.ne, fun y hy => ?_, h.nodup, h.len, fun i hi => by simp at hi⟩
  obtain ⟨a, b, c⟩ := isSrc_iff.1 (h.src y hy)
  refine isSrc_iff.2 ⟨a, by rw [wider_length]; exact b, ?_⟩
  rw [wider_at hx]
  split
  · rename_i e; rw [← e]; exact c
  · exact c
theorem made_all {es : List E} {o : List Int} (h : o.Perm (srcs es es.length)) : ∀ i, i < es.length → (ed es i).1 = 0 → (i : Int) ∈ o := fun i hi he =>
  h.mem_iff.2 (srcs_mem.2 ⟨by omega, by omega, by rw [Int.toNat_natCast]; exact he⟩)
theorem wider_sum {n : Nat} {es : List E} {o : List Int} {x : Nat} {d : Int} (h : Form n es 0 1 o []) (hx : x < es.length) (d0 : 0 ≤ d) (d1 : (ed es x).2.2 + d ≤ 1000) (ho : o.Perm (srcs es es.length)) (h0 : 0 < o.length) (hox : o[0]?.getD 0 = (x : Int)) :
    sumG (fillE n (wider es x d) 0 1 o []) o o.length - sumG (fillE n (wider es x d) 0 1 o []) o 1 ≤ sumG (fillE n es 0 1 o []) o o.length - sumG (fillE n es 0 1 o []) o 1 ∧ fa (fillE n es 0 1 o []) x ≤ fa (fillE n (wider es x d) 0 1 o []) x := by
  have hne : o ≠ [] := List.length_pos_iff.1 h0
  have h' := wider_form h hx d0 d1
  have hall := made_all ho
  have hM := total_most h hne hall
  have hM' := total_most h' hne (fun i hi he => by
    rw [wider_length] at hi
    refine hall i hi ?_
    rw [wider_at hx] at he
    split at he
    · rename_i e; rw [e]; exact he
    · exact he)
  have hN := sumG_most h (k := 0) h0
  have hN' := sumG_most h' (k := 0) h0
  have e1 : o.take (0 + 1) = [(x : Int)] := by
    rcases o with _ | ⟨y, l⟩
    · simp at h0
    · simp at hox; simp [hox]
  rw [e1] at hN hN'
  have hsrc : (ed es x).1 = 0 := by
    have hm : (x : Int) ∈ o := by
      rw [← hox, List.getElem?_eq_getElem h0]; exact List.getElem_mem h0
    have := (isSrc_iff.1 (h.src _ hm)).2.2
    rwa [Int.toNat_natCast] at this
  have hw := wider_less hx d0 hsrc hM hM' hN hN'
  refine ⟨hw.1, ?_⟩
  have e2 : ∀ fl : List Int, sumG fl o (0 + 1) = fa fl x := fun fl => by
    simp only [sumG, hox, Int.toNat_natCast]; omega
  have := hw.2
  rw [show fillK n es 0 1 o [] o.length = fillE n es 0 1 o [] from rfl, show fillK n (wider es x d) 0 1 o [] o.length = fillE n (wider es x d) 0 1 o [] from rfl, e2, e2] at this
  exact this
theorem got_bd {n : Nat} {es : List E} {s t : Int} {o : List Int} {wss : List (List WayE)} (h : Form n es s t o wss) {i : Nat} (hi : i < o.length) : 0 ≤ fa (fillE n es s t o wss) (o[i]?.getD 0).toNat ∧ fa (fillE n es s t o wss) (o[i]?.getD 0).toNat ≤ 1000 := by
  have hs := isSrc_iff.1 (h.src _ (List.getElem_mem hi))
  rw [List.getElem?_eq_getElem hi]
  have hml : (o[i]).toNat < es.length := by omega
  have hg := ((fill_stage h o.length (Nat.le_refl _)).1.good.whole h.net).at hml
  have hk := okE_iff.1 ((right_iff.1 h.net).2.2.2 _ (ed_mem hml))
  have hk2 := hk.2.2.2.2.2.2
  exact ⟨hg.1, Int.le_trans hg.2 hk2⟩
theorem sumG_bd {n : Nat} {es : List E} {s t : Int} {o : List Int} {wss : List (List WayE)} (h : Form n es s t o wss) : ∀ k, k ≤ o.length → 0 ≤ sumG (fillE n es s t o wss) o k ∧ sumG (fillE n es s t o wss) o k ≤ 1000 * k
  | 0, _ => by simp [sumG]
  | k + 1, hk => by
    have := sumG_bd h k (by omega)
    have := got_bd h (i := k) (by omega)
    simp only [sumG]
    omega
end Go.Proofs.Ythchlfoebkachaa.Gm
