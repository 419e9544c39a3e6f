/-
  The document's own bag: New, Len, Look, Send.
-/
import Derived.Deep.QuietTactic
import Derived.Test.YtgjpndloeegamaaBmem
namespace Go.Proofs.Ytgjpndloeegamaa
open Go.RowKit Gm

theorem tq_ne : (45 : TypeId) ≠ 9 := by decide
theorem qnew_any (w : World) : Calls Try.prog 8 #[] w fun e w' => e = .returned (.pointer (some ⟨w.heap.size, 0, none⟩)) ∧ BAt 45 w' w.heap.size (.slice none 0 0) [] ∧ Below w.heap.size w w' := by
  go_enter Try.func8, Try.ntmps8
  go_wp2
  go_ret
  exact ⟨rfl, ⟨new_at _ _, World.ownsRow_nil _ _ _ _⟩, (Below.refl _ w).alloc (Nat.le_refl _) _⟩
theorem qlen_any (p : Nat) (v : Value) (D : List Bs) (w : World) (h : BAt 45 w p v D) :
    Calls Try.prog 10 #[.pointer (some ⟨p, 0, none⟩)] w fun e w' => e = .returned (.int .i64 (D.length : Int)) ∧ w = w' := by
  obtain ⟨c0, _, hl⟩ := h.cells
  obtain ⟨a, cap, rfl⟩ := h.form
  clear h
  go_enter Try.func10, Try.ntmps10
  go_wp2
  go_ret
  exact ⟨rfl, rfl⟩
set_option maxRecDepth 100000 in
theorem qlook_any (p : Nat) (v : Value) (D : List Bs) (i : Int) (w : World) (h : BAt 45 w p v D) :
    Calls Try.prog 20 #[.pointer (some ⟨p, 0, none⟩), .int .i64 i] w fun e w' => e = .returned (.tuple #[.string (S (lookB D i)), .bool (inB D i)]) ∧ w = w' := by
  obtain ⟨c0, _, hl⟩ := h.cells
  rcases hin : inB D i with _ | _
  · rw [look_no hin]
    have h0 := in_no hin
    obtain ⟨a, cap, rfl⟩ := h.form
    obtain ⟨n, hn⟩ : ∃ n, D.length = n := ⟨_, rfl⟩
    rw [hn] at c0 h0
    clear h hin hn
    rw [show S [] = ({ data := #[] } : ByteArray) from rfl]
    by_cases hneg : i < 0
    · clear h0
      go_enter Try.func20, Try.ntmps20
      go_wp2
      go_ret2
      exact ⟨rfl, rfl⟩
    · have hge : (n : Int) ≤ i := by omega
      have d1 : decide (i < 0) = false := decide_eq_false hneg
      have d2 : decide ((n : Int) ≤ i) = true := decide_eq_true hge
      clear h0 hneg hge
      go_enter Try.func20, Try.ntmps20
      go_wp2
      go_ret2
      exact ⟨rfl, rfl⟩
  · obtain ⟨k, rfl, hk⟩ := in_yes hin
    rw [look_at D hk]
    obtain ⟨g, cap, rfl, hg, _, _, _, hc⟩ := h.text tq_ne (by omega)
    have c1 := hc k hk
    have d1 : decide ((k : Int) < 0) = false := decide_eq_false (by omega)
    have d2 : decide ((D.length : Int) ≤ (k : Int)) = false := decide_eq_false (by omega)
    have hk0 : (0 : Int) ≤ (k : Int) := by omega
    obtain ⟨x, hx⟩ : ∃ x, D[k] = x := ⟨_, rfl⟩
    rw [hx] at c1
    rw [hx]
    obtain ⟨n, hn⟩ : ∃ n, D.length = n := ⟨_, rfl⟩
    rw [hn] at c0 d2 hk
    have hkn : (k : Int) < (n : Int) := by omega
    clear h hin hc hx hn
    go_enter Try.func20, Try.ntmps20
    go_wp2
    go_ret2
    exact ⟨rfl, rfl⟩
set_option maxRecDepth 100000 in
set_option maxHeartbeats 2000000 in
theorem qsend_any (p : Nat) (D : List Bs) (R : Nat → Prop) (s : Bs) (w : World) (h : BagK 45 w p D R) (hl : D.length ≤ 64) :
    Calls Try.prog 12 #[.pointer (some ⟨p, 0, none⟩), .string (S s)] w fun e w' => e = .returned (.bool (roomB D)) ∧ Turn (BagK 45) w w' p (sendB D s) R := by
  have HK := Lib.hid h
  obtain ⟨v, hR, hq⟩ := h
  have HR := Lib.hid hR
  have HQ := Lib.hid hq
  obtain ⟨c0, fz, hpl⟩ := hq.cells
  obtain ⟨a, cap, hv⟩ := hq.form
  subst hv
  obtain ⟨n, hn⟩ : ∃ n, D.length = n := ⟨_, rfl⟩
  have HN := Lib.hid hn
  have hvn : (Value.slice a D.length cap) = .slice a n cap := by rw [hn]
  rw [hvn] at c0 HQ HR
  rw [hn] at hl
  by_cases hr : n < 64
  · rw [room_yes (by omega), send_yes (by omega)]
    obtain ⟨i0, hi0, hz0, hz1, hz2⟩ := info_parts infoStr
    have d1 : decide ((64 : Int) ≤ (n : Int)) = false := decide_eq_false (by omega)
    have HQ1 : Hid ((w.alloc (.cells #[.string (S s)] 9)).ownsRow 0 9 1 (.slice a n cap) n (strV D)) := Lib.hid (by
      have h1 := (HQ.out.below ((Below.refl w.heap.size w).alloc (Nat.le_refl _) (.cells #[.string (S s)] 9))).row
      rwa [HN.out] at h1)
    have HN1 : Hid ((w.alloc (.cells #[.string (S s)] 9)).heap[w.heap.size]? = some (.cells #[.string (S s)] 9)) := Lib.hid (new_at w _)
    have HB1 : Hid (Below w.heap.size w (w.alloc (.cells #[.string (S s)] 9))) := Lib.hid ((Below.refl w.heap.size w).alloc (Nat.le_refl _) _)
    clear hn hvn hq hR hr
    go_enter Try.func12, Try.ntmps12
    go_wp2_with (at_builtin; refine wpList_append_lies _ (by rfl) (.tmp 15) (.tmp 17) 37 (by rfl) 0 9 i0 _ 1 16 Try.underlying37 hi0 hz0 hz1 hz2 rfl (by decide) (.slice a n cap) n (strV D) (by rfl) HQ1.out ⟨w.heap.size, 0, none⟩ 1 1 [.string (S s)] (by rfl) (by rfl) (news_one HN1.out) (by simp [Value.oneCell']) (by omega) (by unfold maxLen; omega) (by omega) (Nat.zero_le _) _ rfl ?_; intro g c2 w2 ho2 hg2 hat2 hl2; have HO2 := Lib.hid ho2; have HG2 := Lib.hid hg2; have HAT2 := Lib.hid hat2; obtain ⟨c2', fz2, hpl2⟩ := one_cells ((HQ.out.below HB1.out).far tq_ne hg2); clear ho2 hg2 hat2 hl2)
    go_ret
    exact ⟨rfl, send_end tq_ne HR.out HQ.out HN.out HB1.out HO2.out HG2.out HAT2.out⟩
  · rw [room_no (by omega), send_no (by omega)]
    have d1 : decide ((64 : Int) ≤ (n : Int)) = true := decide_eq_true (by omega)
    clear hn hvn hq hR hr
    go_enter Try.func12, Try.ntmps12
    go_wp2
    go_ret
    exact ⟨rfl, b_same HK.out (Below.refl _ _)⟩
set_option maxRecDepth 100000 in
set_option maxHeartbeats 2000000 in
theorem qtake_any (p : Nat) (D : List Bs) (R : Nat → Prop) (i : Int) (w : World) (h : BagK 45 w p D R) (hl : D.length ≤ 64) :
    Calls Try.prog 14 #[.pointer (some ⟨p, 0, none⟩), .int .i64 i] w fun e w' => e = .returned (.tuple #[.string (S (lookB D i)), .bool (inB D i)]) ∧ Turn (BagK 45) w w' p (takeB D i) R := by
  have HK := Lib.hid h
  obtain ⟨v, hR, hq⟩ := h
  have HR := Lib.hid hR
  have HQ := Lib.hid hq
  rcases hin : inB D i with _ | _
  · rw [take_no hin]
    have HIN := Lib.hid hin
    obtain ⟨x, hx⟩ : ∃ x, lookB D i = x := ⟨_, rfl⟩
    rw [hx]
    have HX := Lib.hid hx
    clear hin hq hR hx
    go_enter Try.func14, Try.ntmps14
    go_wp2_with (go_at_call 20; (have hc := qlook_any p v D i w HQ.out; rw [HX.out, HIN.out] at hc; with_reducible refine hc.mono ?_); rintro e w1 ⟨rfl, rfl⟩)
    go_ret2
    exact ⟨rfl, b_same HK.out (Below.refl _ _)⟩
  · obtain ⟨k, rfl, hk⟩ := in_yes hin
    rw [take_at D hk]
    obtain ⟨g, cap, hv, hg, hgp, hcap, hmax, hc⟩ := hq.text tq_ne (by omega)
    obtain ⟨c0, fz, hpl⟩ := hq.cells
    obtain ⟨n, hn⟩ : ∃ n, D.length = n := ⟨_, rfl⟩
    rw [hn] at hv hk hl hcap
    subst hv
    have HIN := Lib.hid hin
    have HC := Lib.hid hc
    have HN := Lib.hid hn
    obtain ⟨x, hx⟩ : ∃ x, lookB D (k : Int) = x := ⟨_, rfl⟩
    rw [hx]
    have HX := Lib.hid hx
    have hk0 : (0 : Int) ≤ (k : Int) := by omega
    have hkn : (k : Int) ≤ (n : Int) := by omega
    have hkw : IntKind.i64.wrap ((k : Int) + 1) = (k : Int) + 1 := IntWalk.i64_in _ ⟨by omega, by omega⟩
    obtain ⟨v1, w1, hr1, ho1, hg1, ha1⟩ := append_s (W := w) (base := w.heap.size) (v := .slice none 0 0) (n := 0) (xs := []) (World.ownsRow_nil _ _ _ _) (b := g) (off := 0) (c := cap) (m := k) (ys := D.take k) (by rw [List.length_take]; omega) (fun i hi => by
      have : i < D.length := by rw [List.length_take] at hi; omega
      rw [Nat.zero_add, hc i this, List.getElem_take]) (by omega) (Nat.le_refl _) 37
    rw [Nat.zero_add, List.nil_append] at ho1
    have HB1 : Hid (Below w.heap.size w w1) := Lib.hid ((Below.refl _ w).grown hg1 (Nat.le_refl _) (fun j e => by simp [Value.ownBlock] at e))
    have hct := scut_to (some ⟨g, 0, none⟩) n cap k (by omega)
    obtain ⟨o, hcf, ho⟩ := scut_from g n cap (k + 1) (by omega)
    have hcf' : ∀ w, (Instr.slice 37 (.slice (some ⟨g, 0, none⟩) n cap) (some (.int .i64 ((k : Int) + 1))) none none).run Try.prog w = .ok (.slice (some ⟨g, o, none⟩) (n - (k + 1)) (cap - (k + 1))) w := fun w => by
      have := hcf w
      rwa [show (((k + 1 : Nat) : Int)) = (k : Int) + 1 by omega] at this
    obtain ⟨v2, w2, hr2, ho2, hg2, ha2⟩ := append_s (W := w1) (base := w.heap.size) ho1 (b := g) (off := o) (c := cap - (k + 1)) (m := n - (k + 1)) (ys := D.drop (k + 1)) (by rw [List.length_drop]; omega) (fun i hi => by
      have : k + 1 + i < D.length := by rw [List.length_drop] at hi; omega
      have e : o = k + 1 := by omega
      rw [e, (HB1.out.cell (p := ⟨g, k + 1 + i, none⟩) hg).trans (hc _ this), List.getElem_drop]) (by omega) HB1.out.size 37
    have HB2 : Hid (Below w.heap.size w w2) := Lib.hid (HB1.out.grown hg2 HB1.out.size (fun j e => (ho1.lt j e).1))
    have HO2 := Lib.hid ho2
    have HR1 := Lib.hid hr1
    have HR2 := Lib.hid hr2
    obtain ⟨x1, x2, hv1⟩ := own_form ho1
    subst hv1
    obtain ⟨y1, y2, hv2⟩ := own_form ho2
    subst hv2
    have c1 := (HB1.out.cell (p := ⟨p, 0, none⟩) hpl).trans c0
    have c2 := (HB2.out.cell (p := ⟨p, 0, none⟩) hpl).trans c0
    have f2 := (HB2.out.frozen (p := ⟨p, 0, none⟩) hpl).trans fz
    have l1 := Nat.lt_of_lt_of_le hpl HB1.out.size
    have l2 := Nat.lt_of_lt_of_le hpl HB2.out.size
    have HPOST : Hid (Turn (BagK 45) w (w2.setCell ⟨p, 0, none⟩ (.slice y1 (k + (n - (k + 1))) y2)) p (cutB D k) R) := Lib.hid (take_end tq_ne HR.out HQ.out HB2.out (by have := cut_len D (k := k) (by omega); omega) HO2.out)
    clear hin hq hR hx hn hc hr1 hr2 ho1 ho2 hg1 hg2 ha1 ha2 hcf ho
    go_enter Try.func14, Try.ntmps14
    go_wp2_with (first
      | (go_at_call 20; (have hc := qlook_any p _ D (k : Int) w HQ.out; rw [HX.out, HIN.out] at hc; with_reducible refine hc.mono ?_); rintro e w3 ⟨rfl, rfl⟩)
      | (at_builtin; refine wpList_append_eq (by rfl) (.tmp 16) (.tmp 22) 37 37 (by rfl) _ _ _ _ (by rfl) (by rfl) HR1.out ?_)
      | (at_builtin; refine wpList_append_eq (by rfl) (.tmp 25) (.tmp 32) 37 37 (by rfl) _ _ _ _ (by rfl) (by rfl) HR2.out ?_))
    go_ret2
    exact ⟨rfl, HPOST.out⟩
end Go.Proofs.Ytgjpndloeegamaa
