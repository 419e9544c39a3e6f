/-
  The statement DiskPlays is proved for every script: a disk answers it as the document does. No condition.
-/
import Derived.Test.YtffpmcelelloeaaAwake10
import Derived.Test.YtffpmcelelloeaaMix
import Derived.Test.YtffpmcelelloeaaQheld
import Derived.Test.YtffpmcelelloeaaOpen10
import Derived.Test.YtffpmcelelloeaaRows
namespace Go.Proofs.Ytffpmcelelloeaa.lawDplays
open Go.ChangeShapes Go.WideShapes Go.ChangeAt Go.RowKit Gm
open Go.ChangeMaps (open_string shut_string)

theorem cells6 {W : World} {g : Nat} {v0 v1 v2 v3 v4 v5 : Value} {t : TypeId} (h : W.heap[g]? = some (.cells #[v0, v1, v2, v3, v4, v5] t (0, 0))) : W.cell? ⟨g, 0, none⟩ = some v0 ∧ W.cell? ⟨g, 1, none⟩ = some v1 ∧ W.cell? ⟨g, 2, none⟩ = some v2 ∧ W.cell? ⟨g, 3, none⟩ = some v3 ∧ W.cell? ⟨g, 4, none⟩ = some v4 ∧ W.cell? ⟨g, 5, none⟩ = some v5 :=
  ⟨cell_of_row _ _ _ _ _ _ h, cell_of_row _ _ _ _ _ _ h, cell_of_row _ _ _ _ _ _ h, cell_of_row _ _ _ _ _ _ h, cell_of_row _ _ _ _ _ _ h, cell_of_row _ _ _ _ _ _ h⟩
/-- Behind i acts: both disks are one. -/
def PlH (w wr : World) (p q : Nat) (i : Nat) (D : Dk) (bs : List (Nat × Obj)) : Prop := D.acts ≤ i ∧ Held PDisk QDisk w wr p D q D bs

set_option maxRecDepth 100000 in
set_option maxHeartbeats 8000000 in
theorem walk (a : Option Addr) (len cap : Nat) (l : List ActE) (w : World) (h0 : ActsAt w.heap.size w a len l) :
    Calls Try.prog 3 #[.slice a len cap] w fun e w' => e = .returned (.bool true) ∧ Below w.heap.size w w' := by
  have HT := Lib.hid h0
  have hlen := h0.2.1
  have HL := Lib.hid h0.1
  have H0 := Lib.hid (Held.start w)
  clear h0
  go_enter Try.func3, Try.ntmps3
  go_wp2_with (go_at_call 9; refine (awake_any _).mono ?_; rintro e w1 ⟨rfl, hb1⟩; have h1 := H0.out.below nobody_law nobody_law hb1)
  go_wp2_with (go_at_call 10; refine (h1.pNew nobody_law).mono ?_; rintro e w2 ⟨p, rfl, h2⟩)
  go_wp2_with (go_at_call 11; refine (h2.qNew pdisk_law).mono ?_; rintro e w3 ⟨q, rfl, h3⟩)
  have HH : Hid (PlH w w3 p q 0 newD []) := Lib.hid ⟨Nat.le_refl _, h3⟩
  clear h1 h2 h3 hb1
  go_loopw [6] (fun iv wr => ∃ i D, i ≤ len ∧ i ≤ 200 ∧ iv = .int .i64 ((i : Nat) : Int) ∧ PlH w wr p q i D []) (fun iv _ => len - (intOf iv).toNat)
  case atStart => exact ⟨0, _, Nat.zero_le _, by omega, rfl, HH.out⟩
  case round =>
    obtain ⟨i, D, hi, hi2, rfl, hac0, hh⟩ := hrel
    clear HH
    by_cases hlt : i < len ∧ i < 200
    · obtain ⟨hl1, hl2⟩ := hlt
      obtain ⟨_, _, b, off, ha, hc⟩ := HT.out
      have hil : i < l.length := by rw [HL.out]; exact hl1
      obtain ⟨hb, hx⟩ := hc i hil
      obtain rfl : a = some ⟨b, off, none⟩ := by
        rcases ha with h | h
        · omega
        · exact h
      obtain ⟨x, hxe⟩ : ∃ x, l[i] = x := ⟨_, rfl⟩
      rw [hxe] at hx
      obtain ⟨⟨b0, b1, b2, b3, b4⟩, c0, c1, c2, c3, c4, ka, kl, kc, c5, hk⟩ := hx
      replace c0 := (hh.to.cell (p := ⟨b, off + i * 6, none⟩) hb).trans c0
      replace c1 := (hh.to.cell (p := ⟨b, off + i * 6 + 1, none⟩) hb).trans c1
      replace c2 := (hh.to.cell (p := ⟨b, off + i * 6 + 2, none⟩) hb).trans c2
      replace c3 := (hh.to.cell (p := ⟨b, off + i * 6 + 3, none⟩) hb).trans c3
      replace c4 := (hh.to.cell (p := ⟨b, off + i * 6 + 4, none⟩) hb).trans c4
      replace c5 := (hh.to.cell (p := ⟨b, off + i * 6 + 5, none⟩) hb).trans c5
      have HB0 := Lib.hid b0
      have HB1 := Lib.hid b1
      have HB2 := Lib.hid b2
      have HB3 := Lib.hid b3
      have HKB := Lib.hid hk
      obtain ⟨ky, my, cy⟩ := cut_2000 x.text
      obtain ⟨t, htt⟩ : ∃ t, x.text.take 2000 = t := ⟨_, rfl⟩
      rw [htt] at cy
      have lt : t.length ≤ 2000 := by rw [← htt, List.length_take]; omega
      have st0 := S_size x.text
      have hi0 : (0 : Int) ≤ (i : Int) := by omega
      have hi1 : (i : Int) < (len : Int) := by omega
      have hi3 : (i : Int) < 200 := by omega
      have hb' : b < wr.heap.size := Nat.lt_of_lt_of_le hb hh.size
      have hac : D.acts ≤ 1099511627776 := by omega
      have h7 := hh.push pdisk_law qdisk_law (.cells #[.int .i64 x.what, .int .i64 x.file, .int .i64 x.other, .int .i64 x.n, .string (S x.text), .slice ka kl kc] 30)
      have H7 := Lib.hid h7
      have hp0 := pk_bd x.what 11 (by omega)
      have q0 : pk x.what 11 = 0 ∨ pk x.what 11 = 1 ∨ pk x.what 11 = 2 ∨ pk x.what 11 = 3 ∨ pk x.what 11 = 4 ∨ pk x.what 11 = 5 ∨ pk x.what 11 = 6 ∨ pk x.what 11 = 7 ∨ pk x.what 11 = 8 ∨ pk x.what 11 = 9 ∨ pk x.what 11 = 10 := by omega
      have nl := name_len x.file
      obtain ⟨nm, hnm⟩ : ∃ n, nameN x.file = n := ⟨_, rfl⟩
      rw [hnm] at nl
      have HNM := Lib.hid hnm
      clear ha hc hxe hil hh h7 b0 b1 b2 b3 hk htt hp0 hnm
      obtain ⟨g0, hg0⟩ : ∃ x, wr.heap.size = x := ⟨_, rfl⟩
      rw [hg0] at H7
      have HG0 := Lib.hid hg0
      clear hg0
      go_wp2_with (go_at_call 12; (with_reducible refine (name_any _ _ HB1.out).mono ?_); rw [HNM.out, HG0.out]; rintro e w4 ⟨rfl, hb4⟩
                   have H8 := Lib.hid (H7.out.below pdisk_law qdisk_law hb4)
                   obtain ⟨y0, y1, y2, y3, y4, y5⟩ := cells6 (H8.out.own (List.mem_cons_self ..)))
      rcases q0 with hw | hw | hw | hw | hw | hw | hw | hw | hw | hw | hw
      · have HW := Lib.hid hw
        clear hw
        obtain ⟨X1, hX1⟩ : ∃ X, appendD D nm t = X := ⟨_, rfl⟩
        have hA1 : X1.1.acts ≤ i + 1 := by
          have h : (appendD D nm t).1.acts ≤ D.acts + 1 := (done_acts D (appendF D.fs nm t)).2
          rw [hX1] at h; omega
        obtain ⟨D1, r1⟩ := X1
        dsimp only at hA1
        have HX1 := Lib.hid hX1
        clear hX1
        go_wp2_with (first
          | (go_at_call 13; (with_reducible refine (pick_any _ _ _ HB0.out (by omega) (by omega)).mono ?_); rw [HW.out]; rintro e w4' ⟨rfl, rfl⟩)
          | (go_at_call 14; (have hc := H8.out.pAppend qdisk_law nm t hac (by omega) (by omega); rw [HX1.out] at hc; with_reducible refine hc.mono ?_); rintro e w5 ⟨rfl, h5⟩)
          | (go_at_call 15; (have hc := h5.qAppend pdisk_law nm t hac (by omega) (by omega); rw [HX1.out] at hc; with_reducible refine hc.mono ?_); rintro e w6 ⟨rfl, h6⟩
             obtain ⟨⟨s1, r2⟩, hR1⟩ : ∃ X, readD D1 nm = X := ⟨_, rfl⟩
             have HR1 := Lib.hid hR1
             have hln : (listD D1).length ≤ 1048576 := by
               have := (h6.ok pdisk_law).fs.len
               unfold listD
               rw [List.length_map]; omega
             clear hR1)
          | (go_at_call 26; (have hc := h6.pRead qdisk_law nm (by omega); rw [HR1.out] at hc; with_reducible refine hc.mono ?_); rintro e w7 ⟨rfl, _, h7⟩)
          | (go_at_call 27; (have hc := h7.qRead pdisk_law nm; rw [HR1.out] at hc; with_reducible refine hc.mono ?_); rintro e w9 ⟨rfl, _, h9⟩)
          | (go_at_call 29; (with_reducible refine (h9.pList qdisk_law).mono ?_); rintro e w10 ⟨⟨la, ll, lc, rfl, n10⟩, _, h10⟩)
          | (go_at_call 30; (with_reducible refine (h10.qList pdisk_law).mono ?_); rintro e w11 ⟨⟨ma, ml, mc, rfl, n11⟩, hb11, h11⟩; have n11' := n10.below hb11)
          | (go_at_call 28; (have hc := same_any _ _ _ lc _ mc _ _ _ n11' n11 hln; rw [decide_eq_true rfl] at hc; with_reducible refine hc.mono ?_); rintro e w12 ⟨rfl, hb12⟩; have h12 := h11.below pdisk_law qdisk_law hb12)
          | (go_at_call 31; (with_reducible refine (h12.pOff qdisk_law).mono ?_); rintro e w13 ⟨rfl, _, h13⟩)
          | (go_at_call 32; (with_reducible refine (h13.qOff pdisk_law).mono ?_); rintro e w14 ⟨rfl, _, h14⟩)
          | (go_at_call 33; (with_reducible refine (h14.pActs qdisk_law).mono ?_); rintro e w15 ⟨rfl, _, h15⟩)
          | (go_at_call 34; (with_reducible refine (h15.qActs pdisk_law).mono ?_); rintro e w16 ⟨rfl, _, h16⟩))
        have H16 := Lib.hid h16.pop
        go_roundw
        case rel => exact ⟨i + 1, D1, by omega, by omega, by go_num, hA1, H16.out⟩
        case measure => simp [intOf]; omega
      · have HW := Lib.hid hw
        clear hw
        obtain ⟨X1, hX1⟩ : ∃ X, appendD D nm t = X := ⟨_, rfl⟩
        have hA1 : X1.1.acts ≤ i + 1 := by
          have h : (appendD D nm t).1.acts ≤ D.acts + 1 := (done_acts D (appendF D.fs nm t)).2
          rw [hX1] at h; omega
        obtain ⟨D1, r1⟩ := X1
        dsimp only at hA1
        have HX1 := Lib.hid hX1
        clear hX1
        go_wp2_with (first
          | (go_at_call 13; (with_reducible refine (pick_any _ _ _ HB0.out (by omega) (by omega)).mono ?_); rw [HW.out]; rintro e w4' ⟨rfl, rfl⟩)
          | (go_at_call 14; (have hc := H8.out.pAppend qdisk_law nm t hac (by omega) (by omega); rw [HX1.out] at hc; with_reducible refine hc.mono ?_); rintro e w5 ⟨rfl, h5⟩)
          | (go_at_call 15; (have hc := h5.qAppend pdisk_law nm t hac (by omega) (by omega); rw [HX1.out] at hc; with_reducible refine hc.mono ?_); rintro e w6 ⟨rfl, h6⟩
             obtain ⟨⟨s1, r2⟩, hR1⟩ : ∃ X, readD D1 nm = X := ⟨_, rfl⟩
             have HR1 := Lib.hid hR1
             have hln : (listD D1).length ≤ 1048576 := by
               have := (h6.ok pdisk_law).fs.len
               unfold listD
               rw [List.length_map]; omega
             clear hR1)
          | (go_at_call 26; (have hc := h6.pRead qdisk_law nm (by omega); rw [HR1.out] at hc; with_reducible refine hc.mono ?_); rintro e w7 ⟨rfl, _, h7⟩)
          | (go_at_call 27; (have hc := h7.qRead pdisk_law nm; rw [HR1.out] at hc; with_reducible refine hc.mono ?_); rintro e w9 ⟨rfl, _, h9⟩)
          | (go_at_call 29; (with_reducible refine (h9.pList qdisk_law).mono ?_); rintro e w10 ⟨⟨la, ll, lc, rfl, n10⟩, _, h10⟩)
          | (go_at_call 30; (with_reducible refine (h10.qList pdisk_law).mono ?_); rintro e w11 ⟨⟨ma, ml, mc, rfl, n11⟩, hb11, h11⟩; have n11' := n10.below hb11)
          | (go_at_call 28; (have hc := same_any _ _ _ lc _ mc _ _ _ n11' n11 hln; rw [decide_eq_true rfl] at hc; with_reducible refine hc.mono ?_); rintro e w12 ⟨rfl, hb12⟩; have h12 := h11.below pdisk_law qdisk_law hb12)
          | (go_at_call 31; (with_reducible refine (h12.pOff qdisk_law).mono ?_); rintro e w13 ⟨rfl, _, h13⟩)
          | (go_at_call 32; (with_reducible refine (h13.qOff pdisk_law).mono ?_); rintro e w14 ⟨rfl, _, h14⟩)
          | (go_at_call 33; (with_reducible refine (h14.pActs qdisk_law).mono ?_); rintro e w15 ⟨rfl, _, h15⟩)
          | (go_at_call 34; (with_reducible refine (h15.qActs pdisk_law).mono ?_); rintro e w16 ⟨rfl, _, h16⟩))
        have H16 := Lib.hid h16.pop
        go_roundw
        case rel => exact ⟨i + 1, D1, by omega, by omega, by go_num, hA1, H16.out⟩
        case measure => simp [intOf]; omega
      · have HW := Lib.hid hw
        clear hw
        obtain ⟨X1, hX1⟩ : ∃ X, appendD D nm t = X := ⟨_, rfl⟩
        have hA1 : X1.1.acts ≤ i + 1 := by
          have h : (appendD D nm t).1.acts ≤ D.acts + 1 := (done_acts D (appendF D.fs nm t)).2
          rw [hX1] at h; omega
        obtain ⟨D1, r1⟩ := X1
        dsimp only at hA1
        have HX1 := Lib.hid hX1
        clear hX1
        go_wp2_with (first
          | (go_at_call 13; (with_reducible refine (pick_any _ _ _ HB0.out (by omega) (by omega)).mono ?_); rw [HW.out]; rintro e w4' ⟨rfl, rfl⟩)
          | (go_at_call 14; (have hc := H8.out.pAppend qdisk_law nm t hac (by omega) (by omega); rw [HX1.out] at hc; with_reducible refine hc.mono ?_); rintro e w5 ⟨rfl, h5⟩)
          | (go_at_call 15; (have hc := h5.qAppend pdisk_law nm t hac (by omega) (by omega); rw [HX1.out] at hc; with_reducible refine hc.mono ?_); rintro e w6 ⟨rfl, h6⟩
             obtain ⟨⟨s1, r2⟩, hR1⟩ : ∃ X, readD D1 nm = X := ⟨_, rfl⟩
             have HR1 := Lib.hid hR1
             have hln : (listD D1).length ≤ 1048576 := by
               have := (h6.ok pdisk_law).fs.len
               unfold listD
               rw [List.length_map]; omega
             clear hR1)
          | (go_at_call 26; (have hc := h6.pRead qdisk_law nm (by omega); rw [HR1.out] at hc; with_reducible refine hc.mono ?_); rintro e w7 ⟨rfl, _, h7⟩)
          | (go_at_call 27; (have hc := h7.qRead pdisk_law nm; rw [HR1.out] at hc; with_reducible refine hc.mono ?_); rintro e w9 ⟨rfl, _, h9⟩)
          | (go_at_call 29; (with_reducible refine (h9.pList qdisk_law).mono ?_); rintro e w10 ⟨⟨la, ll, lc, rfl, n10⟩, _, h10⟩)
          | (go_at_call 30; (with_reducible refine (h10.qList pdisk_law).mono ?_); rintro e w11 ⟨⟨ma, ml, mc, rfl, n11⟩, hb11, h11⟩; have n11' := n10.below hb11)
          | (go_at_call 28; (have hc := same_any _ _ _ lc _ mc _ _ _ n11' n11 hln; rw [decide_eq_true rfl] at hc; with_reducible refine hc.mono ?_); rintro e w12 ⟨rfl, hb12⟩; have h12 := h11.below pdisk_law qdisk_law hb12)
          | (go_at_call 31; (with_reducible refine (h12.pOff qdisk_law).mono ?_); rintro e w13 ⟨rfl, _, h13⟩)
          | (go_at_call 32; (with_reducible refine (h13.qOff pdisk_law).mono ?_); rintro e w14 ⟨rfl, _, h14⟩)
          | (go_at_call 33; (with_reducible refine (h14.pActs qdisk_law).mono ?_); rintro e w15 ⟨rfl, _, h15⟩)
          | (go_at_call 34; (with_reducible refine (h15.qActs pdisk_law).mono ?_); rintro e w16 ⟨rfl, _, h16⟩))
        have H16 := Lib.hid h16.pop
        go_roundw
        case rel => exact ⟨i + 1, D1, by omega, by omega, by go_num, hA1, H16.out⟩
        case measure => simp [intOf]; omega
      · have HW := Lib.hid hw
        clear hw
        obtain ⟨X1, hX1⟩ : ∃ X, appendD D nm t = X := ⟨_, rfl⟩
        have hA1 : X1.1.acts ≤ i + 1 := by
          have h : (appendD D nm t).1.acts ≤ D.acts + 1 := (done_acts D (appendF D.fs nm t)).2
          rw [hX1] at h; omega
        obtain ⟨D1, r1⟩ := X1
        dsimp only at hA1
        have HX1 := Lib.hid hX1
        clear hX1
        go_wp2_with (first
          | (go_at_call 13; (with_reducible refine (pick_any _ _ _ HB0.out (by omega) (by omega)).mono ?_); rw [HW.out]; rintro e w4' ⟨rfl, rfl⟩)
          | (go_at_call 14; (have hc := H8.out.pAppend qdisk_law nm t hac (by omega) (by omega); rw [HX1.out] at hc; with_reducible refine hc.mono ?_); rintro e w5 ⟨rfl, h5⟩)
          | (go_at_call 15; (have hc := h5.qAppend pdisk_law nm t hac (by omega) (by omega); rw [HX1.out] at hc; with_reducible refine hc.mono ?_); rintro e w6 ⟨rfl, h6⟩
             obtain ⟨⟨s1, r2⟩, hR1⟩ : ∃ X, readD D1 nm = X := ⟨_, rfl⟩
             have HR1 := Lib.hid hR1
             have hln : (listD D1).length ≤ 1048576 := by
               have := (h6.ok pdisk_law).fs.len
               unfold listD
               rw [List.length_map]; omega
             clear hR1)
          | (go_at_call 26; (have hc := h6.pRead qdisk_law nm (by omega); rw [HR1.out] at hc; with_reducible refine hc.mono ?_); rintro e w7 ⟨rfl, _, h7⟩)
          | (go_at_call 27; (have hc := h7.qRead pdisk_law nm; rw [HR1.out] at hc; with_reducible refine hc.mono ?_); rintro e w9 ⟨rfl, _, h9⟩)
          | (go_at_call 29; (with_reducible refine (h9.pList qdisk_law).mono ?_); rintro e w10 ⟨⟨la, ll, lc, rfl, n10⟩, _, h10⟩)
          | (go_at_call 30; (with_reducible refine (h10.qList pdisk_law).mono ?_); rintro e w11 ⟨⟨ma, ml, mc, rfl, n11⟩, hb11, h11⟩; have n11' := n10.below hb11)
          | (go_at_call 28; (have hc := same_any _ _ _ lc _ mc _ _ _ n11' n11 hln; rw [decide_eq_true rfl] at hc; with_reducible refine hc.mono ?_); rintro e w12 ⟨rfl, hb12⟩; have h12 := h11.below pdisk_law qdisk_law hb12)
          | (go_at_call 31; (with_reducible refine (h12.pOff qdisk_law).mono ?_); rintro e w13 ⟨rfl, _, h13⟩)
          | (go_at_call 32; (with_reducible refine (h13.qOff pdisk_law).mono ?_); rintro e w14 ⟨rfl, _, h14⟩)
          | (go_at_call 33; (with_reducible refine (h14.pActs qdisk_law).mono ?_); rintro e w15 ⟨rfl, _, h15⟩)
          | (go_at_call 34; (with_reducible refine (h15.qActs pdisk_law).mono ?_); rintro e w16 ⟨rfl, _, h16⟩))
        have H16 := Lib.hid h16.pop
        go_roundw
        case rel => exact ⟨i + 1, D1, by omega, by omega, by go_num, hA1, H16.out⟩
        case measure => simp [intOf]; omega
      · have HW := Lib.hid hw
        clear hw
        obtain ⟨X1, hX1⟩ : ∃ X, syncD D nm = X := ⟨_, rfl⟩
        have hA1 : X1.1.acts ≤ i + 1 := by
          have h : (syncD D nm).1.acts ≤ D.acts + 1 := (done_acts D (syncF D.fs nm)).2
          rw [hX1] at h; omega
        obtain ⟨D1, r1⟩ := X1
        dsimp only at hA1
        have HX1 := Lib.hid hX1
        clear hX1
        go_wp2_with (first
          | (go_at_call 13; (with_reducible refine (pick_any _ _ _ HB0.out (by omega) (by omega)).mono ?_); rw [HW.out]; rintro e w4' ⟨rfl, rfl⟩)
          | (go_at_call 16; (have hc := H8.out.pSync qdisk_law nm hac (by omega); rw [HX1.out] at hc; with_reducible refine hc.mono ?_); rintro e w5 ⟨rfl, h5⟩)
          | (go_at_call 17; (have hc := h5.qSync pdisk_law nm hac; rw [HX1.out] at hc; with_reducible refine hc.mono ?_); rintro e w6 ⟨rfl, h6⟩
             obtain ⟨⟨s1, r2⟩, hR1⟩ : ∃ X, readD D1 nm = X := ⟨_, rfl⟩
             have HR1 := Lib.hid hR1
             have hln : (listD D1).length ≤ 1048576 := by
               have := (h6.ok pdisk_law).fs.len
               unfold listD
               rw [List.length_map]; omega
             clear hR1)
          | (go_at_call 26; (have hc := h6.pRead qdisk_law nm (by omega); rw [HR1.out] at hc; with_reducible refine hc.mono ?_); rintro e w7 ⟨rfl, _, h7⟩)
          | (go_at_call 27; (have hc := h7.qRead pdisk_law nm; rw [HR1.out] at hc; with_reducible refine hc.mono ?_); rintro e w9 ⟨rfl, _, h9⟩)
          | (go_at_call 29; (with_reducible refine (h9.pList qdisk_law).mono ?_); rintro e w10 ⟨⟨la, ll, lc, rfl, n10⟩, _, h10⟩)
          | (go_at_call 30; (with_reducible refine (h10.qList pdisk_law).mono ?_); rintro e w11 ⟨⟨ma, ml, mc, rfl, n11⟩, hb11, h11⟩; have n11' := n10.below hb11)
          | (go_at_call 28; (have hc := same_any _ _ _ lc _ mc _ _ _ n11' n11 hln; rw [decide_eq_true rfl] at hc; with_reducible refine hc.mono ?_); rintro e w12 ⟨rfl, hb12⟩; have h12 := h11.below pdisk_law qdisk_law hb12)
          | (go_at_call 31; (with_reducible refine (h12.pOff qdisk_law).mono ?_); rintro e w13 ⟨rfl, _, h13⟩)
          | (go_at_call 32; (with_reducible refine (h13.qOff pdisk_law).mono ?_); rintro e w14 ⟨rfl, _, h14⟩)
          | (go_at_call 33; (with_reducible refine (h14.pActs qdisk_law).mono ?_); rintro e w15 ⟨rfl, _, h15⟩)
          | (go_at_call 34; (with_reducible refine (h15.qActs pdisk_law).mono ?_); rintro e w16 ⟨rfl, _, h16⟩))
        have H16 := Lib.hid h16.pop
        go_roundw
        case rel => exact ⟨i + 1, D1, by omega, by omega, by go_num, hA1, H16.out⟩
        case measure => simp [intOf]; omega
      · have HW := Lib.hid hw
        clear hw
        obtain ⟨X1, hX1⟩ : ∃ X, syncD D nm = X := ⟨_, rfl⟩
        have hA1 : X1.1.acts ≤ i + 1 := by
          have h : (syncD D nm).1.acts ≤ D.acts + 1 := (done_acts D (syncF D.fs nm)).2
          rw [hX1] at h; omega
        obtain ⟨D1, r1⟩ := X1
        dsimp only at hA1
        have HX1 := Lib.hid hX1
        clear hX1
        go_wp2_with (first
          | (go_at_call 13; (with_reducible refine (pick_any _ _ _ HB0.out (by omega) (by omega)).mono ?_); rw [HW.out]; rintro e w4' ⟨rfl, rfl⟩)
          | (go_at_call 16; (have hc := H8.out.pSync qdisk_law nm hac (by omega); rw [HX1.out] at hc; with_reducible refine hc.mono ?_); rintro e w5 ⟨rfl, h5⟩)
          | (go_at_call 17; (have hc := h5.qSync pdisk_law nm hac; rw [HX1.out] at hc; with_reducible refine hc.mono ?_); rintro e w6 ⟨rfl, h6⟩
             obtain ⟨⟨s1, r2⟩, hR1⟩ : ∃ X, readD D1 nm = X := ⟨_, rfl⟩
             have HR1 := Lib.hid hR1
             have hln : (listD D1).length ≤ 1048576 := by
               have := (h6.ok pdisk_law).fs.len
               unfold listD
               rw [List.length_map]; omega
             clear hR1)
          | (go_at_call 26; (have hc := h6.pRead qdisk_law nm (by omega); rw [HR1.out] at hc; with_reducible refine hc.mono ?_); rintro e w7 ⟨rfl, _, h7⟩)
          | (go_at_call 27; (have hc := h7.qRead pdisk_law nm; rw [HR1.out] at hc; with_reducible refine hc.mono ?_); rintro e w9 ⟨rfl, _, h9⟩)
          | (go_at_call 29; (with_reducible refine (h9.pList qdisk_law).mono ?_); rintro e w10 ⟨⟨la, ll, lc, rfl, n10⟩, _, h10⟩)
          | (go_at_call 30; (with_reducible refine (h10.qList pdisk_law).mono ?_); rintro e w11 ⟨⟨ma, ml, mc, rfl, n11⟩, hb11, h11⟩; have n11' := n10.below hb11)
          | (go_at_call 28; (have hc := same_any _ _ _ lc _ mc _ _ _ n11' n11 hln; rw [decide_eq_true rfl] at hc; with_reducible refine hc.mono ?_); rintro e w12 ⟨rfl, hb12⟩; have h12 := h11.below pdisk_law qdisk_law hb12)
          | (go_at_call 31; (with_reducible refine (h12.pOff qdisk_law).mono ?_); rintro e w13 ⟨rfl, _, h13⟩)
          | (go_at_call 32; (with_reducible refine (h13.qOff pdisk_law).mono ?_); rintro e w14 ⟨rfl, _, h14⟩)
          | (go_at_call 33; (with_reducible refine (h14.pActs qdisk_law).mono ?_); rintro e w15 ⟨rfl, _, h15⟩)
          | (go_at_call 34; (with_reducible refine (h15.qActs pdisk_law).mono ?_); rintro e w16 ⟨rfl, _, h16⟩))
        have H16 := Lib.hid h16.pop
        go_roundw
        case rel => exact ⟨i + 1, D1, by omega, by omega, by go_num, hA1, H16.out⟩
        case measure => simp [intOf]; omega
      · have HW := Lib.hid hw
        clear hw
        have ml := name_len x.other
        obtain ⟨mm, hmm⟩ : ∃ n, nameN x.other = n := ⟨_, rfl⟩
        rw [hmm] at ml
        have HMM := Lib.hid hmm
        obtain ⟨X1, hX1⟩ : ∃ X, renameD D nm mm = X := ⟨_, rfl⟩
        have hA1 : X1.1.acts ≤ i + 1 := by
          have h : (renameD D nm mm).1.acts ≤ D.acts + 1 := (done_acts D (renameF D.fs nm mm)).2
          rw [hX1] at h; omega
        obtain ⟨D1, r1⟩ := X1
        dsimp only at hA1
        have HX1 := Lib.hid hX1
        clear hX1 hmm
        go_upto_region 23 with (go_at_call 13; (with_reducible refine (pick_any _ _ _ HB0.out (by omega) (by omega)).mono ?_); rw [HW.out]; rintro e w4' ⟨rfl, rfl⟩)
        obtain ⟨wq, hwq⟩ : ∃ W, w4.drew = W := ⟨_, rfl⟩
        have Hq := Lib.hid (H8.out.below pdisk_law qdisk_law (Below.refl w4.heap.size w4).drew)
        have hC : w4.drew.cell? ⟨g0, 2, none⟩ = some (.int .i64 x.other) := (cells6 (Hq.out.own (List.mem_cons_self ..))).2.2.1
        rw [hwq] at Hq
        refine region_mix (fun W => W.cell? ⟨g0, 2, none⟩ = some (.int .i64 x.other)) (11) (.reads [0, 1, 2, 3, 6, 7, 8, 9] (.only 4 (.only 5 (.only 10 (.only 11 (.only 12 (.only 13 (.stop)))))))) (by kernel_rfl) (by kernel_rfl) (hC) ?_
        rw [hwq] at hC ⊢
        clear hwq
        repeat (
          refine plan_read rfl (fun K hK => ?_)
          first
            | (refine plan_neg ?_ ?_
               focus (go_simp; done)
               go_simp
               refine hK _ ?_
               clear hK K)
            | (apply plan_pos
               focus (go_simp; done)
               focus (
                 intro W hW
                 (have d0 := hW)
                 go_simp
                 first
                   | done
                   | exact rfl)
               go_simp
               refine hK _ ?_
               clear hK K))
        refine plan_only rfl (fun Q hQ => ?_)
        go_wp2_with (go_at_call 12; (with_reducible refine (name_any _ _ HB2.out).mono ?_); rw [HMM.out]; rintro e wr1 ⟨rfl, hbr1⟩; have hr1 := Hq.out.below pdisk_law qdisk_law hbr1)
        refine hQ _ _ (fun _ => (cells6 (hr1.own (List.mem_cons_self ..))).2.2.1) ?_
        clear hQ Q
        refine plan_only rfl (fun Q hQ => ?_)
        go_wp2_with (go_at_call 18; (have hc := hr1.pRename qdisk_law nm mm hac (by omega) (by omega); rw [HX1.out] at hc; with_reducible refine hc.mono ?_); rintro e w5 ⟨rfl, h5⟩)
        refine hQ _ _ (fun _ => (cells6 (h5.own (List.mem_cons_self ..))).2.2.1) ?_
        clear hQ Q
        refine plan_only rfl (fun Q hQ => ?_)
        go_wp2_with (go_at_call 12; (with_reducible refine (name_any _ _ HB2.out).mono ?_); rw [HMM.out]; rintro e wr2 ⟨rfl, hbr2⟩; have hr2 := h5.below pdisk_law qdisk_law hbr2)
        refine hQ _ _ (fun _ => (cells6 (hr2.own (List.mem_cons_self ..))).2.2.1) ?_
        clear hQ Q
        refine plan_only rfl (fun Q hQ => ?_)
        go_wp2_with (go_at_call 19; (have hc := hr2.qRename pdisk_law nm mm hac (by omega); rw [HX1.out] at hc; with_reducible refine hc.mono ?_); rintro e w6 ⟨rfl, h6⟩)
        refine hQ _ _ (fun h => absurd h (by omega)) ?_
        clear hQ Q
        refine plan_only rfl (fun Q hQ => ?_)
        go_wp2
        refine hQ _ _ (fun h => absurd h (by omega)) ?_
        clear hQ Q
        refine plan_only rfl (fun Q hQ => ?_)
        go_wp2
        refine hQ _ _ (fun h => absurd h (by omega)) ?_
        clear hQ Q
        unfold Plan.wp
        obtain ⟨⟨s1, r2⟩, hR1⟩ : ∃ X, readD D1 nm = X := ⟨_, rfl⟩
        have HR1 := Lib.hid hR1
        have hln : (listD D1).length ≤ 1048576 := by
          have := (h6.ok pdisk_law).fs.len
          unfold listD
          rw [List.length_map]; omega
        clear hR1
        go_wp2_with (first
          | (go_at_call 26; (have hc := h6.pRead qdisk_law nm (by omega); rw [HR1.out] at hc; with_reducible refine hc.mono ?_); rintro e w7 ⟨rfl, _, h7⟩)
          | (go_at_call 27; (have hc := h7.qRead pdisk_law nm; rw [HR1.out] at hc; with_reducible refine hc.mono ?_); rintro e w9 ⟨rfl, _, h9⟩)
          | (go_at_call 29; (with_reducible refine (h9.pList qdisk_law).mono ?_); rintro e w10 ⟨⟨la, ll, lc, rfl, n10⟩, _, h10⟩)
          | (go_at_call 30; (with_reducible refine (h10.qList pdisk_law).mono ?_); rintro e w11 ⟨⟨ma, ml, mc, rfl, n11⟩, hb11, h11⟩; have n11' := n10.below hb11)
          | (go_at_call 28; (have hc := same_any _ _ _ lc _ mc _ _ _ n11' n11 hln; rw [decide_eq_true rfl] at hc; with_reducible refine hc.mono ?_); rintro e w12 ⟨rfl, hb12⟩; have h12 := h11.below pdisk_law qdisk_law hb12)
          | (go_at_call 31; (with_reducible refine (h12.pOff qdisk_law).mono ?_); rintro e w13 ⟨rfl, _, h13⟩)
          | (go_at_call 32; (with_reducible refine (h13.qOff pdisk_law).mono ?_); rintro e w14 ⟨rfl, _, h14⟩)
          | (go_at_call 33; (with_reducible refine (h14.pActs qdisk_law).mono ?_); rintro e w15 ⟨rfl, _, h15⟩)
          | (go_at_call 34; (with_reducible refine (h15.qActs pdisk_law).mono ?_); rintro e w16 ⟨rfl, _, h16⟩))
        have H16 := Lib.hid h16.pop
        go_roundw
        case rel => exact ⟨i + 1, D1, by omega, by omega, by go_num, hA1, H16.out⟩
        case measure => simp [intOf]; omega
      · have HW := Lib.hid hw
        clear hw
        obtain ⟨X1, hX1⟩ : ∃ X, removeD D nm = X := ⟨_, rfl⟩
        have hA1 : X1.1.acts ≤ i + 1 := by
          have h : (removeD D nm).1.acts ≤ D.acts + 1 := (done_acts D (removeF D.fs nm)).2
          rw [hX1] at h; omega
        obtain ⟨D1, r1⟩ := X1
        dsimp only at hA1
        have HX1 := Lib.hid hX1
        clear hX1
        go_wp2_with (first
          | (go_at_call 13; (with_reducible refine (pick_any _ _ _ HB0.out (by omega) (by omega)).mono ?_); rw [HW.out]; rintro e w4' ⟨rfl, rfl⟩)
          | (go_at_call 20; (have hc := H8.out.pRemove qdisk_law nm hac (by omega); rw [HX1.out] at hc; with_reducible refine hc.mono ?_); rintro e w5 ⟨rfl, h5⟩)
          | (go_at_call 21; (have hc := h5.qRemove pdisk_law nm hac; rw [HX1.out] at hc; with_reducible refine hc.mono ?_); rintro e w6 ⟨rfl, h6⟩
             obtain ⟨⟨s1, r2⟩, hR1⟩ : ∃ X, readD D1 nm = X := ⟨_, rfl⟩
             have HR1 := Lib.hid hR1
             have hln : (listD D1).length ≤ 1048576 := by
               have := (h6.ok pdisk_law).fs.len
               unfold listD
               rw [List.length_map]; omega
             clear hR1)
          | (go_at_call 26; (have hc := h6.pRead qdisk_law nm (by omega); rw [HR1.out] at hc; with_reducible refine hc.mono ?_); rintro e w7 ⟨rfl, _, h7⟩)
          | (go_at_call 27; (have hc := h7.qRead pdisk_law nm; rw [HR1.out] at hc; with_reducible refine hc.mono ?_); rintro e w9 ⟨rfl, _, h9⟩)
          | (go_at_call 29; (with_reducible refine (h9.pList qdisk_law).mono ?_); rintro e w10 ⟨⟨la, ll, lc, rfl, n10⟩, _, h10⟩)
          | (go_at_call 30; (with_reducible refine (h10.qList pdisk_law).mono ?_); rintro e w11 ⟨⟨ma, ml, mc, rfl, n11⟩, hb11, h11⟩; have n11' := n10.below hb11)
          | (go_at_call 28; (have hc := same_any _ _ _ lc _ mc _ _ _ n11' n11 hln; rw [decide_eq_true rfl] at hc; with_reducible refine hc.mono ?_); rintro e w12 ⟨rfl, hb12⟩; have h12 := h11.below pdisk_law qdisk_law hb12)
          | (go_at_call 31; (with_reducible refine (h12.pOff qdisk_law).mono ?_); rintro e w13 ⟨rfl, _, h13⟩)
          | (go_at_call 32; (with_reducible refine (h13.qOff pdisk_law).mono ?_); rintro e w14 ⟨rfl, _, h14⟩)
          | (go_at_call 33; (with_reducible refine (h14.pActs qdisk_law).mono ?_); rintro e w15 ⟨rfl, _, h15⟩)
          | (go_at_call 34; (with_reducible refine (h15.qActs pdisk_law).mono ?_); rintro e w16 ⟨rfl, _, h16⟩))
        have H16 := Lib.hid h16.pop
        go_roundw
        case rel => exact ⟨i + 1, D1, by omega, by omega, by go_num, hA1, H16.out⟩
        case measure => simp [intOf]; omega
      · have HW := Lib.hid hw
        clear hw
        obtain ⟨X1, hX1⟩ : ∃ X, armD D x.n = X := ⟨_, rfl⟩
        have hA1 : X1.1.acts ≤ i + 1 := by
          rw [← hX1]
          unfold armD
          split <;> (dsimp only; omega)
        obtain ⟨D1, r1⟩ := X1
        dsimp only at hA1
        have HX1 := Lib.hid hX1
        clear hX1
        go_upto_region 27 with (go_at_call 13; (with_reducible refine (pick_any _ _ _ HB0.out (by omega) (by omega)).mono ?_); rw [HW.out]; rintro e w4' ⟨rfl, rfl⟩)
        obtain ⟨wq, hwq⟩ : ∃ W, w4.drew = W := ⟨_, rfl⟩
        have Hq := Lib.hid (H8.out.below pdisk_law qdisk_law (Below.refl w4.heap.size w4).drew)
        have hC : w4.drew.cell? ⟨g0, 3, none⟩ = some (.int .i64 x.n) := (cells6 (Hq.out.own (List.mem_cons_self ..))).2.2.2.1
        rw [hwq] at Hq
        refine region_mix (fun W => W.cell? ⟨g0, 3, none⟩ = some (.int .i64 x.n)) (7) (.reads [0, 1, 2, 4, 5, 6] (.only 3 (.only 7 (.only 8 (.only 9 (.stop)))))) (by kernel_rfl) (by kernel_rfl) (hC) ?_
        rw [hwq] at hC ⊢
        clear hwq
        repeat (
          refine plan_read rfl (fun K hK => ?_)
          first
            | (refine plan_neg ?_ ?_
               focus (go_simp; done)
               go_simp
               refine hK _ ?_
               clear hK K)
            | (apply plan_pos
               focus (go_simp; done)
               focus (
                 intro W hW
                 (have d0 := hW)
                 go_simp
                 first
                   | done
                   | exact rfl)
               go_simp
               refine hK _ ?_
               clear hK K))
        refine plan_only rfl (fun Q hQ => ?_)
        go_wp2_with (go_at_call 22; (have hc := Hq.out.pArm qdisk_law x.n hac HB3.out; rw [HX1.out] at hc; with_reducible refine hc.mono ?_); rintro e w5 ⟨rfl, h5⟩)
        refine hQ _ _ (fun _ => (cells6 (h5.own (List.mem_cons_self ..))).2.2.2.1) ?_
        clear hQ Q
        refine plan_only rfl (fun Q hQ => ?_)
        go_wp2_with (go_at_call 23; (have hc := h5.qArm pdisk_law x.n hac HB3.out; rw [HX1.out] at hc; with_reducible refine hc.mono ?_); rintro e w6 ⟨rfl, h6⟩)
        refine hQ _ _ (fun h => absurd h (by omega)) ?_
        clear hQ Q
        refine plan_only rfl (fun Q hQ => ?_)
        go_wp2
        refine hQ _ _ (fun h => absurd h (by omega)) ?_
        clear hQ Q
        refine plan_only rfl (fun Q hQ => ?_)
        go_wp2
        refine hQ _ _ (fun h => absurd h (by omega)) ?_
        clear hQ Q
        unfold Plan.wp
        obtain ⟨⟨s1, r2⟩, hR1⟩ : ∃ X, readD D1 nm = X := ⟨_, rfl⟩
        have HR1 := Lib.hid hR1
        have hln : (listD D1).length ≤ 1048576 := by
          have := (h6.ok pdisk_law).fs.len
          unfold listD
          rw [List.length_map]; omega
        clear hR1
        go_wp2_with (first
          | (go_at_call 26; (have hc := h6.pRead qdisk_law nm (by omega); rw [HR1.out] at hc; with_reducible refine hc.mono ?_); rintro e w7 ⟨rfl, _, h7⟩)
          | (go_at_call 27; (have hc := h7.qRead pdisk_law nm; rw [HR1.out] at hc; with_reducible refine hc.mono ?_); rintro e w9 ⟨rfl, _, h9⟩)
          | (go_at_call 29; (with_reducible refine (h9.pList qdisk_law).mono ?_); rintro e w10 ⟨⟨la, ll, lc, rfl, n10⟩, _, h10⟩)
          | (go_at_call 30; (with_reducible refine (h10.qList pdisk_law).mono ?_); rintro e w11 ⟨⟨ma, ml, mc, rfl, n11⟩, hb11, h11⟩; have n11' := n10.below hb11)
          | (go_at_call 28; (have hc := same_any _ _ _ lc _ mc _ _ _ n11' n11 hln; rw [decide_eq_true rfl] at hc; with_reducible refine hc.mono ?_); rintro e w12 ⟨rfl, hb12⟩; have h12 := h11.below pdisk_law qdisk_law hb12)
          | (go_at_call 31; (with_reducible refine (h12.pOff qdisk_law).mono ?_); rintro e w13 ⟨rfl, _, h13⟩)
          | (go_at_call 32; (with_reducible refine (h13.qOff pdisk_law).mono ?_); rintro e w14 ⟨rfl, _, h14⟩)
          | (go_at_call 33; (with_reducible refine (h14.pActs qdisk_law).mono ?_); rintro e w15 ⟨rfl, _, h15⟩)
          | (go_at_call 34; (with_reducible refine (h15.qActs pdisk_law).mono ?_); rintro e w16 ⟨rfl, _, h16⟩))
        have H16 := Lib.hid h16.pop
        go_roundw
        case rel => exact ⟨i + 1, D1, by omega, by omega, by go_num, hA1, H16.out⟩
        case measure => simp [intOf]; omega
      · have HW := Lib.hid hw
        clear hw
        obtain ⟨D1, hX1⟩ : ∃ X, restartD D x.keep = X := ⟨_, rfl⟩
        have hA1 : D1.acts ≤ i + 1 := by rw [← hX1]; show D.acts ≤ _; omega
        have HX1 := Lib.hid hX1
        clear hX1
        go_wp2_with (first
          | (go_at_call 13; (with_reducible refine (pick_any _ _ _ HB0.out (by omega) (by omega)).mono ?_); rw [HW.out]; rintro e w4' ⟨rfl, rfl⟩)
          | (go_at_call 24; (have hc := H8.out.pRestart qdisk_law kc HKB.out; rw [HX1.out] at hc; with_reducible refine hc.mono ?_); rintro e w5 ⟨rfl, h5⟩
             obtain ⟨z0, z1, z2, z3, z4, z5⟩ := cells6 (h5.own (List.mem_cons_self ..)))
          | (go_at_call 25; (have hc := h5.qRestart pdisk_law kc HKB.out; rw [HX1.out] at hc; with_reducible refine hc.mono ?_); rintro e w6 ⟨rfl, h6⟩
             obtain ⟨⟨s1, r2⟩, hR1⟩ : ∃ X, readD D1 nm = X := ⟨_, rfl⟩
             have HR1 := Lib.hid hR1
             have hln : (listD D1).length ≤ 1048576 := by
               have := (h6.ok pdisk_law).fs.len
               unfold listD
               rw [List.length_map]; omega
             clear hR1)
          | (go_at_call 26; (have hc := h6.pRead qdisk_law nm (by omega); rw [HR1.out] at hc; with_reducible refine hc.mono ?_); rintro e w7 ⟨rfl, _, h7⟩)
          | (go_at_call 27; (have hc := h7.qRead pdisk_law nm; rw [HR1.out] at hc; with_reducible refine hc.mono ?_); rintro e w9 ⟨rfl, _, h9⟩)
          | (go_at_call 29; (with_reducible refine (h9.pList qdisk_law).mono ?_); rintro e w10 ⟨⟨la, ll, lc, rfl, n10⟩, _, h10⟩)
          | (go_at_call 30; (with_reducible refine (h10.qList pdisk_law).mono ?_); rintro e w11 ⟨⟨ma, ml, mc, rfl, n11⟩, hb11, h11⟩; have n11' := n10.below hb11)
          | (go_at_call 28; (have hc := same_any _ _ _ lc _ mc _ _ _ n11' n11 hln; rw [decide_eq_true rfl] at hc; with_reducible refine hc.mono ?_); rintro e w12 ⟨rfl, hb12⟩; have h12 := h11.below pdisk_law qdisk_law hb12)
          | (go_at_call 31; (with_reducible refine (h12.pOff qdisk_law).mono ?_); rintro e w13 ⟨rfl, _, h13⟩)
          | (go_at_call 32; (with_reducible refine (h13.qOff pdisk_law).mono ?_); rintro e w14 ⟨rfl, _, h14⟩)
          | (go_at_call 33; (with_reducible refine (h14.pActs qdisk_law).mono ?_); rintro e w15 ⟨rfl, _, h15⟩)
          | (go_at_call 34; (with_reducible refine (h15.qActs pdisk_law).mono ?_); rintro e w16 ⟨rfl, _, h16⟩))
        have H16 := Lib.hid h16.pop
        go_roundw
        case rel => exact ⟨i + 1, D1, by omega, by omega, by go_num, hA1, H16.out⟩
        case measure => simp [intOf]; omega
      · have HW := Lib.hid hw
        clear hw
        have hA1 : D.acts ≤ i + 1 := by omega
        go_wp2_with (first
          | (go_at_call 13; (with_reducible refine (pick_any _ _ _ HB0.out (by omega) (by omega)).mono ?_); rw [HW.out]; rintro e w4' ⟨rfl, rfl⟩
             have h6 := H8.out
             obtain ⟨⟨s1, r2⟩, hR1⟩ : ∃ X, readD D nm = X := ⟨_, rfl⟩
             have HR1 := Lib.hid hR1
             have hln : (listD D).length ≤ 1048576 := by
               have := (h6.ok pdisk_law).fs.len
               unfold listD
               rw [List.length_map]; omega
             clear hR1)
          | (go_at_call 26; (have hc := h6.pRead qdisk_law nm (by omega); rw [HR1.out] at hc; with_reducible refine hc.mono ?_); rintro e w7 ⟨rfl, _, h7⟩)
          | (go_at_call 27; (have hc := h7.qRead pdisk_law nm; rw [HR1.out] at hc; with_reducible refine hc.mono ?_); rintro e w9 ⟨rfl, _, h9⟩)
          | (go_at_call 29; (with_reducible refine (h9.pList qdisk_law).mono ?_); rintro e w10 ⟨⟨la, ll, lc, rfl, n10⟩, _, h10⟩)
          | (go_at_call 30; (with_reducible refine (h10.qList pdisk_law).mono ?_); rintro e w11 ⟨⟨ma, ml, mc, rfl, n11⟩, hb11, h11⟩; have n11' := n10.below hb11)
          | (go_at_call 28; (have hc := same_any _ _ _ lc _ mc _ _ _ n11' n11 hln; rw [decide_eq_true rfl] at hc; with_reducible refine hc.mono ?_); rintro e w12 ⟨rfl, hb12⟩; have h12 := h11.below pdisk_law qdisk_law hb12)
          | (go_at_call 31; (with_reducible refine (h12.pOff qdisk_law).mono ?_); rintro e w13 ⟨rfl, _, h13⟩)
          | (go_at_call 32; (with_reducible refine (h13.qOff pdisk_law).mono ?_); rintro e w14 ⟨rfl, _, h14⟩)
          | (go_at_call 33; (with_reducible refine (h14.pActs qdisk_law).mono ?_); rintro e w15 ⟨rfl, _, h15⟩)
          | (go_at_call 34; (with_reducible refine (h15.qActs pdisk_law).mono ?_); rintro e w16 ⟨rfl, _, h16⟩))
        have H16 := Lib.hid h16.pop
        go_roundw
        case rel => exact ⟨i + 1, D, by omega, by omega, by go_num, hA1, H16.out⟩
        case measure => simp [intOf]; omega
    · have hcc : (¬ (i : Int) < (len : Int)) ∨ ((i : Int) < (len : Int) ∧ ¬ (i : Int) < 200) := by omega
      have hT := hh.to
      clear hlt hh
      rcases hcc with hcc | ⟨hc1, hcc⟩
      · go_wp2
        go_ret
        exact ⟨rfl, hT⟩
      · go_wp2
        go_ret
        exact ⟨rfl, hT⟩
theorem own : ownKnob Try.prog.godebug = none := by kernel_rfl
theorem laidOut : laidOutB Try.prog = true := by kernel_rfl

set_option maxRecDepth 100000 in
theorem lifted (os : Os) (started : os.Started) (H : Type) (enc : TypeId × Value → H) :
    ReturnsInHanded {} Try.checked os 3 .any (Rows.diskPlaysSpec.pre6 enc Try.prog Try.f3 Rows.diskPlaysRow.domain false) (Rows.diskPlaysSpec.post enc Try.prog Try.f3 false true false false) := by
  refine returnsInHanded_of_change_sized (C := Try.checked) own started (by kernel_rfl) Try.func3
    (ChangeSpec.witness6 (enc := enc) (C := Try.checked) false ⟨#[], #[.slice none 0 0], []⟩ 8 (by kernel_rfl) (by kernel_rfl) (by kernel_rfl) (by kernel_rfl)) ?_
  intro W base args ds gs before hval0 hW _ hsz0 _
  have hsz : (DataW.weightsEach Try.prog (Try.f3.params.toList ++ Rows.diskPlaysSpec.plain.varTypes Try.prog) (ds ++ gs)).all (· ≤ reachBytes) = true := hsz0
  have hval : ∀ (j : Nat) t v, Try.f3.params[j]? = some t → args[j]? = some v → Value.okWide Try.prog W .any base t v := hval0
  have hW' := hW
  obtain ⟨p, q, hA0, hV, rfl, hfz, hnd⟩ := hW
  have hA : DataW.TrodAll enc Try.prog W 0 (fun _ => true) true Try.f3.params.toList args.toList ds p := hA0
  rw [Try.params3] at hA hval hsz
  obtain ⟨v0, vs0, d0, ds0, p0, q0, hargs, rfl, rfl, h0, r0⟩ := trodAll_cons hA
  obtain ⟨rfl, rfl, rfl⟩ := trodAll_nil r0
  obtain rfl : args = #[v0] := by cases args; simp_all
  obtain ⟨rfl, rfl⟩ := trodVars_none hV
  have k0 := h0
  have lt0 : ∀ x ∈ p0, x.block < W.heap.size := by obtain ⟨m, hm⟩ := k0; exact DataW.trod_lt m _ _ _ hm
  obtain ⟨a0, len0, cap0, rfl⟩ := okWide_slice Try.underlying22 (hval 0 22 v0 rfl rfl)
  obtain ⟨z0, b0⟩ := acts_of k0 (weights_at hsz (j := 0) (t := 22) rfl rfl)
  clear hA0 hval0 hsz0 hsz
  refine (walk a0 len0 cap0 z0 W b0).mono fun e W' ⟨he, bel⟩ => ?_
  subst he
  exact ⟨_, rfl, _, _, _, [], _, [], hW', trodAll_mk1 (shut_bool Try.underlying4 _), (trodAll_cons_mk (Below.trod laidOut (by kernel_rfl) (of_decide_eq_true (by kernel_rfl)) k0 bel lt0) trodAll_mk0), rfl, bel.frame _, fun h => by cases h⟩

theorem over : Rows.diskPlaysRow.holds Try.pinned (OpenSpec.ofChange Rows.diskPlaysSpec) :=
  OpenClaim.holds_of_wide 3 Try.f3 rfl rfl rfl rfl rfl rfl rfl ⟨rfl, rfl, rfl, rfl, rfl⟩ rfl rfl rfl rfl rfl (by kernel_rfl) Try.func3 (by kernel_rfl)
    (of_decide_eq_true (by kernel_rfl)) (by unfold Func.isWrapper; first | (rw [if_pos (by decide +kernel)]; kernel_rfl) | (rw [if_neg (by decide +kernel)]; exact ⟨rfl, rfl⟩))
    (fun os started H enc _ => lifted os started H enc)

theorem proved : Rows.DiskPlaysSaid := over
end Go.Proofs.Ytffpmcelelloeaa.lawDplays
