/-
  The statement DiskApart is proved for every script and text: what is done to one file changes nothing of another one, nor of another disk. No condition.
-/
import Derived.Test.YtffpmcelelloeaaAwake10
import Derived.Test.YtffpmcelelloeaaDapartn
import Derived.Test.YtffpmcelelloeaaOpen10
import Derived.Test.YtffpmcelelloeaaRows
namespace Go.Proofs.Ytffpmcelelloeaa.lawDapart
open Go.ChangeShapes Go.WideShapes Go.ChangeAt Go.RowKit Gm
open Go.ChangeMaps (open_string shut_string)

/-- Behind i rounds: the disk p with the file c, the disk q with the file a. -/
def ApH (w wr : World) (p q : Nat) (tx : Bs) (i : Nat) (bs : List (Nat × Obj)) : Prop := ∃ D, ApSt D [99] tx (i + 2) ∧ Held PDisk PDisk w wr p D q ⟨[⟨[97], tx, 0⟩], 1, 0, false⟩ bs

set_option maxRecDepth 100000 in
set_option maxHeartbeats 8000000 in
theorem walk (a : Option Addr) (len cap : Nat) (l : List ActE) (a1 : ByteArray) (w : World) (h0 : ActsAt w.heap.size w a len l) (h1 : a1.size ≤ 140737488351232) :
    Calls Try.prog 8 #[.slice a len cap, .string a1] w fun e w' => e = .returned (.bool true) ∧ Below w.heap.size w w' := by
  obtain ⟨x0, rfl⟩ : ∃ x, a1 = S x := ⟨_, (S_eq a1).symm⟩
  have sx0 := S_size x0
  rw [sx0] at h1
  obtain ⟨kx, mx, cx⟩ := cut_500 x0
  obtain ⟨tx, htx⟩ : ∃ o, x0.take 500 = o := ⟨_, rfl⟩
  have ltx : tx.length ≤ 500 := by rw [← htx, List.length_take]; omega
  rw [htx] at cx
  have HT := Lib.hid h0
  have hlen := h0.2.1
  have HL := Lib.hid h0.1
  have H0 := Lib.hid (Held.start w)
  clear h0 htx
  go_enter Try.func8, Try.ntmps8
  go_wp2_with (go_at_call 9; refine (awake_any _).mono ?_; rintro e w1 ⟨rfl, hb1⟩; have h1 := H0.out.below nobody_law nobody_law hb1)
  go_wp2_with (go_at_call 10; refine (h1.pNew nobody_law).mono ?_; rintro e w2 ⟨p, rfl, h2⟩; have h2' := h2.swap)
  go_wp2_with (go_at_call 10; refine (h2'.pNew pdisk_law).mono ?_; rintro e w3 ⟨q, rfl, h3⟩; have h3' := h3.swap)
  go_wp2_with (go_at_call 14; (have hc := h3'.pAppend pdisk_law [99] tx (by decide) (by decide) (by omega); rw [e99, ap1 ltx _ rfl] at hc; with_reducible refine hc.mono ?_); rintro e w4 ⟨rfl, h4⟩)
  go_wp2_with (go_at_call 16; (have hc := h4.pSync pdisk_law [99] (by dsimp only; omega) (by decide); rw [e99] at hc; with_reducible refine hc.mono ?_); rintro e w5 ⟨rfl, h5⟩; have h5' := h5.swap)
  go_wp2_with (go_at_call 14; (have hc := h5'.pAppend pdisk_law [97] tx (by decide) (by decide) (by omega); rw [e97, ap1 ltx _ rfl] at hc; with_reducible refine hc.mono ?_); rintro e w6 ⟨rfl, h6⟩; have h6' := h6.swap)
  have HH : Hid (ApH w w6 p q tx 0 []) := Lib.hid ⟨_, ap2 tx, h6'⟩
  have stx := S_toList tx
  clear h1 h2 h2' h3 h3' h4 h5 h5' h6 h6' hb1
  go_loopw [8] (fun iv wr => ∃ i, i ≤ len ∧ i ≤ 60 ∧ iv = .int .i64 (i : Int) ∧ ApH w wr p q tx i []) (fun iv _ => len - (intOf iv).toNat)
  case atStart => exact ⟨0, Nat.zero_le _, by omega, rfl, HH.out⟩
  case round =>
    obtain ⟨i, hi, hi60, rfl, hh⟩ := hrel
    clear HH
    by_cases hlt : i < len ∧ i < 60
    · obtain ⟨hl1, hl2⟩ := hlt
      obtain ⟨D, hst, hh⟩ := hh
      obtain ⟨_, _, b, off, ha, hc⟩ := HT.out
      have hil : i < l.length := by rw [HL.out]; exact hl1
      obtain ⟨hb, hx⟩ := hc i hil
      obtain rfl : a = some ⟨b, off, none⟩ := by
        rcases ha with h | h
        · omega
        · exact h
      obtain ⟨x, hxe⟩ : ∃ x, l[i] = x := ⟨_, rfl⟩
      rw [hxe] at hx
      obtain ⟨⟨b0, b1, b2, b3, b4⟩, c0, c1, c2, c3, c4, ka, kl, kc, c5, hk⟩ := hx
      replace c0 := (hh.to.cell (p := ⟨b, off + i * 6, none⟩) hb).trans c0
      replace c1 := (hh.to.cell (p := ⟨b, off + i * 6 + 1, none⟩) hb).trans c1
      replace c2 := (hh.to.cell (p := ⟨b, off + i * 6 + 2, none⟩) hb).trans c2
      replace c3 := (hh.to.cell (p := ⟨b, off + i * 6 + 3, none⟩) hb).trans c3
      replace c4 := (hh.to.cell (p := ⟨b, off + i * 6 + 4, none⟩) hb).trans c4
      replace c5 := (hh.to.cell (p := ⟨b, off + i * 6 + 5, none⟩) hb).trans c5
      have HB0 := Lib.hid b0
      have HB1 := Lib.hid b1
      have HB2 := Lib.hid b2
      have HKB := Lib.hid hk
      obtain ⟨ky, my, cy⟩ := cut_500 x.text
      obtain ⟨t, htt⟩ : ∃ t, x.text.take 500 = t := ⟨_, rfl⟩
      rw [htt] at cy
      have lt : t.length ≤ 500 := by rw [← htt, List.length_take]; omega
      have st0 := S_size x.text
      have hi0 : (0 : Int) ≤ (i : Int) := by omega
      have hi1 : (i : Int) < (len : Int) := by omega
      have hi2 : (i : Int) < 60 := by omega
      have hb' : b < wr.heap.size := Nat.lt_of_lt_of_le hb hh.size
      have hac : D.acts ≤ 1099511627776 := by have := hst.acts; omega
      have hok := hh.ok pdisk_law
      have h7 := hh.push pdisk_law pdisk_law (.cells #[.int .i64 x.what, .int .i64 x.file, .int .i64 x.other, .int .i64 x.n, .string (S x.text), .slice ka kl kc] 30)
      have hblk := h7.own (List.mem_cons_self ..)
      have H7 := Lib.hid h7
      have HST := Lib.hid hst
      have HOK := Lib.hid hok
      have hp0 := pk_bd x.what 6 (by omega)
      have hp1 := pk_bd x.file 2 (by omega)
      have hp2 := pk_bd x.other 2 (by omega)
      have q1 : pk x.file 2 = 0 ∨ pk x.file 2 = 1 := by omega
      have q0 : pk x.what 6 = 0 ∨ pk x.what 6 = 1 ∨ pk x.what 6 = 2 ∨ pk x.what 6 = 3 ∨ pk x.what 6 = 4 ∨ pk x.what 6 = 5 := by omega
      have q2 : pk x.other 2 = 0 ∨ pk x.other 2 = 1 := by omega
      clear ha hc hxe hil hh hst hok h7 b0 b1 b2 b3 hk htt hp0 hp1 hp2
      clear mx cx
      rcases q1 with hf | hf
      · have HF := Lib.hid hf
        clear hf
        rcases q0 with hw | hw | hw | hw | hw | hw
        · have HW := Lib.hid hw
          clear hw
          have H8 := Lib.hid (H7.out.push pdisk_law pdisk_law (.cells #[.string { data := #[97] }, .string { data := #[98] }] 9))
          have hblk := H8.out.own (List.mem_cons_of_mem _ (List.mem_cons_self ..))
          go_wp2_with (go_at_call 13; (with_reducible refine (pick_any _ _ _ HB1.out (by omega) (by omega)).mono ?_); rw [HF.out]; rintro e w7 ⟨rfl, rfl⟩)
          go_wp2_with (go_at_call 13; (with_reducible refine (pick_any _ _ _ HB0.out (by omega) (by omega)).mono ?_); rw [HW.out]; rintro e w7 ⟨rfl, rfl⟩)
          go_wp2_with (go_at_call 14; (have hc := H8.out.pAppend pdisk_law [97] t hac (by decide) (by omega); rw [e97] at hc; with_reducible refine hc.mono ?_); rintro e w8 ⟨rfl, h8⟩)
          have HX := Lib.hid h8.pop
          have HSX := Lib.hid (HST.out.append HOK.out (j := [97]) (by decide) t)
          clear h8
          go_wp2_with (go_at_call 26; (have hc := HX.out.pRead pdisk_law [99] (by decide); rw [e99, HSX.out.read] at hc; with_reducible refine hc.mono ?_); rintro e w9 ⟨rfl, _, h9⟩)
          have H9 := Lib.hid h9.pop
          clear h9
          go_roundw
          case rel => exact ⟨i + 1, by omega, by omega, by go_num, _, HSX.out, H9.out⟩
          case measure => simp [intOf]; omega
        · have HW := Lib.hid hw
          clear hw
          have H8 := Lib.hid (H7.out.push pdisk_law pdisk_law (.cells #[.string { data := #[97] }, .string { data := #[98] }] 9))
          have hblk := H8.out.own (List.mem_cons_of_mem _ (List.mem_cons_self ..))
          go_wp2_with (go_at_call 13; (with_reducible refine (pick_any _ _ _ HB1.out (by omega) (by omega)).mono ?_); rw [HF.out]; rintro e w7 ⟨rfl, rfl⟩)
          go_wp2_with (go_at_call 13; (with_reducible refine (pick_any _ _ _ HB0.out (by omega) (by omega)).mono ?_); rw [HW.out]; rintro e w7 ⟨rfl, rfl⟩)
          go_wp2_with (go_at_call 14; (have hc := H8.out.pAppend pdisk_law [97] t hac (by decide) (by omega); rw [e97] at hc; with_reducible refine hc.mono ?_); rintro e w8 ⟨rfl, h8⟩)
          have HX := Lib.hid h8.pop
          have HSX := Lib.hid (HST.out.append HOK.out (j := [97]) (by decide) t)
          clear h8
          go_wp2_with (go_at_call 26; (have hc := HX.out.pRead pdisk_law [99] (by decide); rw [e99, HSX.out.read] at hc; with_reducible refine hc.mono ?_); rintro e w9 ⟨rfl, _, h9⟩)
          have H9 := Lib.hid h9.pop
          clear h9
          go_roundw
          case rel => exact ⟨i + 1, by omega, by omega, by go_num, _, HSX.out, H9.out⟩
          case measure => simp [intOf]; omega
        · have HW := Lib.hid hw
          clear hw
          have H8 := Lib.hid (H7.out.push pdisk_law pdisk_law (.cells #[.string { data := #[97] }, .string { data := #[98] }] 9))
          have hblk := H8.out.own (List.mem_cons_of_mem _ (List.mem_cons_self ..))
          go_wp2_with (go_at_call 13; (with_reducible refine (pick_any _ _ _ HB1.out (by omega) (by omega)).mono ?_); rw [HF.out]; rintro e w7 ⟨rfl, rfl⟩)
          go_wp2_with (go_at_call 13; (with_reducible refine (pick_any _ _ _ HB0.out (by omega) (by omega)).mono ?_); rw [HW.out]; rintro e w7 ⟨rfl, rfl⟩)
          go_wp2_with (go_at_call 16; (have hc := H8.out.pSync pdisk_law [97] hac (by decide); rw [e97] at hc; with_reducible refine hc.mono ?_); rintro e w8 ⟨rfl, h8⟩)
          have HX := Lib.hid h8.pop
          have HSX := Lib.hid (HST.out.sync HOK.out (j := [97]) (by decide))
          clear h8
          go_wp2_with (go_at_call 26; (have hc := HX.out.pRead pdisk_law [99] (by decide); rw [e99, HSX.out.read] at hc; with_reducible refine hc.mono ?_); rintro e w9 ⟨rfl, _, h9⟩)
          have H9 := Lib.hid h9.pop
          clear h9
          go_roundw
          case rel => exact ⟨i + 1, by omega, by omega, by go_num, _, HSX.out, H9.out⟩
          case measure => simp [intOf]; omega
        · have HW := Lib.hid hw
          clear hw
          have H8 := Lib.hid (H7.out.push pdisk_law pdisk_law (.cells #[.string { data := #[97] }, .string { data := #[98] }] 9))
          have hblk := H8.out.own (List.mem_cons_of_mem _ (List.mem_cons_self ..))
          go_wp2_with (go_at_call 13; (with_reducible refine (pick_any _ _ _ HB1.out (by omega) (by omega)).mono ?_); rw [HF.out]; rintro e w7 ⟨rfl, rfl⟩)
          go_wp2_with (go_at_call 13; (with_reducible refine (pick_any _ _ _ HB0.out (by omega) (by omega)).mono ?_); rw [HW.out]; rintro e w7 ⟨rfl, rfl⟩)
          rcases q2 with hv | hv
          · have HV := Lib.hid hv
            clear hv
            have H8' := Lib.hid (H8.out.push pdisk_law pdisk_law (.cells #[.string { data := #[97] }, .string { data := #[98] }] 9))
            have hblk' := H8'.out.own (List.mem_cons_of_mem _ (List.mem_cons_of_mem _ (List.mem_cons_self ..)))
            go_wp2_with (go_at_call 13; (with_reducible refine (pick_any _ _ _ HB2.out (by omega) (by omega)).mono ?_); rw [HV.out]; rintro e w7 ⟨rfl, rfl⟩)
            go_wp2_with (go_at_call 18; (have hc := H8'.out.pRename pdisk_law [97] [97] hac (by decide) (by decide); rw [e97] at hc; with_reducible refine hc.mono ?_); rintro e w8 ⟨rfl, h8⟩)
            have HX := Lib.hid h8.pop.pop
            have HSX := Lib.hid (HST.out.rename HOK.out (j := [97]) (i := [97]) (by decide) (by decide))
            clear h8
            go_wp2_with (go_at_call 26; (have hc := HX.out.pRead pdisk_law [99] (by decide); rw [e99, HSX.out.read] at hc; with_reducible refine hc.mono ?_); rintro e w9 ⟨rfl, _, h9⟩)
            have H9 := Lib.hid h9.pop
            clear h9
            go_roundw
            case rel => exact ⟨i + 1, by omega, by omega, by go_num, _, HSX.out, H9.out⟩
            case measure => simp [intOf]; omega
          · have HV := Lib.hid hv
            clear hv
            have H8' := Lib.hid (H8.out.push pdisk_law pdisk_law (.cells #[.string { data := #[97] }, .string { data := #[98] }] 9))
            have hblk' := H8'.out.own (List.mem_cons_of_mem _ (List.mem_cons_of_mem _ (List.mem_cons_self ..)))
            go_wp2_with (go_at_call 13; (with_reducible refine (pick_any _ _ _ HB2.out (by omega) (by omega)).mono ?_); rw [HV.out]; rintro e w7 ⟨rfl, rfl⟩)
            go_wp2_with (go_at_call 18; (have hc := H8'.out.pRename pdisk_law [97] [98] hac (by decide) (by decide); rw [e97, e98] at hc; with_reducible refine hc.mono ?_); rintro e w8 ⟨rfl, h8⟩)
            have HX := Lib.hid h8.pop.pop
            have HSX := Lib.hid (HST.out.rename HOK.out (j := [97]) (i := [98]) (by decide) (by decide))
            clear h8
            go_wp2_with (go_at_call 26; (have hc := HX.out.pRead pdisk_law [99] (by decide); rw [e99, HSX.out.read] at hc; with_reducible refine hc.mono ?_); rintro e w9 ⟨rfl, _, h9⟩)
            have H9 := Lib.hid h9.pop
            clear h9
            go_roundw
            case rel => exact ⟨i + 1, by omega, by omega, by go_num, _, HSX.out, H9.out⟩
            case measure => simp [intOf]; omega
        · have HW := Lib.hid hw
          clear hw
          have H8 := Lib.hid (H7.out.push pdisk_law pdisk_law (.cells #[.string { data := #[97] }, .string { data := #[98] }] 9))
          have hblk := H8.out.own (List.mem_cons_of_mem _ (List.mem_cons_self ..))
          go_wp2_with (go_at_call 13; (with_reducible refine (pick_any _ _ _ HB1.out (by omega) (by omega)).mono ?_); rw [HF.out]; rintro e w7 ⟨rfl, rfl⟩)
          go_wp2_with (go_at_call 13; (with_reducible refine (pick_any _ _ _ HB0.out (by omega) (by omega)).mono ?_); rw [HW.out]; rintro e w7 ⟨rfl, rfl⟩)
          go_wp2_with (go_at_call 20; (have hc := H8.out.pRemove pdisk_law [97] hac (by decide); rw [e97] at hc; with_reducible refine hc.mono ?_); rintro e w8 ⟨rfl, h8⟩)
          have HX := Lib.hid h8.pop
          have HSX := Lib.hid (HST.out.remove (j := [97]) (by decide))
          clear h8
          go_wp2_with (go_at_call 26; (have hc := HX.out.pRead pdisk_law [99] (by decide); rw [e99, HSX.out.read] at hc; with_reducible refine hc.mono ?_); rintro e w9 ⟨rfl, _, h9⟩)
          have H9 := Lib.hid h9.pop
          clear h9
          go_roundw
          case rel => exact ⟨i + 1, by omega, by omega, by go_num, _, HSX.out, H9.out⟩
          case measure => simp [intOf]; omega
        · have HW := Lib.hid hw
          clear hw
          have H8 := Lib.hid (H7.out.push pdisk_law pdisk_law (.cells #[.string { data := #[97] }, .string { data := #[98] }] 9))
          have hblk := H8.out.own (List.mem_cons_of_mem _ (List.mem_cons_self ..))
          go_wp2_with (go_at_call 13; (with_reducible refine (pick_any _ _ _ HB1.out (by omega) (by omega)).mono ?_); rw [HF.out]; rintro e w7 ⟨rfl, rfl⟩)
          go_wp2_with (go_at_call 13; (with_reducible refine (pick_any _ _ _ HB0.out (by omega) (by omega)).mono ?_); rw [HW.out]; rintro e w7 ⟨rfl, rfl⟩)
          go_wp2_with (go_at_call 24; (have hc := H8.out.pRestart pdisk_law kc HKB.out; with_reducible refine hc.mono ?_); rintro e w8 ⟨rfl, h8⟩)
          have HX := Lib.hid h8.pop
          have HSX := Lib.hid (HST.out.restart x.keep)
          clear h8
          go_wp2_with (go_at_call 26; (have hc := HX.out.pRead pdisk_law [99] (by decide); rw [e99, HSX.out.read] at hc; with_reducible refine hc.mono ?_); rintro e w9 ⟨rfl, _, h9⟩)
          have H9 := Lib.hid h9.pop
          clear h9
          go_roundw
          case rel => exact ⟨i + 1, by omega, by omega, by go_num, _, HSX.out, H9.out⟩
          case measure => simp [intOf]; omega
      · have HF := Lib.hid hf
        clear hf
        rcases q0 with hw | hw | hw | hw | hw | hw
        · have HW := Lib.hid hw
          clear hw
          have H8 := Lib.hid (H7.out.push pdisk_law pdisk_law (.cells #[.string { data := #[97] }, .string { data := #[98] }] 9))
          have hblk := H8.out.own (List.mem_cons_of_mem _ (List.mem_cons_self ..))
          go_wp2_with (go_at_call 13; (with_reducible refine (pick_any _ _ _ HB1.out (by omega) (by omega)).mono ?_); rw [HF.out]; rintro e w7 ⟨rfl, rfl⟩)
          go_wp2_with (go_at_call 13; (with_reducible refine (pick_any _ _ _ HB0.out (by omega) (by omega)).mono ?_); rw [HW.out]; rintro e w7 ⟨rfl, rfl⟩)
          go_wp2_with (go_at_call 14; (have hc := H8.out.pAppend pdisk_law [98] t hac (by decide) (by omega); rw [e98] at hc; with_reducible refine hc.mono ?_); rintro e w8 ⟨rfl, h8⟩)
          have HX := Lib.hid h8.pop
          have HSX := Lib.hid (HST.out.append HOK.out (j := [98]) (by decide) t)
          clear h8
          go_wp2_with (go_at_call 26; (have hc := HX.out.pRead pdisk_law [99] (by decide); rw [e99, HSX.out.read] at hc; with_reducible refine hc.mono ?_); rintro e w9 ⟨rfl, _, h9⟩)
          have H9 := Lib.hid h9.pop
          clear h9
          go_roundw
          case rel => exact ⟨i + 1, by omega, by omega, by go_num, _, HSX.out, H9.out⟩
          case measure => simp [intOf]; omega
        · have HW := Lib.hid hw
          clear hw
          have H8 := Lib.hid (H7.out.push pdisk_law pdisk_law (.cells #[.string { data := #[97] }, .string { data := #[98] }] 9))
          have hblk := H8.out.own (List.mem_cons_of_mem _ (List.mem_cons_self ..))
          go_wp2_with (go_at_call 13; (with_reducible refine (pick_any _ _ _ HB1.out (by omega) (by omega)).mono ?_); rw [HF.out]; rintro e w7 ⟨rfl, rfl⟩)
          go_wp2_with (go_at_call 13; (with_reducible refine (pick_any _ _ _ HB0.out (by omega) (by omega)).mono ?_); rw [HW.out]; rintro e w7 ⟨rfl, rfl⟩)
          go_wp2_with (go_at_call 14; (have hc := H8.out.pAppend pdisk_law [98] t hac (by decide) (by omega); rw [e98] at hc; with_reducible refine hc.mono ?_); rintro e w8 ⟨rfl, h8⟩)
          have HX := Lib.hid h8.pop
          have HSX := Lib.hid (HST.out.append HOK.out (j := [98]) (by decide) t)
          clear h8
          go_wp2_with (go_at_call 26; (have hc := HX.out.pRead pdisk_law [99] (by decide); rw [e99, HSX.out.read] at hc; with_reducible refine hc.mono ?_); rintro e w9 ⟨rfl, _, h9⟩)
          have H9 := Lib.hid h9.pop
          clear h9
          go_roundw
          case rel => exact ⟨i + 1, by omega, by omega, by go_num, _, HSX.out, H9.out⟩
          case measure => simp [intOf]; omega
        · have HW := Lib.hid hw
          clear hw
          have H8 := Lib.hid (H7.out.push pdisk_law pdisk_law (.cells #[.string { data := #[97] }, .string { data := #[98] }] 9))
          have hblk := H8.out.own (List.mem_cons_of_mem _ (List.mem_cons_self ..))
          go_wp2_with (go_at_call 13; (with_reducible refine (pick_any _ _ _ HB1.out (by omega) (by omega)).mono ?_); rw [HF.out]; rintro e w7 ⟨rfl, rfl⟩)
          go_wp2_with (go_at_call 13; (with_reducible refine (pick_any _ _ _ HB0.out (by omega) (by omega)).mono ?_); rw [HW.out]; rintro e w7 ⟨rfl, rfl⟩)
          go_wp2_with (go_at_call 16; (have hc := H8.out.pSync pdisk_law [98] hac (by decide); rw [e98] at hc; with_reducible refine hc.mono ?_); rintro e w8 ⟨rfl, h8⟩)
          have HX := Lib.hid h8.pop
          have HSX := Lib.hid (HST.out.sync HOK.out (j := [98]) (by decide))
          clear h8
          go_wp2_with (go_at_call 26; (have hc := HX.out.pRead pdisk_law [99] (by decide); rw [e99, HSX.out.read] at hc; with_reducible refine hc.mono ?_); rintro e w9 ⟨rfl, _, h9⟩)
          have H9 := Lib.hid h9.pop
          clear h9
          go_roundw
          case rel => exact ⟨i + 1, by omega, by omega, by go_num, _, HSX.out, H9.out⟩
          case measure => simp [intOf]; omega
        · have HW := Lib.hid hw
          clear hw
          have H8 := Lib.hid (H7.out.push pdisk_law pdisk_law (.cells #[.string { data := #[97] }, .string { data := #[98] }] 9))
          have hblk := H8.out.own (List.mem_cons_of_mem _ (List.mem_cons_self ..))
          go_wp2_with (go_at_call 13; (with_reducible refine (pick_any _ _ _ HB1.out (by omega) (by omega)).mono ?_); rw [HF.out]; rintro e w7 ⟨rfl, rfl⟩)
          go_wp2_with (go_at_call 13; (with_reducible refine (pick_any _ _ _ HB0.out (by omega) (by omega)).mono ?_); rw [HW.out]; rintro e w7 ⟨rfl, rfl⟩)
          rcases q2 with hv | hv
          · have HV := Lib.hid hv
            clear hv
            have H8' := Lib.hid (H8.out.push pdisk_law pdisk_law (.cells #[.string { data := #[97] }, .string { data := #[98] }] 9))
            have hblk' := H8'.out.own (List.mem_cons_of_mem _ (List.mem_cons_of_mem _ (List.mem_cons_self ..)))
            go_wp2_with (go_at_call 13; (with_reducible refine (pick_any _ _ _ HB2.out (by omega) (by omega)).mono ?_); rw [HV.out]; rintro e w7 ⟨rfl, rfl⟩)
            go_wp2_with (go_at_call 18; (have hc := H8'.out.pRename pdisk_law [98] [97] hac (by decide) (by decide); rw [e98, e97] at hc; with_reducible refine hc.mono ?_); rintro e w8 ⟨rfl, h8⟩)
            have HX := Lib.hid h8.pop.pop
            have HSX := Lib.hid (HST.out.rename HOK.out (j := [98]) (i := [97]) (by decide) (by decide))
            clear h8
            go_wp2_with (go_at_call 26; (have hc := HX.out.pRead pdisk_law [99] (by decide); rw [e99, HSX.out.read] at hc; with_reducible refine hc.mono ?_); rintro e w9 ⟨rfl, _, h9⟩)
            have H9 := Lib.hid h9.pop
            clear h9
            go_roundw
            case rel => exact ⟨i + 1, by omega, by omega, by go_num, _, HSX.out, H9.out⟩
            case measure => simp [intOf]; omega
          · have HV := Lib.hid hv
            clear hv
            have H8' := Lib.hid (H8.out.push pdisk_law pdisk_law (.cells #[.string { data := #[97] }, .string { data := #[98] }] 9))
            have hblk' := H8'.out.own (List.mem_cons_of_mem _ (List.mem_cons_of_mem _ (List.mem_cons_self ..)))
            go_wp2_with (go_at_call 13; (with_reducible refine (pick_any _ _ _ HB2.out (by omega) (by omega)).mono ?_); rw [HV.out]; rintro e w7 ⟨rfl, rfl⟩)
            go_wp2_with (go_at_call 18; (have hc := H8'.out.pRename pdisk_law [98] [98] hac (by decide) (by decide); rw [e98] at hc; with_reducible refine hc.mono ?_); rintro e w8 ⟨rfl, h8⟩)
            have HX := Lib.hid h8.pop.pop
            have HSX := Lib.hid (HST.out.rename HOK.out (j := [98]) (i := [98]) (by decide) (by decide))
            clear h8
            go_wp2_with (go_at_call 26; (have hc := HX.out.pRead pdisk_law [99] (by decide); rw [e99, HSX.out.read] at hc; with_reducible refine hc.mono ?_); rintro e w9 ⟨rfl, _, h9⟩)
            have H9 := Lib.hid h9.pop
            clear h9
            go_roundw
            case rel => exact ⟨i + 1, by omega, by omega, by go_num, _, HSX.out, H9.out⟩
            case measure => simp [intOf]; omega
        · have HW := Lib.hid hw
          clear hw
          have H8 := Lib.hid (H7.out.push pdisk_law pdisk_law (.cells #[.string { data := #[97] }, .string { data := #[98] }] 9))
          have hblk := H8.out.own (List.mem_cons_of_mem _ (List.mem_cons_self ..))
          go_wp2_with (go_at_call 13; (with_reducible refine (pick_any _ _ _ HB1.out (by omega) (by omega)).mono ?_); rw [HF.out]; rintro e w7 ⟨rfl, rfl⟩)
          go_wp2_with (go_at_call 13; (with_reducible refine (pick_any _ _ _ HB0.out (by omega) (by omega)).mono ?_); rw [HW.out]; rintro e w7 ⟨rfl, rfl⟩)
          go_wp2_with (go_at_call 20; (have hc := H8.out.pRemove pdisk_law [98] hac (by decide); rw [e98] at hc; with_reducible refine hc.mono ?_); rintro e w8 ⟨rfl, h8⟩)
          have HX := Lib.hid h8.pop
          have HSX := Lib.hid (HST.out.remove (j := [98]) (by decide))
          clear h8
          go_wp2_with (go_at_call 26; (have hc := HX.out.pRead pdisk_law [99] (by decide); rw [e99, HSX.out.read] at hc; with_reducible refine hc.mono ?_); rintro e w9 ⟨rfl, _, h9⟩)
          have H9 := Lib.hid h9.pop
          clear h9
          go_roundw
          case rel => exact ⟨i + 1, by omega, by omega, by go_num, _, HSX.out, H9.out⟩
          case measure => simp [intOf]; omega
        · have HW := Lib.hid hw
          clear hw
          have H8 := Lib.hid (H7.out.push pdisk_law pdisk_law (.cells #[.string { data := #[97] }, .string { data := #[98] }] 9))
          have hblk := H8.out.own (List.mem_cons_of_mem _ (List.mem_cons_self ..))
          go_wp2_with (go_at_call 13; (with_reducible refine (pick_any _ _ _ HB1.out (by omega) (by omega)).mono ?_); rw [HF.out]; rintro e w7 ⟨rfl, rfl⟩)
          go_wp2_with (go_at_call 13; (with_reducible refine (pick_any _ _ _ HB0.out (by omega) (by omega)).mono ?_); rw [HW.out]; rintro e w7 ⟨rfl, rfl⟩)
          go_wp2_with (go_at_call 24; (have hc := H8.out.pRestart pdisk_law kc HKB.out; with_reducible refine hc.mono ?_); rintro e w8 ⟨rfl, h8⟩)
          have HX := Lib.hid h8.pop
          have HSX := Lib.hid (HST.out.restart x.keep)
          clear h8
          go_wp2_with (go_at_call 26; (have hc := HX.out.pRead pdisk_law [99] (by decide); rw [e99, HSX.out.read] at hc; with_reducible refine hc.mono ?_); rintro e w9 ⟨rfl, _, h9⟩)
          have H9 := Lib.hid h9.pop
          clear h9
          go_roundw
          case rel => exact ⟨i + 1, by omega, by omega, by go_num, _, HSX.out, H9.out⟩
          case measure => simp [intOf]; omega
    · have hcc : (¬ (i : Int) < (len : Int)) ∨ ((i : Int) < (len : Int) ∧ ¬ (i : Int) < 60) := by omega
      obtain ⟨D, _, hh⟩ := hh
      have hs := hh.swap
      have hr : readD ⟨[⟨[97], tx, 0⟩], 1, 0, false⟩ [97] = (tx, 0) := rfl
      have hls : listD ⟨[⟨[97], tx, 0⟩], 1, 0, false⟩ = [[97]] := rfl
      clear hlt hh mx cx
      rcases hcc with hcc | ⟨hc1, hcc⟩
      · go_wp2_with (go_at_call 26; (have hc := hs.pRead pdisk_law [97] (by decide); rw [e97, hr] at hc; with_reducible refine hc.mono ?_); rintro e w4 ⟨rfl, _, h4⟩)
        go_wp2_with (go_at_call 33; (have hc := h4.pActs pdisk_law; with_reducible refine hc.mono ?_); rintro e w5 ⟨rfl, _, h5⟩)
        go_wp2_with (go_at_call 29; (have hc := h5.pList pdisk_law; rw [hls] at hc; with_reducible refine hc.mono ?_); rintro e w6 ⟨⟨la, ll, lc, rfl, hn6⟩, _, h6⟩)
        have h7 := h6.push pdisk_law pdisk_law (.cells #[.string { data := #[97] }] 9)
        have hn8 := hn6.below ((Below.refl w6.heap.size w6).alloc (Nat.le_refl _) (.cells #[.string { data := #[97] }] 9))
        have ho8 := NamesAt.one (l := [97]) (h7.own (List.mem_cons_self ..))
        go_wp2_with (go_at_call 28; (with_reducible refine (same_any _ _ _ _ _ _ _ _ _ hn8 ho8 (by decide)).mono ?_); rintro e w8 ⟨rfl, hb8⟩; have h8 := h7.below pdisk_law pdisk_law hb8)
        go_ret
        exact ⟨rfl, h8.to⟩
      · go_wp2_with (go_at_call 26; (have hc := hs.pRead pdisk_law [97] (by decide); rw [e97, hr] at hc; with_reducible refine hc.mono ?_); rintro e w4 ⟨rfl, _, h4⟩)
        go_wp2_with (go_at_call 33; (have hc := h4.pActs pdisk_law; with_reducible refine hc.mono ?_); rintro e w5 ⟨rfl, _, h5⟩)
        go_wp2_with (go_at_call 29; (have hc := h5.pList pdisk_law; rw [hls] at hc; with_reducible refine hc.mono ?_); rintro e w6 ⟨⟨la, ll, lc, rfl, hn6⟩, _, h6⟩)
        have h7 := h6.push pdisk_law pdisk_law (.cells #[.string { data := #[97] }] 9)
        have hn8 := hn6.below ((Below.refl w6.heap.size w6).alloc (Nat.le_refl _) (.cells #[.string { data := #[97] }] 9))
        have ho8 := NamesAt.one (l := [97]) (h7.own (List.mem_cons_self ..))
        go_wp2_with (go_at_call 28; (with_reducible refine (same_any _ _ _ _ _ _ _ _ _ hn8 ho8 (by decide)).mono ?_); rintro e w8 ⟨rfl, hb8⟩; have h8 := h7.below pdisk_law pdisk_law hb8)
        go_ret
        exact ⟨rfl, h8.to⟩
theorem own : ownKnob Try.prog.godebug = none := by kernel_rfl
theorem laidOut : laidOutB Try.prog = true := by kernel_rfl

set_option maxRecDepth 100000 in
theorem lifted (os : Os) (started : os.Started) (H : Type) (enc : TypeId × Value → H) :
    ReturnsInHanded {} Try.checked os 8 .any (Rows.diskApartSpec.pre6 enc Try.prog Try.f8 Rows.diskApartRow.domain false) (Rows.diskApartSpec.post enc Try.prog Try.f8 false true false false) := by
  refine returnsInHanded_of_change_sized (C := Try.checked) own started (by kernel_rfl) Try.func8
    (ChangeSpec.witness6 (enc := enc) (C := Try.checked) false ⟨#[], #[.slice none 0 0, .string ByteArray.empty], []⟩ 8 (by kernel_rfl) (by kernel_rfl) (by kernel_rfl) (by kernel_rfl)) ?_
  intro W base args ds gs before hval0 hW _ hsz0 _
  have hsz : (DataW.weightsEach Try.prog (Try.f8.params.toList ++ Rows.diskApartSpec.plain.varTypes Try.prog) (ds ++ gs)).all (· ≤ reachBytes) = true := hsz0
  have hval : ∀ (j : Nat) t v, Try.f8.params[j]? = some t → args[j]? = some v → Value.okWide Try.prog W .any base t v := hval0
  have hW' := hW
  obtain ⟨p, q, hA0, hV, rfl, hfz, hnd⟩ := hW
  have hA : DataW.TrodAll enc Try.prog W 0 (fun _ => true) true Try.f8.params.toList args.toList ds p := hA0
  rw [Try.params8] at hA hval hsz
  obtain ⟨v0, vs0, d0, ds0, p0, q0, hargs, rfl, rfl, h0, r0⟩ := trodAll_cons hA
  obtain ⟨v1, vs1, d1, ds1, p1, q1, rfl, rfl, rfl, h1, r1⟩ := trodAll_cons r0
  obtain ⟨rfl, rfl, rfl⟩ := trodAll_nil r1
  obtain rfl : args = #[v0, v1] := by cases args; simp_all
  obtain ⟨rfl, rfl⟩ := trodVars_none hV
  have k0 := h0
  have lt0 : ∀ x ∈ p0, x.block < W.heap.size := by obtain ⟨m, hm⟩ := k0; exact DataW.trod_lt m _ _ _ hm
  have k1 := h1
  have lt1 : ∀ x ∈ p1, x.block < W.heap.size := by obtain ⟨m, hm⟩ := k1; exact DataW.trod_lt m _ _ _ hm
  obtain ⟨a0, len0, cap0, rfl⟩ := okWide_slice Try.underlying22 (hval 0 22 v0 rfl rfl)
  obtain ⟨z0, b0⟩ := acts_of k0 (weights_at hsz (j := 0) (t := 22) rfl rfl)
  obtain ⟨a1, rfl, rfl, rfl, w1⟩ := open_string Try.underlying9 (hval 1 9 v1 rfl rfl) h1
  have b1 := sized_of (sized_string hsz (j := 1) (t := 9) rfl rfl)
  clear hA0 hval0 hsz0 hsz
  refine (walk a0 len0 cap0 z0 a1 W b0 b1).mono fun e W' ⟨he, bel⟩ => ?_
  subst he
  exact ⟨_, rfl, _, _, _, [], _, [], hW', trodAll_mk1 (shut_bool Try.underlying4 _), (trodAll_cons_mk (Below.trod laidOut (by kernel_rfl) (of_decide_eq_true (by kernel_rfl)) k0 bel lt0) (trodAll_cons_mk (Below.trod laidOut (by kernel_rfl) (of_decide_eq_true (by kernel_rfl)) k1 bel lt1) trodAll_mk0)), rfl, bel.frame _, fun h => by cases h⟩

theorem over : Rows.diskApartRow.holds Try.pinned (OpenSpec.ofChange Rows.diskApartSpec) :=
  OpenClaim.holds_of_wide 8 Try.f8 rfl rfl rfl rfl rfl rfl rfl ⟨rfl, rfl, rfl, rfl, rfl⟩ rfl rfl rfl rfl rfl (by kernel_rfl) Try.func8 (by kernel_rfl)
    (of_decide_eq_true (by kernel_rfl)) (by unfold Func.isWrapper; first | (rw [if_pos (by decide +kernel)]; kernel_rfl) | (rw [if_neg (by decide +kernel)]; exact ⟨rfl, rfl⟩))
    (fun os started H enc _ => lifted os started H enc)

theorem proved : Rows.DiskApartSaid := over
end Go.Proofs.Ytffpmcelelloeaa.lawDapart
