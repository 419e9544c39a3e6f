/-
  The document's own Trim.
-/
import Derived.Deep.QuietTactic
import Derived.Deep.AppendLies
import Derived.Deep.DeepCutAuto
import Derived.Laws.OwnMore
import Derived.OwnWalk
import Derived.Test.YtjkfiilnogacnaaCalm
import Derived.Test.YtjkfiilnogacnaaQtn
import Derived.Test.YtjkfiilnogacnaaQshare
import Derived.Test.YtjkfiilnogacnaaSrow
import Derived.Test.YtjkfiilnogacnaaSonce
namespace Go.Proofs.Ytjkfiilnogacnaa
open Go.RowKit Gm

theorem row_less {W : World} {b b' size n : Nat} {e : TypeId} {v : Value} {xs : List Value} (h : W.ownsRow b e size v n xs) (hb : b' ≤ b) : W.ownsRow b' e size v n xs := by
  obtain ⟨k1, k2⟩ := h
  refine ⟨k1, ?_⟩
  rcases k2 with k2 | ⟨g, cp, cur, kv, kg, kr⟩
  · exact .inl k2
  · exact .inr ⟨g, cp, cur, kv, Nat.le_trans hb kg, kr⟩
set_option maxRecDepth 100000 in
set_option maxHeartbeats 16000000 in
theorem qtrim_any (ta : Option Addr) (tl tc : Nat) (t : List Bd) (la : Option Addr) (ll lc : Nat) (last : List Bd) (wa : Option Addr) (wl wc : Nat) (works : List Bs) (aa : Option Addr) (al ac : Nat) (allowed : List Int) (w : World)
    (ht : BindsAt w (· < w.heap.size) ta tl t) (hl : BindsAt w (· < w.heap.size) la ll last) (hw : NamesAt w (· < w.heap.size) wa wl works) (ha : KeepB w.heap.size w aa al allowed) (okt : OkL t) (okl : OkL last) (okw : works.length ≤ 1048576) :
    Calls Try.prog 13 #[.slice ta tl tc, .slice la ll lc, .slice wa wl wc, .slice aa al ac] w fun e w' => ∃ v, e = .returned v ∧ w'.ownsRow w.heap.size 40 3 v (trimN t last works allowed).length (bdsV (trimN t last works allowed)) ∧ Below w.heap.size w w' := by
  have HT := Lib.hid ht
  have HL := Lib.hid hl
  have HW := Lib.hid hw
  have HA := Lib.hid ha
  have HTl : Hid (t.length = tl) := Lib.hid ht.1
  have HLl : Hid (last.length = ll) := Lib.hid hl.1
  have HWl : Hid (works.length = wl) := Lib.hid hw.1
  have HAl : Hid (allowed.length = al) := Lib.hid ha.1
  have tl20 : tl ≤ 1048576 := by have := okt.1; rw [ht.1] at this; exact this
  have ll20 : ll ≤ 1048576 := by have := okl.1; rw [hl.1] at this; exact this
  have wl20 : wl ≤ 1048576 := by rw [← hw.1]; exact okw
  obtain ⟨i0, hi0', hz0, hz1, hz2⟩ := info_parts infoBd
  clear ht hl hw ha okt okl okw
  by_cases hgood : wl = al
  · subst hgood
    have HEQ : Hid (works.length = allowed.length) := Lib.hid (HWl.out.trans HAl.out.symm)
    have HR0 : Hid (∀ k, 0 ≤ allowN works allowed k ∧ allowN works allowed k ≤ 1000) := Lib.hid (fun k => allow_bd works allowed k)
    have HINV0 := Lib.hid (inv_start works allowed HEQ.out)
    have HTRIM : Hid (trimN t last works allowed = outN t (partE (allowN works allowed) t last 2)) := Lib.hid (by
      unfold trimN
      rw [if_pos HEQ.out]
      rfl)
    obtain ⟨r0, hr0⟩ : ∃ r, allowN works allowed = r := ⟨_, rfl⟩
    rw [hr0] at HR0 HINV0 HTRIM
    have hne : ((wl : Int) != (wl : Int)) = false := by simp
    have hmk := make_ints wl (by omega)
    have HZ0 := Lib.hid (rep_row w wl)
    have HBZ : Hid (Below w.heap.size w (w.alloc (.cells (Array.replicate wl (.int .i64 0)) 3))) := Lib.hid ((Below.refl _ w).alloc (Nat.le_refl _) _)
    obtain ⟨g1, hg1⟩ : ∃ g, w.heap.size = g := ⟨_, rfl⟩
    have HG1 := Lib.hid hg1
    clear hr0 hg1
    go_enter Try.func13, Try.ntmps13
    go_upto_region 4 with fail
    rw [HG1.out]
    rw [HG1.out] at HZ0
    clear hmk hne
    generalize w.alloc (.cells (Array.replicate wl (.int .i64 0)) 3) = w1 at *
    go_wp2
    go_loopw [10] (fun iv wr => ∃ i : Nat, i ≤ wl ∧ iv = .int .i64 (i : Int) ∧ RowC wr g1 (addL (List.replicate wl 0) ((allowed.map numC).take i)) ∧ Below w.heap.size w wr) (fun iv _ => wl - (intOf iv).toNat)
    case atStart => exact ⟨0, Nat.zero_le _, rfl, by rw [List.take_zero, addL_nil]; exact HZ0.out, HBZ.out⟩
    case round =>
      obtain ⟨i, hi, rfl, hr, hb⟩ := hrel
      have HR := Lib.hid hr
      have HB := Lib.hid hb
      clear HZ0 HBZ
      by_cases hlt : i < wl
      · have hil : i < allowed.length := by rw [HAl.out]; exact hlt
        obtain ⟨b, off, haa, hbl, hcell⟩ := cells_k HA.out hlt
        subst haa
        have c1 := (hb.cell (p := ⟨b, off + i, none⟩) hbl).trans (hcell hil)
        have y1 := Nat.lt_of_lt_of_le hbl hb.size
        have hml : i < (allowed.map numC).length := by rw [List.length_map]; exact hil
        have htk : ((allowed.map numC).take i).length = i := by rw [List.length_take]; omega
        have hst : addL (List.replicate wl 0) ((allowed.map numC).take (i + 1)) = (addL (List.replicate wl 0) ((allowed.map numC).take i)).set i (numC allowed[i]) := by
          rw [List.take_succ_eq_append_getElem hml, addL_snoc _ _ _ (by rw [htk, List.length_replicate]; exact hlt), htk, at_rep, Int.zero_add, List.getElem_map]
        have hal : (addL (List.replicate wl 0) ((allowed.map numC).take i)).length = wl := by rw [addL_len _ _ (by rw [htk, List.length_replicate]; omega), List.length_replicate]
        have x2 := hr.cell (i := i) (by rw [hal]; exact hlt)
        have fz := hr.frozen i
        have hgl := hr.lt
        have hs := hr.set i (numC allowed[i])
        rw [← hst] at hs
        obtain ⟨x, hx⟩ : ∃ x, allowed[i] = x := ⟨_, rfl⟩
        obtain ⟨nx, hnx⟩ : ∃ m, numC x = m := ⟨_, rfl⟩
        rw [hx, hnx] at hs
        rw [hx] at c1
        have HNX := Lib.hid hnx
        have HNR := Lib.hid hs
        have HNB : Hid (Below w.heap.size w (wr.setCell ⟨g1, i, none⟩ (.int .i64 nx))) := Lib.hid (hb.setCell (p := ⟨g1, i, none⟩) (by rw [HG1.out]; exact Nat.le_refl _) _)
        have hi0 : (0 : Int) ≤ (i : Int) := by omega
        have hi1 : (i : Int) < (wl : Int) := by omega
        clear hx hnx hs hst hal htk hml hcell hb hr hil
        go_wp2_with (go_at_call 23; (have hc' := qnum_any x wr; rw [HNX.out] at hc'; with_reducible refine hc'.mono ?_); rintro e w2 ⟨rfl, rfl⟩)
        go_roundw
        case rel => exact ⟨i + 1, by omega, by go_num, HNR.out, HNB.out⟩
        case measure => simp [intOf]; omega
      · have hie : i = wl := by omega
        have hin : ¬ (i : Int) < (wl : Int) := by omega
        have HRA : Hid (RowC wr g1 (allowed.map numC)) := Lib.hid (by
          have := HR.out
          rwa [hie, List.take_of_length_le (by rw [List.length_map, HAl.out]; exact Nat.le_refl _), addL_zero _ _ (by rw [List.length_map, HAl.out])] at this)
        have hmk := make_ints tl (by omega)
        have HZ2 := Lib.hid (rep_row wr tl)
        have hB8 : Below wr.heap.size wr (wr.alloc (.cells (Array.replicate tl (.int .i64 0)) 3)) := (Below.refl _ wr).alloc (Nat.le_refl _) _
        have HB8 : Hid (Below w.heap.size w (wr.alloc (.cells (Array.replicate tl (.int .i64 0)) 3))) := Lib.hid (bt HB.out hB8)
        have HRA8 := Lib.hid (HRA.out.up hB8)
        obtain ⟨g2, hg2⟩ : ∃ g, wr.heap.size = g := ⟨_, rfl⟩
        have hne12 : g1 ≠ g2 := by have := HRA.out.lt; omega
        have hg2w : w.heap.size ≤ g2 := by have := HB.out.size; omega
        have hg1w : w.heap.size ≤ g1 := by rw [HG1.out]; exact Nat.le_refl _
        have HNE := Lib.hid hne12
        have HG2 := Lib.hid hg2
        have HP0 : Hid (RowC (wr.alloc (.cells (Array.replicate tl (.int .i64 0)) 3)) g2 (partE r0 t last 0)) := Lib.hid (by
          have := HZ2.out
          rw [hg2] at this
          show RowC _ g2 (List.replicate t.length 0)
          rw [HTl.out]
          exact this)
        clear hie hlt hg2 hne12 hB8 hb hr HR HZ2 HRA HB
        go_upto_region 9 with fail
        rw [HG2.out]
        clear hmk
        generalize wr.alloc (.cells (Array.replicate tl (.int .i64 0)) 3) = w8 at *
        go_wp2
        go_loopw [12] (fun sv wr => ∃ s : Nat, s ≤ 2 ∧ sv = .int .i64 (s : Int) ∧ RowC wr g2 (partE r0 t last s) ∧ (∃ RA, RowC wr g1 RA ∧ (s < 2 → Inv works RA (restE r0 t last s))) ∧ Below w.heap.size w wr) (fun sv _ => 2 - (intOf sv).toNat)
        case atStart => exact ⟨0, Nat.zero_le _, rfl, HP0.out, ⟨_, HRA8.out, fun _ => HINV0.out⟩, HB8.out⟩
        case round =>
          obtain ⟨s, hs, rfl, hp, ⟨RA, hra, hinv⟩, hb⟩ := hrel
          clear HP0 HRA8 HB8
          have HP := Lib.hid hp
          have HRA := Lib.hid hra
          have HB := Lib.hid hb
          by_cases hlt2 : s < 2
          · have HINV := Lib.hid (hinv hlt2)
            have hs0 : (0 : Int) ≤ (s : Int) := by omega
            have hs2 : (s : Int) < 2 := by omega
            clear hp hra hinv hb
            go_wp2
            go_loopw [13] (fun iv wr => ∃ i : Nat, i ≤ tl ∧ iv = .int .i64 (i : Int) ∧ RowC wr g2 (addL (partE r0 t last s) (passU (restE r0 t last s) t (msE r0 t last s) i)) ∧ (∃ RA, RowC wr g1 RA ∧ Inv works RA (restU (restE r0 t last s) t (msE r0 t last s) i)) ∧ Below w.heap.size w wr) (fun iv _ => tl - (intOf iv).toNat)
            case atStart => exact ⟨0, Nat.zero_le _, rfl, by (show RowC _ g2 (addL _ (passU _ _ _ 0))); unfold passU; rw [List.take_zero, List.take_zero]; simp only [passL, addL_nil]; exact HP.out, ⟨RA, HRA.out, HINV.out⟩, HB.out⟩
            case round =>
              clear HP HRA HB HINV
              obtain ⟨i, hi, rfl, hp, ⟨RA, hra, hinv⟩, hb⟩ := hrel
              have HP := Lib.hid hp
              have HRA := Lib.hid hra
              have HINV := Lib.hid hinv
              have HB := Lib.hid hb
              by_cases hlt : i < tl
              · have hil : i < t.length := by rw [HTl.out]; exact hlt
                obtain ⟨b, off, hta, hbl, hcell⟩ := cells_b HT.out hlt
                subst hta
                obtain ⟨c1, d1, f1⟩ := hcell hil
                have hal : (passU (restE r0 t last s) t (msE r0 t last s) i).length = i := passU_len _ (msE_len s) (Nat.le_of_lt hil)
                have hpn := passU_snoc (restE r0 t last s) (msE_len s (r := r0) (t := t) (last := last)) hil
                have hrn := restU_snoc (restE r0 t last s) (msE_len s (r := r0) (t := t) (last := last)) hil
                have hadd := fun x => addL_snoc x (passU (restE r0 t last s) t (msE r0 t last s) i) (partE r0 t last s) (by rw [hal, partE_len]; exact hil)
                rw [hal] at hadd
                have hpl : (addL (partE r0 t last s) (passU (restE r0 t last s) t (msE r0 t last s) i)).length = tl := by rw [addL_len _ _ (by rw [hal, partE_len]; omega), partE_len, HTl.out]
                have hpat := addL_at (passU (restE r0 t last s) t (msE r0 t last s) i) (partE r0 t last s) i (by omega)
                have hrb := restU_bd (t := t) (last := last) HR0.out s i hlt2
                have hmb : 0 ≤ atN (msE r0 t last s) i ∧ atN (msE r0 t last s) i ≤ 1000 := by
                  have n1 := numC_bd t[i].cnt
                  have n2 := was_bd last t[i]
                  have : s = 0 ∨ s = 1 := by omega
                  rcases this with rfl | rfl
                  · rw [msE_at0 hil]; omega
                  · rw [msE_at1 hil]
                    have := part1_at (last := last) (fun k => (HR0.out k).1) hil
                    omega
                have hzb : 0 ≤ atN (partE r0 t last s) i ∧ atN (partE r0 t last s) i ≤ 1000 := by
                  have n1 := numC_bd t[i].cnt
                  have : s = 0 ∨ s = 1 := by omega
                  rcases this with rfl | rfl
                  · show 0 ≤ atN (List.replicate _ 0) i ∧ atN (List.replicate _ 0) i ≤ 1000
                    rw [at_rep]; omega
                  · have := part1_at (last := last) (fun k => (HR0.out k).1) hil
                    show 0 ≤ atN (part1 r0 t last) i ∧ atN (part1 r0 t last) i ≤ 1000
                    omega
                have hmse : (s = 0 → atN (partE r0 t last s) i = 0 ∧ atN (msE r0 t last s) i = min (numC t[i].cnt) (wasN last t[i])) ∧ (s ≠ 0 → atN (msE r0 t last s) i = numC t[i].cnt - atN (partE r0 t last s) i) := by
                  have : s = 0 ∨ s = 1 := by omega
                  rcases this with rfl | rfl
                  · exact ⟨fun _ => ⟨at_rep _ _, msE_at0 hil⟩, fun h => absurd rfl h⟩
                  · exact ⟨fun h => absurd h (by omega), fun _ => msE_at1 hil⟩
                obtain ⟨z, hz⟩ : ∃ z, atN (partE r0 t last s) i = z := ⟨_, rfl⟩
                obtain ⟨mm, hmm⟩ : ∃ z, atN (msE r0 t last s) i = z := ⟨_, rfl⟩
                obtain ⟨PA, hPA⟩ : ∃ z, addL (partE r0 t last s) (passU (restE r0 t last s) t (msE r0 t last s) i) = z := ⟨_, rfl⟩
                obtain ⟨RU, hRU⟩ : ∃ z, restU (restE r0 t last s) t (msE r0 t last s) i = z := ⟨_, rfl⟩
                have HPN : Hid (∀ x, x = min mm (RU t[i].work) → addL (partE r0 t last s) (passU (restE r0 t last s) t (msE r0 t last s) (i + 1)) = PA.set i (z + x)) := Lib.hid (fun x hx => by
                  rw [hpn, hadd, hz, hPA, hmm, hRU, ← hx])
                have HRN : Hid (restU (restE r0 t last s) t (msE r0 t last s) (i + 1) = upd RU t[i].work (RU t[i].work - min mm (RU t[i].work))) := Lib.hid (by rw [hrn, hRU, hmm])
                rw [hz] at hpat hzb hmse
                rw [hmm] at hmb hmse
                rw [hPA] at HP hpl hpat
                rw [hRU] at HINV hrb
                have HPAT := Lib.hid hpat
                have HPL := Lib.hid hpl
                have HRB := Lib.hid hrb
                have HMSE := Lib.hid hmse
                obtain ⟨x, hx⟩ : ∃ x, t[i] = x := ⟨_, rfl⟩
                rw [hx] at c1 d1 f1 HPN HRN HMSE
                have HX := Lib.hid hx
                replace c1 := (hb.cell (p := ⟨b, off + i * 3, none⟩) hbl).trans c1
                replace d1 := (hb.cell (p := ⟨b, off + i * 3 + 1, none⟩) hbl).trans d1
                replace f1 := (hb.cell (p := ⟨b, off + i * 3 + 2, none⟩) hbl).trans f1
                have y1 := Nat.lt_of_lt_of_le hbl hb.size
                have C1 := Lib.hid c1
                have D1 := Lib.hid d1
                have F1 := Lib.hid f1
                have hii0 : (0 : Int) ≤ (i : Int) := by omega
                have hii1 : (i : Int) < (tl : Int) := by omega
                clear hx hz hmm hPA hRU hpn hrn hadd hal hpl hpat hrb hmse hcell hp hra hinv hb c1 d1 f1
                go_wp2
                go_loopw [14, 15] (fun wv kv wq => ∃ k : Nat, k ≤ wl ∧ kv = .int .i64 (k : Int) ∧ wv = .int .i64 (seekN works x.work k) ∧ Below wr.heap.size wr wq) (fun _ kv _ => wl - (intOf kv).toNat)
                case atStart => exact ⟨0, Nat.zero_le _, rfl, rfl, Below.refl _ _⟩
                case round =>
                  obtain ⟨k, hk, rfl, rfl, hbk⟩ := hrel
                  have HBK := Lib.hid hbk
                  by_cases hkl : k < wl
                  · have hkw : k < works.length := by rw [HWl.out]; exact hkl
                    obtain ⟨nb, no, hwa, hnl, hncell⟩ := cells_n HW.out hkl
                    subst hwa
                    have n1 := (bt HB.out hbk).cell (p := ⟨nb, no + k, none⟩) hnl |>.trans (hncell hkw)
                    have y2 := Nat.lt_of_lt_of_le hnl (bt HB.out hbk).size
                    have c1 := (hbk.cell (p := ⟨b, off + i * 3, none⟩) y1).trans C1.out
                    have y3 := Nat.lt_of_lt_of_le y1 hbk.size
                    have HSK := Lib.hid (seekN_snoc hkw (k := x.work))
                    have sb := seekN_bd works x.work k
                    obtain ⟨nm, hnm⟩ : ∃ y, works[k] = y := ⟨_, rfl⟩
                    obtain ⟨sk, hsk⟩ : ∃ y, seekN works x.work k = y := ⟨_, rfl⟩
                    rw [hnm] at n1 HSK
                    rw [hsk] at HSK sb ⊢
                    have hk0 : (0 : Int) ≤ (k : Int) := by omega
                    have hk1 : (k : Int) < (wl : Int) := by omega
                    clear hnm hsk hncell hbk
                    by_cases hneg : sk < 0
                    · have e1 : decide (sk < 0) = true := decide_eq_true hneg
                      by_cases hnw : nm = x.work
                      · have e2 : ((S nm).toList == (S x.work).toList) = true := by rw [S_beq]; simpa using hnw
                        have HSE : Hid (seekN works x.work (k + 1) = (k : Int)) := Lib.hid (by rw [HSK.out, if_pos ⟨hneg, hnw⟩])
                        clear hneg hnw
                        go_wp2
                        go_quiet (fail)
                        go_wp2
                        go_roundw
                        case rel => exact ⟨k + 1, by omega, by go_num, by rw [HSE.out], below_drewN HBK.out _⟩
                        case measure => simp [intOf]; omega
                      · have e2 : ((S nm).toList == (S x.work).toList) = false := by rw [S_beq]; simpa using hnw
                        have HSE : Hid (seekN works x.work (k + 1) = sk) := Lib.hid (by rw [HSK.out, if_neg (fun h => hnw h.2)])
                        clear hneg hnw
                        go_wp2
                        go_quiet (fail)
                        go_wp2
                        go_roundw
                        case rel => exact ⟨k + 1, by omega, by go_num, by rw [HSE.out], below_drewN HBK.out _⟩
                        case measure => simp [intOf]; omega
                    · have e1 : decide (sk < 0) = false := decide_eq_false hneg
                      have HSE : Hid (seekN works x.work (k + 1) = sk) := Lib.hid (by rw [HSK.out, if_neg (fun h => hneg h.1)])
                      clear hneg
                      go_wp2
                      go_quiet (fail)
                      go_wp2
                      go_roundw
                      case rel => exact ⟨k + 1, by omega, by go_num, by rw [HSE.out], below_drewN HBK.out _⟩
                      case measure => simp [intOf]; omega
                  · have hke : k = wl := by omega
                    have hkn : ¬ (k : Int) < (wl : Int) := by omega
                    have hall := seekN_all works x.work
                    rw [HWl.out, ← hke] at hall
                    have HPk := Lib.hid (HP.out.up hbk)
                    have HRk := Lib.hid (HRA.out.up hbk)
                    have HBk := Lib.hid (bt HB.out hbk)
                    have f1 := (hbk.cell (p := ⟨b, off + i * 3 + 2, none⟩) y1).trans F1.out
                    have c1 := (hbk.cell (p := ⟨b, off + i * 3, none⟩) y1).trans C1.out
                    have d1 := (hbk.cell (p := ⟨b, off + i * 3 + 1, none⟩) y1).trans D1.out
                    have y3 := Nat.lt_of_lt_of_le y1 hbk.size
                    have F2 := Lib.hid f1
                    have C2 := Lib.hid c1
                    have D2 := Lib.hid d1
                    clear hke hkl hbk HBK F1 C1 D1 HP HRA HB y1 f1 c1 d1
                    rcases hall with ⟨j, hidx, hsk⟩ | ⟨hidx, hsk⟩
                    · have HIDX := Lib.hid hidx
                      obtain ⟨hjl, _⟩ := idxN_at hidx
                      rw [HWl.out] at hjl
                      have hjr : j < RA.length := by rw [HINV.out.len, HWl.out]; exact hjl
                      have hrj := HINV.out.some x.work j hidx
                      have q1 := HPk.out.cell (i := i) (by rw [HPL.out]; exact hlt)
                      have q2 := HRk.out.cell (i := j) hjr
                      rw [HPAT.out] at q1
                      have rb := HRB.out x.work
                      obtain ⟨rv, hrv⟩ : ∃ y, RU x.work = y := ⟨_, rfl⟩
                      rw [hrj, hrv] at q2
                      rw [hrv] at rb
                      rw [hsk]
                      have hj0 : (0 : Int) ≤ (j : Int) := by omega
                      have hj1 : (j : Int) < (wl : Int) := by omega
                      have ej : decide ((j : Int) < 0) = false := decide_eq_false (by omega)
                      have nc := numC_bd x.cnt
                      obtain ⟨nx, hnx⟩ : ∃ y, numC x.cnt = y := ⟨_, rfl⟩
                      have HNX := Lib.hid hnx
                      rw [hnx] at nc
                      have HRV := Lib.hid hrv
                      have hg2l := HPk.out.lt
                      have hg1l := HRk.out.lt
                      have Q1 := Lib.hid q1
                      obtain ⟨mo, hmo⟩ : ∃ y, nx - z = y := ⟨_, rfl⟩
                      have HMO := Lib.hid hmo
                      have w1 : IntKind.i64.wrap (nx - z) = mo := by rw [IntWalk.i64_in _ ⟨by omega, by omega⟩]; exact hmo
                      have W1 := Lib.hid w1
                      have HHMB := Lib.hid hmb
                      have HHZB := Lib.hid hzb
                      clear hidx hsk hrj hrv hnx hmo hjr w1
                      go_wp2
                      have hbd := (Below.refl wr.heap.size wr).drew
                      refine region_mix (fun W => Below wr.heap.size wr W) (10) (.reads [0, 1, 2, 3, 4, 6, 7, 8, 9] (.only 5 (.only 10 (.only 11 (.stop))))) (by kernel_rfl) (by kernel_rfl) (hbd) ?_
                      repeat (
                        refine plan_read rfl (fun K hK => ?_)
                        first
                          | (refine plan_neg ?_ ?_
                             focus (go_simp; done)
                             go_simp
                             refine hK _ ?_
                             clear hK K)
                          | (apply plan_pos
                             focus (go_simp; done)
                             focus (
                               intro W hW
                               (have k1 := (hW.cell (p := ⟨b, off + i * 3 + 2, none⟩) y3).trans F2.out
                                have k2 := (hW.cell (p := ⟨g2, i, none⟩) hg2l).trans Q1.out)
                               go_simp
                               first
                                 | done
                                 | exact rfl)
                             go_simp
                             refine hK _ ?_
                             clear hK K))
                      refine plan_only rfl (fun Q hQ => ?_)
                      go_wp2_with (go_at_call 23; (have hc' := qnum_any x.cnt wr.drew; rw [HNX.out] at hc'; with_reducible refine hc'.mono ?_); rintro e w12 ⟨rfl, rfl⟩)
                      refine hQ _ _ (fun _ => hbd) ?_
                      clear hQ Q
                      refine plan_only rfl (fun Q hQ => ?_)
                      have w1 := W1.out
                      have w2 := HMO.out
                      go_wp2
                      refine hQ _ _ (fun h => absurd h (by omega)) ?_
                      clear hQ Q
                      refine plan_only rfl (fun Q hQ => ?_)
                      go_wp2
                      refine hQ _ _ (fun h => absurd h (by omega)) ?_
                      clear hQ Q
                      unfold Plan.wp
                      have HB9 := Lib.hid hbd
                      clear hbd q1 q2 w1 w2
                      generalize wr.drew = w9 at *
                      by_cases hz0s : s = 0
                      · have es : ((s : Int) == 0) = true := by rw [beq_iff_eq]; omega
                        have HMS := Lib.hid (HMSE.out.1 hz0s)
                        clear hz0s
                        go_wp2
                        go_loopw [17, 18] (fun sv kv wq => ∃ k : Nat, k ≤ ll ∧ kv = .int .i64 (k : Int) ∧ sv = .int .i64 (wasN (last.take k) x) ∧ Below w9.heap.size w9 wq) (fun _ kv _ => ll - (intOf kv).toNat)
                        case atStart => exact ⟨0, Nat.zero_le _, rfl, by rfl, Below.refl _ _⟩
                        case round =>
                          obtain ⟨k2, hk2, rfl, rfl, hbk2⟩ := hrel
                          have HBK2 := Lib.hid hbk2
                          have HB92 := Lib.hid (bt HB9.out hbk2)
                          have HBL := Lib.hid (bt HBk.out HB92.out)
                          have wb := was_bd (last.take k2) x
                          rw [List.length_take] at wb
                          by_cases hkl2 : k2 < ll
                          · have hkw2 : k2 < last.length := by rw [HLl.out]; exact hkl2
                            obtain ⟨lb, lo, hlaa, hlbl, hlcell⟩ := cells_b HL.out hkl2
                            subst hlaa
                            obtain ⟨a1, a2, a3⟩ := hlcell hkw2
                            replace a1 := (HBL.out.cell (p := ⟨lb, lo + k2 * 3, none⟩) hlbl).trans a1
                            replace a2 := (HBL.out.cell (p := ⟨lb, lo + k2 * 3 + 1, none⟩) hlbl).trans a2
                            replace a3 := (HBL.out.cell (p := ⟨lb, lo + k2 * 3 + 2, none⟩) hlbl).trans a3
                            have c1 := (HB92.out.cell (p := ⟨b, off + i * 3, none⟩) y3).trans C2.out
                            have d1 := (HB92.out.cell (p := ⟨b, off + i * 3 + 1, none⟩) y3).trans D2.out
                            have y4 := Nat.lt_of_lt_of_le hlbl HBL.out.size
                            have y5 := Nat.lt_of_lt_of_le y3 HB92.out.size
                            have HWN := Lib.hid (wasN_snoc hkw2 x)
                            obtain ⟨u, hu⟩ : ∃ y, last[k2] = y := ⟨_, rfl⟩
                            rw [hu] at a1 a2 a3 HWN
                            obtain ⟨ws, hws⟩ : ∃ y, wasN (last.take k2) x = y := ⟨_, rfl⟩
                            rw [hws] at wb HWN ⊢
                            have nu := numC_bd u.cnt
                            obtain ⟨un, hun⟩ : ∃ y, numC u.cnt = y := ⟨_, rfl⟩
                            have HUN := Lib.hid hun
                            rw [hun] at nu HWN
                            have w2 : IntKind.i64.wrap (ws + un) = ws + un := IntWalk.i64_in _ ⟨by omega, by omega⟩
                            have hk0 : (0 : Int) ≤ (k2 : Int) := by omega
                            have hk1 : (k2 : Int) < (ll : Int) := by omega
                            clear hu hws hun hlcell hbk2 wb nu
                            by_cases h1 : u.work = x.work
                            · have e1 : ((S u.work).toList == (S x.work).toList) = true := by rw [S_beq]; simpa using h1
                              by_cases h2 : u.node = x.node
                              · have e2 : ((S u.node).toList == (S x.node).toList) = true := by rw [S_beq]; simpa using h2
                                have HWE : Hid (wasN (last.take (k2 + 1)) x = ws + un) := Lib.hid (by rw [HWN.out, if_pos ⟨h1, h2⟩])
                                have HQN : Hid (∀ W : World, Calls Try.prog 23 #[.int .i64 u.cnt] W fun e w' => e = .returned (.int .i64 un) ∧ W = w') := Lib.hid (fun W => by have hc' := qnum_any u.cnt W; rwa [HUN.out] at hc')
                                clear h1 h2
                                go_wp2
                                go_quiet (fail)
                                go_wp2_with (go_at_call 23; with_reducible refine (HQN.out _).mono ?_; rintro e w12 ⟨rfl, rfl⟩)
                                go_roundw
                                case rel => exact ⟨k2 + 1, by omega, by go_num, by rw [HWE.out], below_drewN HBK2.out _⟩
                                case measure => simp [intOf]; omega
                              · have e2 : ((S u.node).toList == (S x.node).toList) = false := by rw [S_beq]; simpa using h2
                                have HWE : Hid (wasN (last.take (k2 + 1)) x = ws) := Lib.hid (by rw [HWN.out, if_neg (fun h => h2 h.2), Int.add_zero])
                                clear h1 h2
                                go_wp2
                                go_quiet (fail)
                                go_wp2
                                go_roundw
                                case rel => exact ⟨k2 + 1, by omega, by go_num, by rw [HWE.out], below_drewN HBK2.out _⟩
                                case measure => simp [intOf]; omega
                            · have e1 : ((S u.work).toList == (S x.work).toList) = false := by rw [S_beq]; simpa using h1
                              have HWE : Hid (wasN (last.take (k2 + 1)) x = ws) := Lib.hid (by rw [HWN.out, if_neg (fun h => h1 h.1), Int.add_zero])
                              clear h1
                              go_wp2
                              go_quiet (fail)
                              go_wp2
                              go_roundw
                              case rel => exact ⟨k2 + 1, by omega, by go_num, by rw [HWE.out], below_drewN HBK2.out _⟩
                              case measure => simp [intOf]; omega
                          · have hke2 : k2 = ll := by omega
                            have hkn2 : ¬ (k2 : Int) < (ll : Int) := by omega
                            have HWA : Hid (wasN (last.take k2) x = wasN last x) := Lib.hid (by rw [hke2, List.take_of_length_le (by rw [HLl.out]; omega)])
                            rw [HWA.out] at wb ⊢
                            obtain ⟨ws, hws⟩ : ∃ y, wasN last x = y := ⟨_, rfl⟩
                            rw [hws] at wb HMS ⊢
                            have m1 := min2 mo ws
                            have hmm : min mo ws = mm := by
                              have h1 := HMS.out
                              have h2 := HMO.out
                              have h3 := HNX.out
                              rw [h3] at h1
                              obtain ⟨h4, h5⟩ := h1
                              rw [h5, ← h2, h4, Int.sub_zero]
                            rw [hmm] at m1
                            clear hke2 hkl2 hbk2 hws hmm wb HWA
                            have m2 := min2 mm rv
                            obtain ⟨mv, hmv⟩ : ∃ y, min mm rv = y := ⟨_, rfl⟩
                            have HMV := Lib.hid hmv
                            rw [hmv] at m2
                            have bmb := HHMB.out
                            have bzb := HHZB.out
                            have HPq := Lib.hid (HPk.out.up HB92.out)
                            have HRq := Lib.hid (HRk.out.up HB92.out)
                            have hjr : j < RA.length := by rw [HINV.out.len, HWl.out]; exact hjl
                            have hrj := HINV.out.some x.work j HIDX.out
                            have q1 := HPq.out.cell (i := i) (by rw [HPL.out]; exact hlt)
                            have q2 := HRq.out.cell (i := j) hjr
                            rw [HPAT.out] at q1
                            rw [hrj, HRV.out] at q2
                            have y6 := HPq.out.lt
                            have y7 := HRq.out.lt
                            have fz1 := HPq.out.frozen i
                            obtain ⟨z2, hz2⟩ : ∃ y, z + mv = y := ⟨_, rfl⟩
                            obtain ⟨r2, hr2⟩ : ∃ y, rv - mv = y := ⟨_, rfl⟩
                            have w3 : IntKind.i64.wrap (z + mv) = z2 := by rw [IntWalk.i64_in _ ⟨by omega, by omega⟩]; exact hz2
                            have w4 : IntKind.i64.wrap (rv - mv) = r2 := by rw [IntWalk.i64_in _ ⟨by omega, by omega⟩]; exact hr2
                            have w5 : wrap64 (z + mv) = z2 := by rw [IntWalk.wrap64_in _ ⟨by omega, by omega⟩]; exact hz2
                            have w6 : wrap64 (rv - mv) = r2 := by rw [IntWalk.wrap64_in _ ⟨by omega, by omega⟩]; exact hr2
                            have HRs : Hid (RowC (wr.setCell ⟨g2, i, none⟩ (.int .i64 z2)) g1 RA) := Lib.hid (HRq.out.other HNE.out)
                            have q3 := HRs.out.cell (i := j) hjr
                            rw [hrj, HRV.out] at q3
                            have fz2 := HRs.out.frozen j
                            have y8 := HRs.out.lt
                            have HF1 : Hid (RowC ((wr.setCell ⟨g2, i, none⟩ (.int .i64 z2)).setCell ⟨g1, j, none⟩ (.int .i64 r2)) g1 (RA.set j r2)) := Lib.hid (HRs.out.set j r2)
                            have HF2 : Hid (RowC ((wr.setCell ⟨g2, i, none⟩ (.int .i64 z2)).setCell ⟨g1, j, none⟩ (.int .i64 r2)) g2 (addL (partE r0 t last s) (passU (restE r0 t last s) t (msE r0 t last s) (i + 1)))) := Lib.hid (by
                              rw [HPN.out mv (by rw [HRV.out]; exact HMV.out.symm), hz2]
                              exact (HPq.out.set i z2).other (Ne.symm HNE.out))
                            have HF3 : Hid (Inv works (RA.set j r2) (restU (restE r0 t last s) t (msE r0 t last s) (i + 1))) := Lib.hid (by
                              have := HINV.out.set HIDX.out r2
                              rw [HRN.out, HRV.out, HMV.out, hr2]
                              exact this)
                            have HF4 : Hid (Below w.heap.size w ((wr.setCell ⟨g2, i, none⟩ (.int .i64 z2)).setCell ⟨g1, j, none⟩ (.int .i64 r2))) := Lib.hid ((HBL.out.setCell (p := ⟨g2, i, none⟩) hg2w _).setCell (p := ⟨g1, j, none⟩) hg1w _)
                            clear hmv hz2 hr2 hrj hjr bmb bzb
                            go_wp2
                            go_roundw
                            case rel => exact ⟨i + 1, by omega, by go_num, HF2.out, ⟨_, HF1.out, HF3.out⟩, HF4.out⟩
                            case measure => simp [intOf]; omega
                      · have es : ((s : Int) == 0) = false := by rw [beq_eq_false_iff_ne]; omega
                        have hmm : mo = mm := by
                          have h1 := HMSE.out.2 hz0s
                          have h2 := HMO.out
                          have h3 := HNX.out
                          rw [h3] at h1
                          omega
                        have HB92 := HB9
                        have HBL := Lib.hid (bt HBk.out HB92.out)
                        subst hmm
                        clear hz0s
                        have m2 := min2 mo rv
                        obtain ⟨mv, hmv⟩ : ∃ y, min mo rv = y := ⟨_, rfl⟩
                        have HMV := Lib.hid hmv
                        rw [hmv] at m2
                        have bmb := HHMB.out
                        have bzb := HHZB.out
                        have HPq := Lib.hid (HPk.out.up HB92.out)
                        have HRq := Lib.hid (HRk.out.up HB92.out)
                        have hjr : j < RA.length := by rw [HINV.out.len, HWl.out]; exact hjl
                        have hrj := HINV.out.some x.work j HIDX.out
                        have q1 := HPq.out.cell (i := i) (by rw [HPL.out]; exact hlt)
                        have q2 := HRq.out.cell (i := j) hjr
                        rw [HPAT.out] at q1
                        rw [hrj, HRV.out] at q2
                        have y6 := HPq.out.lt
                        have y7 := HRq.out.lt
                        have fz1 := HPq.out.frozen i
                        obtain ⟨z2, hz2⟩ : ∃ y, z + mv = y := ⟨_, rfl⟩
                        obtain ⟨r2, hr2⟩ : ∃ y, rv - mv = y := ⟨_, rfl⟩
                        have w3 : IntKind.i64.wrap (z + mv) = z2 := by rw [IntWalk.i64_in _ ⟨by omega, by omega⟩]; exact hz2
                        have w4 : IntKind.i64.wrap (rv - mv) = r2 := by rw [IntWalk.i64_in _ ⟨by omega, by omega⟩]; exact hr2
                        have w5 : wrap64 (z + mv) = z2 := by rw [IntWalk.wrap64_in _ ⟨by omega, by omega⟩]; exact hz2
                        have w6 : wrap64 (rv - mv) = r2 := by rw [IntWalk.wrap64_in _ ⟨by omega, by omega⟩]; exact hr2
                        have HRs : Hid (RowC (w9.setCell ⟨g2, i, none⟩ (.int .i64 z2)) g1 RA) := Lib.hid (HRq.out.other HNE.out)
                        have q3 := HRs.out.cell (i := j) hjr
                        rw [hrj, HRV.out] at q3
                        have fz2 := HRs.out.frozen j
                        have y8 := HRs.out.lt
                        have HF1 : Hid (RowC ((w9.setCell ⟨g2, i, none⟩ (.int .i64 z2)).setCell ⟨g1, j, none⟩ (.int .i64 r2)) g1 (RA.set j r2)) := Lib.hid (HRs.out.set j r2)
                        have HF2 : Hid (RowC ((w9.setCell ⟨g2, i, none⟩ (.int .i64 z2)).setCell ⟨g1, j, none⟩ (.int .i64 r2)) g2 (addL (partE r0 t last s) (passU (restE r0 t last s) t (msE r0 t last s) (i + 1)))) := Lib.hid (by
                          rw [HPN.out mv (by rw [HRV.out]; exact HMV.out.symm), hz2]
                          exact (HPq.out.set i z2).other (Ne.symm HNE.out))
                        have HF3 : Hid (Inv works (RA.set j r2) (restU (restE r0 t last s) t (msE r0 t last s) (i + 1))) := Lib.hid (by
                          have := HINV.out.set HIDX.out r2
                          rw [HRN.out, HRV.out, HMV.out, hr2]
                          exact this)
                        have HF4 : Hid (Below w.heap.size w ((w9.setCell ⟨g2, i, none⟩ (.int .i64 z2)).setCell ⟨g1, j, none⟩ (.int .i64 r2))) := Lib.hid ((HBL.out.setCell (p := ⟨g2, i, none⟩) hg2w _).setCell (p := ⟨g1, j, none⟩) hg1w _)
                        clear hmv hz2 hr2 hrj hjr bmb bzb
                        go_wp2
                        go_roundw
                        case rel => exact ⟨i + 1, by omega, by go_num, HF2.out, ⟨_, HF1.out, HF3.out⟩, HF4.out⟩
                        case measure => simp [intOf]; omega
                    · obtain ⟨hm0, hinv2⟩ := HINV.out.skip (m := mm) hidx hmb.1
                      have HIN2 : Hid (Inv works RA (restU (restE r0 t last s) t (msE r0 t last s) (i + 1))) := Lib.hid (by rw [HRN.out]; exact hinv2)
                      have HPN2 : Hid (RowC wr g2 (addL (partE r0 t last s) (passU (restE r0 t last s) t (msE r0 t last s) (i + 1)))) := Lib.hid (by
                        rw [HPN.out 0 hm0.symm, Int.add_zero]
                        have e : PA.set i z = PA := by
                          apply List.ext_getElem (by simp)
                          intro n h1 h2
                          rw [List.getElem_set]
                          split
                          · rename_i h; subst h
                            have := HPAT.out
                            rw [← atN_of (by rw [HPL.out]; exact hlt)] at this
                            exact this.symm
                          · rfl
                        rw [e]
                        exact HPk.out)
                      rw [hsk]
                      clear hidx hsk hm0 hinv2
                      go_wp2
                      go_roundw
                      case rel => exact ⟨i + 1, by omega, by go_num, HPN2.out, ⟨RA, HRk.out, HIN2.out⟩, HBk.out⟩
                      case measure => simp [intOf]; omega
              · have hie2 : i = t.length := by rw [HTl.out]; omega
                have hin2 : ¬ (i : Int) < (tl : Int) := by omega
                have HPE : Hid (RowC wr g2 (partE r0 t last (s + 1))) := Lib.hid (by
                  rw [← turn_end s hlt2, ← hie2]; exact HP.out)
                have HRE : Hid (s + 1 < 2 → Inv works RA (restE r0 t last (s + 1))) := Lib.hid (fun h => by
                  rw [← rest_end (show s = 0 by omega), ← hie2]; exact HINV.out)
                clear hie2 hlt hp hra hinv hb
                go_wp2
                go_roundw
                case rel => exact ⟨s + 1, by omega, by go_num, HPE.out, ⟨RA, HRA.out, HRE.out⟩, HB.out⟩
                case measure => simp [intOf]; omega
          · have hse : s = 2 := by omega
            have hsn : ¬ (s : Int) < 2 := by omega
            have HPF : Hid (RowC wr g2 (partE r0 t last 2)) := Lib.hid (hse ▸ HP.out)
            have HPFl : Hid ((partE r0 t last 2).length = t.length) := Lib.hid (partE_len 2)
            obtain ⟨P, hP⟩ : ∃ P, partE r0 t last 2 = P := ⟨_, rfl⟩
            rw [hP] at HPF HPFl HTRIM
            have hgl := HPF.out.lt
            clear hse hlt2 hp hra hinv hb hP HP HRA
            go_wp2
            obtain ⟨W0, hW0⟩ : ∃ W, wr = W := ⟨_, rfl⟩
            rw [hW0] at HPF HB hgl ⊢
            clear hW0
            go_loopw [20, 21] (fun ov iv wq => ∃ i : Nat, i ≤ tl ∧ iv = .int .i64 (i : Int) ∧ wq.ownsRow W0.heap.size 40 3 ov (outU t P i).length (bdsV (outU t P i)) ∧ Below W0.heap.size W0 wq) (fun _ iv _ => tl - (intOf iv).toNat)
            case atStart => exact ⟨0, Nat.zero_le _, rfl, by simp only [outU, List.take_zero, outN]; exact World.ownsRow_nil _ _ _ _, Below.refl _ _⟩
            case round =>
              obtain ⟨i, hi, rfl, hrow, hb2⟩ := hrel
              have HB2 := Lib.hid hb2
              have HROW := Lib.hid hrow
              have HBL := Lib.hid (bt HB.out hb2)
              obtain ⟨oa, oc, hov⟩ := row_form hrow
              subst hov
              clear hrow
              by_cases hlt : i < tl
              · have hil : i < t.length := by rw [HTl.out]; exact hlt
                obtain ⟨b, off, hta, hbl, hcell⟩ := cells_b HT.out hlt
                subst hta
                obtain ⟨c1, d1, _⟩ := hcell hil
                replace c1 := (HBL.out.cell (p := ⟨b, off + i * 3, none⟩) hbl).trans c1
                replace d1 := (HBL.out.cell (p := ⟨b, off + i * 3 + 1, none⟩) hbl).trans d1
                have q1 := (hb2.cell (p := ⟨g2, i, none⟩) hgl).trans (HPF.out.cell (i := i) (by rw [HPFl.out]; exact hil))
                have y1 := Nat.lt_of_lt_of_le hbl HBL.out.size
                have y2 := Nat.lt_of_lt_of_le hgl hb2.size
                have HON := Lib.hid (outU_snoc HPFl.out hil)
                have hol := outU_len t P i
                obtain ⟨x, hx⟩ : ∃ x, t[i] = x := ⟨_, rfl⟩
                obtain ⟨pv, hpv⟩ : ∃ x, atN P i = x := ⟨_, rfl⟩
                obtain ⟨ol, hol2⟩ : ∃ x, outU t P i = x := ⟨_, rfl⟩
                rw [hx] at c1 d1 HON
                rw [hpv] at q1 HON
                rw [hol2] at HON hol HROW ⊢
                have hi0 : (0 : Int) ≤ (i : Int) := by omega
                have hi1 : (i : Int) < (tl : Int) := by omega
                clear hx hpv hol2 hcell hb2
                by_cases hpos : 0 < pv
                · have dp : decide (0 < pv) = true := decide_eq_true hpos
                  have HON2 : Hid (outU t P (i + 1) = ol ++ [⟨x.work, x.node, pv⟩]) := Lib.hid (by rw [HON.out, if_pos hpos])
                  clear hpos
                  go_wp2
                  have e1 : wr.drew.cell? ⟨b, off + i * 3, none⟩ = some (.string (S x.work)) := c1
                  have e2 : wr.drew.cell? ⟨b, off + i * 3 + 1, none⟩ = some (.string (S x.node)) := d1
                  have e3 : wr.drew.cell? ⟨g2, i, none⟩ = some (.int .i64 pv) := q1
                  have hbA : Below wr.heap.size wr (wr.alloc (.cells #[.string (S x.work), .string (S x.node), .int .i64 pv] 40)).drew := ((Below.refl _ wr).alloc (Nat.le_refl _) _).drew
                  have HBA := Lib.hid hbA
                  have HR2 : Hid ((wr.alloc (.cells #[.string (S x.work), .string (S x.node), .int .i64 pv] 40)).drew.ownsRow W0.heap.size 40 3 (.slice oa ol.length oc) ol.length (bdsV ol)) := Lib.hid (row_moved HROW.out fun b e => hbA.block b (HROW.out.lt b e).2)
                  have cuts := cells_3 wr (.string (S x.work)) (.string (S x.node)) (.int .i64 pv) 40
                  have cuts2 : ∀ j u, (bdC ⟨x.work, x.node, pv⟩)[j]? = some u → ((wr.alloc (.cells #[.string (S x.work), .string (S x.node), .int .i64 pv] 40)).drew).cell? ((⟨wr.heap.size, 0, none⟩ : Addr).add j) = some u := cuts
                  have HCUT := Lib.hid cuts2
                  clear cuts cuts2 hbA
                  refine region_mix (fun W => W.cell? ⟨b, off + i * 3, none⟩ = some (.string (S x.work)) ∧ W.cell? ⟨b, off + i * 3 + 1, none⟩ = some (.string (S x.node)) ∧ W.cell? ⟨g2, i, none⟩ = some (.int .i64 pv)) (17) (.reads [0, 1, 2, 3, 4, 5, 6, 7, 8, 9, 10, 11, 12, 13, 14, 15] (.only 16 (.only 17 (.only 18 (.stop))))) (by kernel_rfl) (by kernel_rfl) (⟨e1, e2, e3⟩) ?_
                  repeat (
                    refine plan_read rfl (fun K hK => ?_)
                    first
                      | (refine plan_neg ?_ ?_
                         focus (go_simp; done)
                         go_simp
                         refine hK _ ?_
                         clear hK K)
                      | (apply plan_pos
                         focus (go_simp; done)
                         focus (
                           intro W hW
                           (obtain ⟨e1, e2, e3⟩ := hW)
                           go_simp
                           first
                             | done
                             | exact rfl)
                         go_simp
                         refine hK _ ?_
                         clear hK K))
                  refine plan_only rfl (fun Q hQ => ?_)
                  go_wp2
                  refine hQ _ _ (fun _ => ⟨(HBA.out.cell (p := ⟨b, off + i * 3, none⟩) y1).trans c1, (HBA.out.cell (p := ⟨b, off + i * 3 + 1, none⟩) y1).trans d1, (HBA.out.cell (p := ⟨g2, i, none⟩) y2).trans q1⟩) ?_
                  clear hQ Q
                  have HZ5 : Hid (W0.heap.size ≤ (wr.alloc (.cells #[.string (S x.work), .string (S x.node), .int .i64 pv] 40)).drew.heap.size) := Lib.hid (Nat.le_trans HB2.out.size HBA.out.size)
                  have HBB := Lib.hid (bt HB2.out HBA.out)
                  refine plan_only rfl (fun Q hQ => ?_)
                  refine wpList_append_lies _ (by rfl) (.tmp 169) (.tmp 185) 23 (by rfl) W0.heap.size 40 i0 _ 3 40 Try.underlying23 hi0' hz0 hz1 hz2 rfl (by decide) (.slice oa ol.length oc) ol.length (bdsV ol) (by rfl) HR2.out ⟨wr.heap.size, 0, none⟩ 1 1 (bdC ⟨x.work, x.node, pv⟩) (by rfl) (by rfl) HCUT.out (by simp [Value.oneCell']) (by omega) (by unfold maxLen; omega) (by omega) HZ5.out _ rfl ?_
                  intro g6 c6 w6 ho6 hg6 hat6 hl6
                  have HO6 := Lib.hid ho6
                  have HB6 := Lib.hid (HBB.out.grown hg6 HZ5.out (fun j e => (HR2.out.lt j e).1))
                  clear ho6 hg6 hat6 hl6
                  refine hQ _ _ (fun h => absurd h (by omega)) ?_
                  clear hQ Q
                  refine plan_only rfl (fun Q hQ => ?_)
                  go_wp2
                  refine hQ _ _ (fun h => absurd h (by omega)) ?_
                  clear hQ Q
                  unfold Plan.wp
                  go_wp2
                  go_roundw
                  case rel => exact ⟨i + 1, by omega, by go_num, by rw [HON2.out, List.length_append, bdsV_app]; exact HO6.out, HB6.out⟩
                  case measure => simp [intOf]; omega
                · have dp : decide (0 < pv) = false := decide_eq_false hpos
                  have HON2 : Hid (outU t P (i + 1) = ol) := Lib.hid (by rw [HON.out, if_neg hpos, List.append_nil])
                  clear hpos
                  go_wp2
                  go_roundw
                  case rel => exact ⟨i + 1, by omega, by go_num, by rw [HON2.out]; exact HROW.out, HB2.out⟩
                  case measure => simp [intOf]; omega
              · have hie : i = tl := by omega
                have hin : ¬ (i : Int) < (tl : Int) := by omega
                have HE : Hid (trimN t last works allowed = outU t P i) := Lib.hid (by
                  rw [HTRIM.out]
                  unfold outU
                  rw [List.take_of_length_le (by rw [HTl.out]; omega), List.take_of_length_le (by rw [HPFl.out, HTl.out]; omega)])
                have HF : Hid (wr.ownsRow w.heap.size 40 3 (.slice oa (outU t P i).length oc) (trimN t last works allowed).length (bdsV (trimN t last works allowed))) := Lib.hid (by rw [HE.out]; exact row_less HROW.out HB.out.size)
                clear hie hlt hb2
                go_wp2
                go_ret
                exact ⟨_, rfl, HF.out, HBL.out⟩
  · have HS : Hid (trimN t last works allowed = []) := Lib.hid (by
      unfold trimN
      rw [if_neg (by rw [HWl.out, HAl.out]; exact hgood)])
    rw [HS.out]
    have e1 : ((wl : Int) != (al : Int)) = true := by rw [bne_iff_ne]; omega
    have e2 : ((wl : Int) == (al : Int)) = false := by rw [beq_eq_false_iff_ne]; omega
    have e3 : ¬ (wl : Int) = (al : Int) := by omega
    clear hgood
    go_enter Try.func13, Try.ntmps13
    go_wp2
    go_ret
    exact ⟨_, rfl, World.ownsRow_nil _ _ _ _, Below.refl _ _⟩
end Go.Proofs.Ytjkfiilnogacnaa
