/-
  The program's copy of binds.
-/
import Derived.Test.YtbbogkmibiealaaCpcl
namespace Go.Proofs.Ytbbogkmibiealaa
open Go.RowKit Gm

theorem set_same {xs : List Value} {j : Nat} {u : Value} (h : xs[j]? = some u) : xs.set j u = xs := by
  apply List.ext_getElem?
  intro k
  rw [List.getElem?_set]
  split
  · rename_i hk
    subst hk
    rw [h]
    split
    · rfl
    · rename_i hlt
      rw [List.getElem?_eq_none (by omega)] at h
      cases h
  · rfl
/-- Where a row that is not empty lies, and what stands at its bind i. -/
theorem row_bind {w : World} {base n cap : Nat} {a : Option Addr} {l : List Bd} (h : w.ownsRow base 35 3 (.slice a n cap) n (bdsV l)) {i : Nat} (hi : i < n) (hl : l.length = n) : ∃ g, a = some ⟨g, 0, none⟩ ∧ base ≤ g ∧ g < w.heap.size ∧ n ≤ cap ∧ ∀ (hi : i < l.length), w.cell? ⟨g, i * 3, none⟩ = some (.string (S l[i].work)) ∧ w.cell? ⟨g, i * 3 + 1, none⟩ = some (.string (S l[i].node)) ∧ w.cell? ⟨g, i * 3 + 2, none⟩ = some (.int .i64 l[i].cnt) ∧ (∀ j, w.frozen? ⟨g, j, none⟩ = false) ∧ ∃ cs, w.heap[g]? = some (.cells cs 35 (0, 0)) := by
  obtain ⟨a', cap', hv, _, hb⟩ := binds_own h
  rcases h.2 with ⟨_, h2⟩ | ⟨g, c, cur, hv', hg, hh, hnc, _⟩
  · omega
  · injection hv' with e1 e2 e3
    subst e1 e3
    injection hv with e1 _ _
    subst e1
    obtain ⟨b, off, ha, _, hc⟩ := hb.bind hi
    injection ha with ha
    injection ha with e1 e2
    subst e1 e2
    refine ⟨g, rfl, hg, (Array.getElem?_eq_some_iff.1 hh).1, hnc, fun hi => ?_⟩
    obtain ⟨c0, c1, c2⟩ := hc i hi
    rw [Nat.zero_add] at c0 c1 c2
    exact ⟨c0, c1, c2, fun j => by simp [World.frozen?, hh], cur, hh⟩
/-- The same names stored again leave the row as it is. -/
theorem row_put {w : World} {base n cap g : Nat} {l : List Bd} (h : w.ownsRow base 35 3 (.slice (some ⟨g, 0, none⟩) n cap) n (bdsV l)) {i : Nat} (hi : i < l.length) :
    (w.setCell ⟨g, i * 3, none⟩ (.string (S l[i].work))).ownsRow base 35 3 (.slice (some ⟨g, 0, none⟩) n cap) n (bdsV l) ∧
    ((w.setCell ⟨g, i * 3, none⟩ (.string (S l[i].work))).setCell ⟨g, i * 3 + 1, none⟩ (.string (S l[i].node))).ownsRow base 35 3 (.slice (some ⟨g, 0, none⟩) n cap) n (bdsV l) := by
  obtain ⟨f0, f1, _⟩ := bdsV_at l i hi
  have h1 := (h.stored (i * 3) (.string (S l[i].work))).1
  rw [set_same f0] at h1
  have h2 := (h1.stored (i * 3 + 1) (.string (S l[i].node))).1
  rw [set_same f1] at h2
  exact ⟨h1, h2⟩
theorem cell?_setCell_block {W : World} {g i b j : Nat} {u : Value} (h : g ≠ b) : (W.setCell ⟨g, i, none⟩ u).cell? ⟨b, j, none⟩ = W.cell? ⟨b, j, none⟩ := by
  have := Below.heap_setCell W ⟨g, i, none⟩ u b (Ne.symm h)
  simp [World.cell?, this]
theorem copyOf_any (a : Option Addr) (len cap : Nat) (l : List Bd) (w : World) (h : BindsAt w (· < w.heap.size) a len l) (ok : OkK l) :
    Calls Try.prog 24 #[.slice a len cap] w fun e w' => ∃ a' cap', e = .returned (.slice a' len cap') ∧ w'.ownsRow w.heap.size 35 3 (.slice a' len cap') len (bdsV l) ∧ Below w.heap.size w w' := by
  have hll : l.length = len := h.1
  have hlen : len ≤ 1048576 := by rw [← hll]; exact ok.1
  have HC := Lib.hid (bclone_any (cap := cap) a len l w h (fun _ h => h) hlen)
  have HK := Lib.hid ok
  have HL := Lib.hid hll
  clear h ok hll
  go_enter Try.func24, Try.ntmps24
  go_wp2_with (go_at_call 31; (with_reducible refine HC.out.mono ?_); rintro e w1 ⟨oa, oc, rfl, ho, hb1⟩; have HO := Lib.hid ho; have HB1 := Lib.hid hb1; clear ho hb1)
  go_loopw [10] (fun iv wr => ∃ i, i ≤ len ∧ iv = .int .i64 ((i : Nat) : Int) ∧ wr.ownsRow w.heap.size 35 3 (.slice oa len oc) len (bdsV l) ∧ Below w.heap.size w wr) (fun iv _ => len + 1 - (intOf iv).toNat)
  case atStart => exact ⟨0, Nat.zero_le _, rfl, HO.out, HB1.out⟩
  case round =>
    obtain ⟨i, hi, rfl, hrow, hb⟩ := hrel
    have HROW := Lib.hid hrow
    have HBW := Lib.hid hb
    clear hrow hb HO HB1
    by_cases hlt : i < len
    · have hil : i < l.length := by rw [HL.out]; exact hlt
      obtain ⟨g, rfl, hgw, hgl, hoc, hcell⟩ := row_bind HROW.out hlt HL.out
      obtain ⟨c0, c1, c2, hfz, cur, hcur⟩ := hcell hil
      have HPUT := Lib.hid (fun (W : World) (h : W.ownsRow w.heap.size 35 3 (.slice (some ⟨g, 0, none⟩) len oc) len (bdsV l)) => row_put h hil)
      have hxo := HK.out.2 _ (List.getElem_mem hil)
      obtain ⟨⟨xw, xn, xc⟩, hx⟩ : ∃ x, l[i] = x := ⟨_, rfl⟩
      have HX := Lib.hid hx
      rw [hx] at c0 c1 c2 hxo HPUT
      dsimp only at c0 c1 c2 hxo
      have HPT : Hid (∀ W : World, W.ownsRow w.heap.size 35 3 (.slice (some ⟨g, 0, none⟩) len oc) len (bdsV l) → ((W.setCell ⟨g, i * 3, none⟩ (.string (S xw))).ownsRow w.heap.size 35 3 (.slice (some ⟨g, 0, none⟩) len oc) len (bdsV l) ∧ ((W.setCell ⟨g, i * 3, none⟩ (.string (S xw))).setCell ⟨g, i * 3 + 1, none⟩ (.string (S xn))).ownsRow w.heap.size 35 3 (.slice (some ⟨g, 0, none⟩) len oc) len (bdsV l))) := Lib.hid fun W h => HPUT.out W h
      have HAT : Hid (∀ W : World, W.ownsRow w.heap.size 35 3 (.slice (some ⟨g, 0, none⟩) len oc) len (bdsV l) → (W.cell? ⟨g, i * 3, none⟩ = some (.string (S xw)) ∧ W.cell? ⟨g, i * 3 + 1, none⟩ = some (.string (S xn)) ∧ (∀ j, W.frozen? ⟨g, j, none⟩ = false) ∧ g < W.heap.size)) := Lib.hid fun W h => by
        obtain ⟨g', e1, _, k2, _, k3⟩ := row_bind h hlt HL.out
        injection e1 with e1; injection e1 with e1 _; subst e1
        obtain ⟨q0, q1, _, q3, _⟩ := k3 hil
        rw [HX.out] at q0 q1
        exact ⟨q0, q1, q3, k2⟩
      have hk1 := hxo.2.1
      have hk2 := hxo.2.2
      have hi0 : (0 : Int) ≤ (i : Int) := by omega
      have hi1 : (i : Int) < (len : Int) := by omega
      have hb1 : Below wr.heap.size wr (wr.alloc (.cells #[.string (S xw), .string (S xn), .int .i64 xc] 35)) := (Below.refl _ wr).alloc (Nat.le_refl _) _
      have HROW1 : Hid ((wr.alloc (.cells #[.string (S xw), .string (S xn), .int .i64 xc] 35)).ownsRow w.heap.size 35 3 (.slice (some ⟨g, 0, none⟩) len oc) len (bdsV l)) := Lib.hid (HROW.out.alloc _)
      have HB1 := Lib.hid (HBW.out.trans (hb1.mono HBW.out.size))
      have hn3 := new_at wr (.cells #[.string (S xw), .string (S xn), .int .i64 xc] 35)
      have k0 : (wr.alloc (.cells #[.string (S xw), .string (S xn), .int .i64 xc] 35)).cell? ⟨wr.heap.size, 0, none⟩ = some (.string (S xw)) := cell_of_row _ _ _ _ _ _ hn3
      have k1 : (wr.alloc (.cells #[.string (S xw), .string (S xn), .int .i64 xc] 35)).cell? ⟨wr.heap.size, 1, none⟩ = some (.string (S xn)) := cell_of_row _ _ _ _ _ _ hn3
      have hgl1 : wr.heap.size < (wr.alloc (.cells #[.string (S xw), .string (S xn), .int .i64 xc] 35)).heap.size := by simp
      have hgne : g ≠ wr.heap.size := by omega
      have HGNE := Lib.hid hgne
      have HGW := Lib.hid hgw
      have HU : Hid (i + 1 ≤ len) := Lib.hid hlt
      clear hx hcell hil hxo hlt hb1 hi hn3 hfz hcur cur HPUT HX hgne hgw
      go_upto_region 5 with fail
      have K0 := Lib.hid k0
      have K1 := Lib.hid k1
      obtain ⟨W1, hW1⟩ : ∃ W, wr.alloc (.cells #[.string (S xw), .string (S xn), .int .i64 xc] 35) = W := ⟨_, rfl⟩
      obtain ⟨GB, hGB⟩ : ∃ b, wr.heap.size = b := ⟨_, rfl⟩
      rw [hW1] at K0 K1 hgl1 HROW1 HB1 ⊢
      rw [hGB] at K0 K1 hgl1 HGNE ⊢
      clear hW1 hGB k0 k1 c0 c1 c2 HROW HBW hgl
      go_wp2
      refine region_mix (fun W => W.cell? ⟨GB, 0, none⟩ = some (.string (S xw)) ∧ W.cell? ⟨GB, 1, none⟩ = some (.string (S xn))) (13) (.reads [0, 1, 2, 3, 4, 5, 7, 8] (.only 6 (.only 9 (.reads [10, 11] (.only 12 (.only 13 (.only 14 (.only 15 (.stop))))))))) (by kernel_rfl) (by kernel_rfl) (⟨K0.out, K1.out⟩) ?_
      repeat (
        refine plan_read rfl (fun K hK => ?_)
        first
          | (refine plan_neg ?_ ?_
             focus (first | (go_simp; done) | (go_simp; decide))
             go_simp
             refine hK _ ?_
             clear hK K)
          | (apply plan_pos
             focus (go_simp; done)
             focus (
               intro W hW
               (obtain ⟨q0, q1⟩ := hW)
               go_simp
               first
                 | done
                 | exact rfl)
             go_simp
             refine hK _ ?_
             clear hK K))
      refine plan_only rfl (fun Q hQ => ?_)
      go_wp2_with (go_at_call 32; (with_reducible refine (sclone_any xw hk1 _).mono ?_); rintro e w5 ⟨rfl, hb5⟩; have HB5 := Lib.hid hb5; clear hb5)
      have hbd5 : Below W1.heap.size W1 w5 := bt (Below.refl _ W1).drew HB5.out
      have t0 := (hbd5.cell (p := ⟨GB, 0, none⟩) hgl1).trans K0.out
      have t1 := (hbd5.cell (p := ⟨GB, 1, none⟩) hgl1).trans K1.out
      have T0 := Lib.hid t0
      have T1 := Lib.hid t1
      clear t0 t1
      refine hQ _ _ (fun _ => ⟨T0.out, T1.out⟩) ?_
      clear hQ Q HB5
      have HB5 := Lib.hid hbd5
      clear hbd5
      refine plan_only rfl (fun Q hQ => ?_)
      go_wp2_with (go_at_call 32; (with_reducible refine (sclone_any xn hk2 _).mono ?_); rintro e w6 ⟨rfl, hb6⟩; have HB6 := Lib.hid hb6; clear hb6)
      have hbd6 : Below W1.heap.size W1 w6 := bt HB5.out HB6.out
      have T0 := Lib.hid ((hbd6.cell (p := ⟨GB, 0, none⟩) hgl1).trans K0.out)
      have T1 := Lib.hid ((hbd6.cell (p := ⟨GB, 1, none⟩) hgl1).trans K1.out)
      refine hQ _ _ (fun _ => ⟨T0.out, T1.out⟩) ?_
      clear hQ Q HB5 HB6
      have HR6 : Hid (w6.ownsRow w.heap.size 35 3 (.slice (some ⟨g, 0, none⟩) len oc) len (bdsV l)) := Lib.hid (row_moved HROW1.out fun b e => hbd6.block b (HROW1.out.lt b e).2)
      have HB6 : Hid (Below w.heap.size w w6) := Lib.hid (HB1.out.trans (hbd6.mono HB1.out.size))
      clear hbd6
      repeat (
        refine plan_read rfl (fun K hK => ?_)
        first
          | (refine plan_neg ?_ ?_
             focus (first | (go_simp; done) | (go_simp; decide))
             go_simp
             refine hK _ ?_
             clear hK K)
          | (apply plan_pos
             focus (go_simp; done)
             focus (
               intro W hW
               (obtain ⟨q0, q1⟩ := hW)
               go_simp
               first
                 | done
                 | exact rfl)
             go_simp
             refine hK _ ?_
             clear hK K))
      obtain ⟨s0, s1, sf, sg⟩ := HAT.out w6 HR6.out
      have sf0 := sf (i * 3)
      have sf1 := sf (i * 3 + 1)
      clear sf
      refine plan_only rfl (fun Q hQ => ?_)
      go_wp2
      have hp1 := HPT.out w6 HR6.out
      have HR7 := Lib.hid hp1.1
      have HR8 := Lib.hid hp1.2
      have u0 : (w6.setCell ⟨g, i * 3, none⟩ (.string (S xw))).cell? ⟨GB, 0, none⟩ = some (.string (S xw)) := (cell?_setCell_block HGNE.out).trans T0.out
      have u1 : (w6.setCell ⟨g, i * 3, none⟩ (.string (S xw))).cell? ⟨GB, 1, none⟩ = some (.string (S xn)) := (cell?_setCell_block HGNE.out).trans T1.out
      have U0 := Lib.hid u0
      have U1 := Lib.hid u1
      clear u0 u1 hp1
      refine hQ _ _ (fun _ => ⟨U0.out, U1.out⟩) ?_
      clear hQ Q T0 T1 U0 U1 s0 s1 sf0 sf1 sg
      obtain ⟨s0, s1, sf, sg⟩ := HAT.out _ HR7.out
      have sf1 := sf (i * 3 + 1)
      clear sf s0
      have hb7 : Below w.heap.size w (w6.setCell ⟨g, i * 3, none⟩ (.string (S xw))) := HB6.out.setCell HGW.out _
      have HB8 : Hid (Below w.heap.size w ((w6.setCell ⟨g, i * 3, none⟩ (.string (S xw))).setCell ⟨g, i * 3 + 1, none⟩ (.string (S xn)))) := Lib.hid (hb7.setCell HGW.out _)
      clear hb7
      refine plan_only rfl (fun Q hQ => ?_)
      go_wp2
      refine hQ _ _ (fun h => absurd h (by omega)) ?_
      clear hQ Q
      refine plan_only rfl (fun Q hQ => ?_)
      go_wp2
      refine hQ _ _ (fun h => absurd h (by omega)) ?_
      clear hQ Q
      refine plan_only rfl (fun Q hQ => ?_)
      go_wp2
      refine hQ _ _ (fun h => absurd h (by omega)) ?_
      clear hQ Q
      unfold Plan.wp
      go_wp2
      go_roundw
      case rel => exact ⟨i + 1, HU.out, by go_num, HR8.out, HB8.out⟩
      case measure => simp [intOf]; omega
    · have hie : i = len := by omega
      have hin : ¬ (i : Int) < (len : Int) := by omega
      subst hie
      clear hlt
      go_wp2
      go_ret
      exact ⟨oa, oc, rfl, HROW.out, HBW.out⟩
end Go.Proofs.Ytbbogkmibiealaa
