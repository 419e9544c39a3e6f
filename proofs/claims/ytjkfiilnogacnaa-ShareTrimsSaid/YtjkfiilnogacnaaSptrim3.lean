/-
  The program's Trim: bindsOf.
-/
import Derived.Deep.AppendLies
import Derived.Test.YtjkfiilnogacnaaSptrim2
namespace Go.Proofs.Ytjkfiilnogacnaa
open Go.RowKit Gm

set_option maxRecDepth 100000 in
set_option maxHeartbeats 4000000 in
theorem bindsOf_any (ta : Option Addr) (tl tc : Nat) (t : List Bd) (g2 gc : Nat) (P : List Int) (w : World) (ht : BindsAt w (· < w.heap.size) ta tl t) (okt : OkL t) (hp : RowC w g2 P) (hpl : P.length = t.length) :
    Calls Try.prog 28 #[.slice ta tl tc, .slice (some ⟨g2, 0, none⟩) tl gc] w fun e w' => ∃ v, e = .returned v ∧ w'.ownsRow w.heap.size 40 3 v (outN t P).length (bdsV (outN t P)) ∧ Below w.heap.size w w' := by
  have HT := Lib.hid ht
  have HOK := Lib.hid okt.2
  have HTl : Hid (t.length = tl) := Lib.hid ht.1
  have HP := Lib.hid hp
  have HPl := Lib.hid hpl
  have tl20 : tl ≤ 1048576 := by have := okt.1; rw [ht.1] at this; exact this
  obtain ⟨i0, hi0', hz0, hz1, hz2⟩ := info_parts infoBd
  have hgl := hp.lt
  clear ht okt hp hpl
  go_enter Try.func28, Try.ntmps28
  go_wp2
  go_loopw [5, 10] (fun ov iv wr => ∃ i : Nat, i ≤ tl ∧ iv = .int .i64 (i : Int) ∧ wr.ownsRow w.heap.size 40 3 ov (outU t P i).length (bdsV (outU t P i)) ∧ Below w.heap.size w wr) (fun _ iv _ => tl - (intOf iv).toNat)
  case atStart => exact ⟨0, Nat.zero_le _, rfl, by rw [show outU t P 0 = [] by unfold outU; rw [List.take_zero]; rfl]; exact World.ownsRow_nil _ _ _ _, Below.refl _ _⟩
  case round =>
    obtain ⟨i, hi, rfl, hrow, hb⟩ := hrel
    have HB := Lib.hid hb
    have HROW := Lib.hid hrow
    obtain ⟨oa, oc, hov⟩ := row_form hrow
    subst hov
    clear hrow
    by_cases hlt : i < tl
    · have hil : i < t.length := by rw [HTl.out]; exact hlt
      obtain ⟨b, off, hta, hbl, hcell⟩ := cells_b HT.out hlt
      subst hta
      obtain ⟨c0, c1, c2⟩ := hcell hil
      replace c0 := (hb.cell (p := ⟨b, off + i * 3, none⟩) hbl).trans c0
      replace c1 := (hb.cell (p := ⟨b, off + i * 3 + 1, none⟩) hbl).trans c1
      replace c2 := (hb.cell (p := ⟨b, off + i * 3 + 2, none⟩) hbl).trans c2
      have y1 := Nat.lt_of_lt_of_le hbl hb.size
      have c3 := (hb.cell (p := ⟨g2, i, none⟩) hgl).trans (HP.out.cell (i := i) (by rw [HPl.out]; exact hil))
      have y2 := Nat.lt_of_lt_of_le hgl hb.size
      have hxo := HOK.out _ (List.getElem_mem hil)
      have HS := Lib.hid (outU_snoc (P := P) HPl.out hil)
      have hol := outU_len t P i
      obtain ⟨x, hx⟩ : ∃ x, t[i] = x := ⟨_, rfl⟩
      obtain ⟨n, hn⟩ : ∃ n, atN P i = n := ⟨_, rfl⟩
      obtain ⟨ol, ho⟩ : ∃ c, outU t P i = c := ⟨_, rfl⟩
      rw [hx, hn, ho] at HS
      rw [hx] at c0 c1 c2 hxo
      rw [hn] at c3
      rw [ho] at HROW hol ⊢
      have hk1 := hxo.2.1
      have hk2 := hxo.2.2
      have hi0 : (0 : Int) ≤ (i : Int) := by omega
      have hi1 : (i : Int) < (tl : Int) := by omega
      clear hx hn ho hb hcell hil hxo
      by_cases hp : 0 < n
      · have hd : decide (0 < n) = true := decide_eq_true hp
        have HN : Hid (outU t P (i + 1) = ol ++ [⟨x.work, x.node, n⟩]) := Lib.hid (by rw [HS.out, if_pos hp])
        have hb1 : Below wr.heap.size wr (wr.alloc (bdO x)) := (Below.refl _ wr).alloc (Nat.le_refl _) _
        have hsz1 : wr.heap.size < (wr.alloc (bdO x)).heap.size := by simp
        have HB1 := Lib.hid (HB.out.trans (hb1.mono HB.out.size))
        have C3 : Hid ((wr.alloc (bdO x)).cell? ⟨g2, i, none⟩ = some (.int .i64 n)) := Lib.hid ((hb1.cell (p := ⟨g2, i, none⟩) y2).trans c3)
        have c3' := C3.out
        have HROW1 : Hid ((wr.alloc (bdO x)).ownsRow w.heap.size 40 3 (.slice oa ol.length oc) ol.length (bdsV ol)) := Lib.hid (HROW.out.alloc _)
        obtain ⟨k0, k1, k2⟩ := bd_cells wr x
        have K0 := Lib.hid k0
        have K1 := Lib.hid k1
        have hg2' : g2 < (wr.alloc (bdO x)).heap.size := by omega
        clear hp hb1 k0 k1 k2
        go_wp2
        generalize hWg : wr.alloc (bdO x) = W1 at *
        clear hWg c3'
        have hbd : Below W1.heap.size W1 W1.drew := (Below.refl _ W1).drew
        refine region_mix (fun W => Below W1.heap.size W1 W) (13) (.reads [0, 1, 2, 4, 5, 7, 8, 9, 10] (.only 3 (.only 6 (.reads [11] (.only 12 (.only 13 (.only 14 (.stop)))))))) (by kernel_rfl) (by kernel_rfl) (hbd) ?_
        repeat (
          refine plan_read rfl (fun K hK => ?_)
          first
            | (refine plan_neg ?_ ?_
               focus (go_simp; done)
               go_simp
               refine hK _ ?_
               clear hK K)
            | (apply plan_pos
               focus (go_simp; done)
               focus (
                 intro W hW
                 (have k0 := (hW.cell (p := ⟨wr.heap.size, 0, none⟩) hsz1).trans K0.out
                  have k1 := (hW.cell (p := ⟨wr.heap.size, 1, none⟩) hsz1).trans K1.out
                  have k3 := (hW.cell (p := ⟨g2, i, none⟩) hg2').trans C3.out)
                 go_simp
                 first
                   | done
                   | exact rfl)
               go_simp
               refine hK _ ?_
               clear hK K))
        refine plan_only rfl (fun Q hQ => ?_)
        go_wp2_with (go_at_call 30; (with_reducible refine (sclone_any x.work hk1 _).mono ?_); rintro e w5 ⟨rfl, hb5⟩)
        have hbd5 : Below W1.heap.size W1 w5 := bt hbd hb5
        clear hb5 hbd
        refine hQ _ _ (fun _ => hbd5) ?_
        clear hQ Q
        refine plan_only rfl (fun Q hQ => ?_)
        go_wp2_with (go_at_call 30; (with_reducible refine (sclone_any x.node hk2 _).mono ?_); rintro e w6 ⟨rfl, hb6⟩)
        have hbd6 : Below W1.heap.size W1 w6 := bt hbd5 hb6
        clear hb6 hbd5
        refine hQ _ _ (fun _ => hbd6) ?_
        clear hQ Q
        repeat (
          refine plan_read rfl (fun K hK => ?_)
          first
            | (refine plan_neg ?_ ?_
               focus (go_simp; done)
               go_simp
               refine hK _ ?_
               clear hK K)
            | (apply plan_pos
               focus (go_simp; done)
               focus (
                 intro W hW
                 (have k0 := (hW.cell (p := ⟨wr.heap.size, 0, none⟩) hsz1).trans K0.out)
                 go_simp
                 first
                   | done
                   | exact rfl)
               go_simp
               refine hK _ ?_
               clear hK K))
        refine plan_only rfl (fun Q hQ => ?_)
        go_wp2
        have hbd7 : Below W1.heap.size W1 (w6.alloc (.cells #[.string (S x.work), .string (S x.node), .int .i64 n] 40)) := hbd6.alloc hbd6.size _
        refine hQ _ _ (fun _ => hbd7) ?_
        clear hQ Q
        have HNW := Lib.hid (cells_3 w6 (.string (S x.work)) (.string (S x.node)) (.int .i64 n) 40)
        have HB6 := Lib.hid hbd6
        have HB7 := Lib.hid hbd7
        have HR7 : Hid ((w6.alloc (.cells #[.string (S x.work), .string (S x.node), .int .i64 n] 40)).ownsRow w.heap.size 40 3 (.slice oa ol.length oc) ol.length (bdsV ol)) := Lib.hid (row_moved HROW1.out fun b e => hbd7.block b (HROW1.out.lt b e).2)
        have HZ7 : Hid (w.heap.size ≤ (w6.alloc (.cells #[.string (S x.work), .string (S x.node), .int .i64 n] 40)).heap.size) := Lib.hid (Nat.le_trans HB1.out.size hbd7.size)
        have HBA : Hid (Below w.heap.size w (w6.alloc (.cells #[.string (S x.work), .string (S x.node), .int .i64 n] 40))) := Lib.hid (HB1.out.trans (hbd7.mono HB1.out.size))
        clear hbd6 hbd7
        refine plan_only rfl (fun Q hQ => ?_)
        refine wpList_append_lies _ (by rfl) (.tmp 20) (.tmp 32) 23 (by rfl) w.heap.size 40 i0 _ 3 40 Try.underlying23 hi0' hz0 hz1 hz2 rfl (by decide) (.slice oa ol.length oc) ol.length (bdsV ol) (by rfl) HR7.out ⟨w6.heap.size, 0, none⟩ 1 1 (bdC ⟨x.work, x.node, n⟩) (by rfl) (by rfl) HNW.out (by simp [Value.oneCell']) (by omega) (by unfold maxLen; omega) (by omega) HZ7.out _ rfl ?_
        intro g6 c6 w8 ho6 hg6 hat6 hl6
        have HO6 := Lib.hid ho6
        have HB8 := Lib.hid (HBA.out.grown hg6 HZ7.out (fun j e => (HR7.out.lt j e).1))
        clear ho6 hg6 hat6 hl6
        go_wp2
        refine hQ _ _ (fun h => absurd h (by omega)) ?_
        clear hQ Q
        refine plan_only rfl (fun Q hQ => ?_)
        go_wp2
        refine hQ _ _ (fun h => absurd h (by omega)) ?_
        clear hQ Q
        unfold Plan.wp
        go_wp2
        go_roundw
        case rel => exact ⟨i + 1, by omega, by go_num, by rw [HN.out, List.length_append, bdsV_app]; exact HO6.out, HB8.out⟩
        case measure => simp [intOf]; omega
      · have hd : decide (0 < n) = false := decide_eq_false hp
        have HN : Hid (outU t P (i + 1) = ol) := Lib.hid (by rw [HS.out, if_neg hp, List.append_nil])
        clear hp
        have c3' : (wr.alloc (bdO x)).cell? ⟨g2, i, none⟩ = some (.int .i64 n) := (((Below.refl _ wr).alloc (Nat.le_refl _) _).cell (p := ⟨g2, i, none⟩) y2).trans c3
        go_wp2
        go_roundw
        case rel => exact ⟨i + 1, by omega, by go_num, by rw [HN.out]; exact HROW.out.alloc _, HB.out.alloc HB.out.size _⟩
        case measure => simp [intOf]; omega
    · have hie : i = tl := by omega
      have hin : ¬ (i : Int) < (tl : Int) := by omega
      have HE : Hid (outU t P i = outN t P) := Lib.hid (by unfold outU; rw [List.take_of_length_le (by rw [HTl.out]; omega), List.take_of_length_le (by rw [HPl.out, HTl.out]; omega)])
      have HF : Hid (wr.ownsRow w.heap.size 40 3 (.slice oa (outU t P i).length oc) (outN t P).length (bdsV (outN t P))) := Lib.hid (by rw [← HE.out]; exact HROW.out)
      clear hie hlt hb
      go_wp2
      go_ret
      exact ⟨_, rfl, HF.out, HB.out⟩
end Go.Proofs.Ytjkfiilnogacnaa
