/-
  The program's Trim: countsOf.
-/
import Derived.Test.YtjkfiilnogacnaaSptrim1
namespace Go.Proofs.Ytjkfiilnogacnaa
open Go.RowKit Gm

abbrev bdO (x : Bd) : Obj := .cells #[.string (S x.work), .string (S x.node), .int .i64 x.cnt] 40
/-- BLOCK b TELLS HOW MANY OF THE FIRST i THERE ARE AT EACH PAIR. -/
def WasIs (last : List Bd) (w : World) (b i : Nat) : Prop := ∃ f, WasM w b i f ∧ ∀ x, (f x).getD 0 = wasF last i x
theorem WasIs.lt {last : List Bd} {w : World} {b i : Nat} (h : WasIs last w b i) : b < w.heap.size := by
  obtain ⟨_, h, _⟩ := h
  exact h.lt
theorem WasIs.moved {last : List Bd} {w w' : World} {b i : Nat} (h : WasIs last w b i) (hb : w'.heap[b]? = w.heap[b]?) : WasIs last w' b i := by
  obtain ⟨f, h, e⟩ := h
  exact ⟨f, h.moved hb, e⟩
theorem bd_cells (w : World) (x : Bd) : (w.alloc (bdO x)).cell? ⟨w.heap.size, 0, none⟩ = some (.string (S x.work)) ∧ (w.alloc (bdO x)).cell? ⟨w.heap.size, 1, none⟩ = some (.string (S x.node)) ∧ (w.alloc (bdO x)).cell? ⟨w.heap.size, 2, none⟩ = some (.int .i64 x.cnt) := by
  have hn := new_at w (bdO x)
  exact ⟨by rw [cell_of_row _ _ _ _ _ _ hn]; rfl, by rw [cell_of_row _ _ _ _ _ _ hn]; rfl, by rw [cell_of_row _ _ _ _ _ _ hn]; rfl⟩
set_option maxRecDepth 100000 in
set_option maxHeartbeats 4000000 in
theorem countsOf_any (la : Option Addr) (ll lc : Nat) (last : List Bd) (w : World) (hl : BindsAt w (· < w.heap.size) la ll last) (okl : OkL last) :
    Calls Try.prog 25 #[.slice la ll lc] w fun e w' => e = .returned (.map (some w.heap.size)) ∧ WasIs last w' w.heap.size ll ∧ Below w.heap.size w w' := by
  have hmm := @run_makeMap Try.prog
  have HL := Lib.hid hl
  have HOK := Lib.hid okl.2
  have HLl : Hid (last.length = ll) := Lib.hid hl.1
  have ll20 : ll ≤ 1048576 := by have := okl.1; rw [hl.1] at this; exact this
  have HC0 : Hid (WasIs last (w.alloc (.map #[] 0)) w.heap.size 0) := Lib.hid ⟨_, CntM.made 52 spotL okSpot w, fun x => rfl⟩
  have HB0 : Hid (Below w.heap.size w (w.alloc (.map #[] 0))) := Lib.hid ((Below.refl _ w).alloc (Nat.le_refl _) _)
  obtain ⟨g, hg⟩ : ∃ g, w.heap.size = g := ⟨_, rfl⟩
  have HG := Lib.hid hg
  clear hl okl
  go_enter Try.func25, Try.ntmps25
  go_wp2
  rw [hg] at HC0
  clear hg
  go_loopw [9] (fun iv wr => ∃ i : Nat, i ≤ ll ∧ iv = .int .i64 (i : Int) ∧ WasIs last wr g i ∧ Below w.heap.size w wr) (fun iv _ => ll - (intOf iv).toNat)
  case atStart => exact ⟨0, Nat.zero_le _, rfl, HC0.out, HB0.out⟩
  case round =>
    obtain ⟨i, hi, rfl, ⟨f, hc, hf⟩, hb⟩ := hrel
    have HC := Lib.hid hc
    have HF := Lib.hid hf
    have HB := Lib.hid hb
    clear HC0 HB0 hf
    by_cases hlt : i < ll
    · have hil : i < last.length := by rw [HLl.out]; exact hlt
      obtain ⟨b, off, hla, hbl, hcell⟩ := cells_b HL.out hlt
      subst hla
      obtain ⟨c0, c1, c2⟩ := hcell hil
      replace c0 := (hb.cell (p := ⟨b, off + i * 3, none⟩) hbl).trans c0
      replace c1 := (hb.cell (p := ⟨b, off + i * 3 + 1, none⟩) hbl).trans c1
      replace c2 := (hb.cell (p := ⟨b, off + i * 3 + 2, none⟩) hbl).trans c2
      have y1 := Nat.lt_of_lt_of_le hbl hb.size
      have hxo := HOK.out _ (List.getElem_mem hil)
      have HS := Lib.hid (fun y => wasF_snoc hil y)
      have bw := fun y => wasF_bd last i y
      obtain ⟨x, hx⟩ : ∃ x, last[i] = x := ⟨_, rfl⟩
      rw [hx] at c0 c1 c2 HS hxo
      have hok : okSpot (x.work, x.node) := ⟨hxo.2.1, hxo.2.2⟩
      obtain ⟨v, hv⟩ : ∃ v, wasF last i (x.work, x.node) = v := ⟨_, rfl⟩
      have hvb := bw (x.work, x.node)
      rw [hv, HLl.out] at hvb
      have hfv : (f (x.work, x.node)).getD 0 = v := (HF.out _).trans hv
      have nb := numC_bd x.cnt
      obtain ⟨nx, hnx⟩ : ∃ m, numC x.cnt = m := ⟨_, rfl⟩
      rw [hnx] at nb HS
      have HNX := Lib.hid hnx
      have w1 : IntKind.i64.wrap (v + nx) = v + nx := IntWalk.i64_in _ ⟨by omega, by omega⟩
      have HT : Hid (∀ y, ((if y = (x.work, x.node) then some (v + nx) else f y) : Option Int).getD 0 = wasF last (i + 1) y) := Lib.hid fun y => by
        rw [HS.out y]
        by_cases e : y = (x.work, x.node)
        · rw [if_pos e, if_pos e, e, hv]; rfl
        · rw [if_neg e, if_neg e]; exact HF.out y
      have HFV := Lib.hid hfv
      have HOKS := Lib.hid hok
      have hi0 : (0 : Int) ≤ (i : Int) := by omega
      have hi1 : (i : Int) < (ll : Int) := by omega
      have hgl := hc.lt
      have hi20 : i ≤ 1099511627776 := by omega
      clear hx hv hvb hfv nb hnx bw hxo hok hb hcell hil
      go_wp2
      have hb1 : Below wr.heap.size wr (wr.alloc (bdO x)) := (Below.refl _ wr).alloc (Nat.le_refl _) _
      have hpg : wr.heap.size ≠ g := by omega
      have hcm := hc.moved (hb1.block _ hgl)
      have hsz1 : wr.heap.size < (wr.alloc (bdO x)).heap.size := by simp
      have HB1 := Lib.hid (HB.out.trans (hb1.mono HB.out.size))
      obtain ⟨k0, k1, k2⟩ := bd_cells wr x
      obtain ⟨p, hp⟩ : ∃ p, wr.heap.size = p := ⟨_, rfl⟩
      have HWG : Hid (w.heap.size = g) := HG
      clear hb1 hc
      generalize hWg : wr.alloc (bdO x) = W1 at *
      have HCM := Lib.hid hcm
      have hlook : ∀ W n f', WasM W g n f' → (f' (x.work, x.node)).getD 0 = v → (Instr.lookup 48 (.map (some g)) (spotV (x.work, x.node)) false).run Try.prog W = .ok (.int .i64 v) W := fun W n f' h e => by
        rw [← e]
        exact h.look spot_keys Try.underlying48 _ HOKS.out
      have HLK := Lib.hid hlook
      have hC0 : W1.drew.cell? ⟨wr.heap.size, 0, none⟩ = some (.string (S x.work)) ∧ W1.drew.cell? ⟨wr.heap.size, 1, none⟩ = some (.string (S x.node)) ∧ W1.drew.cell? ⟨wr.heap.size, 2, none⟩ = some (.int .i64 x.cnt) ∧ (Instr.lookup 48 (.map (some g)) (spotV (x.work, x.node)) false).run Try.prog W1.drew = .ok (.int .i64 v) W1.drew := ⟨k0, k1, k2, hlook _ _ _ (hcm.moved rfl) HFV.out⟩
      have hpl : wr.heap.size < W1.drew.heap.size := hsz1
      have hgl1 : g < W1.drew.heap.size := hcm.lt
      have HCD : Hid (WasM W1.drew g i f) := Lib.hid (hcm.moved rfl)
      have HB1d : Hid (Below w.heap.size w W1.drew) := Lib.hid HB1.out.drew
      clear hcm hlook k0 k1 k2 hsz1 hWg hp
      refine region_mix (fun W => W.cell? ⟨wr.heap.size, 0, none⟩ = some (.string (S x.work)) ∧ W.cell? ⟨wr.heap.size, 1, none⟩ = some (.string (S x.node)) ∧ W.cell? ⟨wr.heap.size, 2, none⟩ = some (.int .i64 x.cnt) ∧ (Instr.lookup 48 (.map (some g)) (spotV (x.work, x.node)) false).run Try.prog W = .ok (.int .i64 v) W) (10) (.reads [0, 1, 4, 5] (.only 2 (.reads [3] (.only 6 (.reads [7] (.only 8 (.reads [9] (.only 10 (.stop))))))))) (by kernel_rfl) (by kernel_rfl) (hC0) ?_
      repeat (
        refine plan_read rfl (fun K hK => ?_)
        first
          | (refine plan_neg ?_ ?_
             focus (go_simp; done)
             go_simp
             refine hK _ ?_
             clear hK K)
          | (apply plan_pos
             focus (go_simp; done)
             focus (
               intro W hW
               (obtain ⟨k0, k1, k2, k3⟩ := hW)
               go_simp
               first
                 | done
                 | exact rfl)
             go_simp
             refine hK _ ?_
             clear hK K))
      refine plan_only rfl (fun Q hQ => ?_)
      go_wp2_with (go_at_call 27; (with_reducible refine (spot_any x.work x.node x.cnt _).mono ?_); rintro e w5 ⟨rfl, hb5⟩)
      have HB5 := Lib.hid hb5
      have hC5 : w5.cell? ⟨wr.heap.size, 0, none⟩ = some (.string (S x.work)) ∧ w5.cell? ⟨wr.heap.size, 1, none⟩ = some (.string (S x.node)) ∧ w5.cell? ⟨wr.heap.size, 2, none⟩ = some (.int .i64 x.cnt) ∧ (Instr.lookup 48 (.map (some g)) (spotV (x.work, x.node)) false).run Try.prog w5 = .ok (.int .i64 v) w5 :=
        ⟨(hb5.cell (p := ⟨wr.heap.size, 0, none⟩) hpl).trans hC0.1, (hb5.cell (p := ⟨wr.heap.size, 1, none⟩) hpl).trans hC0.2.1, (hb5.cell (p := ⟨wr.heap.size, 2, none⟩) hpl).trans hC0.2.2.1, HLK.out _ _ _ (HCD.out.moved (hb5.block _ hgl1)) HFV.out⟩
      have HC5 := Lib.hid (HCD.out.moved (hb5.block _ hgl1))
      have hpl5 := Nat.lt_of_lt_of_le hpl hb5.size
      clear hb5 hC0
      refine hQ _ _ (fun _ => hC5) ?_
      clear hQ Q
      repeat (
        refine plan_read rfl (fun K hK => ?_)
        first
          | (refine plan_neg ?_ ?_
             focus (go_simp; done)
             go_simp
             refine hK _ ?_
             clear hK K)
          | (apply plan_pos
             focus (go_simp; done)
             focus (
               intro W hW
               (obtain ⟨k0, k1, k2, k3⟩ := hW)
               go_simp
               first
                 | done
                 | exact rfl)
             go_simp
             refine hK _ ?_
             clear hK K))
      refine plan_only rfl (fun Q hQ => ?_)
      go_wp2_with (go_at_call 22; (have hc' := limit_any x.cnt w5; rw [HNX.out] at hc'; with_reducible refine hc'.mono ?_); rintro e w6 ⟨rfl, rfl⟩)
      refine hQ _ _ (fun _ => hC5) ?_
      clear hQ Q
      repeat (
        refine plan_read rfl (fun K hK => ?_)
        first
          | (refine plan_neg ?_ ?_
             focus (go_simp; done)
             go_simp
             refine hK _ ?_
             clear hK K)
          | (apply plan_pos
             focus (go_simp; done)
             focus (
               intro W hW
               (obtain ⟨k0, k1, k2, k3⟩ := hW)
               go_simp
               first
                 | done
                 | exact rfl)
             go_simp
             refine hK _ ?_
             clear hK K))
      obtain ⟨st, w7, hrun7, hg7, hin7, hst7⟩ := HC5.out.entry spot_keys Try.underlying48 hi20 (x.work, x.node) HOKS.out
      rw [HFV.out] at hrun7 hin7
      have HG7 := Lib.hid hg7
      have HST7 := Lib.hid hst7
      have hC7 : w7.cell? ⟨wr.heap.size, 0, none⟩ = some (.string (S x.work)) ∧ w7.cell? ⟨wr.heap.size, 1, none⟩ = some (.string (S x.node)) ∧ w7.cell? ⟨wr.heap.size, 2, none⟩ = some (.int .i64 x.cnt) ∧ (Instr.lookup 48 (.map (some g)) (spotV (x.work, x.node)) false).run Try.prog w7 = .ok (.int .i64 v) w7 :=
        ⟨(hg7.cell hC5.1 (fun e => hpg (by injection e))), (hg7.cell hC5.2.1 (fun e => hpg (by injection e))), (hg7.cell hC5.2.2.1 (fun e => hpg (by injection e))), HLK.out _ _ _ hin7 (by rw [if_pos rfl]; rfl)⟩
      clear hg7 hin7 hst7 hC5
      refine plan_only rfl (fun Q hQ => ?_)
      go_wp2
      refine hQ _ _ (fun _ => hC7) ?_
      clear hQ Q hrun7
      repeat (
        refine plan_read rfl (fun K hK => ?_)
        first
          | (refine plan_neg ?_ ?_
             focus (go_simp; done)
             go_simp
             refine hK _ ?_
             clear hK K)
          | (apply plan_pos
             focus (go_simp; done)
             focus (
               intro W hW
               (obtain ⟨k0, k1, k2, k3⟩ := hW)
               go_simp
               first
                 | done
                 | exact rfl)
             go_simp
             refine hK _ ?_
             clear hK K))
      obtain ⟨w8, hrun8, hc8, hg8⟩ := HST7.out w7 (v + nx) rfl
      have HC8 := Lib.hid hc8
      have HG8 := Lib.hid hg8
      clear hc8 hg8 HST7
      refine plan_only rfl (fun Q hQ => ?_)
      go_wp2
      refine hQ _ _ (fun h => absurd h (by omega)) ?_
      clear hQ Q
      unfold Plan.wp
      go_wp2
      go_roundw
      case rel =>
        refine ⟨i + 1, by omega, by go_num, ⟨_, HC8.out, HT.out⟩, ?_⟩
        have h5 : Below w.heap.size w w5 := HB1d.out.trans (HB5.out.mono HB1d.out.size)
        have h7 : Below w.heap.size w w7 := h5.grown HG7.out h5.size (fun j e => by injection e with e; rw [HWG.out, ← e]; exact Nat.le_refl _)
        exact h7.grown HG8.out h7.size (fun j e => by injection e with e; rw [HWG.out, ← e]; exact Nat.le_refl _)
      case measure => simp [intOf]; omega
    · have hie : i = ll := by omega
      have hin : ¬ (i : Int) < (ll : Int) := by omega
      have HE : Hid (WasIs last wr w.heap.size ll) := Lib.hid (by rw [HG.out, ← hie]; exact ⟨f, HC.out, HF.out⟩)
      have HRET : Hid (Ending.returned (Value.map (some g)) = .returned (.map (some w.heap.size))) := Lib.hid (by rw [HG.out])
      clear hie hlt hb hc
      go_wp2
      go_ret
      exact ⟨HRET.out, HE.out, HB.out⟩
end Go.Proofs.Ytjkfiilnogacnaa
