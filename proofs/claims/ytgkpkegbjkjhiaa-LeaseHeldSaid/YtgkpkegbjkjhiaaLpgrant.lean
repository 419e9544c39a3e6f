/-
  The program's newGrant: a map of counts, made of binds.
-/
import Derived.Test.YtgkpkegbjkjhiaaLpnew
import Derived.Test.YtgkpkegbjkjhiaaQl2
namespace Go.Proofs.Ytgkpkegbjkjhiaa
open Go.RowKit Gm

namespace Gm
theorem psum_step {l : List Bd} (k : Bs) {m : Nat} (hm : m < l.length) : sumC (l.take (m + 1)) k = sumC (l.take m) k + (if l[m].work = k then numC l[m].cnt else 0) := by
  rw [List.take_succ_eq_append_getElem hm, sumC_app, sumC_cons, sumC_nil, Int.add_zero]
end Gm

theorem set3_grown (w : World) (g : Nat) (x y z : Value) {i j k : Nat} : w.grownBy (((w.setCell ⟨g, i, none⟩ x).setCell ⟨g, j, none⟩ y).setCell ⟨g, k, none⟩ z) (some g) := by
  have h1 : ∀ (w : World) (o : Nat) (u : Value), w.grownBy (w.setCell ⟨g, o, none⟩ u) (some g) := fun w o u =>
    ⟨rfl, rfl, rfl, by simp, fun b _ hb => heap_setCell_other w ⟨g, o, none⟩ b u (fun e => hb (by simp [e]))⟩
  exact gbt' (gbt' (h1 _ _ _) (h1 _ _ _)) (h1 _ _ _)

set_option maxRecDepth 100000 in
set_option maxHeartbeats 4000000 in
theorem newGrant_any (v u : Int) (a : Option Addr) (len cap : Nat) (l : List Bd) (w : World) (hl : BindsAt w (fun b => b < w.heap.size) a len l) (ok : OkL l) :
    Calls Try.prog 38 #[.int .i64 v, .int .i64 u, .slice a len cap] w fun e w' => ∃ m, e = .returned (.agg #[.int .i64 v, .int .i64 u, .map (some m)]) ∧ w.heap.size ≤ m ∧ CntAt w' m 1048576 (sumC l) ∧ Below w.heap.size w w' := by
  have hmm := @run_makeMap Try.prog
  have HL := Lib.hid hl
  have HOK := Lib.hid ok
  have hlen : len ≤ 1048576 := by have := ok.1; have := hl.1; omega
  have HLL : Hid (l.length = len) := Lib.hid hl.1
  clear hl ok
  go_enter Try.func38, Try.ntmps38
  go_wp2
  have hw1 := new_at w (.cells #[.int .i64 0, .int .i64 0, .map none] 58)
  have hb1 : Below w.heap.size w (w.alloc (.cells #[.int .i64 0, .int .i64 0, .map none] 58)) := (Below.refl _ w).alloc (Nat.le_refl _) _
  have hc2 := CntAt.made (w.alloc (.cells #[.int .i64 0, .int .i64 0, .map none] 58))
  have hb2 := hb1.alloc hb1.size (.map #[] 0)
  have hw2 : ((w.alloc (.cells #[.int .i64 0, .int .i64 0, .map none] 58)).alloc (.map #[] 0)).heap[w.heap.size]? = some (.cells #[.int .i64 0, .int .i64 0, .map none] 58) :=
    (((Below.refl (w.alloc (.cells #[.int .i64 0, .int .i64 0, .map none] 58)).heap.size _).alloc (Nat.le_refl _) (.map #[] 0)).block w.heap.size (by simp)).trans hw1
  have es : (w.alloc (.cells #[.int .i64 0, .int .i64 0, .map none] 58)).heap.size = w.heap.size + 1 := by simp
  rw [es] at hc2
  have HC2 := Lib.hid hc2
  have HB2 := Lib.hid hb2
  have HW2 := Lib.hid hw2
  have HS0 : Hid (∀ k, sumC (l.take 0) k = 0) := Lib.hid fun k => rfl
  clear hw1 hb1 hc2 hb2 hw2 es
  go_loopw [13] (fun iv wr => ∃ i : Nat, i ≤ len ∧ iv = .int .i64 (i : Int) ∧ CntAt wr (w.heap.size + 1) i (sumC (l.take i)) ∧ wr.heap[w.heap.size]? = some (.cells #[.int .i64 0, .int .i64 0, .map none] 58) ∧ Below w.heap.size w wr) (fun iv _ => len - (intOf iv).toNat)
  case atStart => exact ⟨0, Nat.zero_le _, rfl, HC2.out.same fun k => (HS0.out k).symm, HW2.out, HB2.out⟩
  case round =>
    obtain ⟨i, hi, rfl, hc, hw2, hB⟩ := hrel
    clear HC2 HB2 HW2 HS0
    have hsz := hB.size
    have HC := Lib.hid hc
    have HW := Lib.hid hw2
    have HB := Lib.hid hB
    have hws : w.heap.size + 1 < wr.heap.size := hc.lt
    clear hc hB
    by_cases hlt : i < len
    · have hil : i < l.length := by rw [HLL.out]; exact hlt
      obtain ⟨_, b, off, ha, hcell⟩ := HL.out
      obtain ⟨rfl, hbw⟩ : a = some ⟨b, off, none⟩ ∧ b < w.heap.size := by
        rcases ha with h | h
        · omega
        · exact h
      obtain ⟨x, hx⟩ : ∃ x, l[i] = x := ⟨_, rfl⟩
      obtain ⟨e0, e1, e2⟩ := hcell i hil
      have hxo := HOK.out.2 l[i] (List.getElem_mem hil)
      have hst := fun k => psum_step k hil
      rw [hx] at e0 e1 e2 hxo hst
      have hr := (bcell HB.out).1
      have d0 := (hr b (off + i * 3) hbw).trans e0
      have d1 := (hr b (off + i * 3 + 1) hbw).trans e1
      have d2 := (hr b (off + i * 3 + 2) hbw).trans e2
      have hj0 : (0 : Int) ≤ (i : Int) := by omega
      have hj1 : (i : Int) < (len : Int) := by omega
      have hxc := hxo.1
      have hxw := hxo.2
      have HST := Lib.hid hst
      clear hx hr e0 e1 e2 hcell ha hst hxo hil
      by_cases hp : 0 < x.cnt
      · have hpd : decide (0 < x.cnt) = true := decide_eq_true hp
        have hn2 := new_at wr (.cells #[.string (S x.work), .string (S x.node), .int .i64 x.cnt] 39)
        have hb0 : Below wr.heap.size wr (wr.alloc (.cells #[.string (S x.work), .string (S x.node), .int .i64 x.cnt] 39)) := (Below.refl _ wr).alloc (Nat.le_refl _) _
        have hcn := HC.out.moved (hb0.block _ hws)
        have hwn := (hb0.block w.heap.size (by omega)).trans HW.out
        have hbn : Below w.heap.size w (wr.alloc (.cells #[.string (S x.work), .string (S x.node), .int .i64 x.cnt] 39)) := HB.out.alloc hsz _
        have es : wr.heap.size < (wr.alloc (.cells #[.string (S x.work), .string (S x.node), .int .i64 x.cnt] 39)).heap.size := by simp
        have k0 : (wr.alloc (.cells #[.string (S x.work), .string (S x.node), .int .i64 x.cnt] 39)).cell? ⟨wr.heap.size, 0, none⟩ = some (.string (S x.work)) := by rw [cell_of_row _ _ _ _ _ _ hn2]; rfl
        have k2 : (wr.alloc (.cells #[.string (S x.work), .string (S x.node), .int .i64 x.cnt] 39)).cell? ⟨wr.heap.size, 2, none⟩ = some (.int .i64 x.cnt) := by rw [cell_of_row _ _ _ _ _ _ hn2]; rfl
        have HCN := Lib.hid hcn
        have HWN := Lib.hid hwn
        have HBN := Lib.hid hbn
        clear hn2 hcn hwn hbn hb0
        go_wp2
        generalize hWg : wr.alloc (.cells #[.string (S x.work), .string (S x.node), .int .i64 x.cnt] 39) = W1 at *
        clear hWg
        have hbd : Below W1.heap.size W1 W1.drew := (Below.refl _ W1).drew
        obtain ⟨s, hs⟩ : ∃ s, sumC (l.take i) x.work = s := ⟨_, rfl⟩
        have hlk : ∀ W, Below W1.heap.size W1 W → (Instr.lookup 56 (.map (some (w.heap.size + 1))) (.string (S x.work)) false).run Try.prog W = .ok (.int .i64 s) W := fun W hW => by
          rw [← hs]
          exact (HCN.out.moved (hW.block _ HCN.out.lt)).look x.work hxw
        have hsb := sumC_bd (l.take i) x.work
        rw [hs, List.length_take] at hsb
        have hsb' : 0 ≤ s ∧ s ≤ 1048576000 := by omega
        have hmn := qmin2 x.cnt 1000
        obtain ⟨m, hm⟩ : ∃ m, min x.cnt 1000 = m := ⟨_, rfl⟩
        rw [hm] at hmn
        have hmb : 0 ≤ m ∧ m ≤ 1000 := by omega
        have hmc : numC x.cnt = m := by unfold numC; omega
        have HT : Hid (∀ k, (if k = x.work then s + m else sumC (l.take i) k) = sumC (l.take (i + 1)) k) := Lib.hid fun k => by
          rw [HST.out k, hmc, ← hs]
          by_cases e : k = x.work
          · rw [if_pos e, if_pos e.symm, e]
          · rw [if_neg e, if_neg (fun h => e h.symm), Int.add_zero]
        clear hm hmc hsb hs hp hpd
        have HLK := Lib.hid hlk
        clear hlk
        refine region_mix (fun W => Below W1.heap.size W1 W) (8) (.reads [0, 1, 2, 5, 6, 7] (.only 3 (.reads [4] (.only 8 (.only 9 (.stop)))))) (by kernel_rfl) (by kernel_rfl) (hbd) ?_
        repeat (
          refine plan_read rfl (fun K hK => ?_)
          first
            | (refine plan_neg ?_ ?_
               focus (go_simp; done)
               go_simp
               refine hK _ ?_
               clear hK K)
            | (apply plan_pos
               focus (go_simp; done)
               focus (
                 intro W hW
                 (have e0 := (hW.cell (p := ⟨wr.heap.size, 0, none⟩) es).trans k0
                  have e2 := (hW.cell (p := ⟨wr.heap.size, 2, none⟩) es).trans k2)
                 go_simp
                 first
                   | done
                   | exact rfl)
               go_simp
               refine hK _ ?_
               clear hK K))
        refine plan_only rfl (fun Q hQ => ?_)
        go_wp2_with (go_at_call 42; (with_reducible refine (sclone_any x.work hxw _).mono ?_); rintro e w5 ⟨rfl, hb5⟩)
        have hbd5 : Below W1.heap.size W1 w5 := bt hbd hb5
        refine hQ _ _ (fun _ => hbd5) ?_
        clear hQ Q
        repeat (
          refine plan_read rfl (fun K hK => ?_)
          first
            | (refine plan_neg ?_ ?_
               focus (go_simp; done)
               go_simp
               refine hK _ ?_
               clear hK K)
            | (apply plan_pos
               focus (go_simp; done)
               focus (
                 intro W hW
                 (have e0 := HLK.out W hW)
                 go_simp
                 first
                   | done
                   | exact rfl)
               go_simp
               refine hK _ ?_
               clear hK K))
        refine plan_only rfl (fun Q hQ => ?_)
        go_wp2
        refine hQ _ _ (fun h => absurd h (by omega)) ?_
        clear hQ Q
        refine plan_only rfl (fun Q hQ => ?_)
        obtain ⟨w6, hrun, hc6, hg6⟩ := (HCN.out.moved (hbd5.block _ HCN.out.lt)).store (by omega) x.work hxw (s + m)
        have HC6 := Lib.hid hc6
        have HG6 := Lib.hid hg6
        have HB5 := Lib.hid hbd5
        clear hc6 hg6 hbd5 hb5 hbd
        go_wp2
        refine hQ _ _ (fun h => absurd h (by omega)) ?_
        clear hQ Q
        unfold Plan.wp
        go_wp2
        go_roundw
        case rel =>
          have hw1 : w.heap.size < W1.heap.size := by omega
          refine ⟨i + 1, by omega, by go_num, HC6.out.same HT.out, ?_, ?_⟩
          · exact ((HG6.out.block w.heap.size (Nat.lt_of_lt_of_le hw1 HB5.out.size) (by intro e; injection e; omega)).trans (HB5.out.block _ hw1)).trans HWN.out
          · have h1 : Below w.heap.size w w5 := HBN.out.trans (HB5.out.mono (by omega))
            exact h1.grown HG6.out (Nat.le_trans HBN.out.size HB5.out.size) (fun j e => by injection e; omega)
        case measure => simp [intOf]; omega
      · have HT : Hid (∀ k, sumC (l.take i) k = sumC (l.take (i + 1)) k) := Lib.hid fun k => by
          rw [HST.out k]
          have : numC x.cnt = 0 := by unfold numC; omega
          split <;> omega
        have hp' : ¬ x.cnt > 0 := hp
        have hpd : decide (0 < x.cnt) = false := decide_eq_false hp
        clear hp
        go_wp2
        go_roundw
        case rel => exact ⟨i + 1, by omega, by go_num, ((HC.out.moved (((Below.refl wr.heap.size wr).alloc (Nat.le_refl _) _).block _ hws)).same HT.out).wide (Nat.le_succ _), (((Below.refl wr.heap.size wr).alloc (Nat.le_refl _) _).block _ (by omega)).trans HW.out, HB.out.alloc hsz _⟩
        case measure => simp [intOf]; omega
    · obtain rfl : i = len := by omega
      have hcell : ∀ j, j < 3 → (wr.cell? ⟨w.heap.size, j, none⟩).isSome = true := fun j hj => by
        rw [cell_of_row _ _ _ _ _ _ hw2]
        rcases (show j = 0 ∨ j = 1 ∨ j = 2 by omega) with rfl | rfl | rfl <;> rfl
      have c0 : wr.cell? ⟨w.heap.size, 0, none⟩ = some (.int .i64 0) := by rw [cell_of_row _ _ _ _ _ _ hw2]; rfl
      have c1 : wr.cell? ⟨w.heap.size, 1, none⟩ = some (.int .i64 0) := by rw [cell_of_row _ _ _ _ _ _ hw2]; rfl
      have c2 : wr.cell? ⟨w.heap.size, 2, none⟩ = some (.map none) := by rw [cell_of_row _ _ _ _ _ _ hw2]; rfl
      have hz : ∀ j, wr.frozen? ⟨w.heap.size, j, none⟩ = false := fun j => by simp [World.frozen?, hw2]
      have z0 := hz 0
      have z1 := hz 1
      have z2 := hz 2
      clear hlt hcell hz
      go_wp2
      have hg3 : (((wr.setCell ⟨w.heap.size, 0, none⟩ (.int .i64 v)).setCell ⟨w.heap.size, 1, none⟩ (.int .i64 u)).setCell ⟨w.heap.size, 2, none⟩ (.map (some (w.heap.size + 1)))).heap[w.heap.size]? = some (.cells #[.int .i64 v, .int .i64 u, .map (some (w.heap.size + 1))] 58 (0, 0)) := by
        simp [World.setCell, Array.getElem?_modify, hw2]
      have hgr : wr.grownBy (((wr.setCell ⟨w.heap.size, 0, none⟩ (.int .i64 v)).setCell ⟨w.heap.size, 1, none⟩ (.int .i64 u)).setCell ⟨w.heap.size, 2, none⟩ (.map (some (w.heap.size + 1)))) (some w.heap.size) := set3_grown _ _ _ _ _
      (try simp only [Exit.inBlock, Exit.then])
      refine bodyPost_ret (results_cell_row (cs := #[.int .i64 v, .int .i64 u, .map (some (w.heap.size + 1))]) rfl _ _ w.heap.size 58 (0, 0) _ rfl hg3 Try.underlying58 rfl (by kernel_rfl)) rfl ?_
      refine ⟨w.heap.size + 1, rfl, Nat.le_succ _, ?_, HB.out.grown hgr (Nat.le_trans (Nat.le_succ _) (Nat.le_of_lt hws)) (fun j e => by injection e; omega)⟩
      have h1 := (HC.out.moved (hgr.block _ hws (by intro e; injection e; omega))).wide hlen
      rw [← HLL.out, List.take_length] at h1
      exact h1
end Go.Proofs.Ytgkpkegbjkjhiaa
