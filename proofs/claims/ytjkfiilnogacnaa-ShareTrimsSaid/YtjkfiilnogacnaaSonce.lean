/-
  Binds, each pair once (a law's own function).
-/
import Derived.Deep.QuietTactic
import Derived.Deep.AppendLies
import Derived.Deep.DeepCutAuto
import Derived.Laws.OwnMore
import Derived.OwnWalk
import Derived.Test.YtjkfiilnogacnaaCalm
import Derived.Test.YtjkfiilnogacnaaScount
import Derived.Test.YtjkfiilnogacnaaSawake
namespace Go.Proofs.Ytjkfiilnogacnaa
open Go.RowKit Gm

theorem bd_news (w : World) (x : Bd) : ∀ j u, (bdC x)[j]? = some u → (w.alloc (.cells #[.string (S x.work), .string (S x.node), .int .i64 x.cnt] 40)).cell? ((⟨w.heap.size, 0, none⟩ : Addr).add j) = some u := cells_3 w _ _ _ _
set_option maxRecDepth 100000 in
set_option maxHeartbeats 4000000 in
theorem once_any (a : Option Addr) (len cap : Nat) (l : List Bd) (w : World) (h : BindsAt w (· < w.heap.size) a len l) (hlen : len ≤ 1048576) (hs : SmallC l) :
    Calls Try.prog 18 #[.slice a len cap] w fun e w' => ∃ v, e = .returned v ∧ w'.ownsRow w.heap.size 40 3 v (onceN l).length (bdsV (onceN l)) ∧ Below w.heap.size w w' := by
  obtain ⟨h1, p, o, pa, pc⟩ := h
  have HA := Lib.hid h1
  have HPA := Lib.hid pa
  have HPC := Lib.hid pc
  have HS := Lib.hid hs
  obtain ⟨i0, hi0, hz0, hz1, hz2⟩ := info_parts infoBd
  clear h1 pa pc hs
  go_enter Try.func18, Try.ntmps18
  go_wp2
  go_loopw [3, 4] (fun ov iv wr => ∃ i : Nat, i ≤ len ∧ iv = .int .i64 (i : Int) ∧ wr.ownsRow w.heap.size 40 3 ov (onceN (l.take i)).length (bdsV (onceN (l.take i))) ∧ Below w.heap.size w wr) (fun _ iv _ => len - (intOf iv).toNat)
  case atStart => exact ⟨0, Nat.zero_le _, rfl, World.ownsRow_nil _ _ _ _, Below.refl _ _⟩
  case round =>
    obtain ⟨i, hi, rfl, hrow, hw⟩ := hrel
    have HW := Lib.hid hw
    have hsz := hw.size
    have HROW := Lib.hid hrow
    clear hw hrow
    by_cases hlt : i < len
    · obtain ⟨rfl, l1⟩ : a = some ⟨p, o, none⟩ ∧ p < w.heap.size := by
        rcases HPA.out with h | h
        · omega
        · exact h
      have hil : i < l.length := by rw [HA.out]; exact hlt
      obtain ⟨c1, d1, f1⟩ := HPC.out i hil
      replace c1 := (HW.out.cell (p := ⟨p, o + i * 3, none⟩) l1).trans c1
      replace d1 := (HW.out.cell (p := ⟨p, o + i * 3 + 1, none⟩) l1).trans d1
      replace f1 := (HW.out.cell (p := ⟨p, o + i * 3 + 2, none⟩) l1).trans f1
      have HN := Lib.hid (onceN_snoc hil)
      have bx := HS.out _ (List.getElem_mem hil)
      have hol := once_len l i
      have HOS : Hid (SmallC (onceN (l.take i))) := Lib.hid (fun x hx => HS.out x (once_mem l i x hx))
      obtain ⟨x, hx⟩ : ∃ x, l[i] = x := ⟨_, rfl⟩
      obtain ⟨ol, ho⟩ : ∃ c, onceN (l.take i) = c := ⟨_, rfl⟩
      rw [hx] at c1 d1 f1 HN bx
      rw [ho] at hol HN HOS HROW
      have hj0 : (0 : Int) ≤ (i : Int) := by omega
      have hj1 : (i : Int) < (len : Int) := by omega
      have l1' := Nat.lt_of_lt_of_le l1 hsz
      obtain ⟨oa, oc, hov⟩ := row_form HROW.out
      subst hov
      have HC1 := Lib.hid c1
      have HD1 := Lib.hid d1
      have HF1 := Lib.hid f1
      have HOB : Hid (BindsAt wr (· < wr.heap.size) oa ol.length ol) := Lib.hid (by
        obtain ⟨a', c', hv, _, hb⟩ := row_binds HROW.out
        injection hv with e1
        subst e1
        exact hb)
      clear hx ho
      by_cases g1 : 0 < x.cnt
      · have e1 : decide (0 < x.cnt) = true := decide_eq_true g1
        obtain ⟨c, hc⟩ : ∃ c, countN ol x.work x.node = c := ⟨_, rfl⟩
        have HCN := Lib.hid hc
        have hbd := (Below.refl wr.heap.size wr).drew
        by_cases g2 : c = 0
        · have e2 : (c == 0) = true := by simpa using g2
          have HN2 : Hid (onceN (l.take (i + 1)) = ol ++ [x]) := Lib.hid (by rw [HN.out]; unfold onceS; rw [if_pos ⟨g1, hc.trans g2⟩])
          clear hc g1 g2 bx
          go_wp2
          (refine region_calm (fun W => Below wr.heap.size wr W) (by kernel_rfl) (by kernel_rfl) (hbd) ?_
           repeat (
             refine wpQuiet_step (fun K hK => ?_)
             first
               | (refine calm_neg ?_ ?_
                  focus (go_simp; done)
                  go_simp
                  refine hK _ ?_
                  clear hK K)
               | (apply calm_pos
                  focus (go_simp; done)
                  focus (
                    intro W hW
                    (have k1 := (hW.cell (p := ⟨p, o + i * 3, none⟩) l1').trans HC1.out
                     have k2 := (hW.cell (p := ⟨p, o + i * 3 + 1, none⟩) l1').trans HD1.out
                     have k3 := (hW.cell (p := ⟨p, o + i * 3 + 2, none⟩) l1').trans HF1.out)
                    go_simp
                    first
                      | done
                      | exact rfl
                      | (go_at_call 20; (have hc := count_any oa ol.length oc ol x.work x.node W (binds_up HOB.out hW) (by omega) HOS.out; rw [HCN.out] at hc; with_reducible refine hc.mono ?_); rintro e w12 ⟨rfl, hb12⟩; exact ⟨rfl, hW.trans (hb12.mono hW.size)⟩))
                  go_simp
                  refine hK _ ?_
                  clear hK K))
           refine wpQuiet_nil ?_)
          intro w5 hb5
          have HB5 := Lib.hid hb5
          have q1 := (hb5.cell (p := ⟨p, o + i * 3, none⟩) l1').trans HC1.out
          have q2 := (hb5.cell (p := ⟨p, o + i * 3 + 1, none⟩) l1').trans HD1.out
          have q3 := (hb5.cell (p := ⟨p, o + i * 3 + 2, none⟩) l1').trans HF1.out
          have q4 := Nat.lt_of_lt_of_le l1' hb5.size
          clear hb5 c1 d1 f1 hbd
          have HR5 : Hid ((w5.alloc (.cells #[.string (S x.work), .string (S x.node), .int .i64 x.cnt] 40)).ownsRow w.heap.size 40 3 (.slice oa ol.length oc) ol.length (bdsV ol)) := Lib.hid ((row_moved HROW.out fun b e => HB5.out.block b (HROW.out.lt b e).2).alloc _)
          have HNW := Lib.hid (bd_news w5 x)
          have HZ5 : Hid (w.heap.size ≤ (w5.alloc (.cells #[.string (S x.work), .string (S x.node), .int .i64 x.cnt] 40)).heap.size) := Lib.hid (by
            have := HB5.out.size
            have e : (w5.alloc (.cells #[.string (S x.work), .string (S x.node), .int .i64 x.cnt] 40)).heap.size = w5.heap.size + 1 := by simp
            omega)
          have HBA : Hid (Below w.heap.size w (w5.alloc (.cells #[.string (S x.work), .string (S x.node), .int .i64 x.cnt] 40))) := Lib.hid ((bt HW.out HB5.out).alloc (Nat.le_trans hsz HB5.out.size) _)
          go_wp2_with (at_builtin; refine wpList_append_lies _ (by rfl) (.tmp 32) (.tmp 37) 23 (by rfl) w.heap.size 40 i0 _ 3 40 Try.underlying23 hi0 hz0 hz1 hz2 rfl (by decide) (.slice oa ol.length oc) ol.length (bdsV ol) (by rfl) HR5.out ⟨w5.heap.size, 0, none⟩ 1 1 (bdC x) (by rfl) (by rfl) HNW.out (by simp [Value.oneCell']) (by omega) (by unfold maxLen; omega) (by omega) HZ5.out _ rfl ?_; intro g6 c6 w6 ho6 hg6 hat6 hl6; have HO6 := Lib.hid ho6; have HB6 := Lib.hid (HBA.out.grown hg6 HZ5.out (fun j e => (HR5.out.lt j e).1)); clear ho6 hg6 hat6 hl6)
          go_roundw
          case rel => exact ⟨i + 1, by omega, by go_num, by rw [HN2.out, List.length_append, bdsV_app]; exact HO6.out, HB6.out⟩
          case measure => simp [intOf]; omega
        · have e2 : (c == 0) = false := by simpa using g2
          have HN2 : Hid (onceN (l.take (i + 1)) = ol) := Lib.hid (by rw [HN.out]; unfold onceS; rw [if_neg (fun h => g2 (hc.symm.trans h.2))])
          clear hc g1 g2 bx
          go_wp2
          (refine region_calm (fun W => Below wr.heap.size wr W) (by kernel_rfl) (by kernel_rfl) (hbd) ?_
           repeat (
             refine wpQuiet_step (fun K hK => ?_)
             first
               | (refine calm_neg ?_ ?_
                  focus (go_simp; done)
                  go_simp
                  refine hK _ ?_
                  clear hK K)
               | (apply calm_pos
                  focus (go_simp; done)
                  focus (
                    intro W hW
                    (have k1 := (hW.cell (p := ⟨p, o + i * 3, none⟩) l1').trans HC1.out
                     have k2 := (hW.cell (p := ⟨p, o + i * 3 + 1, none⟩) l1').trans HD1.out
                     have k3 := (hW.cell (p := ⟨p, o + i * 3 + 2, none⟩) l1').trans HF1.out)
                    go_simp
                    first
                      | done
                      | exact rfl
                      | (go_at_call 20; (have hc := count_any oa ol.length oc ol x.work x.node W (binds_up HOB.out hW) (by omega) HOS.out; rw [HCN.out] at hc; with_reducible refine hc.mono ?_); rintro e w12 ⟨rfl, hb12⟩; exact ⟨rfl, hW.trans (hb12.mono hW.size)⟩))
                  go_simp
                  refine hK _ ?_
                  clear hK K))
           refine wpQuiet_nil ?_)
          intro w5 hb5
          have HB5 := Lib.hid hb5
          clear hb5 c1 d1 f1 hbd
          go_wp2
          go_roundw
          case rel => exact ⟨i + 1, by omega, by go_num, by rw [HN2.out]; exact row_moved HROW.out fun b e => HB5.out.block b (HROW.out.lt b e).2, bt HW.out HB5.out⟩
          case measure => simp [intOf]; omega
      · have e1 : decide (0 < x.cnt) = false := decide_eq_false g1
        have HN2 : Hid (onceN (l.take (i + 1)) = ol) := Lib.hid (by rw [HN.out]; unfold onceS; rw [if_neg (fun h => g1 h.1)])
        clear g1 bx
        go_wp2
        go_quiet (fail)
        go_wp2
        go_roundw
        case rel => exact ⟨i + 1, by omega, by go_num, by rw [HN2.out]; exact row_moved HROW.out fun b _ => rfl, below_drewN HW.out _⟩
        case measure => simp [intOf]; omega
    · obtain rfl : i = len := by omega
      have HE : Hid (onceN (l.take i) = onceN l) := Lib.hid (by rw [List.take_of_length_le (by rw [HA.out]; omega)])
      rw [HE.out] at HROW
      clear hlt
      go_wp2
      go_ret
      exact ⟨_, rfl, HROW.out, HW.out⟩
end Go.Proofs.Ytjkfiilnogacnaa
