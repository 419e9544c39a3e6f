/-
  The program's search, walked.
-/
import Derived.Deep.LoopGhost
import Derived.Deep.DeepCutAuto
import Derived.Test.YtcbfgdiddhhhcaaMaps6
import Derived.Test.YtcbfgdiddhhhcaaQway
import Derived.Test.YtcbfgdiddhhhcaaOwn
import Derived.Test.YtcbfgdiddhhhcaaCalm
namespace Go.Proofs.Ytcbfgdiddhhhcaa
open Go.RowKit Gm

def SrchAt (w : World) (n : Nat) (a : Option Addr) (len cap : Nat) (S : Srch) (tv : Value) (wr : World) : Prop :=
  Blk wr w.heap.size 24 #[.int .i64 (n : Int), .slice a len cap] ∧ MapS wr (w.heap.size + 1) n S ∧ wr.ownsRow (w.heap.size + 1 + 1) 3 1 tv S.todo.length (ints S.todo) ∧ Below w.heap.size w wr
def SearchPost (n : Nat) (S : Srch) (w : World) (e : Ending) (w' : World) : Prop :=
  ∃ g, e = .returned (.map (some g)) ∧ MapS w' g n S ∧ w.heap.size ≤ g ∧ Below w.heap.size w w'
theorem insert_at (w : World) (n : Nat) (cs : Array Value) (s : Int) (s0 : 0 ≤ s) (s1 : s < n) (hn : n ≤ 64) : ∃ W', (Instr.mapUpdate 58 (.map (some (w.heap.size + 1))) (.int .i64 s) (.int .i64 (-1))).run Try.prog ((w.alloc (.cells cs 24)).alloc (.map #[] 0)) = .ok () W' ∧
    Blk W' w.heap.size 24 cs ∧ MapS W' (w.heap.size + 1) n (srch0 n s) ∧ w.heap.size + 1 + 1 ≤ W'.heap.size ∧ Below w.heap.size w W' := by
  obtain ⟨W', h1, h2, h3⟩ := MapS.start (n := n) (w.alloc (.cells cs 24)) s0 s1 hn
  rw [World.size_alloc] at h1 h2 h3
  have hB := ((Below.refl _ w).alloc (Nat.le_refl _) (.cells cs 24)).alloc (by simp) (.map #[] 0)
  refine ⟨W', h1, ((Blk.new w _ _).alloc _).kept h3 (by simp), h2, ?_, hB.grown h3 (by simp; omega) (fun k e => by cases e; omega)⟩
  have := h3.size
  simpa using this

set_option maxRecDepth 100000 in
set_option maxHeartbeats 4000000 in
theorem search_any (n : Nat) (a : Option Addr) (len cap : Nat) (es : List E) (fa : Option Addr) (flen fcap : Nat) (fl : List Int) (s : Int) (w : World) (hE : NetAt w.heap.size w a len es) (hF : FlowAt w.heap.size w fa flen fl) (hft : fits n es fl = true) (s0 : 0 ≤ s) (s1 : s < n) :
    Calls Try.prog 39 #[netV n a len cap, .slice fa flen fcap, .int .i64 s] w (SearchPost n (bfs n es fl s) w) := by
  obtain ⟨hr, hl, hfit⟩ := fits_iff.1 hft
  have hri := right_iff.1 hr
  have hn2 : 2 ≤ n := by omega
  have hn64 : n ≤ 64 := by omega
  have HQ := Lib.hid hl
  have HFT := Lib.hid hfit
  have HOK : Hid (∀ e ∈ es, okE n e = true) := Lib.hid hri.2.2.2
  have HlE := Lib.hid hE.1
  have HlF := Lib.hid hF.1
  have hql : flen = len := by rw [← hF.1, ← hE.1]; exact hl
  have hlen : flen ≤ 256 := by have := hri.2.2.1; rw [hE.1] at this; omega
  have HE := Lib.hid hE
  have HF := Lib.hid hF
  have HB := Lib.hid (fun k => bfs_is hri.2.2.2 s0 s1 k (fl := fl))
  have HBE : Hid (∀ {k : Nat}, (bfsK n es fl s k).todo.length ≤ k → bfsK n es fl s k = bfs n es fl s) := Lib.hid (fun hk => bfs_end hri.2.2.2 s0 s1 hk)
  have hmm := @run_makeMap Try.prog
  obtain ⟨i0, hi0, hx0, hx1, hx2⟩ := info_parts infoInt
  clear hri hE hF hl hr hft hfit
  subst hql
  obtain ⟨w2, hins, bN2, mS2, hz2, hB2⟩ := insert_at w n #[.int .i64 (n : Int), .slice a flen cap] s s0 s1 hn64
  go_enter Try.func39, Try.ntmps39
  go_wp2
  clear hmm hins
  go_loopw [8, 9] (fun tv kv wr => ∃ j : Nat, j ≤ 64 ∧ kv = .int .i64 j ∧ SrchAt w n a flen cap (bfsK n es fl s j) tv wr) (fun _ kv _ => 64 - (intOf kv).toNat)
  case atStart => exact ⟨0, Nat.zero_le _, rfl, bN2.alloc _, mS2.alloc _, own_one w2 _ s hz2, hB2.alloc (by omega) _⟩
  case round =>
    clear bN2 mS2 hB2 hz2
    obtain ⟨j, hj, rfl, bN, bM, hown, hB⟩ := hrel
    obtain ⟨w3, rfl⟩ : ∃ w', w' = wr := ⟨_, rfl⟩
    have hbj := HB.out j
    obtain ⟨S, hS⟩ : ∃ S, bfsK n es fl s j = S := ⟨_, rfl⟩
    rw [hS] at bM hown hbj
    have hsh := hbj.inv.short
    obtain ⟨sa, sc, rfl⟩ := own_form hown
    obtain ⟨lN, n0, n1⟩ := bN.two
    have HS := Lib.hid hS
    have HINV := Lib.hid hbj.inv
    clear hS hbj
    by_cases hlt : j < S.todo.length
    · obtain ⟨tg, rfl, htb, htl, ct⟩ := own_int hown hlt
      obtain ⟨u, hu⟩ : ∃ u, S.todo[j]?.getD 0 = u := ⟨_, rfl⟩
      rw [hu] at ct
      have hum : u ∈ S.todo := by rw [← hu, List.getElem?_eq_getElem hlt]; exact List.getElem_mem hlt
      have hu0 := (HINV.out.td u).1 hum
      have HSC : Hid (∀ i, i ≤ es.length → Scan n es fl s u S (scanK es fl u S i) i) := Lib.hid (scan_is HOK.out HINV.out hum)
      have HUS := Lib.hid hu0.2.2
      have HNX : Hid (bfsK n es fl s (j + 1) = scanK es fl u S es.length) := Lib.hid (by
        have h1 : bfsK n es fl s (j + 1) = if j < (bfsK n es fl s j).todo.length then scanK es fl ((bfsK n es fl s j).todo[j]?.getD 0) (bfsK n es fl s j) es.length else bfsK n es fl s j := rfl
        rw [h1, HS.out, if_pos hlt, hu])
      have hu1 := hu0.1
      have hu2 := hu0.2.1
      have hj64 : j < 64 := by omega
      have hji : (j : Int) < (S.todo.length : Int) := by omega
      have hslen : S.todo.length ≤ 64 := by omega
      clear hu hum hu0
      go_wp2
      go_loopw [8, 34] (fun tv iv wr => ∃ i : Nat, i ≤ flen ∧ iv = .int .i64 i ∧ SrchAt w n a flen cap (scanK es fl u S i) tv wr) (fun _ iv _ => flen - (intOf iv).toNat)
      case atStart => exact ⟨0, Nat.zero_le _, rfl, bN, bM, hown, hB⟩
      case round =>
        clear bN bM hown hB ct htb htl lN n0 n1
        obtain ⟨i, hi, rfl, bN, bM, hown, hB⟩ := hrel
        obtain ⟨w4, rfl⟩ : ∃ w', w' = wr := ⟨_, rfl⟩
        obtain ⟨X, hX⟩ : ∃ X, scanK es fl u S i = X := ⟨_, rfl⟩
        have hsc := HSC.out i (by rw [HlE.out]; exact hi)
        rw [hX] at bM hown hsc
        have hXs := hsc.inv.short
        have hXu := hsc.mono u hu1 HUS.out
        obtain ⟨sa, sc', rfl⟩ := own_form hown
        have HX := Lib.hid hX
        have HXI := Lib.hid hsc.inv
        have HXU := Lib.hid hXu
        have hBs := hB.size
        clear hX hsc hXu
        by_cases hlt2 : i < flen
        · have hkl : i < es.length := by rw [HlE.out]; exact hlt2
          obtain ⟨b, off, ha, hc⟩ := (HE.out.below hB).2.2
          obtain ⟨hb, c0, c1, c2⟩ := hc i hkl
          obtain rfl : a = some ⟨b, off, none⟩ := by
            rcases ha with h | h
            · omega
            · exact h
          obtain ⟨gb, go, hga, hgc⟩ := (HF.out.below hB).2.2.int
          obtain ⟨hgb, cf⟩ := hgc i (by rw [HQ.out]; exact hkl)
          obtain rfl : fa = some ⟨gb, go, none⟩ := by
            rcases hga with h | h
            · rw [HQ.out] at h; omega
            · exact h
          have hed : ed es i = es[i] := by unfold ed; rw [List.getElem?_eq_getElem hkl]; rfl
          have ho := HOK.out _ (ed_mem hkl)
          have hfi := HFT.out _ (of_zip HQ.out hkl)
          have cf' : w4.cell? ⟨gb, go + i, none⟩ = some (.int .i64 (Gm.fa fl i)) := cf
          rw [← hed] at c0 c1 c2
          have hin := hop_in (f := Gm.fa fl i) ho hu1 hu2
          have HST : Hid (scanK es fl u S (i + 1) = Gm.look X i (hop (ed es i) (Gm.fa fl i) u)) := Lib.hid (by rw [← HX.out]; rfl)
          dsimp only at hfi
          obtain ⟨f, hf⟩ : ∃ f, Gm.fa fl i = f := ⟨_, rfl⟩
          obtain ⟨x, hx⟩ : ∃ x, ed es i = x := ⟨_, rfl⟩
          rw [hf] at cf' hin HST hfi
          rw [hx] at c0 c1 c2 ho hin HST hfi
          obtain ⟨hf0, hf1⟩ := hfi
          obtain ⟨_, _, _, _, hne, _, hx1⟩ := okE_iff.1 ho
          obtain ⟨r, hr⟩ : ∃ r, resF x f u = r := ⟨_, rfl⟩
          have HR := Lib.hid hr
          have HCAP := Lib.hid hx1
          have HF0 := Lib.hid hf0
          have HF1 := Lib.hid hf1
          have hbw := Lib.hid hB
          -- the edge's own block
          obtain ⟨w5, hw5⟩ : ∃ W, w4.alloc (.cells #[.int .i64 x.1, .int .i64 x.2.1, .int .i64 x.2.2] 44) = W := ⟨_, rfl⟩
          have bN5 : Blk w5 w.heap.size 24 #[.int .i64 (n : Int), .slice (some ⟨b, off, none⟩) flen cap] := hw5 ▸ bN.alloc _
          have bM5 : MapS w5 (w.heap.size + 1) n X := hw5 ▸ bM.alloc _
          have hown5 : w5.ownsRow (w.heap.size + 1 + 1) 3 1 (.slice sa X.todo.length sc') X.todo.length (ints X.todo) := hw5 ▸ hown.alloc _
          have hB5 : Below w.heap.size w w5 := hw5 ▸ hB.alloc hBs _
          have bE5 : Blk w5 w4.heap.size 44 #[.int .i64 x.1, .int .i64 x.2.1, .int .i64 x.2.2] := hw5 ▸ Blk.new w4 _ _
          have hcells : ∀ W, Below w5.heap.size w5 W → W.cell? ⟨w4.heap.size, 0, none⟩ = some (.int .i64 x.1) ∧ W.cell? ⟨w4.heap.size, 1, none⟩ = some (.int .i64 x.2.1) ∧ W.cell? ⟨w4.heap.size, 2, none⟩ = some (.int .i64 x.2.2) ∧ W.cell? ⟨gb, go + i, none⟩ = some (.int .i64 f) := fun W h => by
            have hE := bE5.below h bE5.lt
            refine ⟨hE.three.2.1, hE.three.2.2.1, hE.three.2.2.2, ?_⟩
            have h5 : w5.cell? ⟨gb, go + i, none⟩ = w4.cell? ⟨gb, go + i, none⟩ := by
              rw [← hw5]; exact World.cell?_alloc_lt w4 _ ⟨gb, go + i, none⟩ (by show gb < _; omega)
            exact ((h.cell (p := ⟨gb, go + i, none⟩) (by show gb < _; have := hB5.size; omega)).trans h5).trans cf'
          have HCE := Lib.hid hcells
          have HW5 := Lib.hid hw5
          have hb4 : b < w4.heap.size := by omega
          have hii : (i : Int) < (flen : Int) := by omega
          have HKL := Lib.hid hkl
          have hXs' : X.todo.length ≤ 64 := by omega
          have hz5 := hB5.size
          clear ha hc hga hgc cf cf' hf hx hed ho hkl hXs hw5 hcells bN bM hown hB hf0 hf1 hx1 hr
          have hbd := (Below.refl w5.heap.size w5).drew
          by_cases hr0 : r = 0
          · have HLK : Hid (scanK es fl u S (i + 1) = X) := Lib.hid (by
              rw [HST.out, hop_none hne (by rw [HR.out, hr0])]; unfold Gm.look; rw [if_pos HXU.out])
            subst hr0
            go_wp2
            rw [HW5.out]
            (refine region_calm (fun W => Below w5.heap.size w5 W) (by kernel_rfl) (by kernel_rfl) (hbd) ?_
             repeat (
               refine wpQuiet_step (fun K hK => ?_)
               first
                 | (refine calm_neg ?_ ?_
                    focus (go_simp; done)
                    go_simp
                    refine hK _ ?_
                    clear hK K)
                 | (apply calm_pos
                    focus (go_simp; done)
                    focus (
                      intro W hW
                      (obtain ⟨d0, d1, d2, d3⟩ := HCE.out W hW)
                      go_simp
                      first
                        | done
                        | exact rfl
                        | (go_at_call 41; (with_reducible refine (residual_any x f u _ HF0.out HF1.out HCAP.out).mono ?_); rw [HR.out]; rintro e w6 ⟨rfl, hb6⟩; exact ⟨rfl, on_below hW hb6⟩))
                    go_simp
                    refine hK _ ?_
                    clear hK K))
             refine wpQuiet_nil ?_)
            intro w6 hb6
            go_wp2
            go_roundw
            case rel => exact ⟨i + 1, by omega, by go_num, by rw [HLK.out]; exact ⟨bN5.below hb6 bN5.lt, bM5.below hb6 bM5.lt, own_below hown5 hb6, hB5.trans (hb6.mono hz5)⟩⟩
            case measure => simp [intOf]; omega
          · have g1 : (r == 0) = false := by simpa using hr0
            obtain ⟨y, hy⟩ : ∃ y, otherF x u = y := ⟨_, rfl⟩
            have hho := hop_other (x := x) (f := f) (u := u) (by rw [HR.out]; exact hr0) HF0.out HF1.out
            rw [hy] at hho
            rw [hho] at hin HST
            obtain ⟨hy0, hy1⟩ := hin
            have HY := Lib.hid hy
            obtain ⟨sn, hsn⟩ : ∃ b, has X.seen y = b := ⟨_, rfl⟩
            have HSN := Lib.hid hsn
            clear hy hho hr0 hsn
            go_wp2
            rw [HW5.out]
            (refine region_calm (fun W => Below w5.heap.size w5 W) (by kernel_rfl) (by kernel_rfl) (hbd) ?_
             repeat (
               refine wpQuiet_step (fun K hK => ?_)
               first
                 | (refine calm_neg ?_ ?_
                    focus (go_simp; done)
                    go_simp
                    refine hK _ ?_
                    clear hK K)
                 | (apply calm_pos
                    focus (go_simp; done)
                    focus (
                      intro W hW
                      (obtain ⟨d0, d1, d2, d3⟩ := HCE.out W hW)
                      go_simp
                      first
                        | done
                        | exact rfl
                        | (go_at_call 41; (with_reducible refine (residual_any x f u _ HF0.out HF1.out HCAP.out).mono ?_); rw [HR.out]; rintro e w6 ⟨rfl, hb6⟩; exact ⟨rfl, on_below hW hb6⟩))
                    go_simp
                    refine hK _ ?_
                    clear hK K))
             refine wpQuiet_nil ?_)
            intro w6 hb6
            obtain ⟨d0, d1, d2, d3⟩ := HCE.out w6 hb6
            have bN6 := bN5.below hb6 bN5.lt
            have bM6 := bM5.below hb6 bM5.lt
            have hown6 := own_below hown5 hb6
            have hB6 := hB5.trans (hb6.mono hz5)
            have hz6 := hb6.size
            have lE6 : w4.heap.size < w6.heap.size := by have := bE5.lt; omega
            clear bN5 bM5 hown5 hbd
            rcases sn with _ | _
            · have HLK : Hid (scanK es fl u S (i + 1) = ⟨X.seen.set y.toNat true, X.by_.set y.toNat i, X.todo ++ [y]⟩) := Lib.hid (by rw [HST.out]; unfold Gm.look; rw [if_neg (by rw [HSN.out]; exact Bool.false_ne_true)])
              have hi64 : (i : Int) < 1000 := by omega
              go_wp2_with (first
                | (go_at_call 40
                   (with_reducible refine (other_any x u _).mono ?_)
                   rw [HY.out]; rintro e w7 ⟨rfl, hb7⟩
                   have bN7 := bN6.below hb7 bN6.lt
                   have bM7 := bM6.below hb7 bM6.lt
                   have hown7 := own_below hown6 hb7
                   have hB7 := hB6.trans (hb7.mono hB6.size)
                   obtain ⟨c, hlk⟩ := bM7.look_ok hy0 hy1 hn64
                   rw [HSN.out] at hlk
                   obtain ⟨w8, hst, bM8, hg8⟩ := bM7.store hy0 hy1 hn64 HXI.out.sl HXI.out.bl hXs' (i := (i : Int)) (by omega) (by omega)
                   have bN8 := bN7.kept hg8 (by simp)
                   have hown8 : w8.ownsRow (w.heap.size + 1 + 1) 3 1 (.slice sa X.todo.length sc') X.todo.length (ints X.todo) := own_kept hown7 hg8 (fun g e => by have := (hown7.lt _ e).1; intro e2; injection e2 with e2; omega)
                   have hB8 := hB7.grown hg8 hB7.size (fun k e => by cases e; omega)
                   clear bN6 bM6 hown6 hB6 bN7 hown7 hB7 bM7 hg8)
                | (at_builtin
                   refine wpList_append_own _ rfl _ _ 25 rfl (w.heap.size + 1 + 1) 3 i0 _ 1 8 Try.underlying25 hi0 hx0 hx1 hx2 rfl (by decide) _ X.todo.length (ints X.todo) rfl (hown8.alloc _) ⟨w8.heap.size, 0, none⟩ 1 1 [.int .i64 y] rfl rfl (cell_one_new _ _ _) (by simp [Value.oneCell']) (by simp [maxLen]; omega) (by omega) (by have := hB8.size; have := (bM8.lt); simp; omega) ?_
                   intro v' w9 hown' hgrow hnil))
              go_roundw
              case rel =>
                refine ⟨i + 1, by omega, by go_num, ?_⟩
                rw [HLK.out]
                refine ⟨(bN8.alloc _).kept hgrow (fun e => by have := (hown8.lt _ e.symm).1; omega), (bM8.alloc _).kept hgrow (fun e => by have := (hown8.lt _ e.symm).1; omega), ?_, (hB8.alloc hB8.size _).grown hgrow (by have := hB8.size; simp; omega) (fun g e => by have := (hown8.lt _ e).1; omega)⟩
                have e1 : (X.todo ++ [y]).length = X.todo.length + 1 := by simp
                have e2 : ints (X.todo ++ [y]) = ints X.todo ++ [.int .i64 y] := by simp
                show w9.ownsRow _ _ _ _ (X.todo ++ [y]).length (ints (X.todo ++ [y]))
                rw [e1, e2]; exact hown'
              case measure => simp [intOf]; omega
            · have HLK : Hid (scanK es fl u S (i + 1) = X) := Lib.hid (by rw [HST.out]; unfold Gm.look; rw [if_pos HSN.out])
              go_wp2_with (go_at_call 40; (with_reducible refine (other_any x u _).mono ?_); rw [HY.out]; rintro e w7 ⟨rfl, hb7⟩
                           have bN7 := bN6.below hb7 bN6.lt
                           have bM7 := bM6.below hb7 bM6.lt
                           have hown7 := own_below hown6 hb7
                           have hB7 := hB6.trans (hb7.mono hB6.size)
                           obtain ⟨c, hlk⟩ := bM7.look_ok hy0 hy1 hn64
                           rw [HSN.out] at hlk
                           clear bN6 bM6 hown6 hB6)
              go_roundw
              case rel => exact ⟨i + 1, by omega, by go_num, by rw [HLK.out]; exact ⟨bN7, bM7, hown7, hB7⟩⟩
              case measure => simp [intOf]; omega
        · obtain rfl : i = flen := by omega
          have HLL : Hid (X = bfsK n es fl s (j + 1)) := Lib.hid (by rw [← HX.out, HNX.out, HlE.out])
          go_wp2
          go_roundw
          case rel => exact ⟨j + 1, by omega, by go_num, by rw [← HLL.out]; exact ⟨bN, bM, hown, hB⟩⟩
          case measure => simp [intOf]; omega
    · have HLL : Hid (S = bfs n es fl s) := Lib.hid (by rw [← HS.out]; exact HBE.out (by rw [HS.out]; omega))
      go_wp2
      go_ret
      rw [← HLL.out]
      exact ⟨w.heap.size + 1, rfl, bM, by omega, hB⟩
end Go.Proofs.Ytcbfgdiddhhhcaa
