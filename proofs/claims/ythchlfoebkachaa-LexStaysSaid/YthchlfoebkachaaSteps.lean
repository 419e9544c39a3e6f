/-
  The program's search, walked.
  The program's next path, walked: its steps, from t back to s.
  The program's room of a path, and what it lets go along one, walked.
  The program's Push and Max, walked.
-/
import Derived.Deep.LoopGhost
import Derived.Deep.DeepCutAuto
import Derived.Test.YthchlfoebkachaaMaps6
import Derived.Test.YthchlfoebkachaaQway
import Derived.Test.YthchlfoebkachaaOwn
import Derived.Test.YthchlfoebkachaaCalm
import Derived.Test.YthchlfoebkachaaQalong
import Derived.Maps.RangeWalk
import Derived.Test.YthchlfoebkachaaQpush
import Derived.Laws.CopyOwn
import Derived.Test.YthchlfoebkachaaInts
import Derived.Test.YthchlfoebkachaaChecks
namespace Go.Proofs.Ythchlfoebkachaa
open Go.RowKit Gm

def SrchAt (w : World) (n : Nat) (a : Option Addr) (len cap : Nat) (S : Srch) (tv : Value) (wr : World) : Prop :=
  Blk wr w.heap.size 24 #[.int .i64 (n : Int), .slice a len cap] ∧ MapS wr (w.heap.size + 1) n S ∧ wr.ownsRow (w.heap.size + 1 + 1) 3 1 tv S.todo.length (ints S.todo) ∧ Below w.heap.size w wr
def SearchPost (n : Nat) (S : Srch) (w : World) (e : Ending) (w' : World) : Prop :=
  ∃ g, e = .returned (.map (some g)) ∧ MapS w' g n S ∧ w.heap.size ≤ g ∧ Below w.heap.size w w'
theorem insert_at (w : World) (n : Nat) (cs : Array Value) (s : Int) (s0 : 0 ≤ s) (s1 : s < n) (hn : n ≤ 64) : ∃ W', (Instr.mapUpdate 80 (.map (some (w.heap.size + 1))) (.int .i64 s) (.int .i64 (-1))).run Try.prog ((w.alloc (.cells cs 24)).alloc (.map #[] 0)) = .ok () W' ∧
    Blk W' w.heap.size 24 cs ∧ MapS W' (w.heap.size + 1) n (srch0 n s) ∧ w.heap.size + 1 + 1 ≤ W'.heap.size ∧ Below w.heap.size w W' := by
  obtain ⟨W', h1, h2, h3⟩ := MapS.start (n := n) (w.alloc (.cells cs 24)) s0 s1 hn
  rw [World.size_alloc] at h1 h2 h3
  have hB := ((Below.refl _ w).alloc (Nat.le_refl _) (.cells cs 24)).alloc (by simp) (.map #[] 0)
  refine ⟨W', h1, ((Blk.new w _ _).alloc _).kept h3 (by simp), h2, ?_, hB.grown h3 (by simp; omega) (fun k e => by cases e; omega)⟩
  have := h3.size
  simpa using this

set_option maxRecDepth 100000 in
set_option maxHeartbeats 4000000 in
theorem search_any (n : Nat) (a : Option Addr) (len cap : Nat) (es : List E) (fa : Option Addr) (flen fcap : Nat) (fl : List Int) (s : Int) (w : World) (hE : NetAt w.heap.size w a len es) (hF : FlowAt w.heap.size w fa flen fl) (hft : fits n es fl = true) (s0 : 0 ≤ s) (s1 : s < n) :
    Calls Try.prog 50 #[netV n a len cap, .slice fa flen fcap, .int .i64 s] w (SearchPost n (bfs n es fl s) w) := by
  obtain ⟨hr, hl, hfit⟩ := fits_iff.1 hft
  have hri := right_iff.1 hr
  have hn2 : 2 ≤ n := by omega
  have hn64 : n ≤ 64 := by omega
  have HQ := Lib.hid hl
  have HFT := Lib.hid hfit
  have HOK : Hid (∀ e ∈ es, okE n e = true) := Lib.hid hri.2.2.2
  have HlE := Lib.hid hE.1
  have HlF := Lib.hid hF.1
  have hql : flen = len := by rw [← hF.1, ← hE.1]; exact hl
  have hlen : flen ≤ 256 := by have := hri.2.2.1; rw [hE.1] at this; omega
  have HE := Lib.hid hE
  have HF := Lib.hid hF
  have HB := Lib.hid (fun k => bfs_is hri.2.2.2 s0 s1 k (fl := fl))
  have HBE : Hid (∀ {k : Nat}, (bfsK n es fl s k).todo.length ≤ k → bfsK n es fl s k = bfs n es fl s) := Lib.hid (fun hk => bfs_end hri.2.2.2 s0 s1 hk)
  have hmm := @run_makeMap Try.prog
  obtain ⟨i0, hi0, hx0, hx1, hx2⟩ := info_parts infoInt
  clear hri hE hF hl hr hft hfit
  subst hql
  obtain ⟨w2, hins, bN2, mS2, hz2, hB2⟩ := insert_at w n #[.int .i64 (n : Int), .slice a flen cap] s s0 s1 hn64
  go_enter Try.func50, Try.ntmps50
  go_wp2
  clear hmm hins
  go_loopw [8, 9] (fun tv kv wr => ∃ j : Nat, j ≤ 64 ∧ kv = .int .i64 j ∧ SrchAt w n a flen cap (bfsK n es fl s j) tv wr) (fun _ kv _ => 64 - (intOf kv).toNat)
  case atStart => exact ⟨0, Nat.zero_le _, rfl, bN2.alloc _, mS2.alloc _, own_one w2 _ s hz2, hB2.alloc (by omega) _⟩
  case round =>
    clear bN2 mS2 hB2 hz2
    obtain ⟨j, hj, rfl, bN, bM, hown, hB⟩ := hrel
    obtain ⟨w3, rfl⟩ : ∃ w', w' = wr := ⟨_, rfl⟩
    have hbj := HB.out j
    obtain ⟨S, hS⟩ : ∃ S, bfsK n es fl s j = S := ⟨_, rfl⟩
    rw [hS] at bM hown hbj
    have hsh := hbj.inv.short
    obtain ⟨sa, sc, rfl⟩ := own_form hown
    obtain ⟨lN, n0, n1⟩ := bN.two
    have HS := Lib.hid hS
    have HINV := Lib.hid hbj.inv
    clear hS hbj
    by_cases hlt : j < S.todo.length
    · obtain ⟨tg, rfl, htb, htl, ct⟩ := own_int hown hlt
      obtain ⟨u, hu⟩ : ∃ u, S.todo[j]?.getD 0 = u := ⟨_, rfl⟩
      rw [hu] at ct
      have hum : u ∈ S.todo := by rw [← hu, List.getElem?_eq_getElem hlt]; exact List.getElem_mem hlt
      have hu0 := (HINV.out.td u).1 hum
      have HSC : Hid (∀ i, i ≤ es.length → Scan n es fl s u S (scanK es fl u S i) i) := Lib.hid (scan_is HOK.out HINV.out hum)
      have HUS := Lib.hid hu0.2.2
      have HNX : Hid (bfsK n es fl s (j + 1) = scanK es fl u S es.length) := Lib.hid (by
        have h1 : bfsK n es fl s (j + 1) = if j < (bfsK n es fl s j).todo.length then scanK es fl ((bfsK n es fl s j).todo[j]?.getD 0) (bfsK n es fl s j) es.length else bfsK n es fl s j := rfl
        rw [h1, HS.out, if_pos hlt, hu])
      have hu1 := hu0.1
      have hu2 := hu0.2.1
      have hj64 : j < 64 := by omega
      have hji : (j : Int) < (S.todo.length : Int) := by omega
      have hslen : S.todo.length ≤ 64 := by omega
      clear hu hum hu0
      go_wp2
      go_loopw [8, 34] (fun tv iv wr => ∃ i : Nat, i ≤ flen ∧ iv = .int .i64 i ∧ SrchAt w n a flen cap (scanK es fl u S i) tv wr) (fun _ iv _ => flen - (intOf iv).toNat)
      case atStart => exact ⟨0, Nat.zero_le _, rfl, bN, bM, hown, hB⟩
      case round =>
        clear bN bM hown hB ct htb htl lN n0 n1
        obtain ⟨i, hi, rfl, bN, bM, hown, hB⟩ := hrel
        obtain ⟨w4, rfl⟩ : ∃ w', w' = wr := ⟨_, rfl⟩
        obtain ⟨X, hX⟩ : ∃ X, scanK es fl u S i = X := ⟨_, rfl⟩
        have hsc := HSC.out i (by rw [HlE.out]; exact hi)
        rw [hX] at bM hown hsc
        have hXs := hsc.inv.short
        have hXu := hsc.mono u hu1 HUS.out
        obtain ⟨sa, sc', rfl⟩ := own_form hown
        have HX := Lib.hid hX
        have HXI := Lib.hid hsc.inv
        have HXU := Lib.hid hXu
        have hBs := hB.size
        clear hX hsc hXu
        by_cases hlt2 : i < flen
        · have hkl : i < es.length := by rw [HlE.out]; exact hlt2
          obtain ⟨b, off, ha, hc⟩ := (HE.out.below hB).2.2
          obtain ⟨hb, c0, c1, c2⟩ := hc i hkl
          obtain rfl : a = some ⟨b, off, none⟩ := by
            rcases ha with h | h
            · omega
            · exact h
          obtain ⟨gb, go, hga, hgc⟩ := (HF.out.below hB).2.2.int
          obtain ⟨hgb, cf⟩ := hgc i (by rw [HQ.out]; exact hkl)
          obtain rfl : fa = some ⟨gb, go, none⟩ := by
            rcases hga with h | h
            · rw [HQ.out] at h; omega
            · exact h
          have hed : ed es i = es[i] := by unfold ed; rw [List.getElem?_eq_getElem hkl]; rfl
          have ho := HOK.out _ (ed_mem hkl)
          have hfi := HFT.out _ (of_zip HQ.out hkl)
          have cf' : w4.cell? ⟨gb, go + i, none⟩ = some (.int .i64 (Gm.fa fl i)) := cf
          rw [← hed] at c0 c1 c2
          have hin := hop_in (f := Gm.fa fl i) ho hu1 hu2
          have HST : Hid (scanK es fl u S (i + 1) = Gm.look X i (hop (ed es i) (Gm.fa fl i) u)) := Lib.hid (by rw [← HX.out]; rfl)
          dsimp only at hfi
          obtain ⟨f, hf⟩ : ∃ f, Gm.fa fl i = f := ⟨_, rfl⟩
          obtain ⟨x, hx⟩ : ∃ x, ed es i = x := ⟨_, rfl⟩
          rw [hf] at cf' hin HST hfi
          rw [hx] at c0 c1 c2 ho hin HST hfi
          obtain ⟨hf0, hf1⟩ := hfi
          obtain ⟨_, _, _, _, hne, _, hx1⟩ := okE_iff.1 ho
          obtain ⟨r, hr⟩ : ∃ r, resF x f u = r := ⟨_, rfl⟩
          have HR := Lib.hid hr
          have HCAP := Lib.hid hx1
          have HF0 := Lib.hid hf0
          have HF1 := Lib.hid hf1
          have hbw := Lib.hid hB
          -- the edge's own block
          obtain ⟨w5, hw5⟩ : ∃ W, w4.alloc (.cells #[.int .i64 x.1, .int .i64 x.2.1, .int .i64 x.2.2] 50) = W := ⟨_, rfl⟩
          have bN5 : Blk w5 w.heap.size 24 #[.int .i64 (n : Int), .slice (some ⟨b, off, none⟩) flen cap] := hw5 ▸ bN.alloc _
          have bM5 : MapS w5 (w.heap.size + 1) n X := hw5 ▸ bM.alloc _
          have hown5 : w5.ownsRow (w.heap.size + 1 + 1) 3 1 (.slice sa X.todo.length sc') X.todo.length (ints X.todo) := hw5 ▸ hown.alloc _
          have hB5 : Below w.heap.size w w5 := hw5 ▸ hB.alloc hBs _
          have bE5 : Blk w5 w4.heap.size 50 #[.int .i64 x.1, .int .i64 x.2.1, .int .i64 x.2.2] := hw5 ▸ Blk.new w4 _ _
          have hcells : ∀ W, Below w5.heap.size w5 W → W.cell? ⟨w4.heap.size, 0, none⟩ = some (.int .i64 x.1) ∧ W.cell? ⟨w4.heap.size, 1, none⟩ = some (.int .i64 x.2.1) ∧ W.cell? ⟨w4.heap.size, 2, none⟩ = some (.int .i64 x.2.2) ∧ W.cell? ⟨gb, go + i, none⟩ = some (.int .i64 f) := fun W h => by
            have hE := bE5.below h bE5.lt
            refine ⟨hE.three.2.1, hE.three.2.2.1, hE.three.2.2.2, ?_⟩
            have h5 : w5.cell? ⟨gb, go + i, none⟩ = w4.cell? ⟨gb, go + i, none⟩ := by
              rw [← hw5]; exact World.cell?_alloc_lt w4 _ ⟨gb, go + i, none⟩ (by show gb < _; omega)
            exact ((h.cell (p := ⟨gb, go + i, none⟩) (by show gb < _; have := hB5.size; omega)).trans h5).trans cf'
          have HCE := Lib.hid hcells
          have HW5 := Lib.hid hw5
          have hb4 : b < w4.heap.size := by omega
          have hii : (i : Int) < (flen : Int) := by omega
          have HKL := Lib.hid hkl
          have hXs' : X.todo.length ≤ 64 := by omega
          have hz5 := hB5.size
          clear ha hc hga hgc cf cf' hf hx hed ho hkl hXs hw5 hcells bN bM hown hB hf0 hf1 hx1 hr
          have hbd := (Below.refl w5.heap.size w5).drew
          by_cases hr0 : r = 0
          · have HLK : Hid (scanK es fl u S (i + 1) = X) := Lib.hid (by
              rw [HST.out, hop_none hne (by rw [HR.out, hr0])]; unfold Gm.look; rw [if_pos HXU.out])
            subst hr0
            go_wp2
            rw [HW5.out]
            (refine region_calm (fun W => Below w5.heap.size w5 W) (by kernel_rfl) (by kernel_rfl) (hbd) ?_
             repeat (
               refine wpQuiet_step (fun K hK => ?_)
               first
                 | (refine calm_neg ?_ ?_
                    focus (go_simp; done)
                    go_simp
                    refine hK _ ?_
                    clear hK K)
                 | (apply calm_pos
                    focus (go_simp; done)
                    focus (
                      intro W hW
                      (obtain ⟨d0, d1, d2, d3⟩ := HCE.out W hW)
                      go_simp
                      first
                        | done
                        | exact rfl
                        | (go_at_call 52; (with_reducible refine (residual_any x f u _ HF0.out HF1.out HCAP.out).mono ?_); rw [HR.out]; rintro e w6 ⟨rfl, hb6⟩; exact ⟨rfl, on_below hW hb6⟩))
                    go_simp
                    refine hK _ ?_
                    clear hK K))
             refine wpQuiet_nil ?_)
            intro w6 hb6
            go_wp2
            go_roundw
            case rel => exact ⟨i + 1, by omega, by go_num, by rw [HLK.out]; exact ⟨bN5.below hb6 bN5.lt, bM5.below hb6 bM5.lt, own_below hown5 hb6, hB5.trans (hb6.mono hz5)⟩⟩
            case measure => simp [intOf]; omega
          · have g1 : (r == 0) = false := by simpa using hr0
            obtain ⟨y, hy⟩ : ∃ y, otherF x u = y := ⟨_, rfl⟩
            have hho := hop_other (x := x) (f := f) (u := u) (by rw [HR.out]; exact hr0) HF0.out HF1.out
            rw [hy] at hho
            rw [hho] at hin HST
            obtain ⟨hy0, hy1⟩ := hin
            have HY := Lib.hid hy
            obtain ⟨sn, hsn⟩ : ∃ b, has X.seen y = b := ⟨_, rfl⟩
            have HSN := Lib.hid hsn
            clear hy hho hr0 hsn
            go_wp2
            rw [HW5.out]
            (refine region_calm (fun W => Below w5.heap.size w5 W) (by kernel_rfl) (by kernel_rfl) (hbd) ?_
             repeat (
               refine wpQuiet_step (fun K hK => ?_)
               first
                 | (refine calm_neg ?_ ?_
                    focus (go_simp; done)
                    go_simp
                    refine hK _ ?_
                    clear hK K)
                 | (apply calm_pos
                    focus (go_simp; done)
                    focus (
                      intro W hW
                      (obtain ⟨d0, d1, d2, d3⟩ := HCE.out W hW)
                      go_simp
                      first
                        | done
                        | exact rfl
                        | (go_at_call 52; (with_reducible refine (residual_any x f u _ HF0.out HF1.out HCAP.out).mono ?_); rw [HR.out]; rintro e w6 ⟨rfl, hb6⟩; exact ⟨rfl, on_below hW hb6⟩))
                    go_simp
                    refine hK _ ?_
                    clear hK K))
             refine wpQuiet_nil ?_)
            intro w6 hb6
            obtain ⟨d0, d1, d2, d3⟩ := HCE.out w6 hb6
            have bN6 := bN5.below hb6 bN5.lt
            have bM6 := bM5.below hb6 bM5.lt
            have hown6 := own_below hown5 hb6
            have hB6 := hB5.trans (hb6.mono hz5)
            have hz6 := hb6.size
            have lE6 : w4.heap.size < w6.heap.size := by have := bE5.lt; omega
            clear bN5 bM5 hown5 hbd
            rcases sn with _ | _
            · have HLK : Hid (scanK es fl u S (i + 1) = ⟨X.seen.set y.toNat true, X.by_.set y.toNat i, X.todo ++ [y]⟩) := Lib.hid (by rw [HST.out]; unfold Gm.look; rw [if_neg (by rw [HSN.out]; exact Bool.false_ne_true)])
              have hi64 : (i : Int) < 1000 := by omega
              go_wp2_with (first
                | (go_at_call 51
                   (with_reducible refine (other_any x u _).mono ?_)
                   rw [HY.out]; rintro e w7 ⟨rfl, hb7⟩
                   have bN7 := bN6.below hb7 bN6.lt
                   have bM7 := bM6.below hb7 bM6.lt
                   have hown7 := own_below hown6 hb7
                   have hB7 := hB6.trans (hb7.mono hB6.size)
                   obtain ⟨c, hlk⟩ := bM7.look_ok hy0 hy1 hn64
                   rw [HSN.out] at hlk
                   obtain ⟨w8, hst, bM8, hg8⟩ := bM7.store hy0 hy1 hn64 HXI.out.sl HXI.out.bl hXs' (i := (i : Int)) (by omega) (by omega)
                   have bN8 := bN7.kept hg8 (by simp)
                   have hown8 : w8.ownsRow (w.heap.size + 1 + 1) 3 1 (.slice sa X.todo.length sc') X.todo.length (ints X.todo) := own_kept hown7 hg8 (fun g e => by have := (hown7.lt _ e).1; intro e2; injection e2 with e2; omega)
                   have hB8 := hB7.grown hg8 hB7.size (fun k e => by cases e; omega)
                   clear bN6 bM6 hown6 hB6 bN7 hown7 hB7 bM7 hg8)
                | (at_builtin
                   refine wpList_append_own _ rfl _ _ 25 rfl (w.heap.size + 1 + 1) 3 i0 _ 1 8 Try.underlying25 hi0 hx0 hx1 hx2 rfl (by decide) _ X.todo.length (ints X.todo) rfl (hown8.alloc _) ⟨w8.heap.size, 0, none⟩ 1 1 [.int .i64 y] rfl rfl (cell_one_new _ _ _) (by simp [Value.oneCell']) (by simp [maxLen]; omega) (by omega) (by have := hB8.size; have := (bM8.lt); simp; omega) ?_
                   intro v' w9 hown' hgrow hnil))
              go_roundw
              case rel =>
                refine ⟨i + 1, by omega, by go_num, ?_⟩
                rw [HLK.out]
                refine ⟨(bN8.alloc _).kept hgrow (fun e => by have := (hown8.lt _ e.symm).1; omega), (bM8.alloc _).kept hgrow (fun e => by have := (hown8.lt _ e.symm).1; omega), ?_, (hB8.alloc hB8.size _).grown hgrow (by have := hB8.size; simp; omega) (fun g e => by have := (hown8.lt _ e).1; omega)⟩
                have e1 : (X.todo ++ [y]).length = X.todo.length + 1 := by simp
                have e2 : ints (X.todo ++ [y]) = ints X.todo ++ [.int .i64 y] := by simp
                show w9.ownsRow _ _ _ _ (X.todo ++ [y]).length (ints (X.todo ++ [y]))
                rw [e1, e2]; exact hown'
              case measure => simp [intOf]; omega
            · have HLK : Hid (scanK es fl u S (i + 1) = X) := Lib.hid (by rw [HST.out]; unfold Gm.look; rw [if_pos HSN.out])
              go_wp2_with (go_at_call 51; (with_reducible refine (other_any x u _).mono ?_); rw [HY.out]; rintro e w7 ⟨rfl, hb7⟩
                           have bN7 := bN6.below hb7 bN6.lt
                           have bM7 := bM6.below hb7 bM6.lt
                           have hown7 := own_below hown6 hb7
                           have hB7 := hB6.trans (hb7.mono hB6.size)
                           obtain ⟨c, hlk⟩ := bM7.look_ok hy0 hy1 hn64
                           rw [HSN.out] at hlk
                           clear bN6 bM6 hown6 hB6)
              go_roundw
              case rel => exact ⟨i + 1, by omega, by go_num, by rw [HLK.out]; exact ⟨bN7, bM7, hown7, hB7⟩⟩
              case measure => simp [intOf]; omega
        · obtain rfl : i = flen := by omega
          have HLL : Hid (X = bfsK n es fl s (j + 1)) := Lib.hid (by rw [← HX.out, HNX.out, HlE.out])
          go_wp2
          go_roundw
          case rel => exact ⟨j + 1, by omega, by go_num, by rw [← HLL.out]; exact ⟨bN, bM, hown, hB⟩⟩
          case measure => simp [intOf]; omega
    · have HLL : Hid (S = bfs n es fl s) := Lib.hid (by rw [← HS.out]; exact HBE.out (by rw [HS.out]; omega))
      go_wp2
      go_ret
      rw [← HLL.out]
      exact ⟨w.heap.size + 1, rfl, bM, by omega, hB⟩
end Go.Proofs.Ythchlfoebkachaa

namespace Go.Proofs.Ythchlfoebkachaa
open Go.RowKit Gm

/-- Where a leg comes from. -/
def fromL (es : List E) (p : Leg) : Int := if p.2 then (ed es p.1).1 else (ed es p.1).2.1
/-- The cells of steps, one behind the other. -/
def flatS (es : List E) (l : List Leg) : List Value := l.flatMap fun p => [.int .i64 (p.1 : Int), .int .i64 (fromL es p)]
theorem flatS_snoc (es : List E) (l : List Leg) (p : Leg) : flatS es (l ++ [p]) = flatS es l ++ [.int .i64 (p.1 : Int), .int .i64 (fromL es p)] := by simp [flatS]
theorem flatS_at (es : List E) (l : List Leg) (i : Nat) (h : i < l.length) : (flatS es l)[i * 2]? = some (.int .i64 (l[i].1 : Int)) ∧ (flatS es l)[i * 2 + 1]? = some (.int .i64 (fromL es l[i])) := by
  induction l generalizing i with
  | nil => simp at h
  | cons e l ih =>
    cases i with
    | zero => simp [flatS]
    | succ i =>
      have := ih i (by simpa using h)
      simp only [flatS, List.flatMap_cons, List.getElem_cons_succ] at this ⊢
      refine ⟨?_, ?_⟩
      · rw [List.getElem?_append_right (by simp; omega)]
        simp only [List.length_cons, List.length_nil]
        rw [show (i + 1) * 2 - (0 + 1 + 1) = i * 2 by omega]; exact this.1
      · rw [List.getElem?_append_right (by simp; omega)]
        simp only [List.length_cons, List.length_nil]
        rw [show (i + 1) * 2 + 1 - (0 + 1 + 1) = i * 2 + 1 by omega]; exact this.2
/-- THE SLICE AT a HOLDS THE STEPS OF THE LEGS l, in a block from A on, below B. -/
def StepsAt (A B : Nat) (W : World) (a : Option Addr) (es : List E) (l : List Leg) : Prop :=
  ∃ b off, (l.length = 0 ∨ a = some ⟨b, off, none⟩) ∧ ∀ i (h : i < l.length), A ≤ b ∧ b < B ∧ W.cell? ⟨b, off + i * 2, none⟩ = some (.int .i64 (l[i].1 : Int)) ∧ W.cell? ⟨b, off + i * 2 + 1, none⟩ = some (.int .i64 (fromL es l[i]))
theorem StepsAt.below {A B : Nat} {W W' : World} {a : Option Addr} {es : List E} {l : List Leg} (h : StepsAt A B W a es l) (hb : Below B W W') : StepsAt A B W' a es l := by
  obtain ⟨b, off, h0, h1⟩ := h
  refine ⟨b, off, h0, fun i hi => ?_⟩
  obtain ⟨hA, hl, c0, c1⟩ := h1 i hi
  exact ⟨hA, hl, (hb.cell (p := ⟨b, off + i * 2, none⟩) hl).trans c0, (hb.cell (p := ⟨b, off + i * 2 + 1, none⟩) hl).trans c1⟩
theorem StepsAt.more {A B B' : Nat} {W : World} {a : Option Addr} {es : List E} {l : List Leg} (h : StepsAt A B W a es l) (hb : B ≤ B') : StepsAt A B' W a es l := by
  obtain ⟨b, off, h0, h1⟩ := h
  exact ⟨b, off, h0, fun i hi => ⟨(h1 i hi).1, Nat.lt_of_lt_of_le (h1 i hi).2.1 hb, (h1 i hi).2.2⟩⟩
theorem steps_own {W : World} {base A : Nat} {a : Option Addr} {len cap : Nat} {es : List E} {l : List Leg} (h : W.ownsRow base 85 2 (.slice a len cap) l.length (flatS es l)) (hA : A ≤ base) : StepsAt A W.heap.size W a es l := by
  rcases h.2 with ⟨h1, h2⟩ | ⟨g, cap', cur, hv, hb, hg, hle, hm, hs, ht⟩
  · injection h1 with e1 e2 e3
    subst e1 e2
    exact ⟨0, 0, .inl h2, fun i hi => by omega⟩
  · injection hv with e1 e2 e3
    subst e1 e2
    refine ⟨g, 0, .inr rfl, fun i hi => ?_⟩
    have hlt : g < W.heap.size := (Array.getElem?_eq_some_iff.1 hg).1
    have hat : ∀ j, j < l.length * 2 → W.cell? ⟨g, j, none⟩ = (flatS es l)[j]? := fun j hj => by
      rw [cell_of_row W g j cur 85 (0, 0) hg, ← ht, List.getElem?_take_of_lt hj, Array.getElem?_toList]
    obtain ⟨f0, f1⟩ := flatS_at es l i hi
    refine ⟨by omega, hlt, ?_, ?_⟩
    · rw [Nat.zero_add, hat _ (by omega), f0]
    · rw [Nat.zero_add, hat _ (by omega), f1]
theorem infoStep : (Try.prog.info? 85).map (fun i => (i.zero, i.size, i.bytes)) = some (some (.agg #[.int .i64 0, .int .i64 0]), 2, 16) := by kernel_rfl
theorem cells_two (w : World) (x y : Value) (t : TypeId) : ∀ j u, [x, y][j]? = some u → (w.alloc (.cells #[x, y] t)).cell? ((⟨w.heap.size, 0, none⟩ : Addr).add j) = some u := by
  intro j u hj
  have h : (w.alloc (.cells #[x, y] t)).heap[w.heap.size]? = some (.cells #[x, y] t (0, 0)) := World.alloc_heap_new w _
  have hadd : (⟨w.heap.size, 0, none⟩ : Addr).add j = ⟨w.heap.size, j, none⟩ := by unfold Addr.add; split <;> simp_all
  rw [hadd, cell_of_row _ _ _ _ _ _ h]
  simpa using hj
/-- What nextPath answers. -/
def pathF (n : Nat) (es : List E) (fl : List Int) (s t : Int) : List Leg := if has (bfs n es fl s).seen t then next n es fl s t else []
def PathPost (es : List E) (l : List Leg) (w : World) (e : Ending) (w' : World) : Prop :=
  ∃ a c, e = .returned (.slice a l.length c) ∧ StepsAt w.heap.size w'.heap.size w' a es l ∧ Below w.heap.size w w'

set_option maxRecDepth 100000 in
set_option maxHeartbeats 4000000 in
theorem nextPath_any (n : Nat) (a : Option Addr) (len cap : Nat) (es : List E) (fa : Option Addr) (flen fcap : Nat) (fl : List Int) (s t : Int) (w : World) (hE : NetAt w.heap.size w a len es) (hF : FlowAt w.heap.size w fa flen fl) (hft : fits n es fl = true) (s0 : 0 ≤ s) (s1 : s < n) (t0 : 0 ≤ t) (t1 : t < n) :
    Calls Try.prog 39 #[netV n a len cap, .slice fa flen fcap, .int .i64 s, .int .i64 t] w (PathPost es (pathF n es fl s t) w) := by
  obtain ⟨hr, hl, hfit⟩ := fits_iff.1 hft
  have hri := right_iff.1 hr
  have hn64 : n ≤ 64 := by omega
  have hlen : len ≤ 256 := by have := hri.2.2.1; rw [hE.1] at this; omega
  have HlE := Lib.hid hE.1
  have HE := Lib.hid hE
  have HF := Lib.hid hF
  have HFT := Lib.hid hft
  obtain ⟨S, hS⟩ : ∃ S, bfs n es fl s = S := ⟨_, rfl⟩
  have HI : Hid (Inv n es fl s S) := Lib.hid (by rw [← hS]; exact (bfs_is hri.2.2.2 s0 s1 n (fl := fl)).inv)
  have HES : Hid (∀ e ∈ es, okE n e = true) := Lib.hid hri.2.2.2
  have HS := Lib.hid hS
  obtain ⟨b0, hb0⟩ : ∃ b, has S.seen t = b := ⟨_, rfl⟩
  have HB0 := Lib.hid hb0
  have hsh := HI.out.short
  obtain ⟨i0, hi0, hx0, hx1, hx2⟩ := info_parts infoStep
  clear hri hE hF hl hr hft hfit hS hb0
  obtain ⟨W0, hW0⟩ : ∃ W0, w.alloc (.cells #[.int .i64 (n : Int), .slice a len cap] 24) = W0 := ⟨_, rfl⟩
  have hB0 : Below w.heap.size w W0 := by rw [← hW0]; exact (Below.refl _ w).alloc (Nat.le_refl _) _
  have bN : Blk W0 w.heap.size 24 #[.int .i64 (n : Int), .slice a len cap] := by rw [← hW0]; exact Blk.new w _ _
  have HW0 := Lib.hid hW0
  have hz0 := hB0.size
  clear hW0
  rcases b0 with _ | _
  · have HPF : Hid (pathF n es fl s t = []) := Lib.hid (by unfold pathF; rw [HS.out, HB0.out]; simp)
    go_enter Try.func39, Try.ntmps39
    go_wp2_with (go_at_call 50; rw [HW0.out]; (with_reducible refine (search_any n _ _ _ es _ _ _ fl s _ ((HE.out.below hB0).more hz0) ((HF.out.below hB0).more hz0) HFT.out s0 s1).mono ?_); rw [HS.out]; rintro e w1 ⟨g, rfl, bM, hg, hb1⟩
                 obtain ⟨c, hlk⟩ := bM.look_ok t0 t1 hn64
                 rw [HB0.out] at hlk)
    go_ret
    rw [HPF.out]
    exact ⟨none, 0, rfl, ⟨0, 0, .inl rfl, fun i hi => by simp at hi⟩, hB0.trans (hb1.mono hz0)⟩
  · have HPF : Hid (pathF n es fl s t = along es S.by_ s 64 t) := Lib.hid (by unfold pathF Gm.next; rw [HS.out, HB0.out]; simp)
    obtain ⟨p0, hp0, hp0e⟩ := List.getElem_of_mem ((HI.out.td t).2 ⟨t0, t1, HB0.out⟩)
    have hpt : S.todo[p0]? = some t := (List.getElem?_eq_getElem hp0).trans (congrArg some hp0e)
    have hp63 : p0 ≤ 63 := by omega
    have HPT := Lib.hid hpt
    clear hpt hp0e hp0
    go_enter Try.func39, Try.ntmps39
    go_wp2_with (go_at_call 50; rw [HW0.out]; (with_reducible refine (search_any n _ _ _ es _ _ _ fl s _ ((HE.out.below hB0).more hz0) ((HF.out.below hB0).more hz0) HFT.out s0 s1).mono ?_); rw [HS.out]; rintro e w1 ⟨g, rfl, bM, hg, hb1⟩
                 obtain ⟨c, hlk⟩ := bM.look_ok t0 t1 hn64
                 rw [HB0.out] at hlk)
    have bN1 := bN.below hb1 bN.lt
    have hB1 := hB0.trans (hb1.mono hz0)
    have hz1 := hB1.size
    have lM1 := bM.lt
    have lN1 := bN1.lt
    clear hb1 hlk
    go_loopw [12, 13] (fun pv vv wr => ∃ (k p : Nat) (v : Int) (d : List Leg), vv = .int .i64 v ∧ Hid (S.todo[p]? = some v ∧ along es S.by_ s 64 t = d ++ along es S.by_ s (64 - k) v) ∧ p + k ≤ 63 ∧ d.length = k ∧ wr.ownsRow w1.heap.size 85 2 pv d.length (flatS es d) ∧ Below w1.heap.size w1 wr) (fun pv _ _ => 64 - (match pv with | .slice _ l _ => l | _ => 0))
    case atStart => exact ⟨0, p0, t, [], rfl, Lib.hid ⟨HPT.out, by simp⟩, by omega, rfl, ⟨rfl, .inl ⟨rfl, rfl⟩⟩, Below.refl _ _⟩
    case round =>
      obtain ⟨k, p, v, d, rfl, hin, hpk, hdk, hown, hB⟩ := hrel
      obtain ⟨w2, rfl⟩ : ∃ w', w' = wr := ⟨_, rfl⟩
      have hv0 := (HI.out.td v).1 (List.mem_of_getElem? hin.out.1)
      have hv1 := hv0.1
      have hv2 := hv0.2.1
      have hv3 := hv0.2.2
      have HD := Lib.hid hdk
      obtain ⟨pa, pc, rfl⟩ := own_form hown
      have bN2 := bN1.below hB lN1
      have bM2 := bM.below hB lM1
      have hBs := hB.size
      clear hv0 hdk
      by_cases hvs : v = s
      · have t1 : (v == s) = true := by simp [hvs]
        have t2 : (v != s) = false := by simp [hvs]
        have HL : Hid (along es S.by_ s 64 t = d) := Lib.hid (by rw [hin.out.2, hvs, along_end]; simp)
        have hd63 : d.length ≤ 63 := by have := HD.out; omega
        clear hvs
        go_wp2
        go_ret
        rw [HPF.out, HL.out]
        exact ⟨pa, pc, rfl, steps_own hown hz1, hB1.trans (hB.mono hz1)⟩
      · have t1 : (v == s) = false := by simp [hvs]
        have t2 : (v != s) = true := by simp [hvs]
        have hpre := HI.out.pre p v hin.out.1
        have hp : p ≠ 0 := fun e => by
          subst e
          have := hin.out.1.symm.trans HI.out.head
          exact hvs (Option.some.inj this)
        rcases hpre with h | ⟨i, hil, hby, p', u, hp', hpu, hne, hhop⟩
        · exact absurd h hp
        have hst := along_step (es := es) (k := 64 - (k + 1)) hvs hby
        have hfuel : 64 - k = 64 - (k + 1) + 1 := by omega
        have hhn : hop (ed es i) (Gm.fa fl i) u ≠ u := by rw [hhop]; exact fun e => hne e.symm
        have hnx : (if (ed es i).2.1 = v then (ed es i).1 else (ed es i).2.1) = u := by
          rcases hop_ne hhn with ⟨a1, _, c1⟩ | ⟨a1, _, c1⟩
          · rw [if_pos (by rw [← c1, hhop]), a1]
          · rw [if_neg (by rw [a1]; exact hne), a1]
        have hoth : otherF (ed es i) v = u := by
          have hok := (okE_iff.1 (HES.out _ (ed_mem hil))).2.2.2.2.1
          unfold otherF
          rcases hop_ne hhn with ⟨a1, _, c1⟩ | ⟨a1, _, c1⟩
          · rw [if_neg (by rw [a1]; exact fun e => hne e.symm), a1]
          · rw [if_pos (by rw [← c1, hhop]), a1]
        have hfl : fromL es (i, (ed es i).2.1 == v) = u := by
          unfold fromL
          rw [← hnx]
          by_cases e : (ed es i).2.1 = v
          · simp [e]
          · have : ((ed es i).2.1 == v) = false := by simpa using e
            simp [this, e]
        have HIN : Hid (along es S.by_ s 64 t = (d ++ [(i, (ed es i).2.1 == v)]) ++ along es S.by_ s (64 - (k + 1)) u) := Lib.hid (by
          rw [hin.out.2, hfuel, hst, hnx]; simp)
        have HPU := Lib.hid hpu
        have hlk := bM2.look hv1 hv2 hn64 hv3
        rw [show S.by_[v.toNat]?.getD 0 = (i : Int) by rw [hby]; rfl] at hlk
        obtain ⟨b, off, ha, hc⟩ := (HE.out.below (hB1.trans (hB.mono hz1))).2.2
        obtain ⟨hb, c0, c1, c2⟩ := hc i hil
        obtain rfl : a = some ⟨b, off, none⟩ := by
          rcases ha with h | h
          · omega
          · exact h
        have hed : ed es i = es[i] := by unfold ed; rw [List.getElem?_eq_getElem hil]; rfl
        rw [← hed] at c0 c1 c2
        obtain ⟨x, hx⟩ : ∃ x, ed es i = x := ⟨_, rfl⟩
        have HX := Lib.hid hx
        rw [hx] at c0 c1 c2 hoth hfl HIN
        have HOT := Lib.hid hoth
        have HFL := Lib.hid hfl
        have hilen : i < len := by rw [← HlE.out]; exact hil
        have hii : (i : Int) < (len : Int) := by omega
        have hb2 : b < w2.heap.size := by omega
        have hd64 : d.length ≤ 63 := by have := HD.out; omega
        obtain ⟨lN2, n20, n21⟩ := bN2.two
        clear ha hc hed hx hst hfuel hhn hhop hby hpu hvs hil hnx hoth hfl bM2
        go_wp2_with (first
          | (go_at_call 51; (with_reducible refine (other_any x v _).mono ?_); rw [HOT.out]; rintro e w3 ⟨rfl, hb3⟩
             have hown3 := own_below hown hb3
             have hB3 := hB.trans (hb3.mono hBs)
             have hz3 := hB3.size
             clear hb3)
          | (at_builtin
             refine wpList_append_own _ rfl _ _ 68 rfl w1.heap.size 85 i0 _ 2 16 Try.underlying68 hi0 hx0 hx1 hx2 rfl (by decide) _ d.length (flatS es d) rfl (hown3.alloc _) ⟨w3.heap.size, 0, none⟩ 1 1 [.int .i64 (i : Int), .int .i64 u] rfl rfl (cells_two _ _ _ _) (by simp [Value.oneCell']) (by simp [maxLen]; omega) (by omega) (by simp; omega) ?_
             intro v' w4 hown' hgrow hnil))
        obtain ⟨g', cap', rfl⟩ := ownsRow_succ hown'
        go_roundw
        case rel =>
          refine ⟨k + 1, p', u, d ++ [(i, x.2.1 == v)], rfl, Lib.hid ⟨HPU.out, HIN.out⟩, by omega, by simp; exact HD.out, ?_, (hB3.alloc hz3 _).grown hgrow (by simp; omega) (fun j e => by have := (hown3.lt j e).1; omega)⟩
          rw [flatS_snoc, HFL.out, List.length_append]
          exact hown'
        case measure => show 64 - (d.length + 1) < 64 - d.length; omega
end Go.Proofs.Ythchlfoebkachaa

namespace Go.Proofs.Ythchlfoebkachaa
open Go.RowKit Gm

theorem res_spare {n : Int} {es : List E} {fl : List Int} {p : Leg} (h : okE n (ed es p.1) = true) : resF (ed es p.1) (Gm.fa fl p.1) (fromL es p) = spare es fl p := by
  have hne := (okE_iff.1 h).2.2.2.2.1
  unfold resF fromL spare
  rcases p.2 with _ | _
  · simp only [Bool.false_eq_true, if_false, if_true]
    rw [if_neg (fun e => hne e.symm)]
  · simp

set_option maxRecDepth 100000 in
set_option maxHeartbeats 4000000 in
theorem room_any (n : Nat) (a : Option Addr) (len cap : Nat) (es : List E) (fa : Option Addr) (flen fcap : Nat) (fl : List Int) (pa : Option Addr) (pc A : Nat) (l : List Leg) (w : World) (hE : NetAt w.heap.size w a len es) (hF : FlowAt w.heap.size w fa flen fl) (hft : fits n es fl = true) (hL : StepsAt A w.heap.size w pa es l) (hli : ∀ p ∈ l, p.1 < es.length) (hl64 : l.length ≤ 64) :
    Calls Try.prog 40 #[netV n a len cap, .slice fa flen fcap, .slice pa l.length pc] w fun e w' => e = .returned (.int .i64 (roomOf es fl l 1073741824)) ∧ Below w.heap.size w w' := by
  obtain ⟨hr, hl, hfit⟩ := fits_iff.1 hft
  have hri := right_iff.1 hr
  have hlen : len ≤ 256 := by have := hri.2.2.1; rw [hE.1] at this; omega
  have HlE := Lib.hid hE.1
  have hql : flen = len := by rw [← hF.1, ← hE.1]; exact hl
  have HQ := Lib.hid hl
  have HE := Lib.hid hE
  have HF := Lib.hid hF
  have HFT := Lib.hid hfit
  have HES : Hid (∀ e ∈ es, okE n e = true) := Lib.hid hri.2.2.2
  have HL := Lib.hid hL
  have HLI := Lib.hid hli
  clear hri hE hF hl hr hft hfit hL hli
  subst hql
  go_enter Try.func40, Try.ntmps40
  go_wp2
  go_loopw [7, 12] (fun rv kv wr => ∃ k : Nat, k ≤ l.length ∧ kv = .int .i64 k ∧ rv = .int .i64 (roomOf es fl (l.take k) 1073741824) ∧ Blk wr w.heap.size 24 #[.int .i64 (n : Int), .slice a flen cap] ∧ Below w.heap.size w wr) (fun _ kv _ => l.length - (intOf kv).toNat)
  case atStart => exact ⟨0, Nat.zero_le _, rfl, rfl, Blk.new w _ _, (Below.refl _ w).alloc (Nat.le_refl _) _⟩
  case round =>
    obtain ⟨k, hk, rfl, rfl, bN, hB⟩ := hrel
    obtain ⟨w1, rfl⟩ : ∃ w', w' = wr := ⟨_, rfl⟩
    have hBs := hB.size
    by_cases hlk : k < l.length
    · obtain ⟨p, hp⟩ : ∃ p, l[k] = p := ⟨_, rfl⟩
      have hpe := HLI.out p (by rw [← hp]; exact List.getElem_mem hlk)
      obtain ⟨sb, so, hsa, hsc⟩ := HL.out.below hB
      obtain ⟨_, hsb, s0, s1⟩ := hsc k hlk
      obtain rfl : pa = some ⟨sb, so, none⟩ := by
        rcases hsa with h | h
        · omega
        · exact h
      rw [hp] at s0 s1
      obtain ⟨b, off, ha, hc⟩ := (HE.out.below hB).2.2
      obtain ⟨hb, c0, c1, c2⟩ := hc p.1 hpe
      obtain rfl : a = some ⟨b, off, none⟩ := by
        rcases ha with h | h
        · omega
        · exact h
      obtain ⟨gb, go, hga, hgc⟩ := (HF.out.below hB).2.2.int
      obtain ⟨hgb, cf⟩ := hgc p.1 (by rw [HQ.out]; exact hpe)
      obtain rfl : fa = some ⟨gb, go, none⟩ := by
        rcases hga with h | h
        · rw [HQ.out] at h; omega
        · exact h
      have hed : ed es p.1 = es[p.1] := by unfold ed; rw [List.getElem?_eq_getElem hpe]; rfl
      rw [← hed] at c0 c1 c2
      have ho := HES.out _ (ed_mem hpe)
      have hrs := res_spare (fl := fl) (p := p) ho
      have hfi := HFT.out _ (of_zip HQ.out hpe)
      dsimp only at hfi
      have hst := room_take (es := es) (fl := fl) (d := 1073741824) hlk
      rw [hp, ← hrs] at hst
      have cf' : w1.cell? ⟨gb, go + p.1, none⟩ = some (.int .i64 (Gm.fa fl p.1)) := cf
      have hx1 := (okE_iff.1 ho).2.2.2.2.2.2
      obtain ⟨f, hf⟩ : ∃ f, Gm.fa fl p.1 = f := ⟨_, rfl⟩
      obtain ⟨x, hx⟩ : ∃ x, ed es p.1 = x := ⟨_, rfl⟩
      obtain ⟨u, hu⟩ : ∃ u, fromL es p = u := ⟨_, rfl⟩
      obtain ⟨R, hR⟩ : ∃ R, roomOf es fl (l.take k) 1073741824 = R := ⟨_, rfl⟩
      obtain ⟨i, j⟩ := p
      dsimp only at *
      rw [hu] at s1 hst
      rw [hx] at c0 c1 c2 hst hx1 hfi
      rw [hf] at cf' hst hfi
      rw [hR] at hst ⊢
      obtain ⟨hf0, hf1⟩ := hfi
      obtain ⟨r, hr⟩ : ∃ r, resF x f u = r := ⟨_, rfl⟩
      rw [hr] at hst
      have HR := Lib.hid hr
      have HF0 := Lib.hid hf0
      have HF1 := Lib.hid hf1
      have HX1 := Lib.hid hx1
      have HST : Hid (roomOf es fl (l.take (k + 1)) 1073741824 = if r < R then r else R) := Lib.hid (by rw [hst, min_if])
      have hilen : i < flen := by rw [← HlE.out]; exact hpe
      have hii : (i : Int) < (flen : Int) := by omega
      have hkk : (k : Int) < (l.length : Int) := by omega
      obtain ⟨w2, hw2⟩ : ∃ W, w1.alloc (.cells #[.int .i64 (i : Int), .int .i64 u] 85) = W := ⟨_, rfl⟩
      have bN2 : Blk w2 w.heap.size 24 #[.int .i64 (n : Int), .slice (some ⟨b, off, none⟩) flen cap] := hw2 ▸ bN.alloc _
      have hB2 : Below w.heap.size w w2 := hw2 ▸ hB.alloc hBs _
      have bP2 : Blk w2 w1.heap.size 85 #[.int .i64 (i : Int), .int .i64 u] := hw2 ▸ Blk.new w1 _ _
      have hz2 := hB2.size
      have hcells : ∀ W, Below w2.heap.size w2 W → W.cell? ⟨w.heap.size, 1, none⟩ = some (.slice (some ⟨b, off, none⟩) flen cap) ∧ W.cell? ⟨w1.heap.size, 0, none⟩ = some (.int .i64 (i : Int)) ∧ W.cell? ⟨w1.heap.size, 1, none⟩ = some (.int .i64 u) ∧
          W.cell? ⟨b, off + i * 3, none⟩ = some (.int .i64 x.1) ∧ W.cell? ⟨b, off + i * 3 + 1, none⟩ = some (.int .i64 x.2.1) ∧ W.cell? ⟨b, off + i * 3 + 2, none⟩ = some (.int .i64 x.2.2) ∧ W.cell? ⟨gb, go + i, none⟩ = some (.int .i64 f) := fun W h => by
        have hP := bP2.below h bP2.lt
        have key : ∀ q o v, q < w.heap.size → w1.cell? ⟨q, o, none⟩ = some v → W.cell? ⟨q, o, none⟩ = some v := fun q o v hq hv => by
          have h5 : w2.cell? ⟨q, o, none⟩ = w1.cell? ⟨q, o, none⟩ := by
            rw [← hw2]; exact World.cell?_alloc_lt w1 _ ⟨q, o, none⟩ (by show q < _; omega)
          exact ((h.cell (p := ⟨q, o, none⟩) (by show q < _; omega)).trans h5).trans hv
        exact ⟨(bN2.below h bN2.lt).two.2.2, hP.two.2.1, hP.two.2.2, key _ _ _ hb c0, key _ _ _ hb c1, key _ _ _ hb c2, key _ _ _ hgb cf'⟩
      have HCE := Lib.hid hcells
      have HW2 := Lib.hid hw2
      have hbd := (Below.refl w2.heap.size w2).drew
      have hsb1 : sb < w1.heap.size := by omega
      clear hcells hw2 cf cf' c0 c1 c2 hf hx hu hR hr hst hf0 hf1 hx1 hed ho hrs hga hgc ha hc hsa hsc bN hB hp hpe
      go_wp2
      rw [HW2.out]
      (refine region_calm (fun W => Below w2.heap.size w2 W) (by kernel_rfl) (by kernel_rfl) (hbd) ?_
       repeat (
         refine wpQuiet_step (fun K hK => ?_)
         first
           | (refine calm_neg ?_ ?_
              focus (go_simp; done)
              go_simp
              refine hK _ ?_
              clear hK K)
           | (apply calm_pos
              focus (go_simp; done)
              focus (
                intro W hW
                (obtain ⟨d0, d1, d2, d3, d4, d5, d6⟩ := HCE.out W hW)
                go_simp
                first
                  | done
                  | exact rfl
                  | (go_at_call 52; (with_reducible refine (residual_any x f u _ HF0.out HF1.out HX1.out).mono ?_); rw [HR.out]; rintro e w6 ⟨rfl, hb6⟩; exact ⟨rfl, on_below hW hb6⟩))
              go_simp
              refine hK _ ?_
              clear hK K))
       refine wpQuiet_nil ?_)
      intro w6 hb6
      go_wp2
      go_roundw
      case rel => exact ⟨k + 1, by omega, by go_num, by rw [HST.out], bN2.below hb6 bN2.lt, hB2.trans (hb6.mono hz2)⟩
      case measure => simp [intOf]; omega
    · obtain rfl : k = l.length := by omega
      have HRR : Hid (roomOf es fl (l.take l.length) 1073741824 = roomOf es fl l 1073741824) := Lib.hid (by rw [List.take_length])
      go_wp2
      go_ret
      exact ⟨ret_int HRR.out, hB⟩
set_option maxRecDepth 100000 in
set_option maxHeartbeats 4000000 in
theorem add_any (n : Nat) (a : Option Addr) (len cap : Nat) (es : List E) (g flen oc base B : Nat) (fl : List Int) (pa : Option Addr) (pc A : Nat) (l : List Leg) (d : Int) (w : World) (hE : NetAt B w a len es) (hB0 : B ≤ g) (hown : w.ownsRow base 3 1 (.slice (some ⟨g, 0, none⟩) flen oc) flen (ints fl)) (hft : fits n es fl = true) (hL : StepsAt A w.heap.size w pa es l) (hA : g < A)
    (hli : ∀ p ∈ l, p.1 < es.length) (hnd : (l.map (·.1)).Nodup) (hl64 : l.length ≤ 64) (hd0 : 0 ≤ d) (hd : ∀ p ∈ l, d ≤ spare es fl p) :
    Calls Try.prog 41 #[netV n a len cap, .slice (some ⟨g, 0, none⟩) flen oc, .slice pa l.length pc, .int .i64 d] w fun e w' => e = .returned (.tuple #[]) ∧ w'.ownsRow base 3 1 (.slice (some ⟨g, 0, none⟩) flen oc) flen (ints (puts fl l d)) ∧ w.grownBy w' (some g) := by
  obtain ⟨hr, hl, hfit⟩ := fits_iff.1 hft
  have hri := right_iff.1 hr
  have hlen : len ≤ 256 := by have := hri.2.2.1; rw [hE.1] at this; omega
  have HlE := Lib.hid hE.1
  have hfl : fl.length = flen := by have := hown.1; simpa using this
  have hql : flen = len := by rw [← hfl, hl, hE.1]
  have HQ := Lib.hid hl
  have HFL := Lib.hid hfl
  have HE := Lib.hid hE
  have HFT := Lib.hid hfit
  have HES : Hid (∀ e ∈ es, okE n e = true) := Lib.hid hri.2.2.2
  have HL := Lib.hid hL
  have HLI := Lib.hid hli
  have HND := Lib.hid hnd
  have HD := Lib.hid hd
  have hgw := (hown.lt g rfl).2
  have hgb := (hown.lt g rfl).1
  clear hri hE hl hr hft hfit hL hli hnd hd hfl
  subst hql
  have hg0 : ∀ o, w.grownBy (w.alloc o) (some g) := fun o => (World.grownBy_alloc w o none).but _
  go_enter Try.func41, Try.ntmps41
  go_wp2
  go_loopw [12] (fun kv wr => ∃ k : Nat, k ≤ l.length ∧ kv = .int .i64 k ∧ Blk wr w.heap.size 24 #[.int .i64 (n : Int), .slice a flen cap] ∧ wr.ownsRow base 3 1 (.slice (some ⟨g, 0, none⟩) flen oc) flen (ints (puts fl (l.take k) d)) ∧ w.grownBy wr (some g)) (fun kv _ => l.length - (intOf kv).toNat)
  case atStart => exact ⟨0, Nat.zero_le _, rfl, Blk.new w _ _, hown.alloc _, hg0 _⟩
  case round =>
    clear hown hg0
    obtain ⟨k, hk, rfl, bN, hown, hG⟩ := hrel
    obtain ⟨w1, rfl⟩ : ∃ w', w' = wr := ⟨_, rfl⟩
    have hBs := hG.size
    have lN1 := bN.lt
    by_cases hlk : k < l.length
    · obtain ⟨p, hp⟩ : ∃ p, l[k] = p := ⟨_, rfl⟩
      have hpm : p ∈ l := by rw [← hp]; exact List.getElem_mem hlk
      have hpe := HLI.out p hpm
      obtain ⟨sb, so, hsa, hsc⟩ := HL.out
      obtain ⟨hsA, hsb, s0, s1⟩ := hsc k hlk
      obtain rfl : pa = some ⟨sb, so, none⟩ := by
        rcases hsa with h | h
        · omega
        · exact h
      rw [hp] at s0 s1
      obtain ⟨b, off, ha, hc⟩ := HE.out.2.2
      obtain ⟨hb, c0, c1, c2⟩ := hc p.1 hpe
      obtain rfl : a = some ⟨b, off, none⟩ := by
        rcases ha with h | h
        · omega
        · exact h
      have hed : ed es p.1 = es[p.1] := by unfold ed; rw [List.getElem?_eq_getElem hpe]; rfl
      rw [← hed] at c0 c1 c2
      have ho := HES.out _ (ed_mem hpe)
      have hne := (okE_iff.1 ho).2.2.2.2.1
      have hx1 := (okE_iff.1 ho).2.2.2.2.2.2
      have hfi := HFT.out _ (of_zip HQ.out hpe)
      dsimp only at hfi
      have hsp := HD.out p hpm
      unfold spare at hsp
      have hold : Gm.fa (puts fl (l.take k) d) p.1 = Gm.fa fl p.1 := (puts_at d (l.take k) fl p.1 (fun q hq => by rw [HQ.out]; exact HLI.out q (List.mem_of_mem_take hq)) (by rw [List.map_take]; exact HND.out.sublist (List.take_sublist _ _))).2 (by
        have h := nodup_take HND.out (k := k) (by simpa using hlk)
        rw [List.map_take]
        simpa [hp] using h)
      have hst := puts_take (fl := fl) (d := d) hlk
      rw [hp] at hst
      unfold put at hst
      rw [hold] at hst
      obtain ⟨C, hC⟩ : ∃ C, puts fl (l.take k) d = C := ⟨_, rfl⟩
      rw [hC] at hst hown hold
      have hCl : C.length = flen := by rw [← hC, puts_length, HFL.out]
      have hilen : p.1 < flen := by rw [← HlE.out]; exact hpe
      have cf := hown.cellAt p.1 (by omega)
      have cf0 : (ints C)[p.1]? = some (.int .i64 (Gm.fa C p.1)) := by
        unfold Gm.fa
        rw [List.getElem?_map, List.getElem?_eq_getElem (by omega)]; rfl
      rw [cf0, hold] at cf
      have hu : fromL es p = if p.2 then (ed es p.1).1 else (ed es p.1).2.1 := rfl
      obtain ⟨f, hf⟩ : ∃ f, Gm.fa fl p.1 = f := ⟨_, rfl⟩
      obtain ⟨x, hx⟩ : ∃ x, ed es p.1 = x := ⟨_, rfl⟩
      rw [hf] at cf hst hfi hsp
      rw [hx] at c0 c1 c2 hne hx1 hfi hsp hu
      obtain ⟨hf0, hf1⟩ := hfi
      obtain ⟨i, j⟩ := p
      dsimp only at *
      have hii : (i : Int) < (flen : Int) := by omega
      have hkk : (k : Int) < (l.length : Int) := by omega
      have HCL := Lib.hid hCl
      have HST := Lib.hid hst
      obtain ⟨u, hu'⟩ : ∃ u, fromL es (i, j) = u := ⟨_, rfl⟩
      rw [hu'] at s1 hu
      obtain ⟨w2, hw2⟩ : ∃ W, w1.alloc (.cells #[.int .i64 (i : Int), .int .i64 u] 85) = W := ⟨_, rfl⟩
      have bN2 : Blk w2 w.heap.size 24 #[.int .i64 (n : Int), .slice (some ⟨b, off, none⟩) flen cap] := hw2 ▸ bN.alloc _
      have hG2 : w.grownBy w2 (some g) := hw2 ▸ hG.trans ((World.grownBy_alloc w1 _ none).but _)
      have bP2 : Blk w2 w1.heap.size 85 #[.int .i64 (i : Int), .int .i64 u] := hw2 ▸ Blk.new w1 _ _
      have hown2 : w2.ownsRow base 3 1 (.slice (some ⟨g, 0, none⟩) flen oc) flen (ints C) := hw2 ▸ hown.alloc _
      have key : ∀ q o v, q < w.heap.size → q ≠ g → w.cell? ⟨q, o, none⟩ = some v → w2.cell? ⟨q, o, none⟩ = some v := fun q o v hq hne hv => hG2.cell hv (fun e => hne (by injection e))
      have key1 : ∀ q o v, q < w.heap.size → q ≠ g → w.cell? ⟨q, o, none⟩ = some v → w1.cell? ⟨q, o, none⟩ = some v := fun q o v hq hne hv => hG.cell hv (fun e => hne (by injection e))
      have hbg : b < g := by omega
      have hb2 : b < w2.heap.size := by have := hG2.size; omega
      have hsb2 : sb < w2.heap.size := by have := hG2.size; omega
      have hsb1 : sb < w1.heap.size := by omega
      have e0 := key1 _ _ _ hsb (by omega) s0
      have e1 := key1 _ _ _ hsb (by omega) s1
      have d0 := key _ _ _ (by omega) (by omega) c0
      have cf2 : w2.cell? ⟨g, i, none⟩ = some (.int .i64 f) := by
        rw [← hw2]; exact (World.cell?_alloc_lt w1 _ ⟨g, i, none⟩ (by show g < _; omega)).trans cf
      have ff2 := hown2.frozenAt i
      have hg2 : g < w2.heap.size := by have := hG2.size; omega
      obtain ⟨lN2, n20, n21⟩ := bN2.two
      obtain ⟨lP2, p20, p21⟩ := bP2.two
      have HW2 := Lib.hid hw2
      clear hp hpm hpe cf cf0 ho hold hC hf hx hst hCl hw2 key key1 c0 c1 c2 s0 s1 hsa hsc ha hc hed bN hown hG hu'
      rcases j with _ | _
      · have hsp' : d ≤ f := by simpa using hsp
        have hux : (u == x.1) = false := by
          have : u = x.2.1 := by simpa using hu
          rw [this]; simpa using fun e => hne (Eq.symm e)
        have hwr : IntKind.i64.wrap (f - d) = f - d := IntWalk.i64_in _ (by omega)
        clear hu hsp
        go_wp2
        rw [HW2.out]
        go_quiet (fail)
        go_wp2
        clear hwr
        go_roundw
        case rel =>
          refine ⟨k + 1, by omega, by go_num, ?_, ?_, ?_⟩
          · exact (bN2.drewN nq).far (p := ⟨g, i, none⟩) (by simp; omega) _
          · have h := (hown2.stored i (.int .i64 (f - d))).1
            have e : sgn false d = -d := rfl
            rw [HST.out, e, show f + -d = f - d by omega, show ints (C.set i (f - d)) = (ints C).set i (.int .i64 (f - d)) by simp [List.map_set]]
            exact h
          · exact (show w.grownBy (w2.drewN nq) (some g) from ⟨hG2.os, hG2.tape, hG2.output, hG2.size, hG2.block⟩).trans (World.ownsRow.stored (w := w2.drewN nq) hown2 i (.int .i64 (f - d))).2
        case measure => simp [intOf]; omega
      · have hsp' : d ≤ x.2.2 - f := by simpa using hsp
        have hux : (u == x.1) = true := by simpa using hu
        have hwr : IntKind.i64.wrap (f + d) = f + d := IntWalk.i64_in _ (by omega)
        clear hu hsp
        go_wp2
        rw [HW2.out]
        go_quiet (fail)
        go_wp2
        clear hwr
        go_roundw
        case rel =>
          refine ⟨k + 1, by omega, by go_num, ?_, ?_, ?_⟩
          · exact (bN2.drewN nq).far (p := ⟨g, i, none⟩) (by simp; omega) _
          · have h := (hown2.stored i (.int .i64 (f + d))).1
            have e : sgn true d = d := rfl
            rw [HST.out, e, show ints (C.set i (f + d)) = (ints C).set i (.int .i64 (f + d)) by simp [List.map_set]]
            exact h
          · exact (show w.grownBy (w2.drewN nq) (some g) from ⟨hG2.os, hG2.tape, hG2.output, hG2.size, hG2.block⟩).trans (World.ownsRow.stored (w := w2.drewN nq) hown2 i (.int .i64 (f + d))).2
        case measure => simp [intOf]; omega
    · obtain rfl : k = l.length := by omega
      have HPT : Hid (puts fl (l.take l.length) d = puts fl l d) := Lib.hid (by rw [List.take_length])
      go_wp2
      go_end0
      rw [HPT.out] at hown
      exact ⟨rfl, hown, hG⟩
end Go.Proofs.Ythchlfoebkachaa

namespace Go.Proofs.Ythchlfoebkachaa
open Go.RowKit Gm

theorem copy_ints {B : Nat} {W : World} {g n : Nat} {fa : Option Addr} {fcap : Nat} {fl : List Int} (hb : Blk W g 3 (Array.replicate n (.int .i64 0))) (hF : FlowAt B W fa n fl) : ∃ W', (∀ ty, (Builtin.copy_ #[25, 25] ty #[.slice (some ⟨g, 0, none⟩) n n, .slice fa n fcap]).run Try.prog W = .ok (.int .i64 (n : Int)) W') ∧ Blk W' g 3 (ints fl).toArray ∧ W.grownBy W' (some g) := by
  have hu := Try.underlying25
  have hs : (Try.prog.info? 3).map (·.size) = some 1 := by
    obtain ⟨i0, hi0, _, hx1, _⟩ := info_parts infoInt
    rw [hi0]; simp [hx1]
  by_cases h0 : n = 0
  · subst h0
    have : fl = [] := List.eq_nil_of_length_eq_zero hF.1
    subst this
    exact ⟨W, fun ty => run_copy_none W _ _ ty _ _ _ _ _ _ _ hu hs rfl, by simpa using hb, ⟨rfl, rfl, rfl, Nat.le_refl _, fun _ _ _ => rfl⟩⟩
  · obtain ⟨b, off, ha, hc⟩ := hF.2.2
    have hl := hF.1
    obtain rfl : fa = some ⟨b, off, none⟩ := by
      rcases ha with h | h
      · simp at h; subst h; simp at hl; omega
      · exact h
    have hll : (ints fl).length = n := by rw [List.length_map]; exact hl
    have hrun := fun ty => run_copy_row (P := Try.prog) W 25 25 ty 3 g 0 n n ⟨b, off, none⟩ n fcap (Array.replicate n (.int .i64 0)) 3 (ints fl) hu hs hb (by rw [hll]; exact (Nat.min_self n).symm) (fun j u hu => by
      have hj : j < (ints fl).length := (List.getElem?_eq_some_iff.1 hu).1
      have hadd : (⟨b, off, none⟩ : Addr).add j = ⟨b, off + j, none⟩ := by unfold Addr.add; split <;> simp_all
      rw [hadd, (hc j hj).2, ← hu, List.getElem?_eq_getElem hj]) (by rw [hll]; simp) (ints_one fl)
    have e : (Array.replicate n (Value.int .i64 0)).toList.take 0 ++ ints fl ++ (Array.replicate n (Value.int .i64 0)).toList.drop (0 + (ints fl).length) = ints fl := by
      rw [hll]; simp
    rw [e, hll] at hrun
    refine ⟨_, hrun, setRow_heap W g _ _ _ _ hb, ⟨rfl, rfl, rfl, by simp [World.setRow], fun k _ hk => setRow_other W g k _ (fun e => hk (by rw [e]))⟩⟩

theorem roomOf_ge (es : List E) (fl : List Int) : ∀ (l : List Leg) (d x : Int), x ≤ d → (∀ p ∈ l, x ≤ spare es fl p) → x ≤ roomOf es fl l d
  | [], _, _, h, _ => h
  | q :: l, d, x, h, hs => roomOf_ge es fl l (min d (spare es fl q)) x (by have := hs q (by simp); have e : min d (spare es fl q) = if d ≤ spare es fl q then d else spare es fl q := rfl; rw [e]; split <;> omega) (fun p hp => hs p (by simp [hp]))
theorem roomOf_min {es : List E} {fl : List Int} {l : List Leg} {D : Int} (h : ∃ p ∈ l, spare es fl p ≤ 1073741824) : (if D < roomOf es fl l 1073741824 then D else roomOf es fl l 1073741824) = roomOf es fl l D := by
  obtain ⟨p, hp, hs⟩ := h
  have h1 := roomOf_le es fl l D
  have h2 := roomOf_le es fl l 1073741824
  have h3 := roomOf_ge es fl l 1073741824 (roomOf es fl l D) (by have := h1.2 p hp; omega) h1.2
  split
  · have := roomOf_ge es fl l D D (Int.le_refl _) (fun q hq => by have := h2.2 q hq; omega)
    omega
  · have := roomOf_ge es fl l D (roomOf es fl l 1073741824) (by omega) h2.2
    omega

set_option maxRecDepth 100000 in
set_option maxHeartbeats 4000000 in
theorem push_own (v : Int) (a : Option Addr) (len cap : Nat) (es : List E) (fa : Option Addr) (flen fcap : Nat) (fl : List Int) (s t most : Int) (w : World) (hE : NetAt w.heap.size w a len es) (hF : FlowAt w.heap.size w fa flen fl) (hmI : I64 most) :
    Calls Try.prog 25 #[netV v a len cap, .slice fa flen fcap, .int .i64 s, .int .i64 t, .int .i64 most] w (PushOwn (pushF v es fl s t most) w) := by
  obtain ⟨W0, hW0⟩ : ∃ W0, w.alloc (.cells #[.int .i64 v, .slice a len cap] 24) = W0 := ⟨_, rfl⟩
  have hB0 : Below w.heap.size w W0 := by rw [← hW0]; exact (Below.refl _ w).alloc (Nat.le_refl _) _
  have bN : Blk W0 w.heap.size 24 #[.int .i64 v, .slice a len cap] := by rw [← hW0]; exact Blk.new w _ _
  have HW0 := Lib.hid hW0
  have HE0 := Lib.hid ((hE.below hB0).more hB0.size)
  have HF0 := Lib.hid ((hF.below hB0).more hB0.size)
  have HlE := Lib.hid hE.1
  have HlF := Lib.hid hF.1
  have HE := Lib.hid hE
  have HF := Lib.hid hF
  have hz0 := hB0.size
  obtain ⟨hm1, hm2⟩ := hmI
  clear hW0 hE hF
  obtain ⟨g, hg⟩ : ∃ g, good v es fl s t = g := ⟨_, rfl⟩
  have HGD := Lib.hid hg
  clear hg
  by_cases hs : g = true ∧ 0 ≤ most
  · obtain ⟨rfl, hm0⟩ := hs
    have hG := goodG_iff.1 HGD.out
    have hvv := right_iff.1 hG.net
    have hv1 : 2 ≤ v := hvv.1
    have hv2 : v ≤ 64 := hvv.2.1
    have hlen : len ≤ 256 := by have := hvv.2.2.1; rw [HlE.out] at this; exact this
    have hql : flen = len := by rw [← HlE.out, ← HlF.out]; exact hG.len
    obtain ⟨n, rfl⟩ : ∃ n : Nat, v = n := ⟨v.toNat, by omega⟩
    have HPF : Hid (pushF n es fl s t most = ((pushed n es s t most (fl, 0)).1, (pushed n es s t most (fl, 0)).2, 0)) := Lib.hid (by
      unfold pushF; rw [HGD.out]; simp [hm0])
    have HG := Lib.hid hG
    have hs0 := hG.s0
    have hs1 := hG.s1
    have ht0 := hG.t0
    have ht1 := hG.t1
    have hmn : ¬ most < 0 := by omega
    clear hG hvv
    subst hql
    have hmk := make_ints flen (by omega)
    go_enter Try.func25, Try.ntmps25
    go_wp2_with (go_at_call 33; rw [HW0.out]; (with_reducible refine (good_any _ _ _ _ es _ _ _ fl s t _ HE0.out HF0.out).mono ?_); rw [HGD.out]; rintro e w1 ⟨rfl, hb1⟩
                 have bN1 := bN.below hb1 bN.lt
                 have hB1 : Below w.heap.size w w1 := hB0.trans (hb1.mono hz0)
                 have hz1 := hB1.size
                 have lN1 := bN1.lt
                 obtain ⟨w2, hcp, bP2, hg2⟩ := copy_ints (fcap := fcap) (Blk.new w1 3 (Array.replicate flen (.int .i64 0))) ((HF.out.below (hB1.alloc hz1 (.cells (Array.replicate flen (.int .i64 0)) 3))))
                 clear hb1)
    have hB2 : Below w.heap.size w w2 := (hB1.alloc hz1 (.cells (Array.replicate flen (.int .i64 0)) 3)).grown hg2 (by simp; omega) (fun k e => by cases e; omega)
    have bN2 := (bN1.alloc (.cells (Array.replicate flen (.int .i64 0)) 3)).kept hg2 (by simp; omega)
    have hown2 : w2.ownsRow (w.heap.size + 1) 3 1 (.slice (some ⟨w1.heap.size, 0, none⟩) flen flen) fl.length (ints fl) := by
      refine ⟨by simp, .inr ⟨w1.heap.size, flen, (ints fl).toArray, ?_, by omega, bP2, by rw [HlF.out]; exact Nat.le_refl _, by unfold maxLen; omega, by simp [HlF.out], List.take_of_length_le (by simp)⟩⟩
      rw [HlF.out]
    have hgw := lN1
    generalize w1.heap.size = q at *
    have hgq : w.heap.size + 1 ≤ q := by omega
    clear hcp bP2 hg2 bN1 hB1 hz1 lN1 hmk bN hB0 hz0 hgw
    go_loopw [14] (fun sv wr => ∃ (cur : List Int) (sum : Int), sv = .int .i64 sum ∧ 0 ≤ sum ∧ sum ≤ most ∧ QPushAt w n a flen cap cur (.slice (some ⟨q, 0, none⟩) flen flen) wr ∧ Hid (GoodG n es cur s t ∧ pushed n es s t most (fl, 0) = pushed n es s t most (cur, sum))) (fun sv _ => (most - intOf sv).toNat)
    case atStart => exact ⟨fl, 0, rfl, Int.le_refl _, hm0, ⟨bN2, hown2, hB2⟩, Lib.hid ⟨HG.out, rfl⟩⟩
    case round =>
      clear bN2 hown2 hB2
      obtain ⟨cur, sum, rfl, hsum0, hsum1, ⟨bN, hown, hB⟩, hin⟩ := hrel
      obtain ⟨w3, rfl⟩ : ∃ w', w' = wr := ⟨_, rfl⟩
      have hcl : cur.length = flen := by rw [hin.out.1.len, HlE.out]
      have HCL := Lib.hid hcl
      have hbz := hB.size
      have HFC := Lib.hid (ints_own hown (by omega)).2
      have HN3 := Lib.hid ((HE.out.below hB).more hbz)
      have HFT := Lib.hid hin.out.1.fits
      obtain ⟨lN, n0, n1⟩ := bN.two
      rw [hcl] at hown
      clear hcl
      by_cases hlt : sum < most
      · obtain ⟨l, hl⟩ : ∃ l, pathF n es cur s t = l := ⟨_, rfl⟩
        have HL := Lib.hid hl
        obtain ⟨T, hT⟩ : ∃ T, has (bfs n es cur s).seen t = T := ⟨_, rfl⟩
        have HT := Lib.hid hT
        unfold pathF at hl
        rw [hT] at hl
        rcases T with _ | _
        · have HR : Hid (pushed n es s t most (fl, 0) = (cur, sum)) := Lib.hid (by
            rw [hin.out.2]; exact pushed_stop (.inr HT.out))
          obtain rfl : l = [] := by rw [← hl]; simp
          clear hl hT
          go_wp2_with (go_at_call 39; (with_reducible refine (nextPath_any n _ _ _ es _ _ _ cur s t _ HN3.out HFC.out HFT.out hs0 hs1 ht0 ht1).mono ?_); rw [HL.out]; rintro e w4 ⟨pa, pc, rfl, hL, hb4⟩
                       have bN4 := bN.below hb4 lN
                       have hown4 := own_below hown hb4
                       have hB4 := hB.trans (hb4.mono hbz)
                       have hz4 := hB4.size)
          refine bodyPost_ret (v := .tuple #[.slice (some ⟨q, 0, none⟩) flen flen, .int .i64 sum, .int .i64 0]) (by simp [results, Try.results25, go_sem]) rfl ?_
          rw [HPF.out, HR.out]
          rw [← HCL.out] at hown4
          exact ⟨_, flen, _, rfl, by have := (ints_own (a := some ⟨q, 0, none⟩) (len := cur.length) (cap := flen) (by rw [HCL.out] at hown4 ⊢; exact hown4) (by rw [HCL.out]; omega)).2; rwa [HCL.out] at this, by have := own_base hown4; rwa [HCL.out] at this ⊢, hB4⟩
        · have hseen : has (bfs n es (cur, sum).1 s).seen t = true := HT.out
          have hln : next n es cur s t = l := by simpa using hl
          have hway := next_is hin.out.1 hseen
          have hroom := push_room (most := most) (st := (cur, sum)) hin.out.1 hlt hseen
          have hstep := pushed_step (most := most) (st := (cur, sum)) hin.out.1 hlt hseen
          dsimp only at hway hroom hstep
          rw [hln] at hway hroom hstep
          have hll : l.length ≤ 63 := by have := hway.2; omega
          have hne : ∃ p ∈ l, spare es cur p ≤ 1073741824 := by
            rcases hl0 : l with _ | ⟨p, l'⟩
            · have := hway.1.ends s
              rw [hl0] at this
              simp only [legs, if_pos] at this
              rw [if_neg (fun e => hin.out.1.ne e.symm)] at this
              omega
            · refine ⟨p, by simp, ?_⟩
              have h2 := (hway.1.each p (by rw [hl0]; simp)).1
              have h3 := hin.out.1.fit _ (of_zip hin.out.1.len h2)
              have h4 := okE_iff.1 (hin.out.1.ok _ (of_zip hin.out.1.len h2))
              dsimp only at h3 h4
              unfold spare
              split <;> omega
          have hlpos : 0 < l.length := by
            obtain ⟨p, hp, _⟩ := hne
            exact List.length_pos_of_mem hp
          have hmin := roomOf_min (D := most - sum) hne
          obtain ⟨r, hr⟩ : ∃ r, roomOf es cur l (most - sum) = r := ⟨_, rfl⟩
          have hrle := (roomOf_le es cur l (most - sum)).2
          rw [hr] at hroom hstep hmin hrle
          obtain ⟨Z, hZ⟩ : ∃ Z, roomOf es cur l 1073741824 = Z := ⟨_, rfl⟩
          rw [hZ] at hmin
          have HZ := Lib.hid hZ
          have HMIN := Lib.hid hmin
          have HWAY := Lib.hid hway.1
          have HRLE := Lib.hid hrle
          obtain ⟨hr1, hr2, hr3, hr4, hr5⟩ := hroom
          have HNEW := Lib.hid hr4
          have HSTEP := Lib.hid hstep
          have hl0 : ((l.length : Int) == 0) = false := by rw [beq_eq_false_iff_ne]; omega
          clear hl hT hseen hln hway hstep hne hmin hrle hZ hr hr4 hr5
          have hw0 : IntKind.i64.wrap (most - sum) = most - sum := IntWalk.i64_in _ (by omega)
          go_upto_region 10 with (first
            | (go_at_call 39; (with_reducible refine (nextPath_any n _ _ _ es _ _ _ cur s t _ HN3.out HFC.out HFT.out hs0 hs1 ht0 ht1).mono ?_); rw [HL.out]; rintro e w4 ⟨pa, pc, rfl, hL, hb4⟩
               have bN4 := bN.below hb4 lN
               have hown4 := own_below hown hb4
               have hB4 := hB.trans (hb4.mono hbz)
               have hz4 := hB4.size
               have hq3 := (hown.lt q rfl).2
               obtain ⟨lN4, n40, n41⟩ := bN4.two
               have HN4 := Lib.hid ((HE.out.below hB4).more hz4)
               have HF4 := Lib.hid ((HFC.out.below hb4).more hb4.size)
               have HL4 := Lib.hid hL
               clear hL hb4)
            | (go_at_call 40; (with_reducible refine (room_any n _ _ _ es _ _ _ cur _ _ _ l _ HN4.out HF4.out HFT.out HL4.out (fun p hp => (HWAY.out.each p hp).1) (by omega)).mono ?_); rw [HZ.out]; rintro e w5 ⟨rfl, hb5⟩
               have bN5 := bN4.below hb5 lN4
               have hown5 := own_below hown4 hb5
               have hB5 := hB4.trans (hb5.mono hz4)
               have hz5 := hB5.size
               have hq5 := (hown5.lt q rfl).2
               obtain ⟨lN5, n50, n51⟩ := bN5.two
               have HL5 := Lib.hid ((HL4.out.below hb5).more hb5.size)
               clear hb5))
          rw [HMIN.out]
          have HN5 := Lib.hid (HE.out.below hB5)
          clear hw0
          have hw1 : IntKind.i64.wrap (sum + r) = sum + r := IntWalk.i64_in _ (by omega)
          go_wp2_with (go_at_call 41; (with_reducible refine (add_any n _ _ _ es q flen flen (w.heap.size + 1) w.heap.size cur _ _ _ l r _ HN5.out (by omega) hown5 HFT.out HL5.out hq3 (fun p hp => (HWAY.out.each p hp).1) HWAY.out.nodup (by omega) (by omega) HRLE.out).mono ?_); rintro e w6 ⟨rfl, hown6, hg6⟩
                       have bN6 := bN5.kept hg6 (by simp; omega)
                       have hB6 := hB5.grown hg6 hz5 (fun k e => by cases e; omega))
          clear hw1
          go_roundw
          case rel => exact ⟨puts cur l r, sum + r, rfl, by omega, by omega, ⟨bN6, by rw [puts_length, HCL.out]; exact hown6, hB6⟩, Lib.hid ⟨HNEW.out, by rw [hin.out.2, HSTEP.out]⟩⟩
          case measure => simp [intOf]; omega
      · obtain rfl : sum = most := by omega
        have HR : Hid (pushed n es s t sum (fl, 0) = (cur, sum)) := Lib.hid (by
          rw [hin.out.2]; exact pushed_stop (.inl rfl))
        go_wp2
        refine bodyPost_ret (v := .tuple #[.slice (some ⟨q, 0, none⟩) flen flen, .int .i64 sum, .int .i64 0]) (by simp [results, Try.results25, go_sem]) rfl ?_
        rw [HPF.out, HR.out]
        exact ⟨_, flen, _, rfl, HFC.out, by show w3.ownsRow _ _ _ _ cur.length _; rw [HCL.out]; exact own_base hown, hB⟩
  · have HPF : Hid (pushF v es fl s t most = ([], 0, 50)) := Lib.hid (by
      unfold pushF
      rw [HGD.out, if_neg]
      intro h
      simp at h
      exact hs h)
    have hw : most < 0 ∨ (¬ most < 0 ∧ g = false) := by
      by_cases h : most < 0
      · exact .inl h
      · refine .inr ⟨h, ?_⟩
        rcases g with _ | _
        · rfl
        · exact absurd ⟨rfl, by omega⟩ hs
    clear hs
    rcases hw with h1 | ⟨h1, rfl⟩
    · go_enter Try.func25, Try.ntmps25
      go_wp2
      rw [HW0.out]
      refine bodyPost_ret (v := .tuple #[.slice none 0 0, .int .i64 0, .int .i64 50]) (by simp [results, Try.results25, go_sem]) rfl ?_
      rw [HPF.out]
      exact ⟨none, 0, 0, rfl, ⟨rfl, by omega, 0, 0, .inl rfl, fun i hi => by simp at hi⟩, ⟨rfl, .inl ⟨rfl, rfl⟩⟩, hB0⟩
    · go_enter Try.func25, Try.ntmps25
      go_wp2_with (go_at_call 33; rw [HW0.out]; (with_reducible refine (good_any _ _ _ _ es _ _ _ fl s t _ HE0.out HF0.out).mono ?_); rw [HGD.out]; rintro e w1 ⟨rfl, hb1⟩)
      refine bodyPost_ret (v := .tuple #[.slice none 0 0, .int .i64 0, .int .i64 50]) (by simp [results, Try.results25, go_sem]) rfl ?_
      rw [HPF.out]
      exact ⟨none, 0, 0, rfl, ⟨rfl, by omega, 0, 0, .inl rfl, fun i hi => by simp at hi⟩, ⟨rfl, .inl ⟨rfl, rfl⟩⟩, hB0.trans (hb1.mono hz0)⟩

theorem push_any (v : Int) (a : Option Addr) (len cap : Nat) (es : List E) (fa : Option Addr) (flen fcap : Nat) (fl : List Int) (s t most : Int) (w : World) (hE : NetAt w.heap.size w a len es) (hF : FlowAt w.heap.size w fa flen fl) (hmI : I64 most) :
    Calls Try.prog 25 #[netV v a len cap, .slice fa flen fcap, .int .i64 s, .int .i64 t, .int .i64 most] w (PushPost (pushF v es fl s t most) w) :=
  (push_own v a len cap es fa flen fcap fl s t most w hE hF hmI).mono fun _ _ h => h.post

end Go.Proofs.Ythchlfoebkachaa
