/-
  The document's own Open, walked.
-/
import Derived.Deep.AppendLies
import Derived.Deep.DeepCutAuto
import Derived.Test.YthchlfoebkachaaOwn
import Derived.Test.YthchlfoebkachaaFit
import Derived.Test.YthchlfoebkachaaFlow
import Derived.Test.YthchlfoebkachaaNumbers7
namespace Go.Proofs.Ythchlfoebkachaa
open Go.RowKit Gm

def OpenPost (v : Int) (F : List E) (w : World) (e : Ending) (w' : World) : Prop :=
  ∃ a cap, e = .returned (netV v a F.length cap) ∧ NetAt w'.heap.size w' a F.length F ∧ w'.ownsRow w.heap.size 50 3 (.slice a F.length cap) F.length (flat F) ∧ Below w.heap.size w w'
def OpenAt (w : World) (v : Int) (a : Option Addr) (len cap : Nat) (F : List E) (k : Nat) (wr : World) : Prop :=
  (Blk wr w.heap.size 24 #[.int .i64 v, .slice a len cap] ∧ Blk wr (w.heap.size + 1) 24 #[.int .i64 0, .slice none 0 0]) ∧ (∃ sl, Blk wr (w.heap.size + 1 + 1) 24 #[.int .i64 v, sl] ∧ wr.ownsRow w.heap.size 50 3 sl k (flat (F.take k))) ∧ Below w.heap.size w wr

set_option maxRecDepth 100000 in
set_option maxHeartbeats 4000000 in
theorem qopen_any (v : Int) (a : Option Addr) (len cap : Nat) (es : List E) (s : Int) (la : Option Addr) (llen lcap : Nat) (L : List Int) (w : World) (hE : NetAt w.heap.size w a len es) (hL : FlowAt w.heap.size w la llen L) (h300 : len ≤ 300) (hL3 : llen ≤ 300) :
    Calls Try.prog 18 #[netV v a len cap, .int .i64 s, .slice la llen lcap] w (OpenPost v (opened es s L) w) := by
  have HlE := Lib.hid hE.1
  have HlL := Lib.hid hL.1
  have HE := Lib.hid hE
  have HL := Lib.hid hL
  clear hE hL
  obtain ⟨i0, hi0, hz0, hz1, hz2⟩ := info_parts infoEdge
  go_enter Try.func18, Try.ntmps18
  go_wp2
  go_loopw [8] (fun i wr => ∃ k : Nat, k ≤ len ∧ i = .int .i64 k ∧ OpenAt w v a len cap (opened es s L) k wr) (fun i _ => len - (intOf i).toNat)
  case atStart =>
    refine ⟨0, Nat.zero_le _, rfl, ⟨((Blk.new w _ _).alloc _).alloc _, ?_⟩, ⟨.slice none 0 0, ?_, by simp [flat], .inl ⟨rfl, rfl⟩⟩, (((Below.refl _ w).alloc (Nat.le_refl _) _).alloc (by simp) _).alloc (by simp; omega) _⟩
    · have := (Blk.new (w.alloc (.cells #[.int .i64 v, .slice a len cap] 24)) 24 #[.int .i64 0, .slice none 0 0]).alloc (.cells #[.int .i64 v, .slice none 0 0] 24)
      simp only [World.size_alloc] at this; exact this
    · have := Blk.new ((w.alloc (.cells #[.int .i64 v, .slice a len cap] 24)).alloc (.cells #[.int .i64 0, .slice none 0 0] 24)) 24 #[.int .i64 v, .slice none 0 0]
      simp only [World.size_alloc] at this; exact this
  case round =>
    obtain ⟨k, hk, rfl, ⟨bN, bR⟩, ⟨sl, bM, hown⟩, hB⟩ := hrel
    obtain ⟨w1, rfl⟩ : ∃ w', w' = wr := ⟨_, rfl⟩
    obtain ⟨lN, n0, n1⟩ := bN.two
    have hBs := hB.size
    by_cases hlt : k < len
    · have hkl : k < es.length := by rw [HlE.out]; exact hlt
      obtain ⟨b, off, ha, hc⟩ := (HE.out.below hB).2.2
      obtain ⟨hb, c0, c1, c2⟩ := hc k hkl
      obtain rfl : a = some ⟨b, off, none⟩ := by
        rcases ha with h | h
        · omega
        · exact h
      have hT : (opened es s L).take (k + 1) = (opened es s L).take k ++ [openE s L k es[k]] := by
        rw [List.take_succ_eq_append_getElem (by rw [opened_length]; exact hkl)]
        congr 2
        unfold opened
        rw [List.getElem_mapIdx]
      obtain ⟨x, hx⟩ : ∃ x, es[k] = x := ⟨_, rfl⟩
      rw [hx] at c0 c1 c2 hT
      have HT := Lib.hid hT
      have hki : (k : Int) < (len : Int) := by omega
      have hb1 : b < w1.heap.size := by omega
      clear ha hc hx hT hkl
      -- open := e.From != s
      obtain ⟨o, ho⟩ : ∃ o, (x.1 != s) = o := ⟨_, rfl⟩
      have HO := Lib.hid ho
      go_upto_region 7 with fail
      obtain ⟨w2, hw2⟩ : ∃ W, w1.alloc (.cells #[.int .i64 x.1, .int .i64 x.2.1, .int .i64 x.2.2] 50) = W := ⟨_, rfl⟩
      have bX2 : Blk w2 w1.heap.size 50 #[.int .i64 x.1, .int .i64 x.2.1, .int .i64 x.2.2] := hw2 ▸ Blk.new w1 _ _
      have bN2 : Blk w2 w.heap.size 24 #[.int .i64 v, .slice (some ⟨b, off, none⟩) len cap] := hw2 ▸ bN.alloc _
      have bR2 : Blk w2 (w.heap.size + 1) 24 #[.int .i64 0, .slice none 0 0] := hw2 ▸ bR.alloc _
      have bM2 : Blk w2 (w.heap.size + 1 + 1) 24 #[.int .i64 v, sl] := hw2 ▸ bM.alloc _
      have hown2 : w2.ownsRow w.heap.size 50 3 sl k (flat ((opened es s L).take k)) := hw2 ▸ hown.alloc _
      have hB2 : Below w.heap.size w w2 := hw2 ▸ hB.alloc hBs _
      have HLR := Lib.hid bR.lt
      have HLM := Lib.hid bM.lt
      have HOLD := Lib.hid (own_old_ne hown (Nat.le_refl _))
      rw [hw2]
      clear hw2 bN bR bM hown hB lN n0 n1 c0 c1 c2 hb1
      go_wp2
      go_loopw [10, 11] (fun ov jv wr => ∃ j : Nat, j ≤ llen ∧ jv = .int .i64 j ∧ ov = .bool (o || (L.take j).contains (k : Int)) ∧ w2 = wr) (fun _ jv _ => llen - (intOf jv).toNat)
      case atStart => exact ⟨0, Nat.zero_le _, rfl, by simp, rfl⟩
      case round =>
        obtain ⟨j, hj, rfl, rfl, rfl⟩ := hrel
        obtain ⟨c, hc⟩ : ∃ c, (o || (L.take j).contains (k : Int)) = c := ⟨_, rfl⟩
        rw [hc]
        by_cases hjl : j < llen
        · have hjL : j < L.length := by rw [HlL.out]; exact hjl
          obtain ⟨lb, lo, hla, hlc⟩ := (HL.out.below hB2).2.2.int
          obtain ⟨hlb, l0⟩ := hlc j hjL
          obtain rfl : la = some ⟨lb, lo, none⟩ := by
            rcases hla with h | h
            · omega
            · exact h
          have hst : (L.take (j + 1)).contains (k : Int) = ((L.take j).contains (k : Int) || (L[j]?.getD 0 == (k : Int))) := by
            rw [Bool.eq_iff_iff, Bool.or_eq_true, List.contains_iff_mem, List.contains_iff_mem, beq_iff_eq, List.take_succ_eq_append_getElem hjL, List.getElem?_eq_getElem hjL, List.mem_append, List.mem_singleton]
            constructor
            · rintro (h | h)
              · exact .inl h
              · exact .inr h.symm
            · rintro (h | h)
              · exact .inl h
              · exact .inr h.symm
          obtain ⟨y, hy⟩ : ∃ y, L[j]?.getD 0 = y := ⟨_, rfl⟩
          rw [hy] at l0 hst
          obtain ⟨d, hd⟩ : ∃ d, (y == (k : Int)) = d := ⟨_, rfl⟩
          rw [hd] at hst
          have HST : Hid ((o || (L.take (j + 1)).contains (k : Int)) = (c || d)) := Lib.hid (by rw [hst, ← Bool.or_assoc, hc])
          have hji : (j : Int) < (llen : Int) := by omega
          have hlb1 : lb < w2.heap.size := by have := hB2.size; omega
          clear hla hlc hst hy hc hjL
          rcases c with _ | _
          · go_wp2
            go_roundw
            case rel => exact ⟨j + 1, by omega, by go_num, by rw [HST.out]; rfl, trivial⟩
            case measure => simp [intOf]; omega
          · go_wp2
            go_roundw
            case rel => exact ⟨j + 1, by omega, by go_num, by rw [HST.out]; rfl, trivial⟩
            case measure => simp [intOf]; omega
        · obtain rfl : j = llen := by omega
          have hc' : c = true ↔ ¬ (x.1 = s ∧ (k : Int) ∉ L) := by
            rw [← hc, List.take_of_length_le (by rw [HlL.out]; exact Nat.le_refl _), ← ho]
            by_cases a1 : x.1 = s <;> by_cases a2 : (k : Int) ∈ L <;> simp [a1, a2]
          have hTT := HT.out
          clear hc
          rcases c with _ | _
          · have hnot : x.1 = s ∧ (k : Int) ∉ L := by
              by_cases h : x.1 = s ∧ (k : Int) ∉ L
              · exact h
              · exact absurd (hc'.2 h) Bool.false_ne_true
            have HTT : Hid ((opened es s L).take (k + 1) = (opened es s L).take k ++ [(x.1, x.2.1, 0)]) := Lib.hid (by
              rw [hTT]; unfold openE; rw [if_pos hnot])
            have fX := bX2.frozen 2
            obtain ⟨lX2, x20, x21, x22⟩ := bX2.three
            clear hTT hc'
            go_upto_region 13 with fail
            obtain ⟨w3, hw3⟩ : ∃ W, w2.setCell ⟨w1.heap.size, 2, none⟩ (.int .i64 0) = W := ⟨_, rfl⟩
            have bX3 : Blk w3 w1.heap.size 50 #[.int .i64 x.1, .int .i64 x.2.1, .int .i64 0] := hw3 ▸ bX2.set 2 _
            have bN3 : Blk w3 w.heap.size 24 #[.int .i64 v, .slice (some ⟨b, off, none⟩) len cap] := hw3 ▸ bN2.far (p := ⟨w1.heap.size, 2, none⟩) (by have := HLR.out; simp; omega) _
            have bR3 : Blk w3 (w.heap.size + 1) 24 #[.int .i64 0, .slice none 0 0] := hw3 ▸ bR2.far (p := ⟨w1.heap.size, 2, none⟩) (by simp; have := HLR.out; omega) _
            have bM3 : Blk w3 (w.heap.size + 1 + 1) 24 #[.int .i64 v, sl] := hw3 ▸ bM2.far (p := ⟨w1.heap.size, 2, none⟩) (by simp; have := HLM.out; omega) _
            have hown3 : w3.ownsRow w.heap.size 50 3 sl k (flat ((opened es s L).take k)) := hw3 ▸ ownsRow_setCell_other hown2 (a := ⟨w1.heap.size, 2, none⟩) HOLD.out _
            have hB3 : Below w.heap.size w w3 := hw3 ▸ hB2.setCell (p := ⟨w1.heap.size, 2, none⟩) (by simp; omega) _
            rw [hw3]
            clear hw3 bX2 bN2 bR2 bM2 hown2 hB2 lX2 x20 x21 x22 fX
            clear hnot
            obtain ⟨lM3, e0, e1⟩ := bM3.two
            obtain ⟨lX3, x30, x31, x32⟩ := bX3.three
            have hz3 := hB3.size
            have hoT := hown3.alloc (.cells #[.int .i64 x.1, .int .i64 x.2.1, .int .i64 0] 50)
            have bMT := bM3.alloc (.cells #[.int .i64 x.1, .int .i64 x.2.1, .int .i64 0] 50)
            have bNT := bN3.alloc (.cells #[.int .i64 x.1, .int .i64 x.2.1, .int .i64 0] 50)
            have bRT := bR3.alloc (.cells #[.int .i64 x.1, .int .i64 x.2.1, .int .i64 0] 50)
            have hBT := hB3.alloc hB3.size (.cells #[.int .i64 x.1, .int .i64 x.2.1, .int .i64 0] 50)
            have HNM := Lib.hid (own_blk_ne hoT bMT (by decide))
            have HNN := Lib.hid (own_blk_ne hoT bNT (by decide))
            have HNR := Lib.hid (own_blk_ne hoT bRT (by decide))
            go_wp2_with (
              at_builtin
              refine wpList_append_lies _ (by rfl) (.tmp 50) (.tmp 52) 22 (by rfl) w.heap.size 50 i0 _ 3 24 Try.underlying22 hi0 hz0 hz1 hz2 rfl (by decide) sl k (flat ((opened es s L).take k)) (by rfl) hoT ⟨w3.heap.size, 0, none⟩ 1 1 [.int .i64 x.1, .int .i64 x.2.1, .int .i64 0] (by rfl) (by rfl) (cells_three _ _ _ _ _) (by simp [Value.oneCell']) (by omega) (by simp [maxLen]; omega) (by omega) (by simp; omega) (w3.heap.size + 1) (by simp) ?_
              intro g2 cap2' w4 hoT4 hg4 hloc4 hlt4
              have bM4 := bMT.kept hg4 HNM.out.symm
              have lM4 := bM4.lt
              have df4 := bM4.frozen 1
              have e41 := bM4.two.2.2)
            go_roundw
            case rel =>
              have bN4 := bNT.kept hg4 HNN.out.symm
              have bR4 := bRT.kept hg4 HNR.out.symm
              have hB4 := hBT.grown hg4 (by have := hBT.size; omega) (fun j e => (hoT.lt j e).1)
              refine ⟨k + 1, by omega, by go_num, ⟨bN4.far (p := ⟨w.heap.size + 1 + 1, 1, none⟩) (by simp; omega) _, bR4.far (p := ⟨w.heap.size + 1 + 1, 1, none⟩) (by simp) _⟩, ⟨_, bM4.set 1 _, ?_⟩, hB4.setCell (p := ⟨w.heap.size + 1 + 1, 1, none⟩) (by simp; omega) _⟩
              rw [HTT.out, flat_snoc]
              exact ownsRow_setCell_other hoT4 (own_blk_ne hoT4 bM4 (by decide)) _
            case measure => simp [intOf]; omega
          · have hnot : ¬ (x.1 = s ∧ (k : Int) ∉ L) := hc'.1 rfl
            have HTT : Hid ((opened es s L).take (k + 1) = (opened es s L).take k ++ [(x.1, x.2.1, x.2.2)]) := Lib.hid (by
              rw [hTT]; unfold openE; rw [if_neg hnot])
            clear hTT hc'
            go_upto_region 13 with fail
            obtain ⟨w3, rfl⟩ : ∃ W, W = w2 := ⟨_, rfl⟩
            have bX3 := bX2
            have bN3 := bN2
            have bR3 := bR2
            have bM3 := bM2
            have hown3 := hown2
            have hB3 := hB2
            clear bX2 bN2 bR2 bM2 hown2 hB2
            clear hnot
            obtain ⟨lM3, e0, e1⟩ := bM3.two
            obtain ⟨lX3, x30, x31, x32⟩ := bX3.three
            have hz3 := hB3.size
            have hoT := hown3.alloc (.cells #[.int .i64 x.1, .int .i64 x.2.1, .int .i64 x.2.2] 50)
            have bMT := bM3.alloc (.cells #[.int .i64 x.1, .int .i64 x.2.1, .int .i64 x.2.2] 50)
            have bNT := bN3.alloc (.cells #[.int .i64 x.1, .int .i64 x.2.1, .int .i64 x.2.2] 50)
            have bRT := bR3.alloc (.cells #[.int .i64 x.1, .int .i64 x.2.1, .int .i64 x.2.2] 50)
            have hBT := hB3.alloc hB3.size (.cells #[.int .i64 x.1, .int .i64 x.2.1, .int .i64 x.2.2] 50)
            have HNM := Lib.hid (own_blk_ne hoT bMT (by decide))
            have HNN := Lib.hid (own_blk_ne hoT bNT (by decide))
            have HNR := Lib.hid (own_blk_ne hoT bRT (by decide))
            go_wp2_with (
              at_builtin
              refine wpList_append_lies _ (by rfl) (.tmp 50) (.tmp 52) 22 (by rfl) w.heap.size 50 i0 _ 3 24 Try.underlying22 hi0 hz0 hz1 hz2 rfl (by decide) sl k (flat ((opened es s L).take k)) (by rfl) hoT ⟨w3.heap.size, 0, none⟩ 1 1 [.int .i64 x.1, .int .i64 x.2.1, .int .i64 x.2.2] (by rfl) (by rfl) (cells_three _ _ _ _ _) (by simp [Value.oneCell']) (by omega) (by simp [maxLen]; omega) (by omega) (by simp; omega) (w3.heap.size + 1) (by simp) ?_
              intro g2 cap2' w4 hoT4 hg4 hloc4 hlt4
              have bM4 := bMT.kept hg4 HNM.out.symm
              have lM4 := bM4.lt
              have df4 := bM4.frozen 1
              have e41 := bM4.two.2.2)
            go_roundw
            case rel =>
              have bN4 := bNT.kept hg4 HNN.out.symm
              have bR4 := bRT.kept hg4 HNR.out.symm
              have hB4 := hBT.grown hg4 (by have := hBT.size; omega) (fun j e => (hoT.lt j e).1)
              refine ⟨k + 1, by omega, by go_num, ⟨bN4.far (p := ⟨w.heap.size + 1 + 1, 1, none⟩) (by simp; omega) _, bR4.far (p := ⟨w.heap.size + 1 + 1, 1, none⟩) (by simp) _⟩, ⟨_, bM4.set 1 _, ?_⟩, hB4.setCell (p := ⟨w.heap.size + 1 + 1, 1, none⟩) (by simp; omega) _⟩
              rw [HTT.out, flat_snoc]
              exact ownsRow_setCell_other hoT4 (own_blk_ne hoT4 bM4 (by decide)) _
            case measure => simp [intOf]; omega
    · obtain rfl : k = len := by omega
      have hT : (opened es s L).take k = opened es s L := List.take_of_length_le (by rw [opened_length, HlE.out]; exact Nat.le_refl _)
      rw [hT] at hown
      obtain ⟨lM, m0, m1⟩ := bM.two
      obtain ⟨lR, r0, r1⟩ := bR.two
      have rf0 := bR.frozen 0
      have rf1 := bR.frozen 1
      obtain ⟨sa, sc, rfl⟩ := own_form hown
      have hR2 := ((bR.set 0 (.int .i64 v)).set 1 (.slice sa k sc))
      obtain ⟨_, z0, z1⟩ := hR2.two
      have hown2 : ((w1.setCell ⟨w.heap.size + 1, 0, none⟩ (.int .i64 v)).setCell ⟨w.heap.size + 1, 1, none⟩ (.slice sa k sc)).ownsRow w.heap.size 50 3 (.slice sa k sc) k (flat (opened es s L)) :=
        ownsRow_setCell_other (ownsRow_setCell_other hown (a := ⟨w.heap.size + 1, 0, none⟩) (own_blk_ne hown bR (by decide)) _) (a := ⟨w.heap.size + 1, 1, none⟩) (own_blk_ne hown bR (by decide)) _
      have hB2 := (hB.setCell (p := ⟨w.heap.size + 1, 0, none⟩) (by simp) (.int .i64 v)).setCell (p := ⟨w.heap.size + 1, 1, none⟩) (by simp) (.slice sa k sc)
      clear hT
      go_wp2
      refine bodyPost_ret (v := netV v sa k sc) (by simp [results, Try.results18, go_sem, z0, z1]) rfl ?_
      have hOL : (opened es s L).length = k := by rw [opened_length, HlE.out]
      rw [← hOL] at hown2
      have hE2 := edges_own hown2 (by rw [hOL]; omega)
      refine ⟨sa, sc, by rw [hOL], ?_, by rw [hOL] at hown2 ⊢; exact hown2, hB2⟩
      have h := hE2.2
      rw [hOL] at h ⊢
      exact h
end Go.Proofs.Ythchlfoebkachaa
