/-
  The statement FlowSame is proved for every network, every number and every edge: with Caps twice as great twice as much flows, with an edge more not less, with one that is closed not more. No condition.
-/
import Derived.Test.YtcbfgdiddhhhcaaTold6
import Derived.Test.YtcbfgdiddhhhcaaCmp6
import Derived.Test.YtcbfgdiddhhhcaaPlus
import Derived.Test.YtcbfgdiddhhhcaaValue
import Derived.Test.YtcbfgdiddhhhcaaMix
import Derived.Deep.AppendLies
import Derived.Deep.DeepCutAuto
import Derived.Test.YtcbfgdiddhhhcaaRows
namespace Go.Proofs.Ytcbfgdiddhhhcaa.lawSame
open Go.ChangeShapes Go.WideShapes Go.ChangeAt Go.RowKit Gm

def shut (es : List E) (K : Nat) : List E := es.set K ((ed es K).1, (ed es K).2.1, 0)
def SameAt (w4 : World) (N : Int) (ds cs : List E) (k : Nat) (wr : World) : Prop :=
  ∃ sl sl', (Blk wr w4.heap.size 24 #[.int .i64 N, sl] ∧ wr.ownsRow w4.heap.size 44 3 sl k (flat (ds.take k))) ∧ (Blk wr (w4.heap.size + 1) 24 #[.int .i64 N, sl'] ∧ wr.ownsRow w4.heap.size 44 3 sl' k (flat (cs.take k))) ∧ (∀ g, sl.ownBlock = some g → sl'.ownBlock ≠ some g) ∧ Below w4.heap.size w4 wr

/-- What stands behind m := Fit(..). -/
def MorePost (n : Nat) (F : List E) (w3 : World) (s : Value) (wx : World) : Prop :=
  ∃ M a5 cap5, s = .pointer (some ⟨M, 0, none⟩) ∧ w3.heap.size ≤ M ∧ Blk wx M 24 #[.int .i64 (n : Int), .slice a5 F.length cap5] ∧ NetAt wx.heap.size wx a5 F.length F ∧ Below w3.heap.size w3 wx

set_option maxRecDepth 100000 in
set_option maxHeartbeats 4000000 in
theorem walk (v : Int) (a : Option Addr) (len cap : Nat) (raw : List E) (wh : Int) (mo : E) (w : World) (h0 : I64 v ∧ NetAt w.heap.size w a len raw ∧ Wide raw) (h1 : I64 wh) (h2 : I64 mo.1 ∧ I64 mo.2.1 ∧ I64 mo.2.2) :
    Calls Try.prog 8 #[netV v a len cap, .int .i64 wh, edgeV mo] w fun e w' => e = .returned (.bool true) ∧ Below w.heap.size w w' := by
  obtain ⟨hv, hE, hW⟩ := h0
  obtain ⟨W0, hW0⟩ : ∃ W0, (w.alloc (.cells #[.int .i64 v, .slice a len cap] 24)).alloc (.cells #[.int .i64 mo.1, .int .i64 mo.2.1, .int .i64 mo.2.2] 44) = W0 := ⟨_, rfl⟩
  have hB0 : Below w.heap.size w W0 := by rw [← hW0]; exact ((Below.refl _ w).alloc (Nat.le_refl _) _).alloc (by simp) _
  have bN : Blk W0 w.heap.size 24 #[.int .i64 v, .slice a len cap] := by rw [← hW0]; exact (Blk.new w _ _).alloc _
  have bX : Blk W0 (w.heap.size + 1) 44 #[.int .i64 mo.1, .int .i64 mo.2.1, .int .i64 mo.2.2] := by
    rw [← hW0]; have := Blk.new (w.alloc (.cells #[.int .i64 v, .slice a len cap] 24)) 44 #[.int .i64 mo.1, .int .i64 mo.2.1, .int .i64 mo.2.2]
    rwa [World.size_alloc] at this
  have HW0 := Lib.hid hW0
  have HV := Lib.hid hv
  have HE := Lib.hid hE
  have HWI := Lib.hid hW
  have HWH := Lib.hid h1
  have HMO := Lib.hid h2
  have hN := fitN_bd v
  obtain ⟨n, hn⟩ : ∃ n : Nat, fitN v = n := ⟨(fitN v).toNat, by omega⟩
  rw [hn] at hN
  have hrt := fit_right v raw
  rw [hn] at hrt
  have HNN := Lib.hid hn
  obtain ⟨es, hes⟩ : ∃ es, fitEs n raw = es := ⟨_, rfl⟩
  rw [hes] at hrt
  have HES := Lib.hid hes
  have h40 : es.length ≤ 40 := by rw [← hes, fitEs_length]; omega
  have HOK : Hid (∀ e ∈ es, okE n e = true ∧ e.2.2 ≤ 9) := Lib.hid (by rw [← hes]; exact fitEs_ok _ _ (by omega))
  have HRT := Lib.hid hrt
  obtain ⟨R, hR, hG, hgain, hmost, _, hR0, hR1⟩ := maxF_good (n := n) (es := es) (s := 0) (t := 1) hrt (by omega) (by omega) (by omega) (by omega) (by omega)
  obtain ⟨f, m⟩ := R
  dsimp only at hR hG hgain hmost hR0 hR1
  have HM := Lib.hid hR
  have HMOST := Lib.hid hmost
  obtain ⟨K, hK⟩ : ∃ K, (pk wh es.length).toNat = K := ⟨_, rfl⟩
  have HK := Lib.hid hK
  clear hK
  have hz0 := hB0.size
  obtain ⟨i0, hi0, hx0, hx1, hx2⟩ := info_parts infoEdge
  clear hW0 hv hE hW hn hes hrt h1 h2 hR hG hgain hmost
  go_enter Try.func8, Try.ntmps8
  go_upto_region 4 with (first
    | (go_at_call 11; rw [HW0.out]; (with_reducible refine (awake6_any _).mono ?_); rintro e w1 ⟨rfl, hb1⟩
       have bN1 := bN.below hb1 bN.lt
       have bX1 := bX.below hb1 bX.lt
       have hB1 : Below w.heap.size w w1 := hB0.trans (hb1.mono hz0)
       obtain ⟨lN1, n0, n1⟩ := bN1.two)
    | (go_at_call 17; (with_reducible refine (fit_any _ _ _ _ raw _ ((HE.out.below hB1).more hB1.size) HV.out HWI.out).mono ?_); rintro e w2 ⟨a2, cap2, rfl, hE2, hb2⟩
       rw [HNN.out, HES.out] at hE2 ⊢
       have hB2 : Below w.heap.size w w2 := hB1.trans (hb2.mono hB1.size)
       have bX2 := bX1.below hb2 bX1.lt
       have lN2 : w2.heap.size < w2.heap.size + 1 := by omega
       have HE3 : Hid (NetAt (w2.alloc (.cells #[.int .i64 (n : Int), .slice a2 es.length cap2] 24)).heap.size (w2.alloc (.cells #[.int .i64 (n : Int), .slice a2 es.length cap2] 24)) a2 es.length es) := Lib.hid (net_on hE2 ((Below.refl _ w2).alloc (Nat.le_refl _) _)))
    | (go_at_call 14; (with_reducible refine (max_any _ _ _ _ es 0 1 _ HE3.out).mono ?_); rw [HM.out]; rintro e w4 ⟨a4, l4, c4, he, hF4, hb4⟩
       dsimp only at he hF4
       subst he
       have bM := (Blk.new w2 24 #[.int .i64 (n : Int), .slice a2 es.length cap2]).below hb4 (by simp)
       have bX4 := (bX2.alloc (.cells #[.int .i64 (n : Int), .slice a2 es.length cap2] 24)).below hb4 (by have := bX2.lt; simp; omega)
       have hB4 : Below w.heap.size w w4 := (hB2.alloc hB2.size (.cells #[.int .i64 (n : Int), .slice a2 es.length cap2] 24)).trans (hb4.mono (by have := hB2.size; simp; omega))
       have HE4 := Lib.hid (net_on HE3.out hb4)
       have hz4 := hB4.size
       clear hF4))
  clear hb1 hb2 hb4 bN bN1 bX bX1 bX2 lN1 n0 n1 hB0 hB1 hB2 lN2 hz0 hE2
  have lM := bM.lt
  obtain ⟨_, m0, m1⟩ := bM.two
  go_wp2
  go_loopw [14] (fun i wr => ∃ k : Nat, k ≤ es.length ∧ i = .int .i64 k ∧ SameAt w4 n (es.map dbl) (shut es K) k wr) (fun i _ => es.length - (intOf i).toNat)
  case atStart =>
    refine ⟨0, Nat.zero_le _, rfl, .slice none 0 0, .slice none 0 0, ⟨(Blk.new w4 _ _).alloc _, by simp [flat], .inl ⟨rfl, rfl⟩⟩, ⟨?_, by simp [flat], .inl ⟨rfl, rfl⟩⟩, by simp [Value.ownBlock], ((Below.refl _ w4).alloc (Nat.le_refl _) _).alloc (by simp) _⟩
    have := Blk.new (w4.alloc (.cells #[.int .i64 (n : Int), .slice none 0 0] 24)) 24 #[.int .i64 (n : Int), .slice none 0 0]
    rwa [World.size_alloc] at this
  case round =>
    obtain ⟨k, hk, rfl, sl, sl', ⟨bD, hoD⟩, ⟨bC, hoC⟩, hdis, hB⟩ := hrel
    obtain ⟨w5, rfl⟩ : ∃ w', w' = wr := ⟨_, rfl⟩
    clear m0 m1
    obtain ⟨lD, e0, e1⟩ := bD.two
    have hz5 := hB.size
    by_cases hlt : k < es.length
    · obtain ⟨b, off, ha, hc⟩ := HE4.out.2.2
      obtain ⟨hb, c0, c1, c2⟩ := hc k hlt
      obtain rfl : a2 = some ⟨b, off, none⟩ := by
        rcases ha with h | h
        · omega
        · exact h
      have hok := HOK.out _ (List.getElem_mem hlt)
      have hok1 := (okE_iff.1 hok.1).2.2.2.2.2.1
      have hok2 := hok.2
      have hTD : ((es.map dbl).take (k + 1)) = (es.map dbl).take k ++ [dbl es[k]] := by
        rw [List.take_succ_eq_append_getElem (by simpa using hlt), List.getElem_map]
      have hTC : ((shut es K).take (k + 1)) = (shut es K).take k ++ [if k = K then (es[k].1, es[k].2.1, 0) else es[k]] := by
        rw [List.take_succ_eq_append_getElem (by simpa [shut] using hlt)]
        congr 2
        unfold shut
        rw [List.getElem_set]
        by_cases e : K = k
        · subst e
          have hed : ed es K = es[K] := by unfold ed; rw [List.getElem?_eq_getElem hlt]; rfl
          rw [if_pos rfl, if_pos rfl, hed]
        · rw [if_neg e, if_neg (fun h => e h.symm)]
      obtain ⟨x, hx⟩ : ∃ x, es[k] = x := ⟨_, rfl⟩
      rw [hx] at c0 c1 c2 hok1 hok2 hTD hTC
      have HTD := Lib.hid hTD
      have hcell : ∀ W, Below w4.heap.size w4 W → W.cell? ⟨b, off + k * 3, none⟩ = some (.int .i64 x.1) ∧ W.cell? ⟨b, off + k * 3 + 1, none⟩ = some (.int .i64 x.2.1) ∧ W.cell? ⟨b, off + k * 3 + 2, none⟩ = some (.int .i64 x.2.2) ∧ W.cell? ⟨w2.heap.size, 0, none⟩ = some (.int .i64 (n : Int)) ∧ W.cell? ⟨w2.heap.size, 1, none⟩ = some (.slice (some ⟨b, off, none⟩) es.length cap2) ∧ b < W.heap.size ∧ w2.heap.size < W.heap.size := fun W h =>
        ⟨(h.cell (p := ⟨b, off + k * 3, none⟩) hb).trans c0, (h.cell (p := ⟨b, off + k * 3 + 1, none⟩) hb).trans c1, (h.cell (p := ⟨b, off + k * 3 + 2, none⟩) hb).trans c2, (bM.below h lM).two.2.1, (bM.below h lM).two.2.2, by have := h.size; omega, by have := h.size; omega⟩
      have HCE := Lib.hid hcell
      have hki : (k : Int) < (es.length : Int) := by omega
      have hw0 : IntKind.i64.wrap (2 * x.2.2) = 2 * x.2.2 := IntWalk.i64_in _ (by omega)
      clear ha hc hx hok hTD hcell c0 c1 c2
      obtain ⟨c0, c1, c2, n0, n1, hbl, lN⟩ := HCE.out w5 hB
      go_upto_region 11 with fail
      clear hw0
      obtain ⟨w6, hw6⟩ : ∃ W, w5.alloc (.cells #[.int .i64 x.1, .int .i64 x.2.1, .int .i64 (2 * x.2.2)] 44) = W := ⟨_, rfl⟩
      have bX6 : Blk w6 w5.heap.size 44 #[.int .i64 x.1, .int .i64 x.2.1, .int .i64 (2 * x.2.2)] := hw6 ▸ Blk.new w5 _ _
      have bD6 : Blk w6 w4.heap.size 24 #[.int .i64 (n : Int), sl] := hw6 ▸ bD.alloc _
      have bC6 : Blk w6 (w4.heap.size + 1) 24 #[.int .i64 (n : Int), sl'] := hw6 ▸ bC.alloc _
      have hoD6 : w6.ownsRow w4.heap.size 44 3 sl k (flat ((es.map dbl).take k)) := hw6 ▸ hoD.alloc _
      have hoC6 : w6.ownsRow w4.heap.size 44 3 sl' k (flat ((shut es K).take k)) := hw6 ▸ hoC.alloc _
      have hB6 : Below w4.heap.size w4 w6 := hw6 ▸ hB.alloc hB.size _
      rw [hw6]
      clear hw6 bD bC hoD hoC hB e0 e1 lD c0 c1 c2 n0 n1 lN hbl
      obtain ⟨lD6, e0, e1⟩ := bD6.two
      obtain ⟨lX6, x60, x61, x62⟩ := bX6.three
      have hz46 := hB6.size
      have hoD6' := hoD6.alloc (.cells #[.int .i64 x.1, .int .i64 x.2.1, .int .i64 (2 * x.2.2)] 44)
      have hoC6' := hoC6.alloc (.cells #[.int .i64 x.1, .int .i64 x.2.1, .int .i64 (2 * x.2.2)] 44)
      have bD6' := bD6.alloc (.cells #[.int .i64 x.1, .int .i64 x.2.1, .int .i64 (2 * x.2.2)] 44)
      have bC6' := bC6.alloc (.cells #[.int .i64 x.1, .int .i64 x.2.1, .int .i64 (2 * x.2.2)] 44)
      have hB6' := hB6.alloc hB6.size (.cells #[.int .i64 x.1, .int .i64 x.2.1, .int .i64 (2 * x.2.2)] 44)
      have hneD : sl.ownBlock ≠ some w4.heap.size := own_blk_ne hoD6' bD6' (by decide)
      have hneC : sl.ownBlock ≠ some (w4.heap.size + 1) := own_blk_ne hoD6' bC6' (by decide)
      have HNED := Lib.hid hneD
      have HNEC := Lib.hid hneC
      clear hneD hneC
      go_upto_region 12 with (
        at_builtin
        refine wpList_append_lies _ (by rfl) (.tmp 59) (.tmp 61) 22 (by rfl) w4.heap.size 44 i0 _ 3 24 Try.underlying22 hi0 hx0 hx1 hx2 rfl (by decide) sl k (flat ((es.map dbl).take k)) (by rfl) hoD6' ⟨w6.heap.size, 0, none⟩ 1 1 [.int .i64 x.1, .int .i64 x.2.1, .int .i64 (2 * x.2.2)] (by rfl) (by rfl) (cells_three _ _ _ _ _) (by simp [Value.oneCell']) (by omega) (by simp [maxLen]; omega) (by omega) (by simp; omega) (w6.heap.size + 1) (by simp) ?_
        intro g1 cap1 w7 hoD7 hg7 hloc7 hlt7
        have bD7 := bD6'.kept hg7 HNED.out.symm
        have lD7 := bD7.lt
        have df7 := bD7.frozen 1
        have e71 := bD7.two.2.2)
      obtain ⟨sn, hsn⟩ : ∃ s : Value, Value.slice (some ⟨g1, 0, none⟩) (k + 1) cap1 = s := ⟨_, rfl⟩
      obtain ⟨w8, hw8⟩ : ∃ W, w7.setCell ⟨w4.heap.size, 1, none⟩ (.slice (some ⟨g1, 0, none⟩) (k + 1) cap1) = W := ⟨_, rfl⟩
      have bD8 : Blk w8 w4.heap.size 24 #[.int .i64 (n : Int), sn] := hw8 ▸ hsn ▸ bD7.set 1 _
      have bC7 := bC6'.kept hg7 HNEC.out.symm
      have bC8 : Blk w8 (w4.heap.size + 1) 24 #[.int .i64 (n : Int), sl'] := hw8 ▸ bC7.far (p := ⟨w4.heap.size, 1, none⟩) (by simp) _
      have hoD8 : w8.ownsRow w4.heap.size 44 3 sn (k + 1) (flat ((es.map dbl).take (k + 1))) := by
        rw [HTD.out, flat_snoc, ← hw8, ← hsn]
        exact ownsRow_setCell_other hoD7 (own_blk_ne hoD7 bD7 (by decide)) _
      have hoC7 := own_kept hoC6' hg7 (fun g e e2 => hdis g e2 e)
      have hoC8 : w8.ownsRow w4.heap.size 44 3 sl' k (flat ((shut es K).take k)) := hw8 ▸ ownsRow_setCell_other hoC7 (own_blk_ne hoC7 bD7 (by decide)) _
      have hdis8 : ∀ g, sn.ownBlock = some g → sl'.ownBlock ≠ some g := by
        intro g e1 e2
        rw [← hsn] at e1
        obtain rfl : g1 = g := by simpa [Value.ownBlock] using e1
        rcases hloc7 with h | h
        · exact hdis g1 h e2
        · have := (hoC6.lt g1 e2).2
          omega
      have hB7 := hB6'.grown hg7 (by have := hB6'.size; omega) (fun j e => (hoD6'.lt j e).1)
      have hB8 : Below w4.heap.size w4 w8 := hw8 ▸ hB7.setCell (p := ⟨w4.heap.size, 1, none⟩) (by simp) _
      rw [hw8]
      clear hw8 hsn bC7 hoC7 hB7 hoD7 bD7 hg7 hloc7 hlt7 lD7 df7 e71 bD6 bC6 hoD6 hoC6 hB6 bD6' bC6' hoD6' hoC6' hB6' hdis bX6 lX6 x60 x61 x62 lD6 e0 e1 HTD HNED HNEC
      have HD8 := Lib.hid hoD8
      have HDIS := Lib.hid hdis8
      clear hoD8 hdis8
      have hz8 := hB8.size
      obtain ⟨c0, c1, c2, n0, n1, hbl, lN⟩ := HCE.out w8 hB8
      have hpk := pk_bd wh es.length (by omega)
      have HPK : Hid (pk wh es.length = (K : Int)) := Lib.hid (by rw [← HK.out]; omega)
      clear hpk
      by_cases hkK : k = K
      · have t1 : ((k : Int) == (K : Int)) = true := by simp [hkK]
        have HTC1 : Hid ((shut es K).take (k + 1) = (shut es K).take k ++ [(x.1, x.2.1, 0)]) := Lib.hid (by rw [hTC, if_pos hkK])
        clear hTC hkK
        go_upto_region 15 with (go_at_call 20; (with_reducible refine (pick6_any _ _ _ HWH.out (by omega) (by omega)).mono ?_); rw [HPK.out]; rintro e wp ⟨rfl, rfl⟩)
        obtain ⟨w9, hw9⟩ : ∃ W, w8.alloc (.cells #[.int .i64 x.1, .int .i64 x.2.1, .int .i64 0] 44) = W := ⟨_, rfl⟩
        have bX9 : Blk w9 w8.heap.size 44 #[.int .i64 x.1, .int .i64 x.2.1, .int .i64 0] := hw9 ▸ Blk.new w8 _ _
        have bD9 : Blk w9 w4.heap.size 24 #[.int .i64 (n : Int), sn] := hw9 ▸ bD8.alloc _
        have bC9 : Blk w9 (w4.heap.size + 1) 24 #[.int .i64 (n : Int), sl'] := hw9 ▸ bC8.alloc _
        have hoD9 : w9.ownsRow w4.heap.size 44 3 sn (k + 1) (flat ((es.map dbl).take (k + 1))) := hw9 ▸ HD8.out.alloc _
        have hoC9 : w9.ownsRow w4.heap.size 44 3 sl' k (flat ((shut es K).take k)) := hw9 ▸ hoC8.alloc _
        have hB9 : Below w4.heap.size w4 w9 := hw9 ▸ hB8.alloc hB8.size _
        have HLT9 : Hid (∀ g, sn.ownBlock = some g → g < w9.heap.size) := Lib.hid (fun g e => (hoD9.lt g e).2)
        rw [hw9]
        clear hw9 bD8 bC8 hoC8 hB8 c0 c1 c2 n0 n1 hbl lN t1
        obtain ⟨lC9, e0, e1⟩ := bC9.two
        obtain ⟨lX9, x90, x91, x92⟩ := bX9.three
        have hz49 := hB9.size
        have hoD' := hoD9.alloc (.cells #[.int .i64 x.1, .int .i64 x.2.1, .int .i64 0] 44)
        have hoC' := hoC9.alloc (.cells #[.int .i64 x.1, .int .i64 x.2.1, .int .i64 0] 44)
        have bD' := bD9.alloc (.cells #[.int .i64 x.1, .int .i64 x.2.1, .int .i64 0] 44)
        have bC' := bC9.alloc (.cells #[.int .i64 x.1, .int .i64 x.2.1, .int .i64 0] 44)
        have hB' := hB9.alloc hB9.size (.cells #[.int .i64 x.1, .int .i64 x.2.1, .int .i64 0] 44)
        have hneD : sl'.ownBlock ≠ some w4.heap.size := own_blk_ne hoC' bD' (by decide)
        have hneC : sl'.ownBlock ≠ some (w4.heap.size + 1) := own_blk_ne hoC' bC' (by decide)
        have HNED := Lib.hid hneD
        have HNEC := Lib.hid hneC
        clear hneD hneC
        go_wp2_with (
          at_builtin
          refine wpList_append_lies _ (by rfl) (.tmp 78) (.tmp 80) 22 (by rfl) w4.heap.size 44 i0 _ 3 24 Try.underlying22 hi0 hx0 hx1 hx2 rfl (by decide) sl' k (flat ((shut es K).take k)) (by rfl) hoC' ⟨w9.heap.size, 0, none⟩ 1 1 [.int .i64 x.1, .int .i64 x.2.1, .int .i64 0] (by rfl) (by rfl) (cells_three _ _ _ _ _) (by simp [Value.oneCell']) (by omega) (by simp [maxLen]; omega) (by omega) (by simp; omega) (w9.heap.size + 1) (by simp) ?_
          intro g2 cap2' w10 hoC10 hg10 hloc10 hlt10
          have bC10 := bC'.kept hg10 HNEC.out.symm
          have lC10 := bC10.lt
          have df10 := bC10.frozen 1
          have e101 := bC10.two.2.2)
        go_roundw
        case rel =>
          have bD10 := bD'.kept hg10 HNED.out.symm
          have hoD10 := own_kept hoD' hg10 (fun g e e2 => HDIS.out g e e2)
          have hB10 := hB'.grown hg10 (by have := hB'.size; omega) (fun j e => (hoC'.lt j e).1)
          refine ⟨k + 1, by omega, by go_num, sn, _, ⟨bD10.far (p := ⟨w4.heap.size + 1, 1, none⟩) (by simp) _, ownsRow_setCell_other hoD10 (own_blk_ne hoD10 bC10 (by decide)) _⟩, ⟨bC10.set 1 _, ?_⟩, ?_, hB10.setCell (p := ⟨w4.heap.size + 1, 1, none⟩) (by simp) _⟩
          · rw [HTC1.out, flat_snoc]
            exact ownsRow_setCell_other hoC10 (own_blk_ne hoC10 bC10 (by decide)) _
          · intro g e1 e2
            obtain rfl : g2 = g := by simpa [Value.ownBlock] using e2
            rcases hloc10 with h | h
            · exact HDIS.out g2 e1 h
            · have := HLT9.out g2 e1
              omega
        case measure => simp [intOf]; omega
      · have t1 : ((k : Int) == (K : Int)) = false := by rw [beq_eq_false_iff_ne]; omega
        have HTC1 : Hid ((shut es K).take (k + 1) = (shut es K).take k ++ [(x.1, x.2.1, x.2.2)]) := Lib.hid (by rw [hTC, if_neg hkK])
        clear hTC hkK
        go_upto_region 15 with (go_at_call 20; (with_reducible refine (pick6_any _ _ _ HWH.out (by omega) (by omega)).mono ?_); rw [HPK.out]; rintro e wp ⟨rfl, rfl⟩)
        obtain ⟨w9, hw9⟩ : ∃ W, w8.alloc (.cells #[.int .i64 x.1, .int .i64 x.2.1, .int .i64 x.2.2] 44) = W := ⟨_, rfl⟩
        have bX9 : Blk w9 w8.heap.size 44 #[.int .i64 x.1, .int .i64 x.2.1, .int .i64 x.2.2] := hw9 ▸ Blk.new w8 _ _
        have bD9 : Blk w9 w4.heap.size 24 #[.int .i64 (n : Int), sn] := hw9 ▸ bD8.alloc _
        have bC9 : Blk w9 (w4.heap.size + 1) 24 #[.int .i64 (n : Int), sl'] := hw9 ▸ bC8.alloc _
        have hoD9 : w9.ownsRow w4.heap.size 44 3 sn (k + 1) (flat ((es.map dbl).take (k + 1))) := hw9 ▸ HD8.out.alloc _
        have hoC9 : w9.ownsRow w4.heap.size 44 3 sl' k (flat ((shut es K).take k)) := hw9 ▸ hoC8.alloc _
        have hB9 : Below w4.heap.size w4 w9 := hw9 ▸ hB8.alloc hB8.size _
        have HLT9 : Hid (∀ g, sn.ownBlock = some g → g < w9.heap.size) := Lib.hid (fun g e => (hoD9.lt g e).2)
        rw [hw9]
        clear hw9 bD8 bC8 hoC8 hB8 c0 c1 c2 n0 n1 hbl lN t1
        obtain ⟨lC9, e0, e1⟩ := bC9.two
        obtain ⟨lX9, x90, x91, x92⟩ := bX9.three
        have hz49 := hB9.size
        have hoD' := hoD9.alloc (.cells #[.int .i64 x.1, .int .i64 x.2.1, .int .i64 x.2.2] 44)
        have hoC' := hoC9.alloc (.cells #[.int .i64 x.1, .int .i64 x.2.1, .int .i64 x.2.2] 44)
        have bD' := bD9.alloc (.cells #[.int .i64 x.1, .int .i64 x.2.1, .int .i64 x.2.2] 44)
        have bC' := bC9.alloc (.cells #[.int .i64 x.1, .int .i64 x.2.1, .int .i64 x.2.2] 44)
        have hB' := hB9.alloc hB9.size (.cells #[.int .i64 x.1, .int .i64 x.2.1, .int .i64 x.2.2] 44)
        have hneD : sl'.ownBlock ≠ some w4.heap.size := own_blk_ne hoC' bD' (by decide)
        have hneC : sl'.ownBlock ≠ some (w4.heap.size + 1) := own_blk_ne hoC' bC' (by decide)
        have HNED := Lib.hid hneD
        have HNEC := Lib.hid hneC
        clear hneD hneC
        go_wp2_with (
          at_builtin
          refine wpList_append_lies _ (by rfl) (.tmp 78) (.tmp 80) 22 (by rfl) w4.heap.size 44 i0 _ 3 24 Try.underlying22 hi0 hx0 hx1 hx2 rfl (by decide) sl' k (flat ((shut es K).take k)) (by rfl) hoC' ⟨w9.heap.size, 0, none⟩ 1 1 [.int .i64 x.1, .int .i64 x.2.1, .int .i64 x.2.2] (by rfl) (by rfl) (cells_three _ _ _ _ _) (by simp [Value.oneCell']) (by omega) (by simp [maxLen]; omega) (by omega) (by simp; omega) (w9.heap.size + 1) (by simp) ?_
          intro g2 cap2' w10 hoC10 hg10 hloc10 hlt10
          have bC10 := bC'.kept hg10 HNEC.out.symm
          have lC10 := bC10.lt
          have df10 := bC10.frozen 1
          have e101 := bC10.two.2.2)
        go_roundw
        case rel =>
          have bD10 := bD'.kept hg10 HNED.out.symm
          have hoD10 := own_kept hoD' hg10 (fun g e e2 => HDIS.out g e e2)
          have hB10 := hB'.grown hg10 (by have := hB'.size; omega) (fun j e => (hoC'.lt j e).1)
          refine ⟨k + 1, by omega, by go_num, sn, _, ⟨bD10.far (p := ⟨w4.heap.size + 1, 1, none⟩) (by simp) _, ownsRow_setCell_other hoD10 (own_blk_ne hoD10 bC10 (by decide)) _⟩, ⟨bC10.set 1 _, ?_⟩, ?_, hB10.setCell (p := ⟨w4.heap.size + 1, 1, none⟩) (by simp) _⟩
          · rw [HTC1.out, flat_snoc]
            exact ownsRow_setCell_other hoC10 (own_blk_ne hoC10 bC10 (by decide)) _
          · intro g e1 e2
            obtain rfl : g2 = g := by simpa [Value.ownBlock] using e2
            rcases hloc10 with h | h
            · exact HDIS.out g2 e1 h
            · have := HLT9.out g2 e1
              omega
        case measure => simp [intOf]; omega
    · obtain rfl : k = es.length := by omega
      have hB5 := hB4.trans (hB.mono hz4)
      have hzw := hB5.size
      have bM5 := bM.below hB lM
      have bX5 := bX4.below hB bX4.lt
      obtain ⟨lM5, m50, m51⟩ := bM5.two
      obtain ⟨sa, sc, rfl⟩ := own_form hoD
      obtain ⟨ta, tc, rfl⟩ := own_form hoC
      have HD : Hid (NetAt w5.heap.size w5 sa es.length (es.map dbl)) := Lib.hid (by
        rw [List.take_of_length_le (by simp)] at hoD
        exact (edges_own (es := es.map dbl) (by simpa using hoD) (by simp; omega)).2 |> fun h => by simpa using h)
      have HC : Hid (NetAt w5.heap.size w5 ta es.length (shut es K)) := Lib.hid (by
        rw [List.take_of_length_le (by simp [shut])] at hoC
        exact (edges_own (es := shut es K) (by simpa [shut] using hoC) (by simp [shut]; omega)).2 |> fun h => by simpa [shut] using h)
      have HE5 := Lib.hid (net_on HE4.out hB)
      have HB5 := Lib.hid hB5
      clear hoD hoC hdis hB e0 e1 lD lM bM bX4 hz5
      go_upto_region 16 with fail
      obtain ⟨F, hF⟩ : ∃ F, fitEs n (es ++ [mo]) = F := ⟨_, rfl⟩
      have HF := Lib.hid hF
      have HFN : Hid (fitN ((n : Int) - 2) = n) := Lib.hid (fitN_id (by omega) (by omega))
      have HNI : Hid (I64 ((n : Int) - 2)) := Lib.hid (by unfold I64; omega)
      have HWM : Hid (Wide (es ++ [mo])) := Lib.hid (fun e he => by
        rcases List.mem_append.1 he with h | h
        · have h1 := HOK.out e h
          have h2 := okE_iff.1 h1.1
          have h3 := h1.2
          unfold I64; omega
        · obtain rfl : e = mo := by simpa using h
          exact HMO.out)
      clear hF
      go_cut [17] (fun s17 wx => MorePost n F w5 s17 wx)
      case first =>
        obtain ⟨lX, x0, x1, x2⟩ := bX5.three
        have hw2 : IntKind.i64.wrap ((n : Int) - 2) = (n : Int) - 2 := IntWalk.i64_in _ (by omega)
        have hB := below_drew (Below.refl w5.heap.size w5)
        have hcells : ∀ W, Below w5.heap.size w5 W → W.cell? ⟨w2.heap.size, 0, none⟩ = some (.int .i64 (n : Int)) ∧ W.cell? ⟨w2.heap.size, 1, none⟩ = some (.slice a2 es.length cap2) ∧ W.cell? ⟨w.heap.size + 1, 0, none⟩ = some (.int .i64 mo.1) ∧ W.cell? ⟨w.heap.size + 1, 1, none⟩ = some (.int .i64 mo.2.1) ∧ W.cell? ⟨w.heap.size + 1, 2, none⟩ = some (.int .i64 mo.2.2) := fun W h =>
          ⟨(bM5.below h bM5.lt).two.2.1, (bM5.below h bM5.lt).two.2.2, (bX5.below h bX5.lt).three.2.1, (bX5.below h bX5.lt).three.2.2.1, (bX5.below h bX5.lt).three.2.2.2⟩
        have HCE := Lib.hid hcells
        clear hcells hB5
        refine region_mix (fun W => Below w5.heap.size w5 W) (12) (.reads [0, 1, 2, 3, 4, 6] (.fork3 5 (.fork 7 (.fork 8 (.reads [9] (.fork 10 (.only 11 (.only 12 (.stop))) 11 (.only 10 (.only 12 (.stop))))) 11 (.only 8 (.reads [9] (.only 10 (.only 12 (.stop)))))) 11 (.only 7 (.only 8 (.reads [9] (.only 10 (.only 12 (.stop))))))) 7 (.fork 5 (.fork 8 (.reads [9] (.fork 10 (.only 11 (.only 12 (.stop))) 11 (.only 10 (.only 12 (.stop))))) 11 (.only 8 (.reads [9] (.only 10 (.only 12 (.stop)))))) 11 (.only 5 (.only 8 (.reads [9] (.only 10 (.only 12 (.stop))))))) 11 (.fork 5 (.only 7 (.only 8 (.reads [9] (.only 10 (.only 12 (.stop)))))) 7 (.only 5 (.only 8 (.reads [9] (.only 10 (.only 12 (.stop))))))))) (by kernel_rfl) (by kernel_rfl) (hB) ?_
        obtain ⟨wc, hwc⟩ : ∃ W, w5.drew = W := ⟨_, rfl⟩
        rw [hwc] at hB ⊢
        clear hwc x0 x1 x2 m50 m51
        have hlen : (es ++ [mo]).length = es.length + 1 := by rw [List.length_append]; rfl
        have HLEN := Lib.hid hlen
        have HTK : Hid (es.take es.length = es) := Lib.hid (List.take_of_length_le (Nat.le_refl _))
        clear hlen
        repeat (
          refine plan_read rfl (fun K hK => ?_)
          first
            | (refine plan_neg ?_ ?_
               focus (go_simp; done)
               go_simp
               refine hK _ ?_
               clear hK K)
            | (apply plan_pos
               focus (go_simp; done)
               focus (
                 intro W hW
                 (first | obtain ⟨d0, d1, d2, d3, d4⟩ := HCE.out W hW | skip)
                 go_simp
                 first
                   | done
                   | exact rfl)
               go_simp
               refine hK _ ?_
               clear hK K))
        refine plan_fork3 rfl rfl rfl (fun Q hQ => ?_) (fun Q hQ => ?_) (fun Q hQ => ?_)
        · obtain ⟨v1, wd, hr, h5, hg⟩ := append_nil_edges (cap := cap2) (HE5.out.below hB) es.length (Nat.le_refl _) h40 22 w5.heap.size hB.size
          refine wpList_append_run (by rfl) (.const (.slice none 0 0)) (.tmp 87) 22 22 (by rfl) (by rfl) (by rfl) hr ?_
          replace hB := hB.grown hg hB.size (fun j e => by cases e)
          try replace h7 := h7.kept hg (by simp)
          try replace h11 := h11.kept hg (by simp)
          clear hr hg
          go_wp2
          refine hQ _ _ (fun _ => hB) ?_
          clear hQ Q
          obtain ⟨wc, rfl⟩ : ∃ W, W = wd := ⟨_, rfl⟩
          refine plan_fork rfl rfl (fun Q hQ => ?_) (fun Q hQ => ?_)
          · have HX := Lib.hid (HCE.out wc hB)
            go_wp2
            have h7 := Blk.new wc 44 #[.int .i64 mo.1, .int .i64 mo.2.1, .int .i64 mo.2.2]
            replace hB := hB.alloc hB.size (.cells #[.int .i64 mo.1, .int .i64 mo.2.1, .int .i64 mo.2.2] 44)
            try replace h5 := h5.alloc (.cells #[.int .i64 mo.1, .int .i64 mo.2.1, .int .i64 mo.2.2] 44)
            try replace h11 := h11.alloc (.cells #[.int .i64 mo.1, .int .i64 mo.2.1, .int .i64 mo.2.2] 44)
            refine hQ _ _ (fun _ => hB) ?_
            clear hQ Q HX
            generalize wc.alloc (.cells #[.int .i64 mo.1, .int .i64 mo.2.1, .int .i64 mo.2.2] 44) = wd at *
            generalize wc.heap.size = X at *
            obtain ⟨wc, rfl⟩ : ∃ W, W = wd := ⟨_, rfl⟩
            refine plan_fork rfl rfl (fun Q hQ => ?_) (fun Q hQ => ?_)
            · refine wpList_append_lies _ (by rfl) (.tmp 88) (.tmp 90) 22 (by rfl) w5.heap.size 44 i0 _ 3 24 Try.underlying22 hi0 hx0 hx1 hx2 rfl (by decide) v1 es.length (flat (es.take es.length)) (by rfl) h5 ⟨X, 0, none⟩ 1 1 [.int .i64 mo.1, .int .i64 mo.2.1, .int .i64 mo.2.2] (by rfl) (by rfl) (World.news_of_block h7) (by simp [Value.oneCell']) (by omega) (by simp [maxLen]; omega) (by omega) hB.size wc.heap.size rfl ?_
              intro gg cap' wd h8 hg _ _
              replace hB := hB.grown hg hB.size (fun j e => (h5.lt j e).1)
              try replace h11 := h11.kept hg (own_blk_ne h5 h11 (by decide)).symm
              clear hg h5 h7
              go_wp2
              refine hQ _ _ (fun _ => hB) ?_
              clear hQ Q
              obtain ⟨wc, rfl⟩ : ∃ W, W = wd := ⟨_, rfl⟩
              repeat (
                refine plan_read rfl (fun K hK => ?_)
                first
                  | (refine plan_neg ?_ ?_
                     focus (go_simp; done)
                     go_simp
                     refine hK _ ?_
                     clear hK K)
                  | (apply plan_pos
                     focus (go_simp; done)
                     focus (
                       intro W hW
                       (first | obtain ⟨d0, d1, d2, d3, d4⟩ := HCE.out W hW | skip)
                       go_simp
                       first
                         | done
                         | exact rfl)
                     go_simp
                     refine hK _ ?_
                     clear hK K))
              refine plan_fork rfl rfl (fun Q hQ => ?_) (fun Q hQ => ?_)
              · have h8' : wc.ownsRow w5.heap.size 44 3 (.slice (some ⟨gg, 0, none⟩) (es.length + 1) cap') (es ++ [mo]).length (flat (es ++ [mo])) := by rw [HLEN.out, flat_snoc]; rw [HTK.out] at h8; exact h8
                have HN8 := Lib.hid (edges_own h8' (by rw [HLEN.out]; omega)).2
                clear h8'
                go_wp2_with (go_at_call 17; (with_reducible refine (fit_any _ _ _ _ (es ++ [mo]) _ HN8.out HNI.out HWM.out).mono ?_); rintro e wd ⟨a6, cap6, rfl, h10, hb⟩; rw [HFN.out, HF.out] at h10 ⊢)
                replace hB := hB.trans (hb.mono hB.size)
                try replace h11 := h11.below hb h11.lt
                refine hQ _ _ (fun _ => hB) ?_
                clear hQ Q HN8 h8 hb
                obtain ⟨wc, rfl⟩ : ∃ W, W = wd := ⟨_, rfl⟩
                refine plan_only rfl (fun Q hQ => ?_)
                go_wp2
                have h11 := Blk.new wc 24 #[.int .i64 0, .slice none 0 0]
                have hM := hB.size
                replace hB := hB.alloc hB.size (.cells #[.int .i64 0, .slice none 0 0] 24)
                try replace h5 := h5.alloc (.cells #[.int .i64 0, .slice none 0 0] 24)
                try replace h7 := h7.alloc (.cells #[.int .i64 0, .slice none 0 0] 24)
                try replace h8 := h8.alloc (.cells #[.int .i64 0, .slice none 0 0] 24)
                try replace h10 := (h10.below ((Below.refl _ wc).alloc (Nat.le_refl _) (.cells #[.int .i64 0, .slice none 0 0] 24))).more (B' := (wc.alloc (.cells #[.int .i64 0, .slice none 0 0] 24)).heap.size) (by simp)
                refine hQ _ _ (fun _ => hB) ?_
                clear hQ Q
                generalize wc.alloc (.cells #[.int .i64 0, .slice none 0 0] 24) = wd at *
                generalize wc.heap.size = M at *
                obtain ⟨wc, rfl⟩ : ∃ W, W = wd := ⟨_, rfl⟩
                refine plan_only rfl (fun Q hQ => ?_)
                obtain ⟨lM, y0, y1⟩ := h11.two
                have yf0 := h11.frozen 0
                have yf1 := h11.frozen 1
                go_wp2
                have h10' := (h10.off (i := 0) h11 (.int .i64 (n : Int))).off (i := 1) (h11.set 0 (.int .i64 (n : Int))) (.slice a6 F.length cap6)
                replace h10 : NetAt ((wc.setCell ⟨M, 0, none⟩ (.int .i64 (n : Int))).setCell ⟨M, 1, none⟩ (.slice a6 F.length cap6)).heap.size _ _ _ _ := h10'.more (by simp)
                replace h11 := (h11.set 0 (.int .i64 (n : Int))).set 1 (.slice a6 F.length cap6)
                replace hB := (hB.setCell (p := ⟨M, 0, none⟩) hM (.int .i64 (n : Int))).setCell (p := ⟨M, 1, none⟩) hM (.slice a6 F.length cap6)
                refine hQ _ _ (fun h => absurd h (by omega)) ?_
                clear hQ Q h10' y0 y1 yf0 yf1
                unfold Plan.wp
                go_wp2_with fail
                go_meet
                exact ⟨M, a6, cap6, rfl, hM, h11, h10, hB⟩
              · go_wp2
                have h11 := Blk.new wc 24 #[.int .i64 0, .slice none 0 0]
                have hM := hB.size
                replace hB := hB.alloc hB.size (.cells #[.int .i64 0, .slice none 0 0] 24)
                try replace h5 := h5.alloc (.cells #[.int .i64 0, .slice none 0 0] 24)
                try replace h7 := h7.alloc (.cells #[.int .i64 0, .slice none 0 0] 24)
                try replace h8 := h8.alloc (.cells #[.int .i64 0, .slice none 0 0] 24)
                try replace h10 := (h10.below ((Below.refl _ wc).alloc (Nat.le_refl _) (.cells #[.int .i64 0, .slice none 0 0] 24))).more (B' := (wc.alloc (.cells #[.int .i64 0, .slice none 0 0] 24)).heap.size) (by simp)
                refine hQ _ _ (fun _ => hB) ?_
                clear hQ Q
                generalize wc.alloc (.cells #[.int .i64 0, .slice none 0 0] 24) = wd at *
                generalize wc.heap.size = M at *
                obtain ⟨wc, rfl⟩ : ∃ W, W = wd := ⟨_, rfl⟩
                refine plan_only rfl (fun Q hQ => ?_)
                have h8' : wc.ownsRow w5.heap.size 44 3 (.slice (some ⟨gg, 0, none⟩) (es.length + 1) cap') (es ++ [mo]).length (flat (es ++ [mo])) := by rw [HLEN.out, flat_snoc]; rw [HTK.out] at h8; exact h8
                have HN8 := Lib.hid (edges_own h8' (by rw [HLEN.out]; omega)).2
                clear h8'
                go_wp2_with (go_at_call 17; (with_reducible refine (fit_any _ _ _ _ (es ++ [mo]) _ HN8.out HNI.out HWM.out).mono ?_); rintro e wd ⟨a6, cap6, rfl, h10, hb⟩; rw [HFN.out, HF.out] at h10 ⊢)
                replace hB := hB.trans (hb.mono hB.size)
                try replace h11 := h11.below hb h11.lt
                refine hQ _ _ (fun _ => hB) ?_
                clear hQ Q HN8 h8 hb
                obtain ⟨wc, rfl⟩ : ∃ W, W = wd := ⟨_, rfl⟩
                refine plan_only rfl (fun Q hQ => ?_)
                obtain ⟨lM, y0, y1⟩ := h11.two
                have yf0 := h11.frozen 0
                have yf1 := h11.frozen 1
                go_wp2
                have h10' := (h10.off (i := 0) h11 (.int .i64 (n : Int))).off (i := 1) (h11.set 0 (.int .i64 (n : Int))) (.slice a6 F.length cap6)
                replace h10 : NetAt ((wc.setCell ⟨M, 0, none⟩ (.int .i64 (n : Int))).setCell ⟨M, 1, none⟩ (.slice a6 F.length cap6)).heap.size _ _ _ _ := h10'.more (by simp)
                replace h11 := (h11.set 0 (.int .i64 (n : Int))).set 1 (.slice a6 F.length cap6)
                replace hB := (hB.setCell (p := ⟨M, 0, none⟩) hM (.int .i64 (n : Int))).setCell (p := ⟨M, 1, none⟩) hM (.slice a6 F.length cap6)
                refine hQ _ _ (fun h => absurd h (by omega)) ?_
                clear hQ Q h10' y0 y1 yf0 yf1
                unfold Plan.wp
                go_wp2_with fail
                go_meet
                exact ⟨M, a6, cap6, rfl, hM, h11, h10, hB⟩
            · go_wp2
              have h11 := Blk.new wc 24 #[.int .i64 0, .slice none 0 0]
              have hM := hB.size
              replace hB := hB.alloc hB.size (.cells #[.int .i64 0, .slice none 0 0] 24)
              try replace h5 := h5.alloc (.cells #[.int .i64 0, .slice none 0 0] 24)
              try replace h7 := h7.alloc (.cells #[.int .i64 0, .slice none 0 0] 24)
              try replace h8 := h8.alloc (.cells #[.int .i64 0, .slice none 0 0] 24)
              try replace h10 := (h10.below ((Below.refl _ wc).alloc (Nat.le_refl _) (.cells #[.int .i64 0, .slice none 0 0] 24))).more (B' := (wc.alloc (.cells #[.int .i64 0, .slice none 0 0] 24)).heap.size) (by simp)
              refine hQ _ _ (fun _ => hB) ?_
              clear hQ Q
              generalize wc.alloc (.cells #[.int .i64 0, .slice none 0 0] 24) = wd at *
              generalize wc.heap.size = M at *
              obtain ⟨wc, rfl⟩ : ∃ W, W = wd := ⟨_, rfl⟩
              refine plan_only rfl (fun Q hQ => ?_)
              refine wpList_append_lies _ (by rfl) (.tmp 88) (.tmp 90) 22 (by rfl) w5.heap.size 44 i0 _ 3 24 Try.underlying22 hi0 hx0 hx1 hx2 rfl (by decide) v1 es.length (flat (es.take es.length)) (by rfl) h5 ⟨X, 0, none⟩ 1 1 [.int .i64 mo.1, .int .i64 mo.2.1, .int .i64 mo.2.2] (by rfl) (by rfl) (World.news_of_block h7) (by simp [Value.oneCell']) (by omega) (by simp [maxLen]; omega) (by omega) hB.size wc.heap.size rfl ?_
              intro gg cap' wd h8 hg _ _
              replace hB := hB.grown hg hB.size (fun j e => (h5.lt j e).1)
              try replace h11 := h11.kept hg (own_blk_ne h5 h11 (by decide)).symm
              clear hg h5 h7
              go_wp2
              refine hQ _ _ (fun _ => hB) ?_
              clear hQ Q
              obtain ⟨wc, rfl⟩ : ∃ W, W = wd := ⟨_, rfl⟩
              repeat (
                refine plan_read rfl (fun K hK => ?_)
                first
                  | (refine plan_neg ?_ ?_
                     focus (go_simp; done)
                     go_simp
                     refine hK _ ?_
                     clear hK K)
                  | (apply plan_pos
                     focus (go_simp; done)
                     focus (
                       intro W hW
                       (first | obtain ⟨d0, d1, d2, d3, d4⟩ := HCE.out W hW | skip)
                       go_simp
                       first
                         | done
                         | exact rfl)
                     go_simp
                     refine hK _ ?_
                     clear hK K))
              refine plan_only rfl (fun Q hQ => ?_)
              have h8' : wc.ownsRow w5.heap.size 44 3 (.slice (some ⟨gg, 0, none⟩) (es.length + 1) cap') (es ++ [mo]).length (flat (es ++ [mo])) := by rw [HLEN.out, flat_snoc]; rw [HTK.out] at h8; exact h8
              have HN8 := Lib.hid (edges_own h8' (by rw [HLEN.out]; omega)).2
              clear h8'
              go_wp2_with (go_at_call 17; (with_reducible refine (fit_any _ _ _ _ (es ++ [mo]) _ HN8.out HNI.out HWM.out).mono ?_); rintro e wd ⟨a6, cap6, rfl, h10, hb⟩; rw [HFN.out, HF.out] at h10 ⊢)
              replace hB := hB.trans (hb.mono hB.size)
              try replace h11 := h11.below hb h11.lt
              refine hQ _ _ (fun _ => hB) ?_
              clear hQ Q HN8 h8 hb
              obtain ⟨wc, rfl⟩ : ∃ W, W = wd := ⟨_, rfl⟩
              refine plan_only rfl (fun Q hQ => ?_)
              obtain ⟨lM, y0, y1⟩ := h11.two
              have yf0 := h11.frozen 0
              have yf1 := h11.frozen 1
              go_wp2
              have h10' := (h10.off (i := 0) h11 (.int .i64 (n : Int))).off (i := 1) (h11.set 0 (.int .i64 (n : Int))) (.slice a6 F.length cap6)
              replace h10 : NetAt ((wc.setCell ⟨M, 0, none⟩ (.int .i64 (n : Int))).setCell ⟨M, 1, none⟩ (.slice a6 F.length cap6)).heap.size _ _ _ _ := h10'.more (by simp)
              replace h11 := (h11.set 0 (.int .i64 (n : Int))).set 1 (.slice a6 F.length cap6)
              replace hB := (hB.setCell (p := ⟨M, 0, none⟩) hM (.int .i64 (n : Int))).setCell (p := ⟨M, 1, none⟩) hM (.slice a6 F.length cap6)
              refine hQ _ _ (fun h => absurd h (by omega)) ?_
              clear hQ Q h10' y0 y1 yf0 yf1
              unfold Plan.wp
              go_wp2_with fail
              go_meet
              exact ⟨M, a6, cap6, rfl, hM, h11, h10, hB⟩
          · go_wp2
            have h11 := Blk.new wc 24 #[.int .i64 0, .slice none 0 0]
            have hM := hB.size
            replace hB := hB.alloc hB.size (.cells #[.int .i64 0, .slice none 0 0] 24)
            try replace h5 := h5.alloc (.cells #[.int .i64 0, .slice none 0 0] 24)
            try replace h7 := h7.alloc (.cells #[.int .i64 0, .slice none 0 0] 24)
            try replace h8 := h8.alloc (.cells #[.int .i64 0, .slice none 0 0] 24)
            try replace h10 := (h10.below ((Below.refl _ wc).alloc (Nat.le_refl _) (.cells #[.int .i64 0, .slice none 0 0] 24))).more (B' := (wc.alloc (.cells #[.int .i64 0, .slice none 0 0] 24)).heap.size) (by simp)
            refine hQ _ _ (fun _ => hB) ?_
            clear hQ Q
            generalize wc.alloc (.cells #[.int .i64 0, .slice none 0 0] 24) = wd at *
            generalize wc.heap.size = M at *
            obtain ⟨wc, rfl⟩ : ∃ W, W = wd := ⟨_, rfl⟩
            refine plan_only rfl (fun Q hQ => ?_)
            have HX := Lib.hid (HCE.out wc hB)
            go_wp2
            have h7 := Blk.new wc 44 #[.int .i64 mo.1, .int .i64 mo.2.1, .int .i64 mo.2.2]
            replace hB := hB.alloc hB.size (.cells #[.int .i64 mo.1, .int .i64 mo.2.1, .int .i64 mo.2.2] 44)
            try replace h5 := h5.alloc (.cells #[.int .i64 mo.1, .int .i64 mo.2.1, .int .i64 mo.2.2] 44)
            try replace h11 := h11.alloc (.cells #[.int .i64 mo.1, .int .i64 mo.2.1, .int .i64 mo.2.2] 44)
            refine hQ _ _ (fun _ => hB) ?_
            clear hQ Q HX
            generalize wc.alloc (.cells #[.int .i64 mo.1, .int .i64 mo.2.1, .int .i64 mo.2.2] 44) = wd at *
            generalize wc.heap.size = X at *
            obtain ⟨wc, rfl⟩ : ∃ W, W = wd := ⟨_, rfl⟩
            refine plan_only rfl (fun Q hQ => ?_)
            refine wpList_append_lies _ (by rfl) (.tmp 88) (.tmp 90) 22 (by rfl) w5.heap.size 44 i0 _ 3 24 Try.underlying22 hi0 hx0 hx1 hx2 rfl (by decide) v1 es.length (flat (es.take es.length)) (by rfl) h5 ⟨X, 0, none⟩ 1 1 [.int .i64 mo.1, .int .i64 mo.2.1, .int .i64 mo.2.2] (by rfl) (by rfl) (World.news_of_block h7) (by simp [Value.oneCell']) (by omega) (by simp [maxLen]; omega) (by omega) hB.size wc.heap.size rfl ?_
            intro gg cap' wd h8 hg _ _
            replace hB := hB.grown hg hB.size (fun j e => (h5.lt j e).1)
            try replace h11 := h11.kept hg (own_blk_ne h5 h11 (by decide)).symm
            clear hg h5 h7
            go_wp2
            refine hQ _ _ (fun _ => hB) ?_
            clear hQ Q
            obtain ⟨wc, rfl⟩ : ∃ W, W = wd := ⟨_, rfl⟩
            repeat (
              refine plan_read rfl (fun K hK => ?_)
              first
                | (refine plan_neg ?_ ?_
                   focus (go_simp; done)
                   go_simp
                   refine hK _ ?_
                   clear hK K)
                | (apply plan_pos
                   focus (go_simp; done)
                   focus (
                     intro W hW
                     (first | obtain ⟨d0, d1, d2, d3, d4⟩ := HCE.out W hW | skip)
                     go_simp
                     first
                       | done
                       | exact rfl)
                   go_simp
                   refine hK _ ?_
                   clear hK K))
            refine plan_only rfl (fun Q hQ => ?_)
            have h8' : wc.ownsRow w5.heap.size 44 3 (.slice (some ⟨gg, 0, none⟩) (es.length + 1) cap') (es ++ [mo]).length (flat (es ++ [mo])) := by rw [HLEN.out, flat_snoc]; rw [HTK.out] at h8; exact h8
            have HN8 := Lib.hid (edges_own h8' (by rw [HLEN.out]; omega)).2
            clear h8'
            go_wp2_with (go_at_call 17; (with_reducible refine (fit_any _ _ _ _ (es ++ [mo]) _ HN8.out HNI.out HWM.out).mono ?_); rintro e wd ⟨a6, cap6, rfl, h10, hb⟩; rw [HFN.out, HF.out] at h10 ⊢)
            replace hB := hB.trans (hb.mono hB.size)
            try replace h11 := h11.below hb h11.lt
            refine hQ _ _ (fun _ => hB) ?_
            clear hQ Q HN8 h8 hb
            obtain ⟨wc, rfl⟩ : ∃ W, W = wd := ⟨_, rfl⟩
            refine plan_only rfl (fun Q hQ => ?_)
            obtain ⟨lM, y0, y1⟩ := h11.two
            have yf0 := h11.frozen 0
            have yf1 := h11.frozen 1
            go_wp2
            have h10' := (h10.off (i := 0) h11 (.int .i64 (n : Int))).off (i := 1) (h11.set 0 (.int .i64 (n : Int))) (.slice a6 F.length cap6)
            replace h10 : NetAt ((wc.setCell ⟨M, 0, none⟩ (.int .i64 (n : Int))).setCell ⟨M, 1, none⟩ (.slice a6 F.length cap6)).heap.size _ _ _ _ := h10'.more (by simp)
            replace h11 := (h11.set 0 (.int .i64 (n : Int))).set 1 (.slice a6 F.length cap6)
            replace hB := (hB.setCell (p := ⟨M, 0, none⟩) hM (.int .i64 (n : Int))).setCell (p := ⟨M, 1, none⟩) hM (.slice a6 F.length cap6)
            refine hQ _ _ (fun h => absurd h (by omega)) ?_
            clear hQ Q h10' y0 y1 yf0 yf1
            unfold Plan.wp
            go_wp2_with fail
            go_meet
            exact ⟨M, a6, cap6, rfl, hM, h11, h10, hB⟩
        · have HX := Lib.hid (HCE.out wc hB)
          go_wp2
          have h7 := Blk.new wc 44 #[.int .i64 mo.1, .int .i64 mo.2.1, .int .i64 mo.2.2]
          replace hB := hB.alloc hB.size (.cells #[.int .i64 mo.1, .int .i64 mo.2.1, .int .i64 mo.2.2] 44)
          try replace h5 := h5.alloc (.cells #[.int .i64 mo.1, .int .i64 mo.2.1, .int .i64 mo.2.2] 44)
          try replace h11 := h11.alloc (.cells #[.int .i64 mo.1, .int .i64 mo.2.1, .int .i64 mo.2.2] 44)
          refine hQ _ _ (fun _ => hB) ?_
          clear hQ Q HX
          generalize wc.alloc (.cells #[.int .i64 mo.1, .int .i64 mo.2.1, .int .i64 mo.2.2] 44) = wd at *
          generalize wc.heap.size = X at *
          obtain ⟨wc, rfl⟩ : ∃ W, W = wd := ⟨_, rfl⟩
          refine plan_fork rfl rfl (fun Q hQ => ?_) (fun Q hQ => ?_)
          · obtain ⟨v1, wd, hr, h5, hg⟩ := append_nil_edges (cap := cap2) (HE5.out.below hB) es.length (Nat.le_refl _) h40 22 w5.heap.size hB.size
            refine wpList_append_run (by rfl) (.const (.slice none 0 0)) (.tmp 87) 22 22 (by rfl) (by rfl) (by rfl) hr ?_
            replace hB := hB.grown hg hB.size (fun j e => by cases e)
            try replace h7 := h7.kept hg (by simp)
            try replace h11 := h11.kept hg (by simp)
            clear hr hg
            go_wp2
            refine hQ _ _ (fun _ => hB) ?_
            clear hQ Q
            obtain ⟨wc, rfl⟩ : ∃ W, W = wd := ⟨_, rfl⟩
            refine plan_fork rfl rfl (fun Q hQ => ?_) (fun Q hQ => ?_)
            · refine wpList_append_lies _ (by rfl) (.tmp 88) (.tmp 90) 22 (by rfl) w5.heap.size 44 i0 _ 3 24 Try.underlying22 hi0 hx0 hx1 hx2 rfl (by decide) v1 es.length (flat (es.take es.length)) (by rfl) h5 ⟨X, 0, none⟩ 1 1 [.int .i64 mo.1, .int .i64 mo.2.1, .int .i64 mo.2.2] (by rfl) (by rfl) (World.news_of_block h7) (by simp [Value.oneCell']) (by omega) (by simp [maxLen]; omega) (by omega) hB.size wc.heap.size rfl ?_
              intro gg cap' wd h8 hg _ _
              replace hB := hB.grown hg hB.size (fun j e => (h5.lt j e).1)
              try replace h11 := h11.kept hg (own_blk_ne h5 h11 (by decide)).symm
              clear hg h5 h7
              go_wp2
              refine hQ _ _ (fun _ => hB) ?_
              clear hQ Q
              obtain ⟨wc, rfl⟩ : ∃ W, W = wd := ⟨_, rfl⟩
              repeat (
                refine plan_read rfl (fun K hK => ?_)
                first
                  | (refine plan_neg ?_ ?_
                     focus (go_simp; done)
                     go_simp
                     refine hK _ ?_
                     clear hK K)
                  | (apply plan_pos
                     focus (go_simp; done)
                     focus (
                       intro W hW
                       (first | obtain ⟨d0, d1, d2, d3, d4⟩ := HCE.out W hW | skip)
                       go_simp
                       first
                         | done
                         | exact rfl)
                     go_simp
                     refine hK _ ?_
                     clear hK K))
              refine plan_fork rfl rfl (fun Q hQ => ?_) (fun Q hQ => ?_)
              · have h8' : wc.ownsRow w5.heap.size 44 3 (.slice (some ⟨gg, 0, none⟩) (es.length + 1) cap') (es ++ [mo]).length (flat (es ++ [mo])) := by rw [HLEN.out, flat_snoc]; rw [HTK.out] at h8; exact h8
                have HN8 := Lib.hid (edges_own h8' (by rw [HLEN.out]; omega)).2
                clear h8'
                go_wp2_with (go_at_call 17; (with_reducible refine (fit_any _ _ _ _ (es ++ [mo]) _ HN8.out HNI.out HWM.out).mono ?_); rintro e wd ⟨a6, cap6, rfl, h10, hb⟩; rw [HFN.out, HF.out] at h10 ⊢)
                replace hB := hB.trans (hb.mono hB.size)
                try replace h11 := h11.below hb h11.lt
                refine hQ _ _ (fun _ => hB) ?_
                clear hQ Q HN8 h8 hb
                obtain ⟨wc, rfl⟩ : ∃ W, W = wd := ⟨_, rfl⟩
                refine plan_only rfl (fun Q hQ => ?_)
                go_wp2
                have h11 := Blk.new wc 24 #[.int .i64 0, .slice none 0 0]
                have hM := hB.size
                replace hB := hB.alloc hB.size (.cells #[.int .i64 0, .slice none 0 0] 24)
                try replace h5 := h5.alloc (.cells #[.int .i64 0, .slice none 0 0] 24)
                try replace h7 := h7.alloc (.cells #[.int .i64 0, .slice none 0 0] 24)
                try replace h8 := h8.alloc (.cells #[.int .i64 0, .slice none 0 0] 24)
                try replace h10 := (h10.below ((Below.refl _ wc).alloc (Nat.le_refl _) (.cells #[.int .i64 0, .slice none 0 0] 24))).more (B' := (wc.alloc (.cells #[.int .i64 0, .slice none 0 0] 24)).heap.size) (by simp)
                refine hQ _ _ (fun _ => hB) ?_
                clear hQ Q
                generalize wc.alloc (.cells #[.int .i64 0, .slice none 0 0] 24) = wd at *
                generalize wc.heap.size = M at *
                obtain ⟨wc, rfl⟩ : ∃ W, W = wd := ⟨_, rfl⟩
                refine plan_only rfl (fun Q hQ => ?_)
                obtain ⟨lM, y0, y1⟩ := h11.two
                have yf0 := h11.frozen 0
                have yf1 := h11.frozen 1
                go_wp2
                have h10' := (h10.off (i := 0) h11 (.int .i64 (n : Int))).off (i := 1) (h11.set 0 (.int .i64 (n : Int))) (.slice a6 F.length cap6)
                replace h10 : NetAt ((wc.setCell ⟨M, 0, none⟩ (.int .i64 (n : Int))).setCell ⟨M, 1, none⟩ (.slice a6 F.length cap6)).heap.size _ _ _ _ := h10'.more (by simp)
                replace h11 := (h11.set 0 (.int .i64 (n : Int))).set 1 (.slice a6 F.length cap6)
                replace hB := (hB.setCell (p := ⟨M, 0, none⟩) hM (.int .i64 (n : Int))).setCell (p := ⟨M, 1, none⟩) hM (.slice a6 F.length cap6)
                refine hQ _ _ (fun h => absurd h (by omega)) ?_
                clear hQ Q h10' y0 y1 yf0 yf1
                unfold Plan.wp
                go_wp2_with fail
                go_meet
                exact ⟨M, a6, cap6, rfl, hM, h11, h10, hB⟩
              · go_wp2
                have h11 := Blk.new wc 24 #[.int .i64 0, .slice none 0 0]
                have hM := hB.size
                replace hB := hB.alloc hB.size (.cells #[.int .i64 0, .slice none 0 0] 24)
                try replace h5 := h5.alloc (.cells #[.int .i64 0, .slice none 0 0] 24)
                try replace h7 := h7.alloc (.cells #[.int .i64 0, .slice none 0 0] 24)
                try replace h8 := h8.alloc (.cells #[.int .i64 0, .slice none 0 0] 24)
                try replace h10 := (h10.below ((Below.refl _ wc).alloc (Nat.le_refl _) (.cells #[.int .i64 0, .slice none 0 0] 24))).more (B' := (wc.alloc (.cells #[.int .i64 0, .slice none 0 0] 24)).heap.size) (by simp)
                refine hQ _ _ (fun _ => hB) ?_
                clear hQ Q
                generalize wc.alloc (.cells #[.int .i64 0, .slice none 0 0] 24) = wd at *
                generalize wc.heap.size = M at *
                obtain ⟨wc, rfl⟩ : ∃ W, W = wd := ⟨_, rfl⟩
                refine plan_only rfl (fun Q hQ => ?_)
                have h8' : wc.ownsRow w5.heap.size 44 3 (.slice (some ⟨gg, 0, none⟩) (es.length + 1) cap') (es ++ [mo]).length (flat (es ++ [mo])) := by rw [HLEN.out, flat_snoc]; rw [HTK.out] at h8; exact h8
                have HN8 := Lib.hid (edges_own h8' (by rw [HLEN.out]; omega)).2
                clear h8'
                go_wp2_with (go_at_call 17; (with_reducible refine (fit_any _ _ _ _ (es ++ [mo]) _ HN8.out HNI.out HWM.out).mono ?_); rintro e wd ⟨a6, cap6, rfl, h10, hb⟩; rw [HFN.out, HF.out] at h10 ⊢)
                replace hB := hB.trans (hb.mono hB.size)
                try replace h11 := h11.below hb h11.lt
                refine hQ _ _ (fun _ => hB) ?_
                clear hQ Q HN8 h8 hb
                obtain ⟨wc, rfl⟩ : ∃ W, W = wd := ⟨_, rfl⟩
                refine plan_only rfl (fun Q hQ => ?_)
                obtain ⟨lM, y0, y1⟩ := h11.two
                have yf0 := h11.frozen 0
                have yf1 := h11.frozen 1
                go_wp2
                have h10' := (h10.off (i := 0) h11 (.int .i64 (n : Int))).off (i := 1) (h11.set 0 (.int .i64 (n : Int))) (.slice a6 F.length cap6)
                replace h10 : NetAt ((wc.setCell ⟨M, 0, none⟩ (.int .i64 (n : Int))).setCell ⟨M, 1, none⟩ (.slice a6 F.length cap6)).heap.size _ _ _ _ := h10'.more (by simp)
                replace h11 := (h11.set 0 (.int .i64 (n : Int))).set 1 (.slice a6 F.length cap6)
                replace hB := (hB.setCell (p := ⟨M, 0, none⟩) hM (.int .i64 (n : Int))).setCell (p := ⟨M, 1, none⟩) hM (.slice a6 F.length cap6)
                refine hQ _ _ (fun h => absurd h (by omega)) ?_
                clear hQ Q h10' y0 y1 yf0 yf1
                unfold Plan.wp
                go_wp2_with fail
                go_meet
                exact ⟨M, a6, cap6, rfl, hM, h11, h10, hB⟩
            · go_wp2
              have h11 := Blk.new wc 24 #[.int .i64 0, .slice none 0 0]
              have hM := hB.size
              replace hB := hB.alloc hB.size (.cells #[.int .i64 0, .slice none 0 0] 24)
              try replace h5 := h5.alloc (.cells #[.int .i64 0, .slice none 0 0] 24)
              try replace h7 := h7.alloc (.cells #[.int .i64 0, .slice none 0 0] 24)
              try replace h8 := h8.alloc (.cells #[.int .i64 0, .slice none 0 0] 24)
              try replace h10 := (h10.below ((Below.refl _ wc).alloc (Nat.le_refl _) (.cells #[.int .i64 0, .slice none 0 0] 24))).more (B' := (wc.alloc (.cells #[.int .i64 0, .slice none 0 0] 24)).heap.size) (by simp)
              refine hQ _ _ (fun _ => hB) ?_
              clear hQ Q
              generalize wc.alloc (.cells #[.int .i64 0, .slice none 0 0] 24) = wd at *
              generalize wc.heap.size = M at *
              obtain ⟨wc, rfl⟩ : ∃ W, W = wd := ⟨_, rfl⟩
              refine plan_only rfl (fun Q hQ => ?_)
              refine wpList_append_lies _ (by rfl) (.tmp 88) (.tmp 90) 22 (by rfl) w5.heap.size 44 i0 _ 3 24 Try.underlying22 hi0 hx0 hx1 hx2 rfl (by decide) v1 es.length (flat (es.take es.length)) (by rfl) h5 ⟨X, 0, none⟩ 1 1 [.int .i64 mo.1, .int .i64 mo.2.1, .int .i64 mo.2.2] (by rfl) (by rfl) (World.news_of_block h7) (by simp [Value.oneCell']) (by omega) (by simp [maxLen]; omega) (by omega) hB.size wc.heap.size rfl ?_
              intro gg cap' wd h8 hg _ _
              replace hB := hB.grown hg hB.size (fun j e => (h5.lt j e).1)
              try replace h11 := h11.kept hg (own_blk_ne h5 h11 (by decide)).symm
              clear hg h5 h7
              go_wp2
              refine hQ _ _ (fun _ => hB) ?_
              clear hQ Q
              obtain ⟨wc, rfl⟩ : ∃ W, W = wd := ⟨_, rfl⟩
              repeat (
                refine plan_read rfl (fun K hK => ?_)
                first
                  | (refine plan_neg ?_ ?_
                     focus (go_simp; done)
                     go_simp
                     refine hK _ ?_
                     clear hK K)
                  | (apply plan_pos
                     focus (go_simp; done)
                     focus (
                       intro W hW
                       (first | obtain ⟨d0, d1, d2, d3, d4⟩ := HCE.out W hW | skip)
                       go_simp
                       first
                         | done
                         | exact rfl)
                     go_simp
                     refine hK _ ?_
                     clear hK K))
              refine plan_only rfl (fun Q hQ => ?_)
              have h8' : wc.ownsRow w5.heap.size 44 3 (.slice (some ⟨gg, 0, none⟩) (es.length + 1) cap') (es ++ [mo]).length (flat (es ++ [mo])) := by rw [HLEN.out, flat_snoc]; rw [HTK.out] at h8; exact h8
              have HN8 := Lib.hid (edges_own h8' (by rw [HLEN.out]; omega)).2
              clear h8'
              go_wp2_with (go_at_call 17; (with_reducible refine (fit_any _ _ _ _ (es ++ [mo]) _ HN8.out HNI.out HWM.out).mono ?_); rintro e wd ⟨a6, cap6, rfl, h10, hb⟩; rw [HFN.out, HF.out] at h10 ⊢)
              replace hB := hB.trans (hb.mono hB.size)
              try replace h11 := h11.below hb h11.lt
              refine hQ _ _ (fun _ => hB) ?_
              clear hQ Q HN8 h8 hb
              obtain ⟨wc, rfl⟩ : ∃ W, W = wd := ⟨_, rfl⟩
              refine plan_only rfl (fun Q hQ => ?_)
              obtain ⟨lM, y0, y1⟩ := h11.two
              have yf0 := h11.frozen 0
              have yf1 := h11.frozen 1
              go_wp2
              have h10' := (h10.off (i := 0) h11 (.int .i64 (n : Int))).off (i := 1) (h11.set 0 (.int .i64 (n : Int))) (.slice a6 F.length cap6)
              replace h10 : NetAt ((wc.setCell ⟨M, 0, none⟩ (.int .i64 (n : Int))).setCell ⟨M, 1, none⟩ (.slice a6 F.length cap6)).heap.size _ _ _ _ := h10'.more (by simp)
              replace h11 := (h11.set 0 (.int .i64 (n : Int))).set 1 (.slice a6 F.length cap6)
              replace hB := (hB.setCell (p := ⟨M, 0, none⟩) hM (.int .i64 (n : Int))).setCell (p := ⟨M, 1, none⟩) hM (.slice a6 F.length cap6)
              refine hQ _ _ (fun h => absurd h (by omega)) ?_
              clear hQ Q h10' y0 y1 yf0 yf1
              unfold Plan.wp
              go_wp2_with fail
              go_meet
              exact ⟨M, a6, cap6, rfl, hM, h11, h10, hB⟩
          · go_wp2
            have h11 := Blk.new wc 24 #[.int .i64 0, .slice none 0 0]
            have hM := hB.size
            replace hB := hB.alloc hB.size (.cells #[.int .i64 0, .slice none 0 0] 24)
            try replace h5 := h5.alloc (.cells #[.int .i64 0, .slice none 0 0] 24)
            try replace h7 := h7.alloc (.cells #[.int .i64 0, .slice none 0 0] 24)
            try replace h8 := h8.alloc (.cells #[.int .i64 0, .slice none 0 0] 24)
            try replace h10 := (h10.below ((Below.refl _ wc).alloc (Nat.le_refl _) (.cells #[.int .i64 0, .slice none 0 0] 24))).more (B' := (wc.alloc (.cells #[.int .i64 0, .slice none 0 0] 24)).heap.size) (by simp)
            refine hQ _ _ (fun _ => hB) ?_
            clear hQ Q
            generalize wc.alloc (.cells #[.int .i64 0, .slice none 0 0] 24) = wd at *
            generalize wc.heap.size = M at *
            obtain ⟨wc, rfl⟩ : ∃ W, W = wd := ⟨_, rfl⟩
            refine plan_only rfl (fun Q hQ => ?_)
            obtain ⟨v1, wd, hr, h5, hg⟩ := append_nil_edges (cap := cap2) (HE5.out.below hB) es.length (Nat.le_refl _) h40 22 w5.heap.size hB.size
            refine wpList_append_run (by rfl) (.const (.slice none 0 0)) (.tmp 87) 22 22 (by rfl) (by rfl) (by rfl) hr ?_
            replace hB := hB.grown hg hB.size (fun j e => by cases e)
            try replace h7 := h7.kept hg (by simp)
            try replace h11 := h11.kept hg (by simp)
            clear hr hg
            go_wp2
            refine hQ _ _ (fun _ => hB) ?_
            clear hQ Q
            obtain ⟨wc, rfl⟩ : ∃ W, W = wd := ⟨_, rfl⟩
            refine plan_only rfl (fun Q hQ => ?_)
            refine wpList_append_lies _ (by rfl) (.tmp 88) (.tmp 90) 22 (by rfl) w5.heap.size 44 i0 _ 3 24 Try.underlying22 hi0 hx0 hx1 hx2 rfl (by decide) v1 es.length (flat (es.take es.length)) (by rfl) h5 ⟨X, 0, none⟩ 1 1 [.int .i64 mo.1, .int .i64 mo.2.1, .int .i64 mo.2.2] (by rfl) (by rfl) (World.news_of_block h7) (by simp [Value.oneCell']) (by omega) (by simp [maxLen]; omega) (by omega) hB.size wc.heap.size rfl ?_
            intro gg cap' wd h8 hg _ _
            replace hB := hB.grown hg hB.size (fun j e => (h5.lt j e).1)
            try replace h11 := h11.kept hg (own_blk_ne h5 h11 (by decide)).symm
            clear hg h5 h7
            go_wp2
            refine hQ _ _ (fun _ => hB) ?_
            clear hQ Q
            obtain ⟨wc, rfl⟩ : ∃ W, W = wd := ⟨_, rfl⟩
            repeat (
              refine plan_read rfl (fun K hK => ?_)
              first
                | (refine plan_neg ?_ ?_
                   focus (go_simp; done)
                   go_simp
                   refine hK _ ?_
                   clear hK K)
                | (apply plan_pos
                   focus (go_simp; done)
                   focus (
                     intro W hW
                     (first | obtain ⟨d0, d1, d2, d3, d4⟩ := HCE.out W hW | skip)
                     go_simp
                     first
                       | done
                       | exact rfl)
                   go_simp
                   refine hK _ ?_
                   clear hK K))
            refine plan_only rfl (fun Q hQ => ?_)
            have h8' : wc.ownsRow w5.heap.size 44 3 (.slice (some ⟨gg, 0, none⟩) (es.length + 1) cap') (es ++ [mo]).length (flat (es ++ [mo])) := by rw [HLEN.out, flat_snoc]; rw [HTK.out] at h8; exact h8
            have HN8 := Lib.hid (edges_own h8' (by rw [HLEN.out]; omega)).2
            clear h8'
            go_wp2_with (go_at_call 17; (with_reducible refine (fit_any _ _ _ _ (es ++ [mo]) _ HN8.out HNI.out HWM.out).mono ?_); rintro e wd ⟨a6, cap6, rfl, h10, hb⟩; rw [HFN.out, HF.out] at h10 ⊢)
            replace hB := hB.trans (hb.mono hB.size)
            try replace h11 := h11.below hb h11.lt
            refine hQ _ _ (fun _ => hB) ?_
            clear hQ Q HN8 h8 hb
            obtain ⟨wc, rfl⟩ : ∃ W, W = wd := ⟨_, rfl⟩
            refine plan_only rfl (fun Q hQ => ?_)
            obtain ⟨lM, y0, y1⟩ := h11.two
            have yf0 := h11.frozen 0
            have yf1 := h11.frozen 1
            go_wp2
            have h10' := (h10.off (i := 0) h11 (.int .i64 (n : Int))).off (i := 1) (h11.set 0 (.int .i64 (n : Int))) (.slice a6 F.length cap6)
            replace h10 : NetAt ((wc.setCell ⟨M, 0, none⟩ (.int .i64 (n : Int))).setCell ⟨M, 1, none⟩ (.slice a6 F.length cap6)).heap.size _ _ _ _ := h10'.more (by simp)
            replace h11 := (h11.set 0 (.int .i64 (n : Int))).set 1 (.slice a6 F.length cap6)
            replace hB := (hB.setCell (p := ⟨M, 0, none⟩) hM (.int .i64 (n : Int))).setCell (p := ⟨M, 1, none⟩) hM (.slice a6 F.length cap6)
            refine hQ _ _ (fun h => absurd h (by omega)) ?_
            clear hQ Q h10' y0 y1 yf0 yf1
            unfold Plan.wp
            go_wp2_with fail
            go_meet
            exact ⟨M, a6, cap6, rfl, hM, h11, h10, hB⟩
        · go_wp2
          have h11 := Blk.new wc 24 #[.int .i64 0, .slice none 0 0]
          have hM := hB.size
          replace hB := hB.alloc hB.size (.cells #[.int .i64 0, .slice none 0 0] 24)
          try replace h5 := h5.alloc (.cells #[.int .i64 0, .slice none 0 0] 24)
          try replace h7 := h7.alloc (.cells #[.int .i64 0, .slice none 0 0] 24)
          try replace h8 := h8.alloc (.cells #[.int .i64 0, .slice none 0 0] 24)
          try replace h10 := (h10.below ((Below.refl _ wc).alloc (Nat.le_refl _) (.cells #[.int .i64 0, .slice none 0 0] 24))).more (B' := (wc.alloc (.cells #[.int .i64 0, .slice none 0 0] 24)).heap.size) (by simp)
          refine hQ _ _ (fun _ => hB) ?_
          clear hQ Q
          generalize wc.alloc (.cells #[.int .i64 0, .slice none 0 0] 24) = wd at *
          generalize wc.heap.size = M at *
          obtain ⟨wc, rfl⟩ : ∃ W, W = wd := ⟨_, rfl⟩
          refine plan_fork rfl rfl (fun Q hQ => ?_) (fun Q hQ => ?_)
          · obtain ⟨v1, wd, hr, h5, hg⟩ := append_nil_edges (cap := cap2) (HE5.out.below hB) es.length (Nat.le_refl _) h40 22 w5.heap.size hB.size
            refine wpList_append_run (by rfl) (.const (.slice none 0 0)) (.tmp 87) 22 22 (by rfl) (by rfl) (by rfl) hr ?_
            replace hB := hB.grown hg hB.size (fun j e => by cases e)
            try replace h7 := h7.kept hg (by simp)
            try replace h11 := h11.kept hg (by simp)
            clear hr hg
            go_wp2
            refine hQ _ _ (fun _ => hB) ?_
            clear hQ Q
            obtain ⟨wc, rfl⟩ : ∃ W, W = wd := ⟨_, rfl⟩
            refine plan_only rfl (fun Q hQ => ?_)
            have HX := Lib.hid (HCE.out wc hB)
            go_wp2
            have h7 := Blk.new wc 44 #[.int .i64 mo.1, .int .i64 mo.2.1, .int .i64 mo.2.2]
            replace hB := hB.alloc hB.size (.cells #[.int .i64 mo.1, .int .i64 mo.2.1, .int .i64 mo.2.2] 44)
            try replace h5 := h5.alloc (.cells #[.int .i64 mo.1, .int .i64 mo.2.1, .int .i64 mo.2.2] 44)
            try replace h11 := h11.alloc (.cells #[.int .i64 mo.1, .int .i64 mo.2.1, .int .i64 mo.2.2] 44)
            refine hQ _ _ (fun _ => hB) ?_
            clear hQ Q HX
            generalize wc.alloc (.cells #[.int .i64 mo.1, .int .i64 mo.2.1, .int .i64 mo.2.2] 44) = wd at *
            generalize wc.heap.size = X at *
            obtain ⟨wc, rfl⟩ : ∃ W, W = wd := ⟨_, rfl⟩
            refine plan_only rfl (fun Q hQ => ?_)
            refine wpList_append_lies _ (by rfl) (.tmp 88) (.tmp 90) 22 (by rfl) w5.heap.size 44 i0 _ 3 24 Try.underlying22 hi0 hx0 hx1 hx2 rfl (by decide) v1 es.length (flat (es.take es.length)) (by rfl) h5 ⟨X, 0, none⟩ 1 1 [.int .i64 mo.1, .int .i64 mo.2.1, .int .i64 mo.2.2] (by rfl) (by rfl) (World.news_of_block h7) (by simp [Value.oneCell']) (by omega) (by simp [maxLen]; omega) (by omega) hB.size wc.heap.size rfl ?_
            intro gg cap' wd h8 hg _ _
            replace hB := hB.grown hg hB.size (fun j e => (h5.lt j e).1)
            try replace h11 := h11.kept hg (own_blk_ne h5 h11 (by decide)).symm
            clear hg h5 h7
            go_wp2
            refine hQ _ _ (fun _ => hB) ?_
            clear hQ Q
            obtain ⟨wc, rfl⟩ : ∃ W, W = wd := ⟨_, rfl⟩
            repeat (
              refine plan_read rfl (fun K hK => ?_)
              first
                | (refine plan_neg ?_ ?_
                   focus (go_simp; done)
                   go_simp
                   refine hK _ ?_
                   clear hK K)
                | (apply plan_pos
                   focus (go_simp; done)
                   focus (
                     intro W hW
                     (first | obtain ⟨d0, d1, d2, d3, d4⟩ := HCE.out W hW | skip)
                     go_simp
                     first
                       | done
                       | exact rfl)
                   go_simp
                   refine hK _ ?_
                   clear hK K))
            refine plan_only rfl (fun Q hQ => ?_)
            have h8' : wc.ownsRow w5.heap.size 44 3 (.slice (some ⟨gg, 0, none⟩) (es.length + 1) cap') (es ++ [mo]).length (flat (es ++ [mo])) := by rw [HLEN.out, flat_snoc]; rw [HTK.out] at h8; exact h8
            have HN8 := Lib.hid (edges_own h8' (by rw [HLEN.out]; omega)).2
            clear h8'
            go_wp2_with (go_at_call 17; (with_reducible refine (fit_any _ _ _ _ (es ++ [mo]) _ HN8.out HNI.out HWM.out).mono ?_); rintro e wd ⟨a6, cap6, rfl, h10, hb⟩; rw [HFN.out, HF.out] at h10 ⊢)
            replace hB := hB.trans (hb.mono hB.size)
            try replace h11 := h11.below hb h11.lt
            refine hQ _ _ (fun _ => hB) ?_
            clear hQ Q HN8 h8 hb
            obtain ⟨wc, rfl⟩ : ∃ W, W = wd := ⟨_, rfl⟩
            refine plan_only rfl (fun Q hQ => ?_)
            obtain ⟨lM, y0, y1⟩ := h11.two
            have yf0 := h11.frozen 0
            have yf1 := h11.frozen 1
            go_wp2
            have h10' := (h10.off (i := 0) h11 (.int .i64 (n : Int))).off (i := 1) (h11.set 0 (.int .i64 (n : Int))) (.slice a6 F.length cap6)
            replace h10 : NetAt ((wc.setCell ⟨M, 0, none⟩ (.int .i64 (n : Int))).setCell ⟨M, 1, none⟩ (.slice a6 F.length cap6)).heap.size _ _ _ _ := h10'.more (by simp)
            replace h11 := (h11.set 0 (.int .i64 (n : Int))).set 1 (.slice a6 F.length cap6)
            replace hB := (hB.setCell (p := ⟨M, 0, none⟩) hM (.int .i64 (n : Int))).setCell (p := ⟨M, 1, none⟩) hM (.slice a6 F.length cap6)
            refine hQ _ _ (fun h => absurd h (by omega)) ?_
            clear hQ Q h10' y0 y1 yf0 yf1
            unfold Plan.wp
            go_wp2_with fail
            go_meet
            exact ⟨M, a6, cap6, rfl, hM, h11, h10, hB⟩
          · have HX := Lib.hid (HCE.out wc hB)
            go_wp2
            have h7 := Blk.new wc 44 #[.int .i64 mo.1, .int .i64 mo.2.1, .int .i64 mo.2.2]
            replace hB := hB.alloc hB.size (.cells #[.int .i64 mo.1, .int .i64 mo.2.1, .int .i64 mo.2.2] 44)
            try replace h5 := h5.alloc (.cells #[.int .i64 mo.1, .int .i64 mo.2.1, .int .i64 mo.2.2] 44)
            try replace h11 := h11.alloc (.cells #[.int .i64 mo.1, .int .i64 mo.2.1, .int .i64 mo.2.2] 44)
            refine hQ _ _ (fun _ => hB) ?_
            clear hQ Q HX
            generalize wc.alloc (.cells #[.int .i64 mo.1, .int .i64 mo.2.1, .int .i64 mo.2.2] 44) = wd at *
            generalize wc.heap.size = X at *
            obtain ⟨wc, rfl⟩ : ∃ W, W = wd := ⟨_, rfl⟩
            refine plan_only rfl (fun Q hQ => ?_)
            obtain ⟨v1, wd, hr, h5, hg⟩ := append_nil_edges (cap := cap2) (HE5.out.below hB) es.length (Nat.le_refl _) h40 22 w5.heap.size hB.size
            refine wpList_append_run (by rfl) (.const (.slice none 0 0)) (.tmp 87) 22 22 (by rfl) (by rfl) (by rfl) hr ?_
            replace hB := hB.grown hg hB.size (fun j e => by cases e)
            try replace h7 := h7.kept hg (by simp)
            try replace h11 := h11.kept hg (by simp)
            clear hr hg
            go_wp2
            refine hQ _ _ (fun _ => hB) ?_
            clear hQ Q
            obtain ⟨wc, rfl⟩ : ∃ W, W = wd := ⟨_, rfl⟩
            refine plan_only rfl (fun Q hQ => ?_)
            refine wpList_append_lies _ (by rfl) (.tmp 88) (.tmp 90) 22 (by rfl) w5.heap.size 44 i0 _ 3 24 Try.underlying22 hi0 hx0 hx1 hx2 rfl (by decide) v1 es.length (flat (es.take es.length)) (by rfl) h5 ⟨X, 0, none⟩ 1 1 [.int .i64 mo.1, .int .i64 mo.2.1, .int .i64 mo.2.2] (by rfl) (by rfl) (World.news_of_block h7) (by simp [Value.oneCell']) (by omega) (by simp [maxLen]; omega) (by omega) hB.size wc.heap.size rfl ?_
            intro gg cap' wd h8 hg _ _
            replace hB := hB.grown hg hB.size (fun j e => (h5.lt j e).1)
            try replace h11 := h11.kept hg (own_blk_ne h5 h11 (by decide)).symm
            clear hg h5 h7
            go_wp2
            refine hQ _ _ (fun _ => hB) ?_
            clear hQ Q
            obtain ⟨wc, rfl⟩ : ∃ W, W = wd := ⟨_, rfl⟩
            repeat (
              refine plan_read rfl (fun K hK => ?_)
              first
                | (refine plan_neg ?_ ?_
                   focus (go_simp; done)
                   go_simp
                   refine hK _ ?_
                   clear hK K)
                | (apply plan_pos
                   focus (go_simp; done)
                   focus (
                     intro W hW
                     (first | obtain ⟨d0, d1, d2, d3, d4⟩ := HCE.out W hW | skip)
                     go_simp
                     first
                       | done
                       | exact rfl)
                   go_simp
                   refine hK _ ?_
                   clear hK K))
            refine plan_only rfl (fun Q hQ => ?_)
            have h8' : wc.ownsRow w5.heap.size 44 3 (.slice (some ⟨gg, 0, none⟩) (es.length + 1) cap') (es ++ [mo]).length (flat (es ++ [mo])) := by rw [HLEN.out, flat_snoc]; rw [HTK.out] at h8; exact h8
            have HN8 := Lib.hid (edges_own h8' (by rw [HLEN.out]; omega)).2
            clear h8'
            go_wp2_with (go_at_call 17; (with_reducible refine (fit_any _ _ _ _ (es ++ [mo]) _ HN8.out HNI.out HWM.out).mono ?_); rintro e wd ⟨a6, cap6, rfl, h10, hb⟩; rw [HFN.out, HF.out] at h10 ⊢)
            replace hB := hB.trans (hb.mono hB.size)
            try replace h11 := h11.below hb h11.lt
            refine hQ _ _ (fun _ => hB) ?_
            clear hQ Q HN8 h8 hb
            obtain ⟨wc, rfl⟩ : ∃ W, W = wd := ⟨_, rfl⟩
            refine plan_only rfl (fun Q hQ => ?_)
            obtain ⟨lM, y0, y1⟩ := h11.two
            have yf0 := h11.frozen 0
            have yf1 := h11.frozen 1
            go_wp2
            have h10' := (h10.off (i := 0) h11 (.int .i64 (n : Int))).off (i := 1) (h11.set 0 (.int .i64 (n : Int))) (.slice a6 F.length cap6)
            replace h10 : NetAt ((wc.setCell ⟨M, 0, none⟩ (.int .i64 (n : Int))).setCell ⟨M, 1, none⟩ (.slice a6 F.length cap6)).heap.size _ _ _ _ := h10'.more (by simp)
            replace h11 := (h11.set 0 (.int .i64 (n : Int))).set 1 (.slice a6 F.length cap6)
            replace hB := (hB.setCell (p := ⟨M, 0, none⟩) hM (.int .i64 (n : Int))).setCell (p := ⟨M, 1, none⟩) hM (.slice a6 F.length cap6)
            refine hQ _ _ (fun h => absurd h (by omega)) ?_
            clear hQ Q h10' y0 y1 yf0 yf1
            unfold Plan.wp
            go_wp2_with fail
            go_meet
            exact ⟨M, a6, cap6, rfl, hM, h11, h10, hB⟩
      case rest =>
        obtain ⟨M, a6, cap6, rfl, hM, bm, hE6, hB6⟩ := hcut
        obtain ⟨w6, rfl⟩ : ∃ w', w' = wc := ⟨_, rfl⟩
        have HF6 := Lib.hid hE6
        have HD6 := Lib.hid (net_on HD.out hB6)
        have HC6 := Lib.hid (net_on HC.out hB6)
        have bD6 := bD.below hB6 bD.lt
        have bC6 := bC.below hB6 bC.lt
        have hBw := HB5.out.trans (hB6.mono hzw)
        have hz6 := hBw.size
        obtain ⟨lD6, d60, d61⟩ := bD6.two
        have hrF : right n F = true := by
          have h := fit_right ((n : Int) - 2) (es ++ [mo])
          rw [HFN.out, HF.out] at h; exact h
        have hrC : right n (shut es K) = true := by
          unfold shut
          by_cases hK : K < es.length
          · have h1 := okE_iff.1 (HOK.out _ (ed_mem hK)).1
            exact right_set HRT.out K (okE_iff.2 ⟨h1.1, h1.2.1, h1.2.2.1, h1.2.2.2.1, h1.2.2.2.2.1, Int.le_refl _, by simp only; omega⟩)
          · rw [List.set_eq_of_length_le (by omega)]; exact HRT.out
        have hrD : right n (es.map dbl) = true := right_dbl HRT.out (fun e he => by have := (HOK.out e he).2; omega)
        obtain ⟨R1, hR1e, _, _, hm1, _, hp1, hq1⟩ := maxF_good (n := n) (es := es.map dbl) (s := 0) (t := 1) hrD (by omega) (by omega) (by omega) (by omega) (by omega)
        obtain ⟨R2, hR2e, _, _, hm2, _, hp2, hq2⟩ := maxF_good (n := n) (es := shut es K) (s := 0) (t := 1) hrC (by omega) (by omega) (by omega) (by omega) (by omega)
        obtain ⟨R3, hR3e, _, _, hm3, _, hp3, hq3⟩ := maxF_good (n := n) (es := F) (s := 0) (t := 1) hrF (by omega) (by omega) (by omega) (by omega) (by omega)
        obtain ⟨f1, m1⟩ := R1
        obtain ⟨f2, m2⟩ := R2
        obtain ⟨f3, m3⟩ := R3
        dsimp only at hR1e hm1 hR2e hm2 hR3e hm3 hp1 hq1 hp2 hq2 hp3 hq3
        obtain rfl : m1 = 2 * m := most_dbl HMOST.out hm1
        have hle2 : m2 ≤ m := by
          by_cases hK : K < es.length
          · have hed : ed es K = es[K] := by unfold ed; rw [List.getElem?_eq_getElem hK]; rfl
            unfold shut at hm2
            rw [hed] at hm2
            exact most_shut hK HMOST.out hm2
          · unfold shut at hm2
            rw [List.set_eq_of_length_le (by omega)] at hm2
            have := hm2.one HMOST.out; omega
        have hle3 : m ≤ m3 := by
          rw [← HF.out] at hm3
          exact most_fit (by omega) HOK.out h40 HMOST.out hm3
        have H1 := Lib.hid hR1e
        have H2 := Lib.hid hR2e
        have H3 := Lib.hid hR3e
        have t2 : decide (m2 ≤ m) = true := by simp [hle2]
        have t3 : decide (m ≤ m3) = true := by simp [hle3]
        have hw0 : IntKind.i64.wrap (2 * m) = 2 * m := IntWalk.i64_in _ (by omega)
        clear hR1e hR2e hR3e hm1 hm2 hm3 hrF hrC hrD hE6 bM5 m50 m51 bD bC lM5 bX5
        go_wp2_with (first
          | (go_at_call 14; (with_reducible refine (max_any _ _ _ _ (es.map dbl) 0 1 _ HD6.out).mono ?_); rw [H1.out]; rintro e w7 ⟨a7, l7, c7, he, hF7, hb7⟩
             dsimp only at he hF7
             subst he
             have bC7 := bC6.below hb7 bC6.lt
             have bm7 := bm.below hb7 bm.lt
             obtain ⟨lC7, c70, c71⟩ := bC7.two
             have HC7 := Lib.hid (net_on HC6.out hb7)
             have HF7 := Lib.hid (net_on HF6.out hb7)
             have hB7 := hBw.trans (hb7.mono hz6)
             have hz7 := hB7.size
             clear hF7 hb7)
          | (go_at_call 14; (with_reducible refine (max_any _ _ _ _ (shut es K) 0 1 _ HC7.out).mono ?_); rw [H2.out]; rintro e w8 ⟨a8, l8, c8, he, hF8, hb8⟩
             dsimp only at he hF8
             subst he
             have bm8 := bm7.below hb8 bm7.lt
             obtain ⟨lm8, m80, m81⟩ := bm8.two
             have HF8 := Lib.hid (net_on HF7.out hb8)
             have hB8 := hB7.trans (hb8.mono hz7)
             have hz8 := hB8.size
             clear hF8 hb8)
          | (go_at_call 14; (with_reducible refine (max_any _ _ _ _ F 0 1 _ HF8.out).mono ?_); rw [H3.out]; rintro e w9 ⟨a9, l9, c9, he, hF9, hb9⟩
             dsimp only at he hF9
             subst he))
        go_ret
        exact ⟨rfl, hB8.trans (hb9.mono hz8)⟩

theorem own : ownKnob Try.prog.godebug = none := by kernel_rfl
theorem laidOut : laidOutB Try.prog = true := by kernel_rfl

set_option maxRecDepth 100000 in
theorem lifted (os : Os) (started : os.Started) (H : Type) (enc : TypeId × Value → H) :
    ReturnsInHanded {} Try.checked os 8 .any (Rows.flowSameSpec.pre6 enc Try.prog Try.f8 Rows.flowSameRow.domain false) (Rows.flowSameSpec.post enc Try.prog Try.f8 false true false false) := by
  refine returnsInHanded_of_change_sized (C := Try.checked) own started (by kernel_rfl) Try.func8
    (ChangeSpec.witness6 (enc := enc) (C := Try.checked) false ⟨#[], #[.agg #[.int .i64 0, .slice none 0 0], .int .i64 0, .agg #[.int .i64 0, .int .i64 0, .int .i64 0]], []⟩ 8 (by kernel_rfl) (by kernel_rfl) (by kernel_rfl) (by kernel_rfl)) ?_
  intro W base args ds gs before hval0 hW _ hsz0 _
  have hsz : (DataW.weightsEach Try.prog (Try.f8.params.toList ++ Rows.flowSameSpec.plain.varTypes Try.prog) (ds ++ gs)).all (· ≤ reachBytes) = true := hsz0
  have hval : ∀ (j : Nat) t v, Try.f8.params[j]? = some t → args[j]? = some v → Value.okWide Try.prog W .any base t v := hval0
  have hW' := hW
  obtain ⟨p, q, hA0, hV, rfl, hfz, hnd⟩ := hW
  have hA : DataW.TrodAll enc Try.prog W 0 (fun _ => true) true Try.f8.params.toList args.toList ds p := hA0
  rw [Try.params8] at hA hval hsz
  obtain ⟨v0, vs0, d0, ds0, p0, q0, hargs, rfl, rfl, h0, r0⟩ := trodAll_cons hA
  obtain ⟨v1, vs1, d1, ds1, p1, q1, rfl, rfl, rfl, h1, r1⟩ := trodAll_cons r0
  obtain ⟨v2, vs2, d2, ds2, p2, q2, rfl, rfl, rfl, h2, r2⟩ := trodAll_cons r1
  obtain ⟨rfl, rfl, rfl⟩ := trodAll_nil r2
  obtain rfl : args = #[v0, v1, v2] := by cases args; simp_all
  obtain ⟨rfl, rfl⟩ := trodVars_none hV
  have k0 := h0
  have lt0 : ∀ x ∈ p0, x.block < W.heap.size := by obtain ⟨m, hm⟩ := k0; exact DataW.trod_lt m _ _ _ hm
  have k1 := h1
  have lt1 : ∀ x ∈ p1, x.block < W.heap.size := by obtain ⟨m, hm⟩ := k1; exact DataW.trod_lt m _ _ _ hm
  have k2 := h2
  have lt2 : ∀ x ∈ p2, x.block < W.heap.size := by obtain ⟨m, hm⟩ := k2; exact DataW.trod_lt m _ _ _ hm
  obtain ⟨n0, a0, len0, cap0, es0, rfl, b0⟩ := net_of (hval 0 24 v0 rfl rfl) k0 (weights_at hsz (j := 0) (t := 24) rfl rfl)
  obtain ⟨a1, rfl, rfl, rfl, w1⟩ := open_int Try.underlying3 (hval 1 3 v1 rfl rfl) h1
  have b1 := in_of_wf w1
  obtain ⟨e2, rfl, b2⟩ := edge_of (hval 2 44 v2 rfl rfl) k2
  clear hA0 hval0 hsz0 hsz
  refine (walk n0 a0 len0 cap0 es0 a1 e2 W b0 b1 b2).mono fun e W' ⟨he, bel⟩ => ?_
  subst he
  exact ⟨_, rfl, _, _, _, [], _, [], hW', trodAll_mk1 (shut_bool Try.underlying4 _), (trodAll_cons_mk (Below.trod laidOut (by kernel_rfl) (of_decide_eq_true (by kernel_rfl)) k0 bel lt0) (trodAll_cons_mk (Below.trod laidOut (by kernel_rfl) (of_decide_eq_true (by kernel_rfl)) k1 bel lt1) (trodAll_cons_mk (Below.trod laidOut (by kernel_rfl) (of_decide_eq_true (by kernel_rfl)) k2 bel lt2) trodAll_mk0))), rfl, bel.frame _, fun h => by cases h⟩

theorem over : Rows.flowSameRow.holds Try.pinned (OpenSpec.ofChange Rows.flowSameSpec) :=
  OpenClaim.holds_of_wide 8 Try.f8 rfl rfl rfl rfl rfl rfl rfl ⟨rfl, rfl, rfl, rfl, rfl⟩ rfl rfl rfl rfl rfl (by kernel_rfl) Try.func8 (by kernel_rfl)
    (of_decide_eq_true (by kernel_rfl)) (by unfold Func.isWrapper; first | (rw [if_pos (by decide +kernel)]; kernel_rfl) | (rw [if_neg (by decide +kernel)]; exact ⟨rfl, rfl⟩))
    (fun os started H enc _ => lifted os started H enc)

theorem proved : Rows.FlowSameSaid := over
end Go.Proofs.Ytcbfgdiddhhhcaa.lawSame
