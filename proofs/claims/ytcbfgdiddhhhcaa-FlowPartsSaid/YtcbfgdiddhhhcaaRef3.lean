/-
  The document's own answers: Value, Good, Cut.
-/
import Derived.Test.YtcbfgdiddhhhcaaRef2
namespace Go.Proofs.Ytcbfgdiddhhhcaa
open Go.RowKit Gm

set_option maxRecDepth 100000 in
set_option maxHeartbeats 2000000 in
theorem qvalue_any (v : Int) (a : Option Addr) (len cap : Nat) (es : List E) (fa : Option Addr) (flen fcap : Nat) (fl : List Int) (s : Int) (w : World) (hE : NetAt w.heap.size w a len es) (hF : FlowAt w.heap.size w fa flen fl) :
    Calls Try.prog 21 #[netV v a len cap, .slice fa flen fcap, .int .i64 s] w fun e w' => e = .returned (.int .i64 (value v es fl s)) ∧ Below w.heap.size w w' := by
  obtain ⟨W0, hW0⟩ : ∃ W0, w.alloc (.cells #[.int .i64 v, .slice a len cap] 24) = W0 := ⟨_, rfl⟩
  have hB0 : Below w.heap.size w W0 := by rw [← hW0]; exact (Below.refl _ w).alloc (Nat.le_refl _) _
  have bN : Blk W0 w.heap.size 24 #[.int .i64 v, .slice a len cap] := by rw [← hW0]; exact Blk.new w _ _
  have HW0 := Lib.hid hW0
  have HE0 := Lib.hid ((hE.below hB0).more hB0.size)
  have HF0 := Lib.hid ((hF.below hB0).more hB0.size)
  have hz0 := hB0.size
  clear hW0 hE hF
  obtain ⟨r, hr⟩ : ∃ r, fits v es fl = r := ⟨_, rfl⟩
  have HR := Lib.hid hr
  clear hr
  by_cases hs : r = true ∧ 0 ≤ s ∧ s < v
  · obtain ⟨rfl, h1, h2⟩ := hs
    have HV : Hid (value v es fl s = gain (es.zip fl) s) := Lib.hid (by
      unfold value
      rw [HR.out, show vtx v s = true by simp [vtx, h1, h2]]; rfl)
    go_enter Try.func21, Try.ntmps21
    go_wp2_with (first
      | (go_at_call 33; rw [HW0.out]; (with_reducible refine (qfits_any _ _ _ _ es _ _ _ fl _ HE0.out HF0.out).mono ?_); rw [HR.out]; rintro e w1 ⟨rfl, hb1⟩
         have bN1 := bN.below hb1 bN.lt
         obtain ⟨lN, n0, n1⟩ := bN1.two
         have HE1 := Lib.hid ((HE0.out.below hb1).more hb1.size)
         have HF1 := Lib.hid ((HF0.out.below hb1).more hb1.size)
         have hB1 : Below w.heap.size w w1 := hB0.trans (hb1.mono hz0))
      | (go_at_call 34; (with_reducible refine (qout_any _ _ _ _ es _ _ _ fl _ _ HE1.out HF1.out HR.out).mono ?_); rintro e w2 ⟨rfl, hb2⟩))
    go_ret
    exact ⟨ret_int HV.out.symm, hB1.trans (hb2.mono hB1.size)⟩
  · have HV : Hid (value v es fl s = 0) := Lib.hid (by
      unfold value
      rw [HR.out]
      rw [if_neg]
      intro h
      simp [vtx] at h
      exact hs ⟨h.1, h.2.1, h.2.2⟩)
    have hw : r = false ∨ (r = true ∧ s < 0) ∨ (r = true ∧ 0 ≤ s ∧ v ≤ s) := by
      rcases r with _ | _
      · exact .inl rfl
      · simp at hs ⊢; omega
    clear hs
    rcases hw with rfl | ⟨rfl, h1⟩ | ⟨rfl, h1, h2⟩
    all_goals
      go_enter Try.func21, Try.ntmps21
      go_wp2_with (go_at_call 33; rw [HW0.out]; (with_reducible refine (qfits_any _ _ _ _ es _ _ _ fl _ HE0.out HF0.out).mono ?_); rw [HR.out]; rintro e w1 ⟨rfl, hb1⟩
                   have bN1 := bN.below hb1 bN.lt
                   obtain ⟨lN, n0, n1⟩ := bN1.two)
      go_ret
      exact ⟨ret_int HV.out.symm, hB0.trans (hb1.mono hz0)⟩

theorem good_no {v : Int} {es : List E} {fl : List Int} {s t : Int} (h : ¬ (fits v es fl = true ∧ 0 ≤ s ∧ s < v ∧ 0 ≤ t ∧ t < v ∧ s ≠ t)) : good v es fl s t = false := by
  rcases hg : good v es fl s t with _ | _
  · rfl
  · have := good_iff.1 hg
    simp [vtx] at this
    exact absurd ⟨this.1, this.2.1.1, this.2.1.2, this.2.2.1.1, this.2.2.1.2, this.2.2.2.1⟩ h
set_option maxRecDepth 100000 in
set_option maxHeartbeats 2000000 in
theorem qgood_any (v : Int) (a : Option Addr) (len cap : Nat) (es : List E) (fa : Option Addr) (flen fcap : Nat) (fl : List Int) (s t : Int) (w : World) (hE : NetAt w.heap.size w a len es) (hF : FlowAt w.heap.size w fa flen fl) :
    Calls Try.prog 19 #[netV v a len cap, .slice fa flen fcap, .int .i64 s, .int .i64 t] w fun e w' => e = .returned (.bool (good v es fl s t)) ∧ Below w.heap.size w w' := by
  obtain ⟨W0, hW0⟩ : ∃ W0, w.alloc (.cells #[.int .i64 v, .slice a len cap] 24) = W0 := ⟨_, rfl⟩
  have hB0 : Below w.heap.size w W0 := by rw [← hW0]; exact (Below.refl _ w).alloc (Nat.le_refl _) _
  have bN : Blk W0 w.heap.size 24 #[.int .i64 v, .slice a len cap] := by rw [← hW0]; exact Blk.new w _ _
  have HW0 := Lib.hid hW0
  have HE0 := Lib.hid ((hE.below hB0).more hB0.size)
  have HF0 := Lib.hid ((hF.below hB0).more hB0.size)
  have HE := Lib.hid hE
  have HF := Lib.hid hF
  have hz0 := hB0.size
  clear hW0 hE hF
  obtain ⟨r, hr⟩ : ∃ r, fits v es fl = r := ⟨_, rfl⟩
  have HR := Lib.hid hr
  clear hr
  by_cases hs : r = true ∧ 0 ≤ s ∧ s < v ∧ 0 ≤ t ∧ t < v ∧ s ≠ t
  · obtain ⟨rfl, h1, h2, h3, h4, h5⟩ := hs
    have hv := right_iff.1 (fits_iff.1 HR.out).1
    have hv1 : 2 ≤ v := hv.1
    have hv2 : v ≤ 64 := hv.2.1
    clear hv
    have q1 : (s == t) = false := by simp [h5]
    have q2 : (s != t) = true := by simp [h5]
    obtain ⟨n, rfl⟩ : ∃ n : Nat, v = n := ⟨v.toNat, by omega⟩
    have HNE := Lib.hid h5
    clear h5
    go_enter Try.func19, Try.ntmps19
    go_wp2_with (go_at_call 33; rw [HW0.out]; (with_reducible refine (qfits_any _ _ _ _ es _ _ _ fl _ HE0.out HF0.out).mono ?_); rw [HR.out]; rintro e w1 ⟨rfl, hb1⟩
                 have bN1 := bN.below hb1 bN.lt
                 obtain ⟨lN, n0, n1⟩ := bN1.two)
    have hB1 : Below w.heap.size w w1 := hB0.trans (hb1.mono hz0)
    clear hb1 lN n0 n1 bN hB0 hz0
    go_loopw [10] (fun i wr => ∃ k : Nat, k ≤ n ∧ i = .int .i64 k ∧ QOutAt w n a len cap wr ∧ Hid (∀ j : Nat, j < k → gain (es.zip fl) j = 0 ∨ (j : Int) = s ∨ (j : Int) = t)) (fun i _ => n - (intOf i).toNat)
    case atStart => exact ⟨0, Nat.zero_le _, rfl, ⟨bN1, hB1⟩, Lib.hid (fun j h => by omega)⟩
    case round =>
      clear bN1 hB1
      obtain ⟨k, hk, rfl, ⟨bN, hB⟩, hok⟩ := hrel
      obtain ⟨w2, rfl⟩ : ∃ w', w' = wr := ⟨_, rfl⟩
      obtain ⟨lN, n0, n1⟩ := bN.two
      have hBs := hB.size
      have HE2 := Lib.hid ((HE.out.below hB).more hBs)
      have HF2 := Lib.hid ((HF.out.below hB).more hBs)
      by_cases hlt : k < n
      · have hki : (k : Int) < (n : Int) := by omega
        obtain ⟨G, hG⟩ : ∃ G, gain (es.zip fl) k = G := ⟨_, rfl⟩
        have HG := Lib.hid hG
        have hw : ((((k : Int) == s) = true ∧ ((k : Int) != s) = false) ∨ (((k : Int) == s) = false ∧ ((k : Int) != s) = true ∧ ((k : Int) == t) = true ∧ ((k : Int) != t) = false) ∨ (((k : Int) == s) = false ∧ ((k : Int) != s) = true ∧ ((k : Int) == t) = false ∧ ((k : Int) != t) = true ∧ (G == 0) = true ∧ (G != 0) = false)) ∨ (((k : Int) == s) = false ∧ ((k : Int) != s) = true ∧ ((k : Int) == t) = false ∧ ((k : Int) != t) = true ∧ (G == 0) = false ∧ (G != 0) = true) := by
          by_cases e1 : (k : Int) = s
          · left; left; simp [e1]
          · by_cases e2 : (k : Int) = t
            · left; right; left; simp [e2]; rw [← e2]; exact e1
            · by_cases e3 : G = 0
              · left; right; right; simp [e1, e2, e3]
              · right; simp [e1, e2, e3]
        have hyes : Hid (((k : Int) == s) = true ∨ ((k : Int) == t) = true ∨ (G == 0) = true → ∀ j : Nat, j < k + 1 → gain (es.zip fl) j = 0 ∨ (j : Int) = s ∨ (j : Int) = t) := Lib.hid (fun h j hj => by
          by_cases e : j < k
          · exact hok.out j e
          · obtain rfl : j = k := by omega
            rw [HG.out]
            simp at h
            rcases h with h | h | h
            · exact .inr (.inl h)
            · exact .inr (.inr h)
            · exact .inl h)
        have hno : Hid (((k : Int) == s) = false → ((k : Int) == t) = false → (G == 0) = false → good n es fl s t = false) := Lib.hid (fun g1 g2 g3 => by
          rcases hg : good n es fl s t with _ | _
          · rfl
          · have := (good_iff.1 hg).2.2.2.2 k (by omega)
            rw [HG.out] at this
            simp at g1 g2 g3
            omega)
        clear hG
        rcases hw with (⟨g1, g2⟩ | ⟨g1, g2, g3, g4⟩ | ⟨g1, g2, g3, g4, g5, g6⟩) | ⟨g1, g2, g3, g4, g5, g6⟩
        · have HY := Lib.hid (hyes.out (.inl g1))
          go_wp2
          go_roundw
          case rel => exact ⟨k + 1, by omega, by go_num, ⟨bN, hB⟩, HY⟩
          case measure => simp [intOf]; omega
        · have HY := Lib.hid (hyes.out (.inr (.inl g3)))
          go_wp2
          go_roundw
          case rel => exact ⟨k + 1, by omega, by go_num, ⟨bN, hB⟩, HY⟩
          case measure => simp [intOf]; omega
        · have HY := Lib.hid (hyes.out (.inr (.inr g5)))
          go_wp2_with (go_at_call 34; (with_reducible refine (qout_any _ _ _ _ es _ _ _ fl _ _ HE2.out HF2.out HR.out).mono ?_); rw [HG.out]; rintro e w3 ⟨rfl, hb3⟩
                       have bN3 := bN.below hb3 bN.lt
                       obtain ⟨lN3, n30, n31⟩ := bN3.two)
          go_roundw
          case rel => exact ⟨k + 1, by omega, by go_num, ⟨bN3, hB.trans (hb3.mono hBs)⟩, HY⟩
          case measure => simp [intOf]; omega
        · have HNO := Lib.hid (hno.out g1 g3 g5)
          go_wp2_with (go_at_call 34; (with_reducible refine (qout_any _ _ _ _ es _ _ _ fl _ _ HE2.out HF2.out HR.out).mono ?_); rw [HG.out]; rintro e w3 ⟨rfl, hb3⟩
                       have bN3 := bN.below hb3 bN.lt
                       obtain ⟨lN3, n30, n31⟩ := bN3.two)
          go_ret
          exact ⟨ret_bool HNO.out.symm, hB.trans (hb3.mono hBs)⟩
      · obtain rfl : k = n := by omega
        have HY : Hid (good k es fl s t = true) := Lib.hid (good_iff.2 ⟨HR.out, by simp [vtx]; omega, by simp [vtx]; omega, HNE.out, fun j hj => hok.out j (by omega)⟩)
        go_wp2
        go_ret
        exact ⟨ret_bool HY.out.symm, hB⟩
  · have HV : Hid (good v es fl s t = false) := Lib.hid (good_no (by rw [HR.out]; exact hs))
    have hw : r = false ∨ (r = true ∧ s < 0) ∨ (r = true ∧ 0 ≤ s ∧ v ≤ s) ∨ (r = true ∧ 0 ≤ s ∧ s < v ∧ t < 0) ∨ (r = true ∧ 0 ≤ s ∧ s < v ∧ 0 ≤ t ∧ v ≤ t) ∨ (r = true ∧ 0 ≤ s ∧ s < v ∧ 0 ≤ t ∧ t < v ∧ (s == t) = true ∧ (s != t) = false) := by
      rcases r with _ | _
      · exact .inl rfl
      · simp at hs ⊢; omega
    clear hs
    rcases hw with rfl | ⟨rfl, h1⟩ | ⟨rfl, h1, h2⟩ | ⟨rfl, h1, h2, h3⟩ | ⟨rfl, h1, h2, h3, h4⟩ | ⟨rfl, h1, h2, h3, h4, h5, h6⟩
    all_goals
      go_enter Try.func19, Try.ntmps19
      go_wp2_with (go_at_call 33; rw [HW0.out]; (with_reducible refine (qfits_any _ _ _ _ es _ _ _ fl _ HE0.out HF0.out).mono ?_); rw [HR.out]; rintro e w1 ⟨rfl, hb1⟩
                   have bN1 := bN.below hb1 bN.lt
                   obtain ⟨lN, n0, n1⟩ := bN1.two)
      go_ret
      exact ⟨ret_bool HV.out.symm, hB0.trans (hb1.mono hz0)⟩

theorem cutSum_step {es : List E} {side : List Bool} {k : Nat} (hk : k < es.length) : cutSum side (es.take (k + 1)) = cutSum side (es.take k) + (if has side es[k].1 && !has side es[k].2.1 then es[k].2.2 else 0) := by
  rw [List.take_succ_eq_append_getElem hk]
  exact cutSum_snoc _ _ _
set_option maxRecDepth 100000 in
set_option maxHeartbeats 2000000 in
theorem qcut_any (v : Int) (a : Option Addr) (len cap : Nat) (es : List E) (sa : Option Addr) (slen scap : Nat) (side : List Bool) (w : World) (hE : NetAt w.heap.size w a len es) (hS : SideAt w.heap.size w sa slen side) :
    Calls Try.prog 23 #[netV v a len cap, .slice sa slen scap] w fun e w' => e = .returned (.int .i64 (cut v es side)) ∧ Below w.heap.size w w' := by
  obtain ⟨W0, hW0⟩ : ∃ W0, w.alloc (.cells #[.int .i64 v, .slice a len cap] 24) = W0 := ⟨_, rfl⟩
  have hB0 : Below w.heap.size w W0 := by rw [← hW0]; exact (Below.refl _ w).alloc (Nat.le_refl _) _
  have bN : Blk W0 w.heap.size 24 #[.int .i64 v, .slice a len cap] := by rw [← hW0]; exact Blk.new w _ _
  have HW0 := Lib.hid hW0
  have HE0 := Lib.hid ((hE.below hB0).more hB0.size)
  have HE := Lib.hid hE
  have HS := Lib.hid hS
  have HlE := Lib.hid hE.1
  have HlS := Lib.hid hS.1
  have hls := hS.2.1
  have hz0 := hB0.size
  clear hW0 hE hS
  obtain ⟨r, hr⟩ : ∃ r, right v es = r := ⟨_, rfl⟩
  have HR := Lib.hid hr
  clear hr
  by_cases hs : r = true ∧ (slen : Int) = v
  · obtain ⟨rfl, h1⟩ := hs
    have hv := right_iff.1 HR.out
    have hv1 : 2 ≤ v := hv.1
    have hv2 : v ≤ 64 := hv.2.1
    have hlen : len ≤ 256 := by have := hv.2.2.1; rw [HlE.out] at this; exact this
    have HOK : Hid (∀ e ∈ es, okE v e = true) := Lib.hid hv.2.2.2
    clear hv
    subst h1
    go_enter Try.func23, Try.ntmps23
    go_wp2_with (go_at_call 35; rw [HW0.out]; (with_reducible refine (qright_any _ _ _ _ es _ HE0.out).mono ?_); rw [HR.out]; rintro e w1 ⟨rfl, hb1⟩
                 have bN1 := bN.below hb1 bN.lt
                 obtain ⟨lN, n0, n1⟩ := bN1.two)
    have hB1 : Below w.heap.size w w1 := hB0.trans (hb1.mono hz0)
    clear hb1 lN n0 n1 bN hB0 hz0
    go_loopw [6, 7] (fun t i wr => ∃ k : Nat, k ≤ len ∧ i = .int .i64 k ∧ t = .int .i64 (cutSum side (es.take k)) ∧ QOutAt w slen a len cap wr) (fun _ i _ => len - (intOf i).toNat)
    case atStart => exact ⟨0, Nat.zero_le _, rfl, rfl, bN1, hB1⟩
    case round =>
      clear bN1 hB1
      obtain ⟨k, hk, rfl, rfl, bN, hB⟩ := hrel
      obtain ⟨w2, rfl⟩ : ∃ w', w' = wr := ⟨_, rfl⟩
      obtain ⟨lN, n0, n1⟩ := bN.two
      have hBs := hB.size
      by_cases hlt : k < len
      · have hkl : k < es.length := by rw [HlE.out]; exact hlt
        obtain ⟨b, off, ha, hc⟩ := (HE.out.below hB).2.2
        obtain ⟨hb, c0, c1, c2⟩ := hc k hkl
        obtain rfl : a = some ⟨b, off, none⟩ := by
          rcases ha with h | h
          · omega
          · exact h
        obtain ⟨sb, so, hsa, hsc⟩ := (HS.out.below hB).2.2.bool
        have ho := okE_iff.1 (HOK.out _ (List.getElem_mem hkl))
        have hst := cutSum_step (side := side) hkl
        have hbd := cutSum_bd side (es.take k) (fun e he => by
          have := okE_iff.1 (HOK.out e (List.mem_of_mem_take he)); omega)
        have hkt : (es.take k).length ≤ 256 := by rw [List.length_take]; omega
        obtain ⟨x, hx⟩ : ∃ x, es[k] = x := ⟨_, rfl⟩
        rw [hx] at c0 c1 c2 ho hst
        obtain ⟨x0, x1, y0, y1, hne, k0, k1⟩ := ho
        obtain ⟨hs1, s1⟩ := hsc x.1.toNat (by rw [HlS.out]; omega)
        obtain ⟨hs2, s2⟩ := hsc x.2.1.toNat (by rw [HlS.out]; omega)
        obtain rfl : sa = some ⟨sb, so, none⟩ := by
          rcases hsa with h | h
          · rw [HlS.out] at h; omega
          · exact h
        have s1' : w2.cell? ⟨sb, so + x.1.toNat, none⟩ = some (.bool (has side x.1)) := s1
        have s2' : w2.cell? ⟨sb, so + x.2.1.toNat, none⟩ = some (.bool (has side x.2.1)) := s2
        generalize has side x.1 = A at s1' hst
        generalize has side x.2.1 = B at s2' hst
        obtain ⟨S0, hS0⟩ : ∃ S0, cutSum side (es.take k) = S0 := ⟨_, rfl⟩
        rw [hS0] at hst hbd ⊢
        have hS1 : 0 ≤ S0 ∧ S0 ≤ 256000 := by omega
        obtain ⟨hs0, hs3⟩ := hS1
        have hki : (k : Int) < (len : Int) := by omega
        have hw : (A = true ∧ B = false ∧ cutSum side (es.take (k + 1)) = S0 + x.2.2) ∨ (A = true ∧ B = true ∧ cutSum side (es.take (k + 1)) = S0) ∨ (A = false ∧ cutSum side (es.take (k + 1)) = S0) := by
          rcases A with _ | _ <;> rcases B with _ | _ <;> simp at hst ⊢ <;> omega
        clear ha hc hsa hsc hx hst hbd hkt hne s1 s2 hS0
        rcases hw with ⟨rfl, rfl, hg⟩ | ⟨rfl, rfl, hg⟩ | ⟨rfl, hg⟩
        all_goals
          have HG := Lib.hid hg
          clear hg
          go_wp2
          go_roundw
          case rel => exact ⟨k + 1, by omega, by go_num, by rw [HG.out], bN, hB⟩
          case measure => simp [intOf]; omega
      · obtain rfl : k = es.length := by have := HlE.out; omega
        have HT : Hid (cutSum side (es.take es.length) = cut slen es side) := Lib.hid (by
          unfold cut
          rw [HR.out, HlS.out, List.take_length]; simp)
        go_wp2
        go_ret
        exact ⟨ret_int HT.out, hB⟩
  · have HV : Hid (cut v es side = 0) := Lib.hid (by
      unfold cut
      rw [HR.out, HlS.out, if_neg]
      intro h
      simp at h
      exact hs h)
    have hw : r = false ∨ (r = true ∧ ((slen : Int) == v) = false ∧ ((slen : Int) != v) = true) := by
      rcases r with _ | _
      · exact .inl rfl
      · simp at hs ⊢; exact hs
    clear hs
    rcases hw with rfl | ⟨rfl, h1, h2⟩
    all_goals
      go_enter Try.func23, Try.ntmps23
      go_wp2_with (go_at_call 35; rw [HW0.out]; (with_reducible refine (qright_any _ _ _ _ es _ HE0.out).mono ?_); rw [HR.out]; rintro e w1 ⟨rfl, hb1⟩
                   have bN1 := bN.below hb1 bN.lt
                   obtain ⟨lN, n0, n1⟩ := bN1.two)
      go_ret
      exact ⟨ret_int HV.out.symm, hB0.trans (hb1.mono hz0)⟩
end Go.Proofs.Ytcbfgdiddhhhcaa
