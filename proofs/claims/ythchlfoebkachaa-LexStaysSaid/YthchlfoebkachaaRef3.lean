/-
  The document's own answers: Value, Good, Cut.
-/
import Derived.Test.YthchlfoebkachaaRef2
namespace Go.Proofs.Ythchlfoebkachaa
open Go.RowKit Gm

theorem good_no {v : Int} {es : List E} {fl : List Int} {s t : Int} (h : ¬ (fits v es fl = true ∧ 0 ≤ s ∧ s < v ∧ 0 ≤ t ∧ t < v ∧ s ≠ t)) : good v es fl s t = false := by
  rcases hg : good v es fl s t with _ | _
  · rfl
  · have := good_iff.1 hg
    simp [vtx] at this
    exact absurd ⟨this.1, this.2.1.1, this.2.1.2, this.2.2.1.1, this.2.2.1.2, this.2.2.2.1⟩ h
set_option maxRecDepth 100000 in
set_option maxHeartbeats 2000000 in
theorem qgood_any (v : Int) (a : Option Addr) (len cap : Nat) (es : List E) (fa : Option Addr) (flen fcap : Nat) (fl : List Int) (s t : Int) (w : World) (hE : NetAt w.heap.size w a len es) (hF : FlowAt w.heap.size w fa flen fl) :
    Calls Try.prog 16 #[netV v a len cap, .slice fa flen fcap, .int .i64 s, .int .i64 t] w fun e w' => e = .returned (.bool (good v es fl s t)) ∧ Below w.heap.size w w' := by
  obtain ⟨W0, hW0⟩ : ∃ W0, w.alloc (.cells #[.int .i64 v, .slice a len cap] 24) = W0 := ⟨_, rfl⟩
  have hB0 : Below w.heap.size w W0 := by rw [← hW0]; exact (Below.refl _ w).alloc (Nat.le_refl _) _
  have bN : Blk W0 w.heap.size 24 #[.int .i64 v, .slice a len cap] := by rw [← hW0]; exact Blk.new w _ _
  have HW0 := Lib.hid hW0
  have HE0 := Lib.hid ((hE.below hB0).more hB0.size)
  have HF0 := Lib.hid ((hF.below hB0).more hB0.size)
  have HE := Lib.hid hE
  have HF := Lib.hid hF
  have hz0 := hB0.size
  clear hW0 hE hF
  obtain ⟨r, hr⟩ : ∃ r, fits v es fl = r := ⟨_, rfl⟩
  have HR := Lib.hid hr
  clear hr
  by_cases hs : r = true ∧ 0 ≤ s ∧ s < v ∧ 0 ≤ t ∧ t < v ∧ s ≠ t
  · obtain ⟨rfl, h1, h2, h3, h4, h5⟩ := hs
    have hv := right_iff.1 (fits_iff.1 HR.out).1
    have hv1 : 2 ≤ v := hv.1
    have hv2 : v ≤ 64 := hv.2.1
    clear hv
    have q1 : (s == t) = false := by simp [h5]
    have q2 : (s != t) = true := by simp [h5]
    obtain ⟨n, rfl⟩ : ∃ n : Nat, v = n := ⟨v.toNat, by omega⟩
    have HNE := Lib.hid h5
    clear h5
    go_enter Try.func16, Try.ntmps16
    go_wp2_with (go_at_call 30; rw [HW0.out]; (with_reducible refine (qfits_any _ _ _ _ es _ _ _ fl _ HE0.out HF0.out).mono ?_); rw [HR.out]; rintro e w1 ⟨rfl, hb1⟩
                 have bN1 := bN.below hb1 bN.lt
                 obtain ⟨lN, n0, n1⟩ := bN1.two)
    have hB1 : Below w.heap.size w w1 := hB0.trans (hb1.mono hz0)
    clear hb1 lN n0 n1 bN hB0 hz0
    go_loopw [10] (fun i wr => ∃ k : Nat, k ≤ n ∧ i = .int .i64 k ∧ QOutAt w n a len cap wr ∧ Hid (∀ j : Nat, j < k → gain (es.zip fl) j = 0 ∨ (j : Int) = s ∨ (j : Int) = t)) (fun i _ => n - (intOf i).toNat)
    case atStart => exact ⟨0, Nat.zero_le _, rfl, ⟨bN1, hB1⟩, Lib.hid (fun j h => by omega)⟩
    case round =>
      clear bN1 hB1
      obtain ⟨k, hk, rfl, ⟨bN, hB⟩, hok⟩ := hrel
      obtain ⟨w2, rfl⟩ : ∃ w', w' = wr := ⟨_, rfl⟩
      obtain ⟨lN, n0, n1⟩ := bN.two
      have hBs := hB.size
      have HE2 := Lib.hid ((HE.out.below hB).more hBs)
      have HF2 := Lib.hid ((HF.out.below hB).more hBs)
      by_cases hlt : k < n
      · have hki : (k : Int) < (n : Int) := by omega
        obtain ⟨G, hG⟩ : ∃ G, gain (es.zip fl) k = G := ⟨_, rfl⟩
        have HG := Lib.hid hG
        have hw : ((((k : Int) == s) = true ∧ ((k : Int) != s) = false) ∨ (((k : Int) == s) = false ∧ ((k : Int) != s) = true ∧ ((k : Int) == t) = true ∧ ((k : Int) != t) = false) ∨ (((k : Int) == s) = false ∧ ((k : Int) != s) = true ∧ ((k : Int) == t) = false ∧ ((k : Int) != t) = true ∧ (G == 0) = true ∧ (G != 0) = false)) ∨ (((k : Int) == s) = false ∧ ((k : Int) != s) = true ∧ ((k : Int) == t) = false ∧ ((k : Int) != t) = true ∧ (G == 0) = false ∧ (G != 0) = true) := by
          by_cases e1 : (k : Int) = s
          · left; left; simp [e1]
          · by_cases e2 : (k : Int) = t
            · left; right; left; simp [e2]; rw [← e2]; exact e1
            · by_cases e3 : G = 0
              · left; right; right; simp [e1, e2, e3]
              · right; simp [e1, e2, e3]
        have hyes : Hid (((k : Int) == s) = true ∨ ((k : Int) == t) = true ∨ (G == 0) = true → ∀ j : Nat, j < k + 1 → gain (es.zip fl) j = 0 ∨ (j : Int) = s ∨ (j : Int) = t) := Lib.hid (fun h j hj => by
          by_cases e : j < k
          · exact hok.out j e
          · obtain rfl : j = k := by omega
            rw [HG.out]
            simp at h
            rcases h with h | h | h
            · exact .inr (.inl h)
            · exact .inr (.inr h)
            · exact .inl h)
        have hno : Hid (((k : Int) == s) = false → ((k : Int) == t) = false → (G == 0) = false → good n es fl s t = false) := Lib.hid (fun g1 g2 g3 => by
          rcases hg : good n es fl s t with _ | _
          · rfl
          · have := (good_iff.1 hg).2.2.2.2 k (by omega)
            rw [HG.out] at this
            simp at g1 g2 g3
            omega)
        clear hG
        rcases hw with (⟨g1, g2⟩ | ⟨g1, g2, g3, g4⟩ | ⟨g1, g2, g3, g4, g5, g6⟩) | ⟨g1, g2, g3, g4, g5, g6⟩
        · have HY := Lib.hid (hyes.out (.inl g1))
          go_wp2
          go_roundw
          case rel => exact ⟨k + 1, by omega, by go_num, ⟨bN, hB⟩, HY⟩
          case measure => simp [intOf]; omega
        · have HY := Lib.hid (hyes.out (.inr (.inl g3)))
          go_wp2
          go_roundw
          case rel => exact ⟨k + 1, by omega, by go_num, ⟨bN, hB⟩, HY⟩
          case measure => simp [intOf]; omega
        · have HY := Lib.hid (hyes.out (.inr (.inr g5)))
          go_wp2_with (go_at_call 31; (with_reducible refine (qout_any _ _ _ _ es _ _ _ fl _ _ HE2.out HF2.out HR.out).mono ?_); rw [HG.out]; rintro e w3 ⟨rfl, hb3⟩
                       have bN3 := bN.below hb3 bN.lt
                       obtain ⟨lN3, n30, n31⟩ := bN3.two)
          go_roundw
          case rel => exact ⟨k + 1, by omega, by go_num, ⟨bN3, hB.trans (hb3.mono hBs)⟩, HY⟩
          case measure => simp [intOf]; omega
        · have HNO := Lib.hid (hno.out g1 g3 g5)
          go_wp2_with (go_at_call 31; (with_reducible refine (qout_any _ _ _ _ es _ _ _ fl _ _ HE2.out HF2.out HR.out).mono ?_); rw [HG.out]; rintro e w3 ⟨rfl, hb3⟩
                       have bN3 := bN.below hb3 bN.lt
                       obtain ⟨lN3, n30, n31⟩ := bN3.two)
          go_ret
          exact ⟨ret_bool HNO.out.symm, hB.trans (hb3.mono hBs)⟩
      · obtain rfl : k = n := by omega
        have HY : Hid (good k es fl s t = true) := Lib.hid (good_iff.2 ⟨HR.out, by simp [vtx]; omega, by simp [vtx]; omega, HNE.out, fun j hj => hok.out j (by omega)⟩)
        go_wp2
        go_ret
        exact ⟨ret_bool HY.out.symm, hB⟩
  · have HV : Hid (good v es fl s t = false) := Lib.hid (good_no (by rw [HR.out]; exact hs))
    have hw : r = false ∨ (r = true ∧ s < 0) ∨ (r = true ∧ 0 ≤ s ∧ v ≤ s) ∨ (r = true ∧ 0 ≤ s ∧ s < v ∧ t < 0) ∨ (r = true ∧ 0 ≤ s ∧ s < v ∧ 0 ≤ t ∧ v ≤ t) ∨ (r = true ∧ 0 ≤ s ∧ s < v ∧ 0 ≤ t ∧ t < v ∧ (s == t) = true ∧ (s != t) = false) := by
      rcases r with _ | _
      · exact .inl rfl
      · simp at hs ⊢; omega
    clear hs
    rcases hw with rfl | ⟨rfl, h1⟩ | ⟨rfl, h1, h2⟩ | ⟨rfl, h1, h2, h3⟩ | ⟨rfl, h1, h2, h3, h4⟩ | ⟨rfl, h1, h2, h3, h4, h5, h6⟩
    all_goals
      go_enter Try.func16, Try.ntmps16
      go_wp2_with (go_at_call 30; rw [HW0.out]; (with_reducible refine (qfits_any _ _ _ _ es _ _ _ fl _ HE0.out HF0.out).mono ?_); rw [HR.out]; rintro e w1 ⟨rfl, hb1⟩
                   have bN1 := bN.below hb1 bN.lt
                   obtain ⟨lN, n0, n1⟩ := bN1.two)
      go_ret
      exact ⟨ret_bool HV.out.symm, hB0.trans (hb1.mono hz0)⟩

theorem cutSum_step {es : List E} {side : List Bool} {k : Nat} (hk : k < es.length) : cutSum side (es.take (k + 1)) = cutSum side (es.take k) + (if has side es[k].1 && !has side es[k].2.1 then es[k].2.2 else 0) := by
  rw [List.take_succ_eq_append_getElem hk]
  exact cutSum_snoc _ _ _
end Go.Proofs.Ythchlfoebkachaa
