/-
  The document's own answers: fits, out.
-/
import Derived.Test.YthchlfoebkachaaRef
namespace Go.Proofs.Ythchlfoebkachaa
open Go.RowKit Gm

theorem zip_k {es : List E} {fl : List Int} (h : fl.length = es.length) {k : Nat} (hk : k < es.length) : (es.zip fl)[k]? = some (es[k], flowAt fl k) := by
  have e : flowAt fl k = fl[k]'(by omega) := by unfold flowAt; rw [List.getElem?_eq_getElem (by omega)]; rfl
  rw [e, List.getElem?_eq_getElem (by rw [List.length_zip]; omega), List.getElem_zip]
theorem fits_bad {v : Int} {es : List E} {fl : List Int} (h : fl.length = es.length) {k : Nat} (hk : k < es.length) (hb : ¬ (0 ≤ flowAt fl k ∧ flowAt fl k ≤ es[k].2.2)) : fits v es fl = false := by
  rcases hf : fits v es fl with _ | _
  · rfl
  · exact absurd ((fits_iff.1 hf).2.2 _ (List.mem_of_getElem? (zip_k h hk))) hb
def QFitsAt (w : World) (v : Int) (a : Option Addr) (len cap : Nat) (es : List E) (fl : List Int) (k : Nat) (wr : World) : Prop :=
  Blk wr w.heap.size 24 #[.int .i64 v, .slice a len cap] ∧ (∀ j (h : j < es.length), j < k → 0 ≤ flowAt fl j ∧ flowAt fl j ≤ es[j].2.2) ∧ Below w.heap.size w wr

set_option maxRecDepth 100000 in
set_option maxHeartbeats 2000000 in
theorem qfits_any (v : Int) (a : Option Addr) (len cap : Nat) (es : List E) (fa : Option Addr) (flen fcap : Nat) (fl : List Int) (w : World) (hE : NetAt w.heap.size w a len es) (hF : FlowAt w.heap.size w fa flen fl) :
    Calls Try.prog 30 #[netV v a len cap, .slice fa flen fcap] w fun e w' => e = .returned (.bool (fits v es fl)) ∧ Below w.heap.size w w' := by
  obtain ⟨W0, hW0⟩ : ∃ W0, w.alloc (.cells #[.int .i64 v, .slice a len cap] 24) = W0 := ⟨_, rfl⟩
  have hB0 : Below w.heap.size w W0 := by rw [← hW0]; exact (Below.refl _ w).alloc (Nat.le_refl _) _
  have bN : Blk W0 w.heap.size 24 #[.int .i64 v, .slice a len cap] := by rw [← hW0]; exact Blk.new w _ _
  have HW0 := Lib.hid hW0
  have HE0 := Lib.hid ((hE.below hB0).more hB0.size)
  have HlE := Lib.hid hE.1
  have HlF := Lib.hid hF.1
  have HE := Lib.hid hE
  have HF := Lib.hid hF
  have hz0 := hB0.size
  have hl := hE.2.1
  have hlf := hF.2.1
  clear hW0 hE hF
  obtain ⟨r, hr⟩ : ∃ r, right v es = r := ⟨_, rfl⟩
  have HR := Lib.hid hr
  clear hr
  rcases r with _ | _
  · have hf : Hid (fits v es fl = false) := Lib.hid (by
      rcases h : fits v es fl with _ | _
      · rfl
      · have := (fits_iff.1 h).1; rw [HR.out] at this; cases this)
    go_enter Try.func30, Try.ntmps30
    go_wp2_with (go_at_call 42; rw [HW0.out]; (with_reducible refine (qright_any _ _ _ _ es _ HE0.out).mono ?_); rw [HR.out]; rintro e w1 ⟨rfl, hb1⟩)
    go_ret
    exact ⟨ret_bool hf.out.symm, hB0.trans (hb1.mono hz0)⟩
  · by_cases hq : flen = len
    · have hlen : len ≤ 256 := by have := (right_iff.1 HR.out).2.2.1; rw [HlE.out] at this; exact this
      have HQ : Hid (fl.length = es.length) := Lib.hid (by rw [HlE.out, HlF.out]; exact hq)
      subst hq
      go_enter Try.func30, Try.ntmps30
      go_wp2_with (go_at_call 42; rw [HW0.out]; (with_reducible refine (qright_any _ _ _ _ es _ HE0.out).mono ?_); rw [HR.out]; rintro e w1 ⟨rfl, hb1⟩
                   have bN1 := bN.below hb1 bN.lt
                   obtain ⟨lN, n0, n1⟩ := bN1.two)
      have hB1 : Below w.heap.size w w1 := hB0.trans (hb1.mono hz0)
      clear hb1 lN n0 n1 bN hB0 hz0
      go_loopw [6] (fun i wr => ∃ k : Nat, k ≤ flen ∧ i = .int .i64 k ∧ QFitsAt w v a flen cap es fl k wr) (fun i _ => flen - (intOf i).toNat)
      case atStart => exact ⟨0, Nat.zero_le _, rfl, bN1, fun j _ h => by omega, hB1⟩
      case round =>
        clear bN1 hB1
        obtain ⟨k, hk, rfl, bN, hok, hB⟩ := hrel
        obtain ⟨w2, rfl⟩ : ∃ w', w' = wr := ⟨_, rfl⟩
        obtain ⟨lN, n0, n1⟩ := bN.two
        have HOK := Lib.hid hok
        have hBs := hB.size
        clear hok
        by_cases hlt : k < flen
        · have hkl : k < es.length := by rw [HlE.out]; exact hlt
          obtain ⟨b, off, ha, hc⟩ := (HE.out.below hB).2.2
          obtain ⟨hb, c0, c1, c2⟩ := hc k hkl
          obtain rfl : a = some ⟨b, off, none⟩ := by
            rcases ha with h | h
            · omega
            · exact h
          obtain ⟨gb, go, hga, hgc⟩ := (HF.out.below hB).2.2.int
          obtain ⟨hgb, cf⟩ := hgc k (by rw [HQ.out]; exact hkl)
          obtain rfl : fa = some ⟨gb, go, none⟩ := by
            rcases hga with h | h
            · rw [HQ.out] at h; omega
            · exact h
          have cf' : w2.cell? ⟨gb, go + k, none⟩ = some (.int .i64 (flowAt fl k)) := cf
          obtain ⟨f, hfe⟩ : ∃ f, flowAt fl k = f := ⟨_, rfl⟩
          have HFE := Lib.hid hfe
          rw [hfe] at cf'
          obtain ⟨x, hx⟩ : ∃ x, es[k].2.2 = x := ⟨_, rfl⟩
          have HX := Lib.hid hx
          rw [hx] at c2
          have hki : (k : Int) < (flen : Int) := by omega
          have hways : (f < 0 ∨ (0 ≤ f ∧ x < f)) ∨ (0 ≤ f ∧ f ≤ x) := by omega
          clear ha hc hga hgc cf hfe hx c0 c1
          rcases hways with hbad | ⟨h0, h1⟩
          · have HNO : Hid (fits v es fl = false) := Lib.hid (fits_bad HQ.out hkl (by rw [HFE.out, HX.out]; omega))
            have hbad2 : (decide (f < 0) = true ∧ f < 0) ∨ (decide (f < 0) = false ∧ decide (x < f) = true ∧ ¬ f < 0 ∧ x < f) := by
              rcases hbad with h | h
              · exact .inl ⟨by simpa using h, h⟩
              · exact .inr ⟨by simp; omega, by simp; omega, by omega, by omega⟩
            clear hbad
            rcases hbad2 with ⟨d0, _⟩ | ⟨d0, d1, _, _⟩
            all_goals
              go_wp2
              go_quiet (fail)
              go_wp2
              go_ret
              exact ⟨ret_bool HNO.out.symm, below_drewN hB _⟩
          · have d0 : decide (f < 0) = false := by simp; omega
            have d1 : decide (x < f) = false := by simp; omega
            go_wp2
            go_quiet (fail)
            go_wp2
            go_roundw
            case rel =>
              refine ⟨k + 1, by omega, by go_num, bN.drewN _, fun j hj h => ?_, below_drewN hB _⟩
              by_cases e : j < k
              · exact HOK.out j hj e
              · obtain rfl : j = k := by omega
                rw [HFE.out, HX.out]; exact ⟨h0, h1⟩
            case measure => simp [intOf]; omega
        · obtain rfl : k = flen := by omega
          have HFT : Hid (fits v es fl = true) := Lib.hid (fits_iff.2 ⟨HR.out, HQ.out, fun p hp => by
            obtain ⟨i, hi, rfl⟩ := zip_mem HQ.out hp
            exact HOK.out i hi (by rw [HlE.out] at hi; exact hi)⟩)
          go_wp2
          go_ret
          exact ⟨ret_bool HFT.out.symm, hB⟩
    · have hf : Hid (fits v es fl = false) := Lib.hid (by
        rcases h : fits v es fl with _ | _
        · rfl
        · have := (fits_iff.1 h).2.1; rw [HlE.out, HlF.out] at this; omega)
      have hq1 : ((flen : Int) == (len : Int)) = false := by simp; omega
      have hq2 : ((flen : Int) != (len : Int)) = true := by simp; omega
      go_enter Try.func30, Try.ntmps30
      go_wp2_with (go_at_call 42; rw [HW0.out]; (with_reducible refine (qright_any _ _ _ _ es _ HE0.out).mono ?_); rw [HR.out]; rintro e w1 ⟨rfl, hb1⟩
                   have bN1 := bN.below hb1 bN.lt
                   obtain ⟨lN, n0, n1⟩ := bN1.two)
      go_ret
      exact ⟨ret_bool hf.out.symm, hB0.trans (hb1.mono hz0)⟩

theorem gain_step {es : List E} {fl : List Int} (h : fl.length = es.length) {k : Nat} (hk : k < es.length) (x : Int) :
    gain ((es.zip fl).take (k + 1)) x = gain ((es.zip fl).take k) x + (if es[k].1 = x then flowAt fl k else 0) - (if es[k].2.1 = x then flowAt fl k else 0) := by
  rw [List.take_add_one, zip_k h hk]
  exact gain_snoc _ _ _
def QOutAt (w : World) (v : Int) (a : Option Addr) (len cap : Nat) (wr : World) : Prop := Blk wr w.heap.size 24 #[.int .i64 v, .slice a len cap] ∧ Below w.heap.size w wr

set_option maxRecDepth 100000 in
set_option maxHeartbeats 2000000 in
theorem qout_any (v : Int) (a : Option Addr) (len cap : Nat) (es : List E) (fa : Option Addr) (flen fcap : Nat) (fl : List Int) (x : Int) (w : World) (hE : NetAt w.heap.size w a len es) (hF : FlowAt w.heap.size w fa flen fl) (hf : fits v es fl = true) :
    Calls Try.prog 31 #[netV v a len cap, .slice fa flen fcap, .int .i64 x] w fun e w' => e = .returned (.int .i64 (gain (es.zip fl) x)) ∧ Below w.heap.size w w' := by
  have hff := fits_iff.1 hf
  have hri := right_iff.1 hff.1
  have HQ := Lib.hid hff.2.1
  have HFF := Lib.hid hff.2.2
  have HOK : Hid (∀ e ∈ es, okE v e = true) := Lib.hid hri.2.2.2
  have HlE := Lib.hid hE.1
  have HlF := Lib.hid hF.1
  have hql : flen = len := by rw [← hF.1, ← hE.1]; exact hff.2.1
  have hlen : flen ≤ 256 := by have := hri.2.2.1; rw [hE.1] at this; omega
  have HE := Lib.hid hE
  have HF := Lib.hid hF
  clear hff hri hf hE hF
  subst hql
  go_enter Try.func31, Try.ntmps31
  go_wp2
  go_loopw [7, 8] (fun s i wr => ∃ k : Nat, k ≤ flen ∧ i = .int .i64 k ∧ s = .int .i64 (gain ((es.zip fl).take k) x) ∧ QOutAt w v a flen cap wr) (fun _ i _ => flen - (intOf i).toNat)
  case atStart => exact ⟨0, Nat.zero_le _, rfl, rfl, Blk.new w _ _, (Below.refl _ w).alloc (Nat.le_refl _) _⟩
  case round =>
    obtain ⟨k, hk, rfl, rfl, bN, hB⟩ := hrel
    obtain ⟨w2, rfl⟩ : ∃ w', w' = wr := ⟨_, rfl⟩
    obtain ⟨lN, n0, n1⟩ := bN.two
    have hBs := hB.size
    by_cases hlt : k < flen
    · have hkl : k < es.length := by rw [HlE.out]; exact hlt
      obtain ⟨b, off, ha, hc⟩ := (HE.out.below hB).2.2
      obtain ⟨hb, c0, c1, c2⟩ := hc k hkl
      obtain rfl : a = some ⟨b, off, none⟩ := by
        rcases ha with h | h
        · omega
        · exact h
      obtain ⟨gb, go, hga, hgc⟩ := (HF.out.below hB).2.2.int
      obtain ⟨hgb, cf⟩ := hgc k (by rw [HQ.out]; exact hkl)
      obtain rfl : fa = some ⟨gb, go, none⟩ := by
        rcases hga with h | h
        · rw [HQ.out] at h; omega
        · exact h
      have cf' : w2.cell? ⟨gb, go + k, none⟩ = some (.int .i64 (flowAt fl k)) := cf
      have hst := gain_step HQ.out hkl x
      have hbd := gain_bd ((es.zip fl).take k) x (fun p hp => by
        have hm := List.mem_of_mem_take hp
        have h1 := HFF.out p hm
        have h2 := okE_iff.1 (HOK.out _ (List.of_mem_zip hm).1)
        omega)
      have hkt : ((es.zip fl).take k).length ≤ 256 := by rw [List.length_take]; omega
      have hfb : 0 ≤ flowAt fl k ∧ flowAt fl k ≤ 1000 := by
        have h1 := HFF.out _ (List.mem_of_getElem? (zip_k HQ.out hkl))
        have h2 := okE_iff.1 (HOK.out _ (List.getElem_mem hkl))
        dsimp only at h1
        omega
      have hne : es[k].1 ≠ es[k].2.1 := (okE_iff.1 (HOK.out _ (List.getElem_mem hkl))).2.2.2.2.1
      obtain ⟨f, hfe⟩ : ∃ f, flowAt fl k = f := ⟨_, rfl⟩
      obtain ⟨p, hp⟩ : ∃ p, es[k].1 = p := ⟨_, rfl⟩
      obtain ⟨q, hq⟩ : ∃ q, es[k].2.1 = q := ⟨_, rfl⟩
      obtain ⟨S0, hS⟩ : ∃ S0, gain ((es.zip fl).take k) x = S0 := ⟨_, rfl⟩
      rw [hfe] at cf' hst hfb
      rw [hp] at c0 hst hne
      rw [hq] at c1 hst hne
      rw [hS] at hst hbd ⊢
      have hS1 : -256000 ≤ S0 ∧ S0 ≤ 256000 := by omega
      obtain ⟨hs0, hs1⟩ := hS1
      obtain ⟨hf0, hf1⟩ := hfb
      have hki : (k : Int) < (flen : Int) := by omega
      have hw : ((p == x) = true ∧ (q == x) = false ∧ gain ((es.zip fl).take (k + 1)) x = S0 + f) ∨ ((p == x) = false ∧ (q == x) = true ∧ gain ((es.zip fl).take (k + 1)) x = S0 - f) ∨ ((p == x) = false ∧ (q == x) = false ∧ gain ((es.zip fl).take (k + 1)) x = S0) := by
        by_cases e1 : p = x
        · by_cases e2 : q = x
          · exact absurd (e1.trans e2.symm) hne
          · left; simp only [e1, e2, if_true, if_false] at hst; exact ⟨by simpa using e1, by simpa using e2, by omega⟩
        · by_cases e2 : q = x
          · right; left; simp only [e1, e2, if_true, if_false] at hst; exact ⟨by simpa using e1, by simpa using e2, by omega⟩
          · right; right; simp only [e1, e2, if_false] at hst; exact ⟨by simpa using e1, by simpa using e2, by omega⟩
      clear ha hc hga hgc cf hfe hp hq hS hst hbd hkt hne c2
      rcases hw with ⟨t1, t2, hg⟩ | ⟨t1, t2, hg⟩ | ⟨t1, t2, hg⟩
      all_goals
        have HG := Lib.hid hg
        clear hg
        go_wp2
        go_roundw
        case rel => exact ⟨k + 1, by omega, by go_num, by rw [HG.out], bN, hB⟩
        case measure => simp [intOf]; omega
    · obtain rfl : k = flen := by omega
      have HT : Hid (gain ((es.zip fl).take k) x = gain (es.zip fl) x) := Lib.hid (by
        rw [List.take_of_length_le (by rw [List.length_zip, HQ.out, HlE.out]; omega)])
      go_wp2
      go_ret
      exact ⟨ret_int HT.out, hB⟩
end Go.Proofs.Ythchlfoebkachaa
