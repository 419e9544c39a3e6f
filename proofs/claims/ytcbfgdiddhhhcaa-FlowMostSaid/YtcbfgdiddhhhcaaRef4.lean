/-
  The document's own answers: Reach.
-/
import Derived.Deep.LoopGhost
import Derived.Deep.DeepCutAuto
import Derived.Test.YtcbfgdiddhhhcaaRef2
namespace Go.Proofs.Ytcbfgdiddhhhcaa
open Go.RowKit Gm

theorem qmark_ways {n : Nat} {r : List Bool} {e : E} {f : Int} (hr : r.length = n) (ho : okE n e = true) :
    (has r e.1 = true ∧ has r e.2.1 = false ∧ f < e.2.2 ∧ marks (pairsE (e, f)) r = r.set e.2.1.toNat true ∧ cnt (marks (pairsE (e, f)) r) = cnt r + 1) ∨
    (has r e.1 = false ∧ has r e.2.1 = true ∧ 0 < f ∧ marks (pairsE (e, f)) r = r.set e.1.toNat true ∧ cnt (marks (pairsE (e, f)) r) = cnt r + 1) ∨
    (marks (pairsE (e, f)) r = r ∧ ((has r e.1 = false ∧ has r e.2.1 = false) ∨ (has r e.1 = true ∧ has r e.2.1 = true) ∨ (has r e.1 = true ∧ has r e.2.1 = false ∧ ¬ f < e.2.2) ∨ (has r e.1 = false ∧ has r e.2.1 = true ∧ ¬ 0 < f))) := by
  obtain ⟨h0, h1, h2, h3, h4, _, _⟩ := okE_iff.1 ho
  have hset : ∀ x : Int, 0 ≤ x → x < n → has r x = false → cnt (r.set x.toNat true) = cnt r + 1 := fun x hx hn hf => by
    refine cnt_set r _ (by omega) ?_
    unfold has at hf
    rw [List.getElem?_eq_getElem (by omega)] at hf
    simpa using hf
  have hkeep : has r e.1 = true → has (r.set e.2.1.toNat true) e.1 = true := fun h => by rw [has_set _ _ (by omega) _ h0, h]; simp
  have hm : marks (pairsE (e, f)) r = if 0 < f then Gm.mark (if f < e.2.2 then Gm.mark r (e.1, e.2.1) else r) (e.2.1, e.1) else (if f < e.2.2 then Gm.mark r (e.1, e.2.1) else r) := by
    unfold marks pairsE
    split <;> split <;> rfl
  have no1 : has r e.1 = false ∨ has r e.2.1 = true → Gm.mark r (e.1, e.2.1) = r := fun h => by
    unfold Gm.mark
    rw [if_neg]
    rcases h with h | h <;> simp [h]
  have no2 : has r e.2.1 = false ∨ has r e.1 = true → Gm.mark r (e.2.1, e.1) = r := fun h => by
    unfold Gm.mark
    rw [if_neg]
    rcases h with h | h <;> simp [h]
  rw [hm]
  rcases hA : has r e.1 with _ | _ <;> rcases hB : has r e.2.1 with _ | _
  · right; right
    refine ⟨?_, .inl ⟨rfl, rfl⟩⟩
    rw [no1 (.inl hA)]
    simp only [ite_self, no2 (.inl hB)]
  · rw [no1 (.inl hA)]
    simp only [ite_self]
    by_cases hp : 0 < f
    · right; left
      have hy : Gm.mark r (e.2.1, e.1) = r.set e.1.toNat true := by unfold Gm.mark; rw [if_pos (by simp [hA, hB])]
      rw [if_pos hp, hy]
      exact ⟨by trivial, by trivial, hp, rfl, hset _ h0 h1 hA⟩
    · right; right
      exact ⟨by rw [if_neg hp], .inr (.inr (.inr ⟨by trivial, by trivial, hp⟩))⟩
  · by_cases hl : f < e.2.2
    · left
      have hy : Gm.mark r (e.1, e.2.1) = r.set e.2.1.toNat true := by unfold Gm.mark; rw [if_pos (by simp [hA, hB])]
      have hz : Gm.mark (r.set e.2.1.toNat true) (e.2.1, e.1) = r.set e.2.1.toNat true := by unfold Gm.mark; rw [if_neg (by simp [hkeep hA])]
      rw [if_pos hl, hy, hz, ite_self]
      exact ⟨rfl, rfl, hl, rfl, hset _ h2 h3 hB⟩
    · right; right
      rw [if_neg hl, no2 (.inl hB), ite_self]
      exact ⟨rfl, .inr (.inr (.inl ⟨rfl, rfl, hl⟩))⟩
  · right; right
    rw [no1 (.inr hB), ite_self, no2 (.inr hA), ite_self]
    exact ⟨rfl, .inr (.inl ⟨rfl, rfl⟩)⟩
theorem pairs_step {es : List E} {fl : List Int} (h : fl.length = es.length) {k : Nat} (hk : k < es.length) : pairs ((es.zip fl).take (k + 1)) = pairs ((es.zip fl).take k) ++ pairsE (es[k], flowAt fl k) := by
  rw [List.take_add_one, zip_k h hk]
  unfold pairs
  rw [List.flatMap_append]; simp

set_option maxRecDepth 100000 in
set_option maxHeartbeats 2000000 in
theorem qreach_no (v : Int) (a : Option Addr) (len cap : Nat) (es : List E) (fa : Option Addr) (flen fcap : Nat) (fl : List Int) (s : Int) (w : World) (hE : NetAt w.heap.size w a len es) (hF : FlowAt w.heap.size w fa flen fl) (hno : (fits v es fl && vtx v s) = false) :
    Calls Try.prog 22 #[netV v a len cap, .slice fa flen fcap, .int .i64 s] w fun e w' => e = .returned (.slice none 0 0) ∧ Below w.heap.size w w' := by
  obtain ⟨W0, hW0⟩ : ∃ W0, w.alloc (.cells #[.int .i64 v, .slice a len cap] 24) = W0 := ⟨_, rfl⟩
  have hB0 : Below w.heap.size w W0 := by rw [← hW0]; exact (Below.refl _ w).alloc (Nat.le_refl _) _
  have bN : Blk W0 w.heap.size 24 #[.int .i64 v, .slice a len cap] := by rw [← hW0]; exact Blk.new w _ _
  have HW0 := Lib.hid hW0
  have HE0 := Lib.hid ((hE.below hB0).more hB0.size)
  have HF0 := Lib.hid ((hF.below hB0).more hB0.size)
  have hz0 := hB0.size
  clear hW0 hE hF
  obtain ⟨r, hr⟩ : ∃ r, fits v es fl = r := ⟨_, rfl⟩
  have HR := Lib.hid hr
  rw [hr] at hno
  clear hr
  have hw : r = false ∨ (r = true ∧ s < 0) ∨ (r = true ∧ 0 ≤ s ∧ v ≤ s) := by
    rcases r with _ | _
    · exact .inl rfl
    · simp [vtx] at hno ⊢; omega
  clear hno
  rcases hw with rfl | ⟨rfl, h1⟩ | ⟨rfl, h1, h2⟩
  all_goals
    go_enter Try.func22, Try.ntmps22
    go_wp2_with (go_at_call 33; rw [HW0.out]; (with_reducible refine (qfits_any _ _ _ _ es _ _ _ fl _ HE0.out HF0.out).mono ?_); rw [HR.out]; rintro e w1 ⟨rfl, hb1⟩
                 have bN1 := bN.below hb1 bN.lt
                 obtain ⟨lN, n0, n1⟩ := bN1.two)
    go_ret
    exact ⟨rfl, hB0.trans (hb1.mono hz0)⟩

def QReachAt (w : World) (n : Nat) (a : Option Addr) (len cap S : Nat) (r : List Bool) (wr : World) : Prop :=
  Blk wr w.heap.size 24 #[.int .i64 (n : Int), .slice a len cap] ∧ Blk wr S 4 (boolsA r) ∧ Below w.heap.size w wr

set_option maxRecDepth 100000 in
set_option maxHeartbeats 4000000 in
theorem qreach_yes (n : Nat) (a : Option Addr) (len cap : Nat) (es : List E) (fa : Option Addr) (flen fcap : Nat) (fl : List Int) (s : Int) (w : World) (hE : NetAt w.heap.size w a len es) (hF : FlowAt w.heap.size w fa flen fl) (hf : fits n es fl = true) (hs : vtx n s = true) :
    Calls Try.prog 22 #[netV n a len cap, .slice fa flen fcap, .int .i64 s] w (ReachPost n (reach n (es.zip fl) s) w) := by
  obtain ⟨W0, hW0⟩ : ∃ W0, w.alloc (.cells #[.int .i64 (n : Int), .slice a len cap] 24) = W0 := ⟨_, rfl⟩
  have hB0 : Below w.heap.size w W0 := by rw [← hW0]; exact (Below.refl _ w).alloc (Nat.le_refl _) _
  have bN : Blk W0 w.heap.size 24 #[.int .i64 (n : Int), .slice a len cap] := by rw [← hW0]; exact Blk.new w _ _
  have HW0 := Lib.hid hW0
  have HE0 := Lib.hid ((hE.below hB0).more hB0.size)
  have HF0 := Lib.hid ((hF.below hB0).more hB0.size)
  have hn := fits_n hf
  have hs' : 0 ≤ s ∧ s < (n : Int) := by simpa [vtx] using hs
  obtain ⟨hs0, hs1⟩ := hs'
  have hmk := make_bools n (by omega)
  have hff := fits_iff.1 hf
  have hri := right_iff.1 hff.1
  have HQ := Lib.hid hff.2.1
  have HOK : Hid (∀ e ∈ es, okE n e = true) := Lib.hid hri.2.2.2
  have HlE := Lib.hid hE.1
  have HlF := Lib.hid hF.1
  have hql : flen = len := by rw [← hF.1, ← hE.1]; exact hff.2.1
  have hlen : flen ≤ 256 := by have := hri.2.2.1; rw [hE.1] at this; omega
  have HE := Lib.hid hE
  have HF := Lib.hid hF
  have HR := Lib.hid hf
  have hz0 := hB0.size
  obtain ⟨ps, hps⟩ : ∃ ps, pairs (es.zip fl) = ps := ⟨_, rfl⟩
  have hin : ∀ p ∈ ps, inR n p := by
    rw [← hps]
    have := pairs_in (n := (n : Int)) (z := es.zip fl) (by omega) (fun p hp => (right_iff.1 hff.1).2.2.2 _ (List.of_mem_zip hp).1)
    simpa using this
  have hplen : ∀ j, (passN ps j (Gm.start n s)).length = n := fun j => by rw [passN_length]; simp [Gm.start]
  have hinj : ∀ j, ∀ p ∈ ps, inR (passN ps j (Gm.start n s)).length p := fun j => by rw [hplen]; exact hin
  have hRE : reach n (es.zip fl) s = passN ps n (Gm.start n s) := by unfold reach; rw [hps]; simp
  have HRE := Lib.hid hRE
  have HPS := Lib.hid hps
  have HIN := Lib.hid hin
  have HLEN := Lib.hid hplen
  have HINJ := Lib.hid hinj
  clear hW0 hE hF hff hri hf hs hps hin hplen hinj hRE
  subst hql
  go_enter Try.func22, Try.ntmps22
  go_wp2_with (go_at_call 33; rw [HW0.out]; (with_reducible refine (qfits_any _ _ _ _ es _ _ _ fl _ HE0.out HF0.out).mono ?_); rw [HR.out]; rintro e w1 ⟨rfl, hb1⟩
               have bN1 := bN.below hb1 bN.lt
               obtain ⟨lN, n0, n1⟩ := bN1.two)
  have hB1 : Below w.heap.size w w1 := hB0.trans (hb1.mono hz0)
  have hz1 := hB1.size
  have lNW := lN
  obtain ⟨W1, hW1⟩ : ∃ W1, w1.alloc (.cells ((Array.replicate n (Value.bool false)).setIfInBounds s.toNat (.bool true)) 4) = W1 := ⟨_, rfl⟩
  have bS : Blk W1 w1.heap.size 4 (boolsA (Gm.start n s)) := by
    have e : boolsA (Gm.start n s) = (Array.replicate n (Value.bool false)).setIfInBounds s.toNat (.bool true) := by
      unfold Gm.start; rw [← boolsA_set, boolsA_rep]; simp
    rw [e, ← hW1]; exact Blk.new w1 _ _
  have bNW : Blk W1 w.heap.size 24 #[.int .i64 (n : Int), .slice a flen cap] := by rw [← hW1]; exact bN1.alloc _
  have hBW : Below w.heap.size w W1 := by rw [← hW1]; exact hB1.alloc hB1.size _
  rw [hW1]
  clear hW1 hb1 lN n0 n1 bN bN1 hB0 hz0 hB1 hmk
  go_loopg [9] (n + 1) (fun g av wr => ∃ (j : Nat) (gr : Bool), av = .bool gr ∧ (n - cnt (passN ps j (Gm.start n s))) + (if gr then 1 else 0) ≤ g ∧ QReachAt w n a flen cap w1.heap.size (passN ps j (Gm.start n s)) wr ∧ Hid (gr = false → marks ps (passN ps j (Gm.start n s)) = passN ps j (Gm.start n s)))
  case atStart => exact ⟨0, true, rfl, by simp, ⟨bNW, bS, hBW⟩, Lib.hid (by simp)⟩
  case round =>
    clear bS bNW hBW
    obtain ⟨j, gr, rfl, hg, ⟨bN, bS, hB⟩, hend⟩ := hrel
    obtain ⟨w2, rfl⟩ : ∃ w', w' = wr := ⟨_, rfl⟩
    have HG := Lib.hid hg
    clear hg
    rcases gr with _ | _
    · have HFIN : Hid (passN ps j (Gm.start n s) = reach n (es.zip fl) s) := Lib.hid (by
        have := passN_same (ps := ps) (r := Gm.start n s) (by have := HINJ.out 0; exact this) (hend.out rfl)
        rw [this, HRE.out, show (Gm.start n s).length = n by simp [Gm.start]])
      clear hend
      go_wp2
      go_ret
      exact ⟨w1.heap.size, rfl, hz1, by rw [← HFIN.out]; exact bS, hB⟩
    · clear hend
      obtain ⟨r0, hr0⟩ : ∃ r0, passN ps j (Gm.start n s) = r0 := ⟨_, rfl⟩
      have HR0 := Lib.hid hr0
      have hrl := HLEN.out j
      rw [hr0] at hrl bS
      have HRL := Lib.hid hrl
      clear hrl hr0
      go_wp2
      go_loopw [9, 10] (fun av iv wr => ∃ k : Nat, k ≤ flen ∧ iv = .int .i64 k ∧ av = .bool (decide (cnt r0 < cnt (marks (pairs ((es.zip fl).take k)) r0))) ∧ QReachAt w n a flen cap w1.heap.size (marks (pairs ((es.zip fl).take k)) r0) wr) (fun _ iv _ => flen - (intOf iv).toNat)
      case atStart => exact ⟨0, Nat.zero_le _, rfl, by simp [pairs, marks], bN, by simpa [pairs, marks] using bS, hB⟩
      case round =>
        clear bN bS hB
        obtain ⟨k, hk, rfl, rfl, bN, bS, hB⟩ := hrel
        obtain ⟨w3, rfl⟩ : ∃ w', w' = wr := ⟨_, rfl⟩
        obtain ⟨lN, n0, n1⟩ := bN.two
        have hBs := hB.size
        by_cases hlt : k < flen
        · have hkl : k < es.length := by rw [HlE.out]; exact hlt
          obtain ⟨b, off, ha, hc⟩ := (HE.out.below hB).2.2
          obtain ⟨hb, c0, c1, c2⟩ := hc k hkl
          obtain rfl : a = some ⟨b, off, none⟩ := by
            rcases ha with h | h
            · omega
            · exact h
          obtain ⟨gb, go, hga, hgc⟩ := (HF.out.below hB).2.2.int
          obtain ⟨hgb, cf⟩ := hgc k (by rw [HQ.out]; exact hkl)
          obtain rfl : fa = some ⟨gb, go, none⟩ := by
            rcases hga with h | h
            · rw [HQ.out] at h; omega
            · exact h
          have cf' : w3.cell? ⟨gb, go + k, none⟩ = some (.int .i64 (flowAt fl k)) := cf
          have hpst := pairs_step HQ.out hkl
          have ho := HOK.out _ (List.getElem_mem hkl)
          obtain ⟨r, hr⟩ : ∃ r, marks (pairs ((es.zip fl).take k)) r0 = r := ⟨_, rfl⟩
          have hrl : r.length = n := by rw [← hr, marks_length, HRL.out]
          have hinT : ∀ p ∈ pairs ((es.zip fl).take k), inR n p := fun p hp => by
            refine HIN.out p ?_
            rw [← HPS.out]
            obtain ⟨q, hq, hpq⟩ := List.mem_flatMap.1 hp
            exact List.mem_flatMap.2 ⟨q, List.mem_of_mem_take hq, hpq⟩
          have hcle : cnt r0 ≤ cnt r := by rw [← hr]; exact cnt_marks (by rw [HRL.out]; exact hinT)
          obtain ⟨f, hfe⟩ : ∃ f, flowAt fl k = f := ⟨_, rfl⟩
          obtain ⟨x, hx⟩ : ∃ x, es[k] = x := ⟨_, rfl⟩
          rw [hfe] at cf' hpst
          rw [hx] at c0 c1 c2 ho hpst
          have HN : Hid (marks (pairs ((es.zip fl).take (k + 1))) r0 = marks (pairsE (x, f)) r) := Lib.hid (by rw [hpst, marks_app, hr])
          rw [hr] at bS ⊢
          have hways := qmark_ways (f := f) hrl ho
          obtain ⟨x0, x1, y0, y1, hne, k0, k1⟩ := okE_iff.1 ho
          have s1 := bS.cell x.1.toNat
          rw [boolsA_at _ _ (by omega)] at s1
          have s2 := bS.cell x.2.1.toNat
          rw [boolsA_at _ _ (by omega)] at s2
          have s1' : w3.cell? ⟨w1.heap.size, x.1.toNat, none⟩ = some (.bool (has r x.1)) := s1
          have s2' : w3.cell? ⟨w1.heap.size, x.2.1.toNat, none⟩ = some (.bool (has r x.2.1)) := s2
          have HRLr := Lib.hid hrl
          have hki : (k : Int) < (flen : Int) := by omega
          have hnn : x.1.toNat ≠ x.2.1.toNat := by omega
          have hb3 : b < w3.heap.size := by omega
          have HS3 : Hid (w1.heap.size < w3.heap.size) := Lib.hid bS.lt
          have HWW : Hid (w.heap.size < w1.heap.size) := Lib.hid lNW
          have hgb3 : gb < w3.heap.size := by omega
          have lS := bS.lt
          clear ha hc hga hgc cf hfe hx hr hrl hpst ho s1 s2 hinT hkl
          generalize has r x.1 = A at s1' hways
          generalize has r x.2.1 = B at s2' hways
          have hw : (A = true ∧ B = false ∧ decide (f < x.2.2) = true ∧ f < x.2.2 ∧ Hid (marks (pairsE (x, f)) r = r.set x.2.1.toNat true ∧ cnt (marks (pairsE (x, f)) r) = cnt r + 1)) ∨
              (A = false ∧ B = true ∧ decide (0 < f) = true ∧ 0 < f ∧ Hid (marks (pairsE (x, f)) r = r.set x.1.toNat true ∧ cnt (marks (pairsE (x, f)) r) = cnt r + 1)) ∨
              (Hid (marks (pairsE (x, f)) r = r) ∧ ((A = false ∧ B = false) ∨ (A = true ∧ B = true) ∨ (A = true ∧ B = false ∧ decide (f < x.2.2) = false ∧ ¬ f < x.2.2) ∨ (A = false ∧ B = true ∧ decide (0 < f) = false ∧ ¬ 0 < f))) := by
            rcases hways with ⟨g1, g2, g3, g4, g5⟩ | ⟨g1, g2, g3, g4, g5⟩ | ⟨g1, g2⟩
            · exact .inl ⟨g1, g2, by simpa using g3, g3, Lib.hid ⟨g4, g5⟩⟩
            · exact .inr (.inl ⟨g1, g2, by simpa using g3, g3, Lib.hid ⟨g4, g5⟩⟩)
            · refine .inr (.inr ⟨Lib.hid g1, ?_⟩)
              rcases g2 with g2 | g2 | ⟨g2, g3, g4⟩ | ⟨g2, g3, g4⟩
              · exact .inl g2
              · exact .inr (.inl g2)
              · exact .inr (.inr (.inl ⟨g2, g3, decide_eq_false g4, g4⟩))
              · exact .inr (.inr (.inr ⟨g2, g3, decide_eq_false g4, g4⟩))
          have HCLE := Lib.hid hcle
          clear hways hcle
          have hpre : ∀ (W : World), w3.alloc (.cells #[.int .i64 x.1, .int .i64 x.2.1, .int .i64 x.2.2] 44) = W → Blk W w.heap.size 24 #[.int .i64 (n : Int), .slice (some ⟨b, off, none⟩) flen cap] ∧ Blk W w1.heap.size 4 (boolsA r) ∧ Below w.heap.size w W ∧ Blk W w3.heap.size 44 #[.int .i64 x.1, .int .i64 x.2.1, .int .i64 x.2.2] ∧ (∀ q : Nat, ∀ i v, q < w3.heap.size → w3.cell? ⟨q, i, none⟩ = some v → W.cell? ⟨q, i, none⟩ = some v) := fun W h => by
            subst h
            refine ⟨bN.alloc _, bS.alloc _, hB.alloc hBs _, Blk.new w3 _ _, fun q i v h1 h2 => ?_⟩
            rw [← h2]; exact World.cell?_alloc_lt w3 _ ⟨q, i, none⟩ h1
          have HPRE := Lib.hid hpre
          clear hpre
          rcases hw with ⟨rfl, rfl, d0, d1, hm⟩ | ⟨rfl, rfl, d0, d1, hm⟩ | ⟨hm, ⟨rfl, rfl⟩ | ⟨rfl, rfl⟩ | ⟨rfl, rfl, d0, d1⟩ | ⟨rfl, rfl, d0, d1⟩⟩
          all_goals
            go_wp2
            obtain ⟨w4, hw4⟩ : ∃ W, w3.alloc (.cells #[.int .i64 x.1, .int .i64 x.2.1, .int .i64 x.2.2] 44) = W := ⟨_, rfl⟩
            obtain ⟨bN4, bS4, hB4, bE4, hc4⟩ := HPRE.out _ hw4
            rw [hw4]
            replace s1' := hc4 _ _ _ lS s1'
            replace s2' := hc4 _ _ _ lS s2'
            replace cf' := hc4 _ _ _ hgb3 cf'
            obtain ⟨lE, q0, q1, q2⟩ := bE4.three
            have hz4 := hB4.size
            have lS4 := bS4.lt
            have sf1 := bS4.frozen x.1.toNat
            have sf2 := bS4.frozen x.2.1.toNat
            clear hw4 hc4 c0 c1 c2 lN n0 n1 lS
            go_quiet (fail)
          · have hB5 := below_drewN hB4 nq
            have HAG : Hid (decide (cnt r0 < cnt (marks (pairsE (x, f)) r)) = true) := Lib.hid (decide_eq_true (by rw [hm.out.2]; have := HCLE.out; omega))
            have h1 : has (r.set x.2.1.toNat true) x.1 = true := by rw [has_set _ _ (by rw [HRLr.out]; omega) _ x0]; have : has r x.1 = true := (by have := bS4.cell x.1.toNat; rw [boolsA_at _ _ (by rw [HRLr.out]; omega), s1'] at this; simpa [has] using this.symm); rw [this]; simp
            have h2 : has (r.set x.2.1.toNat true) x.2.1 = true := by rw [has_set _ _ (by rw [HRLr.out]; omega) _ y0]; have : ((x.2.1.toNat : Nat) : Int) = x.2.1 := by omega
                                                                      simp [this]
            go_upto_region 16 with fail
            have bS6 : Blk ((w4.drewN nq).setCell ⟨w1.heap.size, x.2.1.toNat, none⟩ (.bool true)) w1.heap.size 4 (boolsA (r.set x.2.1.toNat true)) := by rw [← boolsA_set]; exact (bS4.drewN nq).set _ _
            have bN6 := (bN4.drewN nq).far (p := ⟨w1.heap.size, x.2.1.toNat, none⟩) (show w.heap.size ≠ w1.heap.size by have := HWW.out; omega) (.bool true)
            have bE6 := (bE4.drewN nq).far (p := ⟨w1.heap.size, x.2.1.toNat, none⟩) (show w3.heap.size ≠ w1.heap.size by have := HS3.out; omega) (.bool true)
            have hB6 := hB5.setCell (p := ⟨w1.heap.size, x.2.1.toNat, none⟩) hz1 (.bool true)
            have cf6 : ((w4.drewN nq).setCell ⟨w1.heap.size, x.2.1.toNat, none⟩ (.bool true)).cell? ⟨gb, go + k, none⟩ = some (.int .i64 f) := (World.cell?_setCell_other (w4.drewN nq) ⟨w1.heap.size, x.2.1.toNat, none⟩ ⟨gb, go + k, none⟩ _ (fun e => by injection e with e _; omega)).trans cf'
            have u1 := bS6.cell x.1.toNat
            rw [boolsA_at _ _ (by rw [List.length_set, HRLr.out]; omega), show (r.set x.2.1.toNat true)[x.1.toNat]?.getD false = true from h1] at u1
            have u2 := bS6.cell x.2.1.toNat
            rw [boolsA_at _ _ (by rw [List.length_set, HRLr.out]; omega), show (r.set x.2.1.toNat true)[x.2.1.toNat]?.getD false = true from h2] at u2
            obtain ⟨lE6, e0, e1, e2⟩ := bE6.three
            have lS6 := bS6.lt
            clear h1 h2 bS4 bN4 bE4 hB4 hB5 s1' s2' cf' q0 q1 q2 lE lS4 sf1 sf2
            generalize (w4.drewN nq).setCell ⟨w1.heap.size, x.2.1.toNat, none⟩ (.bool true) = w6 at *
            go_wp2
            go_roundw
            case rel => exact ⟨k + 1, by omega, by go_num, by rw [HN.out, HAG.out], bN6, by rw [HN.out, hm.out.1]; exact bS6, hB6⟩
            case measure => simp [intOf]; omega
          · have HAG : Hid (decide (cnt r0 < cnt (marks (pairsE (x, f)) r)) = true) := Lib.hid (decide_eq_true (by rw [hm.out.2]; have := HCLE.out; omega))
            go_wp2
            go_roundw
            case rel =>
              refine ⟨k + 1, by omega, by go_num, by rw [HN.out, HAG.out], ?_, ?_, ?_⟩
              · exact Blk.far (Blk.drewN bN4 _) (p := ⟨w1.heap.size, x.1.toNat, none⟩) (show w.heap.size ≠ w1.heap.size by have := HWW.out; omega) _
              · rw [HN.out, hm.out.1, ← boolsA_set]; exact Blk.set (Blk.drewN bS4 _) _ _
              · exact Below.setCell (below_drewN hB4 _) (p := ⟨w1.heap.size, x.1.toNat, none⟩) hz1 _
            case measure => simp [intOf]; omega
          all_goals
            go_wp2
            go_roundw
            case rel => exact ⟨k + 1, by omega, by go_num, by rw [HN.out, hm.out], Blk.drewN bN4 _, by rw [HN.out, hm.out]; exact Blk.drewN bS4 _, below_drewN hB4 _⟩
            case measure => simp [intOf]; omega
        · obtain rfl : k = flen := by omega
          have HT : Hid (marks (pairs ((es.zip fl).take k)) r0 = passN ps (j + 1) (Gm.start n s)) := Lib.hid (by
            rw [List.take_of_length_le (by rw [List.length_zip, HQ.out, HlE.out]; omega), HPS.out, ← HR0.out]; rfl)
          go_wp2
          rw [HT.out]
          rw [HT.out] at bS
          have hc1 := cnt_marks (ps := ps) (r := passN ps j (Gm.start n s)) (HINJ.out j)
          have hc2 := cnt_le (passN ps (j + 1) (Gm.start n s))
          rw [HLEN.out] at hc2
          have he : passN ps (j + 1) (Gm.start n s) = marks ps (passN ps j (Gm.start n s)) := rfl
          have hg := HG.out
          simp only [if_true] at hg
          rw [← he, HR0.out] at hc1
          rw [HR0.out] at hg
          go_roundg ((n - cnt (passN ps (j + 1) (Gm.start n s))) + (if decide (cnt r0 < cnt (passN ps (j + 1) (Gm.start n s))) then 1 else 0))
          case rel =>
            refine ⟨j + 1, decide (cnt r0 < cnt (passN ps (j + 1) (Gm.start n s))), rfl, Nat.le_refl _, ⟨bN, bS, hB⟩, Lib.hid (fun hgr => ?_)⟩
            have hgr' : ¬ cnt r0 < cnt (passN ps (j + 1) (Gm.start n s)) := by simpa using hgr
            have h := ((marks_cnt ps (passN ps j (Gm.start n s)) (HINJ.out j)).2 (by rw [← he, HR0.out]; omega)).1
            show marks ps (marks ps (passN ps j (Gm.start n s))) = marks ps (passN ps j (Gm.start n s))
            rw [h, h]
          case measure =>
            by_cases hlt2 : cnt r0 < cnt (passN ps (j + 1) (Gm.start n s))
            · simp [hlt2]; omega
            · simp [hlt2]; omega
end Go.Proofs.Ytcbfgdiddhhhcaa
