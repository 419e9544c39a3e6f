/-
  The statement GraphEnds is proved for every network and every list of numbers: where Reach of 0 does not come to 1, its Cut is what flows; no edge leads out of what is reached; each vertex reached, but 0, is reached from one that is. No condition.
-/
import Derived.Test.YthaioeebnpjajaaShare
namespace Go.Proofs.Ythaioeebnpjajaa.lawEnds
open Go.ChangeShapes Go.WideShapes Go.ChangeAt Go.RowKit Gm

set_option maxRecDepth 100000 in
set_option maxHeartbeats 8000000 in
theorem walk (v : Int) (a : Option Addr) (len cap : Nat) (es : List E) (ra : Option Addr) (rlen rcap : Nat) (raw : List Int) (w : World) (h0 : I64 v ∧ NetAt w.heap.size w a len es ∧ Wide es) (h1 : FlowAt w.heap.size w ra rlen raw ∧ ∀ x ∈ raw, I64 x) :
    Calls Try.prog 6 #[netV v a len cap, .slice ra rlen rcap] w fun e w' => e = .returned (.bool true) ∧ Below w.heap.size w w' := by
  obtain ⟨hv, hE, hW⟩ := h0
  obtain ⟨hR, hraw⟩ := h1
  obtain ⟨W0, hW0⟩ : ∃ W0, w.alloc (.cells #[.int .i64 v, .slice a len cap] 24) = W0 := ⟨_, rfl⟩
  have hB0 : Below w.heap.size w W0 := by rw [← hW0]; exact (Below.refl _ w).alloc (Nat.le_refl _) _
  have bN : Blk W0 w.heap.size 24 #[.int .i64 v, .slice a len cap] := by rw [← hW0]; exact Blk.new w _ _
  have HW0 := Lib.hid hW0
  have HV := Lib.hid hv
  have HE := Lib.hid hE
  have HWI := Lib.hid hW
  have HR := Lib.hid hR
  have HRAW := Lib.hid hraw
  have hN := fitN_bd v
  obtain ⟨n, hn⟩ : ∃ n : Nat, fitN v = n := ⟨(fitN v).toNat, by omega⟩
  rw [hn] at hN
  have HRT := Lib.hid (fit_right v es)
  rw [hn] at HRT
  have HNN := Lib.hid hn
  have hz0 := hB0.size
  clear hW0 hv hE hW hR hraw hn
  go_enter Try.func6, Try.ntmps6
  go_wp2_with (first
    | (go_at_call 10; rw [HW0.out]; (with_reducible refine (awake_any _).mono ?_); rintro e w1 ⟨rfl, hb1⟩
       have bN1 := bN.below hb1 bN.lt
       have hB1 : Below w.heap.size w w1 := hB0.trans (hb1.mono hz0)
       obtain ⟨lN1, n0, n1⟩ := bN1.two)
    | (go_at_call 22; (with_reducible refine (fit_any _ _ _ _ es _ ((HE.out.below hB1).more hB1.size) HV.out HWI.out).mono ?_); rintro e w2 ⟨a2, cap2, rfl, hE2, hb2⟩
       rw [HNN.out] at hE2 ⊢
       have hB2 : Below w.heap.size w w2 := hB1.trans (hb2.mono hB1.size)
       have lN2 : w2.heap.size < w2.heap.size + 1 := by omega)
    | (go_at_call 23; (with_reducible refine (flow_any n _ _ _ (fitEs n es) _ _ _ raw _ (by simpa using (hE2.below ((Below.refl _ w2).alloc (Nat.le_refl _) _)).more (Nat.le_succ _)) (by simpa using (HR.out.below (hB2.alloc hB2.size _)).more (by have := hB2.size; omega)) HRAW.out HRT.out).mono ?_); rintro e w3 ⟨g, fl, rfl, hG, hF3, hb3⟩
       have bM := (Blk.new w2 24 #[.int .i64 (n : Int), .slice a2 (fitEs n es).length cap2]).below hb3 (by simp)
       have hEa := (hE2.below ((Below.refl _ w2).alloc (Nat.le_refl _) (.cells #[.int .i64 (n : Int), .slice a2 (fitEs n es).length cap2] 24))).more (Nat.le_succ _)
       have hE3 : NetAt w3.heap.size w3 a2 (fitEs n es).length (fitEs n es) := by
         have h : NetAt (w2.heap.size + 1) w3 a2 (fitEs n es).length (fitEs n es) := hEa.below (by simpa using hb3)
         exact h.more (by have := hb3.size; simpa using this)
       have hB3 : Below w.heap.size w w3 := (hB2.alloc hB2.size _).trans (hb3.mono (by have := hB2.size; simp; omega))
       have hB3s := hB3.size
       obtain ⟨lM, m0, m1⟩ := bM.two
       have hb3s := hb3.size
       have HG := Lib.hid hG
       have HE3 := Lib.hid hE3
       have HF3 := Lib.hid hF3
       obtain ⟨R, hRe⟩ : ∃ R, reach n ((fitEs n es).zip fl) 0 = R := ⟨_, rfl⟩
       have hRd : Reached n ((fitEs n es).zip fl) 0 R := hRe ▸ reach_is (by omega) (by omega) HG.out.ok
       have HRE := Lib.hid hRe
       have HRD := Lib.hid hRd
       have HRL : Hid (R.length = n) := Lib.hid (by rw [hRd.len]; simp)
       have HR0 : Hid (R[0]?.getD false = true) := Lib.hid hRd.first
       obtain ⟨r1, hr1⟩ : ∃ b, R[1]?.getD false = b := ⟨_, rfl⟩
       have HR1 := Lib.hid hr1
       clear hRe hRd hr1 hE2 hEa hE3 hF3 hG hb1 hb2 hb3 bN bN1 lN1 n0 n1 hB0 hB1 hB2 lN2 hz0)
    | (go_at_call 12; (with_reducible refine (reach_yes n _ _ _ (fitEs n es) _ _ _ fl 0 _ HE3.out HF3.out HG.out.fits (by simp [vtx]; omega)).mono ?_); rintro e w4 ⟨gr, rfl, hgr, bR, hb4⟩
       rw [HRE.out] at bR
       have bM4 := bM.below hb4 bM.lt
       obtain ⟨lM4, m40, m41⟩ := bM4.two
       have c0 := bR.cell 0
       rw [boolsA_at _ _ (by rw [HRL.out]; omega), HR0.out] at c0
       have c1 := bR.cell 1
       rw [boolsA_at _ _ (by rw [HRL.out]; omega), HR1.out] at c1
       have lR := bR.lt
       have hb4s := hb4.size))
  have HE4 := Lib.hid (net_on HE3.out hb4)
  have HF4 := Lib.hid (flow_on HF3.out hb4)
  have HS4 := Lib.hid (side_blk bR HRL.out (by omega))
  have hcells : ∀ W, Below w4.heap.size w4 W → W.cell? ⟨w2.heap.size, 0, none⟩ = some (.int .i64 (n : Int)) ∧ W.cell? ⟨w2.heap.size, 1, none⟩ = some (.slice a2 (fitEs n es).length cap2) ∧ W.cell? ⟨gr, 1, none⟩ = some (.bool r1) := fun W h =>
    ⟨(bM4.below h bM4.lt).two.2.1, (bM4.below h bM4.lt).two.2.2, by rw [(bR.below h bR.lt).cell 1, ← bR.cell 1]; exact c1⟩
  have HCE := Lib.hid hcells
  have HQ : Hid (r1 = false → cut n (fitEs n es) R = value n (fitEs n es) fl 0) := Lib.hid fun h => cut_reach HG.out HRD.out (by rw [show has R 1 = R[1]?.getD false from rfl, HR1.out, h]) (by omega)
  have HB4 := Lib.hid (hB3.trans (hb4.mono hB3s))
  have HBR := Lib.hid bR
  have hn1 : (1 : Int) < (n : Int) := by omega
  clear hcells bR
  rcases Bool.eq_false_or_eq_true r1 with rfl | rfl
  go_quiet (fail)
  obtain ⟨w5, hw5⟩ : ∃ W, w4.drewN nq = W := ⟨_, rfl⟩
  have hb5 : Below w4.heap.size w4 w5 := hw5 ▸ below_drewN (Below.refl _ _) nq
  rw [hw5]
  clear hw5
  go_wp2
  rotate_left
  obtain ⟨q, hq⟩ : ∃ q, value n (fitEs n es) fl 0 = q := ⟨_, rfl⟩
  have hcq := HQ.out (by simp)
  rw [hq] at hcq
  have HC := Lib.hid hcq
  have HV0 := Lib.hid hq
  have hbd := (Below.refl w4.heap.size w4).drew
  clear hq hcq
  (refine region_calm (fun W => Below w4.heap.size w4 W) (by kernel_rfl) (by kernel_rfl) (hbd) ?_
   repeat (
     refine wpQuiet_step (fun K hK => ?_)
     first
       | (refine calm_neg ?_ ?_
          focus (go_simp; done)
          go_simp
          refine hK _ ?_
          clear hK K)
       | (apply calm_pos
          focus (go_simp; done)
          focus (
            intro W hW
            (obtain ⟨d0, d1, d2⟩ := HCE.out W hW)
            go_simp
            first
              | done
              | exact rfl
              | (first
                  | (go_at_call 20; (with_reducible refine (cut_any _ _ _ _ (fitEs n es) _ _ _ R _ (net_on HE4.out hW) (side_on HS4.out hW)).mono ?_); rw [HC.out]; rintro e w5 ⟨rfl, hb5⟩; exact ⟨rfl, on_below hW hb5⟩)
                  | (go_at_call 17; (with_reducible refine (value_any _ _ _ _ (fitEs n es) _ _ _ fl 0 _ (net_on HE4.out hW) (flow_on HF4.out hW)).mono ?_); rw [HV0.out]; rintro e w5 ⟨rfl, hb5⟩; exact ⟨rfl, on_below hW hb5⟩)))
          go_simp
          refine hK _ ?_
          clear hK K))
   refine wpQuiet_nil ?_)
  intro w5 hb5
  go_wp2
  all_goals
    have bM5 := bM4.below hb5 bM4.lt
    have HLF := Lib.hid HG.out.len
    have hm40 : (fitEs n es).length ≤ 40 := by rw [fitEs_length]; omega
    go_loopw [9] (fun i wr => ∃ k : Nat, k ≤ (fitEs n es).length ∧ i = .int .i64 k ∧ Below w4.heap.size w4 wr) (fun i _ => (fitEs n es).length - (intOf i).toNat)
    case atStart => exact ⟨0, Nat.zero_le _, rfl, hb5⟩
    case round =>
      obtain ⟨k, hk, rfl, hbw⟩ := hrel
      obtain ⟨w6, rfl⟩ : ∃ w', w' = wr := ⟨_, rfl⟩
      clear lM4 m40 m41 c0 c1 lR lM m0 m1
      have bM6 := bM4.below hbw bM4.lt
      obtain ⟨lM, m0, m1⟩ := bM6.two
      by_cases hlt : k < (fitEs n es).length
      · obtain ⟨b, off, ha, hc⟩ := (HE4.out.below hbw).2.2
        obtain ⟨hb, e0, e1, e2⟩ := hc k hlt
        obtain rfl : a2 = some ⟨b, off, none⟩ := by
          rcases ha with h | h
          · omega
          · exact h
        have hed : ed (fitEs n es) k = (fitEs n es)[k] := by unfold ed; rw [List.getElem?_eq_getElem hlt]; rfl
        rw [← hed] at e0 e1 e2
        have hz := zip_ed HG.out.len hlt
        have ho := okE_iff.1 (HG.out.ok _ hz)
        dsimp only at ho
        obtain ⟨gb, go, hga, hgc⟩ := (HF4.out.below hbw).2.2.int
        have hkf : k < fl.length := by rw [HLF.out]; exact hlt
        obtain ⟨hgb, cf⟩ := hgc k hkf
        obtain ⟨rfl, rfl⟩ : gb = g ∧ go = 0 := by
          rcases hga with h | h
          · omega
          · injection h with h; injection h with h1 h2; exact ⟨h1.symm, h2.symm⟩
        have bR6 := HBR.out.below hbw HBR.out.lt
        have lR6 := bR6.lt
        have cu := bR6.cell (ed (fitEs n es) k).1.toNat
        rw [boolsA_at _ _ (by rw [HRL.out]; omega)] at cu
        have cv := bR6.cell (ed (fitEs n es) k).2.1.toNat
        rw [boolsA_at _ _ (by rw [HRL.out]; omega)] at cv
        have hc1 : fa fl k < (ed (fitEs n es) k).2.2 → has R (ed (fitEs n es) k).1 = true → has R (ed (fitEs n es) k).2.1 = true := fun h => HRD.out.closed ((ed (fitEs n es) k).1, (ed (fitEs n es) k).2.1) (List.mem_flatMap.2 ⟨_, hz, by simp [pairsE, h]⟩)
        have hc2 : 0 < fa fl k → has R (ed (fitEs n es) k).2.1 = true → has R (ed (fitEs n es) k).1 = true := fun h => HRD.out.closed ((ed (fitEs n es) k).2.1, (ed (fitEs n es) k).1) (List.mem_flatMap.2 ⟨_, hz, by simp [pairsE, h]⟩)
        obtain ⟨y, hy⟩ : ∃ y, ed (fitEs n es) k = y := ⟨_, rfl⟩
        obtain ⟨f, hf⟩ : ∃ f, fa fl k = f := ⟨_, rfl⟩
        have cf' : w6.cell? ⟨gb, k, none⟩ = some (.int .i64 f) := by rw [← hf]; simpa [fa] using cf
        rw [hy] at e0 e1 e2 ho cu cv hc1 hc2
        rw [hf] at hc1 hc2
        obtain ⟨x0, x1, v0, v1, hne, k0, k1⟩ := ho
        obtain ⟨A, hA⟩ : ∃ A, R[y.1.toNat]?.getD false = A := ⟨_, rfl⟩
        obtain ⟨B, hB⟩ : ∃ B, R[y.2.1.toNat]?.getD false = B := ⟨_, rfl⟩
        simp only [has, hA, hB] at hc1 hc2
        rw [hA] at cu
        rw [hB] at cv
        have hki : (k : Int) < ((fitEs n es).length : Int) := by omega
        have hcase : (A = true ∧ B = true) ∨ (A = true ∧ B = false ∧ decide (f < y.2.2) = false) ∨ (A = false ∧ B = true ∧ decide (0 < f) = false) ∨ (A = false ∧ B = false) := by
          rcases A with _ | _ <;> rcases B with _ | _ <;> simp at hc1 hc2 ⊢ <;> omega
        clear hA hB hc1 hc2 hy hf cf hgc hga hkf hc ha hed hz bR6 bM6
        rcases hcase with ⟨rfl, rfl⟩ | ⟨rfl, rfl, t1⟩ | ⟨rfl, rfl, t1⟩ | ⟨rfl, rfl⟩
        all_goals
          go_wp2
          obtain ⟨w7, hw7⟩ : ∃ W, w6.alloc (.cells #[.int .i64 y.1, .int .i64 y.2.1, .int .i64 y.2.2] 41) = W := ⟨_, rfl⟩
          have bE7 : Blk w7 w6.heap.size 41 #[.int .i64 y.1, .int .i64 y.2.1, .int .i64 y.2.2] := hw7 ▸ Blk.new w6 _ _
          have hb7 : Below w4.heap.size w4 w7 := hw7 ▸ hbw.alloc hbw.size _
          have hs7 : Below w6.heap.size w6 w7 := hw7 ▸ (Below.refl _ w6).alloc (Nat.le_refl _) _
          rw [hw7]
          have hc7 : ∀ q : Nat, ∀ i x, q < w6.heap.size → w6.cell? ⟨q, i, none⟩ = some x → w7.cell? ⟨q, i, none⟩ = some x := fun q i x h1 h2 => by
            rw [← h2]; exact hs7.cell h1
          have hz6 := hbw.size
          replace cu := hc7 _ _ _ lR6 cu
          replace cv := hc7 _ _ _ lR6 cv
          replace cf' := hc7 _ _ _ (by omega) cf'
          obtain ⟨lE, q0, q1, q2⟩ := bE7.three
          clear hw7 hc7 hs7 bE7 e0 e1 e2
          go_quiet (fail)
          go_wp2
          go_roundw
          case rel => exact ⟨k + 1, by omega, by go_num, below_drewN hb7 _⟩
          case measure => simp [intOf]; omega
      · obtain rfl : k = (fitEs n es).length := by omega
        clear hlt
        go_wp2
        go_loopw [11] (fun vv wr => ∃ k : Nat, 1 ≤ k ∧ k ≤ n ∧ vv = .int .i64 k ∧ Below w4.heap.size w4 wr) (fun vv _ => n - (intOf vv).toNat)
        case atStart => exact ⟨1, Nat.le_refl _, by omega, rfl, hbw⟩
        case round =>
          clear lM m0 m1 hbw bM6
          obtain ⟨k, hk1, hk, rfl, hbw⟩ := hrel
          obtain ⟨w7, rfl⟩ : ∃ w', w' = wr := ⟨_, rfl⟩
          have bM7 := bM4.below hbw bM4.lt
          obtain ⟨lM, m0, m1⟩ := bM7.two
          have hz7 := hbw.size
          by_cases hlt : k < n
          · have bR7 := HBR.out.below hbw HBR.out.lt
            have lR7 := bR7.lt
            have cr := bR7.cell k
            rw [boolsA_at _ _ (by rw [HRL.out]; omega)] at cr
            obtain ⟨z0, hz0⟩ : ∃ b, R[k]?.getD false = b := ⟨_, rfl⟩
            rw [hz0] at cr
            have HZ0 : Hid (has R (k : Int) = z0) := Lib.hid (by rw [← hz0]; simp [has])
            have hki : (k : Int) < (n : Int) := by omega
            clear hz0
            go_wp2
            go_loopw [12, 13] (fun fv iv wr => ∃ j : Nat, j ≤ (fitEs n es).length ∧ iv = .int .i64 j ∧ fv = .bool (fromB R k ((fitEs n es).zip fl) j) ∧ Below w4.heap.size w4 wr) (fun _ iv _ => (fitEs n es).length - (intOf iv).toNat)
            case atStart => exact ⟨0, Nat.zero_le _, rfl, by unfold fromB; rw [HZ0.out]; simp, by first | exact hbw | exact below_drewN hbw _⟩
            case round =>
              clear lM m0 m1 cr lR7 bR7 hz7
              obtain ⟨j, hj, rfl, rfl, hbj⟩ := hrel
              obtain ⟨w8, rfl⟩ : ∃ w', w' = wr := ⟨_, rfl⟩
              have bM8 := bM4.below hbj bM4.lt
              obtain ⟨lM, m0, m1⟩ := bM8.two
              have hz8 := hbj.size
              by_cases hjl : j < (fitEs n es).length
              · obtain ⟨b, off, ha, hc⟩ := (HE4.out.below hbj).2.2
                obtain ⟨hb, e0, e1, e2⟩ := hc j hjl
                obtain rfl : a2 = some ⟨b, off, none⟩ := by
                  rcases ha with h | h
                  · omega
                  · exact h
                have hed : ed (fitEs n es) j = (fitEs n es)[j] := by unfold ed; rw [List.getElem?_eq_getElem hjl]; rfl
                rw [← hed] at e0 e1 e2
                have hz := zip_ed HG.out.len hjl
                have ho := okE_iff.1 (HG.out.ok _ hz)
                dsimp only at ho
                obtain ⟨gb, go, hga, hgc⟩ := (HF4.out.below hbj).2.2.int
                have hkf : j < fl.length := by rw [HLF.out]; exact hjl
                obtain ⟨hgb, cf⟩ := hgc j hkf
                obtain ⟨rfl, rfl⟩ : gb = g ∧ go = 0 := by
                  rcases hga with h | h
                  · omega
                  · injection h with h; injection h with h1 h2; exact ⟨h1.symm, h2.symm⟩
                have bR8 := HBR.out.below hbj HBR.out.lt
                have lR8 := bR8.lt
                have cu := bR8.cell (ed (fitEs n es) j).1.toNat
                rw [boolsA_at _ _ (by rw [HRL.out]; omega)] at cu
                have cv := bR8.cell (ed (fitEs n es) j).2.1.toNat
                rw [boolsA_at _ _ (by rw [HRL.out]; omega)] at cv
                have hst := fromB_step R (k : Int) HG.out.len hjl
                obtain ⟨y, hy⟩ : ∃ y, ed (fitEs n es) j = y := ⟨_, rfl⟩
                obtain ⟨f, hf⟩ : ∃ f, fa fl j = f := ⟨_, rfl⟩
                have cf' : w8.cell? ⟨gb, j, none⟩ = some (.int .i64 f) := by rw [← hf]; simpa [fa] using cf
                rw [hy] at e0 e1 e2 ho cu cv
                rw [hy, hf] at hst
                obtain ⟨x0, x1, v0, v1, hne, k0, k1⟩ := ho
                obtain ⟨A, hA⟩ : ∃ A, R[y.1.toNat]?.getD false = A := ⟨_, rfl⟩
                obtain ⟨B, hB⟩ : ∃ B, R[y.2.1.toNat]?.getD false = B := ⟨_, rfl⟩
                obtain ⟨F, hF⟩ : ∃ F, fromB R k ((fitEs n es).zip fl) j = F := ⟨_, rfl⟩
                obtain ⟨X, hX⟩ : ∃ X, fromB R k ((fitEs n es).zip fl) (j + 1) = X := ⟨_, rfl⟩
                rw [hX, hF] at hst
                simp only [feeds, has, hA, hB] at hst
                rw [hA] at cu
                rw [hB] at cv
                have hnb : ((y.2.1 == (k : Int)) && (y.1 == (k : Int))) = false := by
                  rcases h1 : (y.2.1 == (k : Int)) with _ | _
                  · rfl
                  · rcases h2 : (y.1 == (k : Int)) with _ | _
                    · rfl
                    · exact absurd ((eq_of_beq h2).trans (eq_of_beq h1).symm) hne
                have hways := feed_ways F _ A _ _ B _ X hnb hst
                have HXX := Lib.hid hX
                have hji : (j : Int) < ((fitEs n es).length : Int) := by omega
                rw [hF]
                clear hA hB hF hX hst hnb hne hy hf cf hgc hga hkf hc ha hed hz bR8 bM8
                rcases hways with ⟨rfl, rfl⟩ | ⟨rfl, t1, rfl, t2, rfl⟩ | ⟨rfl, t1, rfl, t2, t3, rfl⟩ | ⟨rfl, t1, rfl, t3, rfl⟩ | ⟨rfl, t1, t3, rfl⟩ | ⟨rfl, t1, t3, rfl, rfl⟩ | ⟨rfl, t1, t3, rfl, t2, rfl⟩ | ⟨rfl, t1, t3, rfl, t2, rfl⟩
                all_goals
                  go_wp2
                  obtain ⟨w9, hw9⟩ : ∃ W, w8.alloc (.cells #[.int .i64 y.1, .int .i64 y.2.1, .int .i64 y.2.2] 41) = W := ⟨_, rfl⟩
                  have bE9 : Blk w9 w8.heap.size 41 #[.int .i64 y.1, .int .i64 y.2.1, .int .i64 y.2.2] := hw9 ▸ Blk.new w8 _ _
                  have hb9 : Below w4.heap.size w4 w9 := hw9 ▸ hbj.alloc hbj.size _
                  have hs9 : Below w8.heap.size w8 w9 := hw9 ▸ (Below.refl _ w8).alloc (Nat.le_refl _) _
                  rw [hw9]
                  have hc9 : ∀ q : Nat, ∀ i x, q < w8.heap.size → w8.cell? ⟨q, i, none⟩ = some x → w9.cell? ⟨q, i, none⟩ = some x := fun q i x h1 h2 => by
                    rw [← h2]; exact hs9.cell h1
                  replace cu := hc9 _ _ _ lR8 cu
                  replace cv := hc9 _ _ _ lR8 cv
                  replace cf' := hc9 _ _ _ (by omega) cf'
                  obtain ⟨lE, q0, q1, q2⟩ := bE9.three
                  clear hw9 hc9 hs9 bE9 e0 e1 e2
                  go_quiet (fail)
                  go_wp2
                  go_roundw
                  case rel => exact ⟨j + 1, by omega, by go_num, by rw [HXX.out], below_drewN hb9 _⟩
                  case measure => simp [intOf]; omega
              · obtain rfl : j = (fitEs n es).length := by omega
                have hfe := fromB_end HG.out.len HRD.out (v := (k : Int)) (by omega)
                rw [hfe]
                clear hfe
                go_wp2
                go_roundw
                case rel => exact ⟨k + 1, by omega, by omega, by go_num, hbj⟩
                case measure => simp [intOf]; omega
          · obtain rfl : k = n := by omega
            go_wp2
            go_ret
            exact ⟨rfl, HB4.out.trans (hbw.mono (by have := HB4.out.size; omega))⟩
theorem own : ownKnob Try.prog.godebug = none := by kernel_rfl
theorem laidOut : laidOutB Try.prog = true := by kernel_rfl

set_option maxRecDepth 100000 in
theorem lifted (os : Os) (started : os.Started) (H : Type) (enc : TypeId × Value → H) :
    ReturnsInHanded {} Try.checked os 6 .any (Rows.graphEndsSpec.pre6 enc Try.prog Try.f6 Rows.graphEndsRow.domain false) (Rows.graphEndsSpec.post enc Try.prog Try.f6 false true false false) := by
  refine returnsInHanded_of_change_sized (C := Try.checked) own started (by kernel_rfl) Try.func6
    (ChangeSpec.witness6 (enc := enc) (C := Try.checked) false ⟨#[], #[.agg #[.int .i64 0, .slice none 0 0], .slice none 0 0], []⟩ 8 (by kernel_rfl) (by kernel_rfl) (by kernel_rfl) (by kernel_rfl)) ?_
  intro W base args ds gs before hval0 hW _ hsz0 _
  have hsz : (DataW.weightsEach Try.prog (Try.f6.params.toList ++ Rows.graphEndsSpec.plain.varTypes Try.prog) (ds ++ gs)).all (· ≤ reachBytes) = true := hsz0
  have hval : ∀ (j : Nat) t v, Try.f6.params[j]? = some t → args[j]? = some v → Value.okWide Try.prog W .any base t v := hval0
  have hW' := hW
  obtain ⟨p, q, hA0, hV, rfl, hfz, hnd⟩ := hW
  have hA : DataW.TrodAll enc Try.prog W 0 (fun _ => true) true Try.f6.params.toList args.toList ds p := hA0
  rw [Try.params6] at hA hval hsz
  obtain ⟨v0, vs0, d0, ds0, p0, q0, hargs, rfl, rfl, h0, r0⟩ := trodAll_cons hA
  obtain ⟨v1, vs1, d1, ds1, p1, q1, rfl, rfl, rfl, h1, r1⟩ := trodAll_cons r0
  obtain ⟨rfl, rfl, rfl⟩ := trodAll_nil r1
  obtain rfl : args = #[v0, v1] := by cases args; simp_all
  obtain ⟨rfl, rfl⟩ := trodVars_none hV
  have k0 := h0
  have lt0 : ∀ x ∈ p0, x.block < W.heap.size := by obtain ⟨m, hm⟩ := k0; exact DataW.trod_lt m _ _ _ hm
  have k1 := h1
  have lt1 : ∀ x ∈ p1, x.block < W.heap.size := by obtain ⟨m, hm⟩ := k1; exact DataW.trod_lt m _ _ _ hm
  obtain ⟨n0, a0, len0, cap0, es0, rfl, b0⟩ := net_of (hval 0 24 v0 rfl rfl) k0 (weights_at hsz (j := 0) (t := 24) rfl rfl)
  obtain ⟨a1, len1, cap1, rfl⟩ := okWide_slice Try.underlying25 (hval 1 25 v1 rfl rfl)
  obtain ⟨z1, b1⟩ := ints_of k1 (weights_at hsz (j := 1) (t := 25) rfl rfl)
  clear hA0 hval0 hsz0 hsz
  refine (walk n0 a0 len0 cap0 es0 a1 len1 cap1 z1 W b0 b1).mono fun e W' ⟨he, bel⟩ => ?_
  subst he
  exact ⟨_, rfl, _, _, _, [], _, [], hW', trodAll_mk1 (shut_bool Try.underlying4 _), (trodAll_cons_mk (Below.trod laidOut (by kernel_rfl) (of_decide_eq_true (by kernel_rfl)) k0 bel lt0) (trodAll_cons_mk (Below.trod laidOut (by kernel_rfl) (of_decide_eq_true (by kernel_rfl)) k1 bel lt1) trodAll_mk0)), rfl, bel.frame _, fun h => by cases h⟩

theorem over : Rows.graphEndsRow.holds Try.pinned (OpenSpec.ofChange Rows.graphEndsSpec) :=
  OpenClaim.holds_of_wide 6 Try.f6 rfl rfl rfl rfl rfl rfl rfl ⟨rfl, rfl, rfl, rfl, rfl⟩ rfl rfl rfl rfl rfl (by kernel_rfl) Try.func6 (by kernel_rfl)
    (of_decide_eq_true (by kernel_rfl)) (by unfold Func.isWrapper; first | (rw [if_pos (by decide +kernel)]; kernel_rfl) | (rw [if_neg (by decide +kernel)]; exact ⟨rfl, rfl⟩))
    (fun os started H enc _ => lifted os started H enc)

theorem proved : Rows.GraphEndsSaid := over
end Go.Proofs.Ythaioeebnpjajaa.lawEnds
