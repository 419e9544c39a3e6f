/-
  The program's Push and Max, walked.
-/
import Derived.Laws.CopyOwn
import Derived.Test.YtcbfgdiddhhhcaaTurn6
import Derived.Test.YtcbfgdiddhhhcaaInts
import Derived.Test.YtcbfgdiddhhhcaaValue
namespace Go.Proofs.Ytcbfgdiddhhhcaa
open Go.RowKit Gm

theorem copy_ints {B : Nat} {W : World} {g n : Nat} {fa : Option Addr} {fcap : Nat} {fl : List Int} (hb : Blk W g 3 (Array.replicate n (.int .i64 0))) (hF : FlowAt B W fa n fl) : ∃ W', (∀ ty, (Builtin.copy_ #[25, 25] ty #[.slice (some ⟨g, 0, none⟩) n n, .slice fa n fcap]).run Try.prog W = .ok (.int .i64 (n : Int)) W') ∧ Blk W' g 3 (ints fl).toArray ∧ W.grownBy W' (some g) := by
  have hu := Try.underlying25
  have hs : (Try.prog.info? 3).map (·.size) = some 1 := by
    obtain ⟨i0, hi0, _, hx1, _⟩ := info_parts infoInt
    rw [hi0]; simp [hx1]
  by_cases h0 : n = 0
  · subst h0
    have : fl = [] := List.eq_nil_of_length_eq_zero hF.1
    subst this
    exact ⟨W, fun ty => run_copy_none W _ _ ty _ _ _ _ _ _ _ hu hs rfl, by simpa using hb, ⟨rfl, rfl, rfl, Nat.le_refl _, fun _ _ _ => rfl⟩⟩
  · obtain ⟨b, off, ha, hc⟩ := hF.2.2
    have hl := hF.1
    obtain rfl : fa = some ⟨b, off, none⟩ := by
      rcases ha with h | h
      · simp at h; subst h; simp at hl; omega
      · exact h
    have hll : (ints fl).length = n := by rw [List.length_map]; exact hl
    have hrun := fun ty => run_copy_row (P := Try.prog) W 25 25 ty 3 g 0 n n ⟨b, off, none⟩ n fcap (Array.replicate n (.int .i64 0)) 3 (ints fl) hu hs hb (by rw [hll]; exact (Nat.min_self n).symm) (fun j u hu => by
      have hj : j < (ints fl).length := (List.getElem?_eq_some_iff.1 hu).1
      have hadd : (⟨b, off, none⟩ : Addr).add j = ⟨b, off + j, none⟩ := by unfold Addr.add; split <;> simp_all
      rw [hadd, (hc j hj).2, ← hu, List.getElem?_eq_getElem hj]) (by rw [hll]; simp) (ints_one fl)
    have e : (Array.replicate n (Value.int .i64 0)).toList.take 0 ++ ints fl ++ (Array.replicate n (Value.int .i64 0)).toList.drop (0 + (ints fl).length) = ints fl := by
      rw [hll]; simp
    rw [e, hll] at hrun
    refine ⟨_, hrun, setRow_heap W g _ _ _ _ hb, ⟨rfl, rfl, rfl, by simp [World.setRow], fun k _ hk => setRow_other W g k _ (fun e => hk (by rw [e]))⟩⟩

theorem roomOf_ge (es : List E) (fl : List Int) : ∀ (l : List Leg) (d x : Int), x ≤ d → (∀ p ∈ l, x ≤ spare es fl p) → x ≤ roomOf es fl l d
  | [], _, _, h, _ => h
  | q :: l, d, x, h, hs => roomOf_ge es fl l (min d (spare es fl q)) x (by have := hs q (by simp); have e : min d (spare es fl q) = if d ≤ spare es fl q then d else spare es fl q := rfl; rw [e]; split <;> omega) (fun p hp => hs p (by simp [hp]))
theorem roomOf_min {es : List E} {fl : List Int} {l : List Leg} {D : Int} (h : ∃ p ∈ l, spare es fl p ≤ 1073741824) : (if D < roomOf es fl l 1073741824 then D else roomOf es fl l 1073741824) = roomOf es fl l D := by
  obtain ⟨p, hp, hs⟩ := h
  have h1 := roomOf_le es fl l D
  have h2 := roomOf_le es fl l 1073741824
  have h3 := roomOf_ge es fl l 1073741824 (roomOf es fl l D) (by have := h1.2 p hp; omega) h1.2
  split
  · have := roomOf_ge es fl l D D (Int.le_refl _) (fun q hq => by have := h2.2 q hq; omega)
    omega
  · have := roomOf_ge es fl l D (roomOf es fl l 1073741824) (by omega) h2.2
    omega

set_option maxRecDepth 100000 in
set_option maxHeartbeats 4000000 in
theorem push_any (v : Int) (a : Option Addr) (len cap : Nat) (es : List E) (fa : Option Addr) (flen fcap : Nat) (fl : List Int) (s t most : Int) (w : World) (hE : NetAt w.heap.size w a len es) (hF : FlowAt w.heap.size w fa flen fl) (hmI : I64 most) :
    Calls Try.prog 12 #[netV v a len cap, .slice fa flen fcap, .int .i64 s, .int .i64 t, .int .i64 most] w (PushPost (pushF v es fl s t most) w) := by
  obtain ⟨W0, hW0⟩ : ∃ W0, w.alloc (.cells #[.int .i64 v, .slice a len cap] 24) = W0 := ⟨_, rfl⟩
  have hB0 : Below w.heap.size w W0 := by rw [← hW0]; exact (Below.refl _ w).alloc (Nat.le_refl _) _
  have bN : Blk W0 w.heap.size 24 #[.int .i64 v, .slice a len cap] := by rw [← hW0]; exact Blk.new w _ _
  have HW0 := Lib.hid hW0
  have HE0 := Lib.hid ((hE.below hB0).more hB0.size)
  have HF0 := Lib.hid ((hF.below hB0).more hB0.size)
  have HlE := Lib.hid hE.1
  have HlF := Lib.hid hF.1
  have HE := Lib.hid hE
  have HF := Lib.hid hF
  have hz0 := hB0.size
  obtain ⟨hm1, hm2⟩ := hmI
  clear hW0 hE hF
  obtain ⟨g, hg⟩ : ∃ g, good v es fl s t = g := ⟨_, rfl⟩
  have HGD := Lib.hid hg
  clear hg
  by_cases hs : g = true ∧ 0 ≤ most
  · obtain ⟨rfl, hm0⟩ := hs
    have hG := goodG_iff.1 HGD.out
    have hvv := right_iff.1 hG.net
    have hv1 : 2 ≤ v := hvv.1
    have hv2 : v ≤ 64 := hvv.2.1
    have hlen : len ≤ 256 := by have := hvv.2.2.1; rw [HlE.out] at this; exact this
    have hql : flen = len := by rw [← HlE.out, ← HlF.out]; exact hG.len
    obtain ⟨n, rfl⟩ : ∃ n : Nat, v = n := ⟨v.toNat, by omega⟩
    have HPF : Hid (pushF n es fl s t most = ((pushed n es s t most (fl, 0)).1, (pushed n es s t most (fl, 0)).2, 0)) := Lib.hid (by
      unfold pushF; rw [HGD.out]; simp [hm0])
    have HG := Lib.hid hG
    have hs0 := hG.s0
    have hs1 := hG.s1
    have ht0 := hG.t0
    have ht1 := hG.t1
    have hmn : ¬ most < 0 := by omega
    clear hG hvv
    subst hql
    have hmk := make_ints flen (by omega)
    go_enter Try.func12, Try.ntmps12
    go_wp2_with (go_at_call 25; rw [HW0.out]; (with_reducible refine (good_any _ _ _ _ es _ _ _ fl s t _ HE0.out HF0.out).mono ?_); rw [HGD.out]; rintro e w1 ⟨rfl, hb1⟩
                 have bN1 := bN.below hb1 bN.lt
                 have hB1 : Below w.heap.size w w1 := hB0.trans (hb1.mono hz0)
                 have hz1 := hB1.size
                 have lN1 := bN1.lt
                 obtain ⟨w2, hcp, bP2, hg2⟩ := copy_ints (fcap := fcap) (Blk.new w1 3 (Array.replicate flen (.int .i64 0))) ((HF.out.below (hB1.alloc hz1 (.cells (Array.replicate flen (.int .i64 0)) 3))))
                 clear hb1)
    have hB2 : Below w.heap.size w w2 := (hB1.alloc hz1 (.cells (Array.replicate flen (.int .i64 0)) 3)).grown hg2 (by simp; omega) (fun k e => by cases e; omega)
    have bN2 := (bN1.alloc (.cells (Array.replicate flen (.int .i64 0)) 3)).kept hg2 (by simp; omega)
    have hown2 : w2.ownsRow (w.heap.size + 1) 3 1 (.slice (some ⟨w1.heap.size, 0, none⟩) flen flen) fl.length (ints fl) := by
      refine ⟨by simp, .inr ⟨w1.heap.size, flen, (ints fl).toArray, ?_, by omega, bP2, by rw [HlF.out]; exact Nat.le_refl _, by unfold maxLen; omega, by simp [HlF.out], List.take_of_length_le (by simp)⟩⟩
      rw [HlF.out]
    have hgw := lN1
    generalize w1.heap.size = q at *
    have hgq : w.heap.size + 1 ≤ q := by omega
    clear hcp bP2 hg2 bN1 hB1 hz1 lN1 hmk bN hB0 hz0 hgw
    go_loopw [14] (fun sv wr => ∃ (cur : List Int) (sum : Int), sv = .int .i64 sum ∧ 0 ≤ sum ∧ sum ≤ most ∧ QPushAt w n a flen cap cur (.slice (some ⟨q, 0, none⟩) flen flen) wr ∧ Hid (GoodG n es cur s t ∧ pushed n es s t most (fl, 0) = pushed n es s t most (cur, sum))) (fun sv _ => (most - intOf sv).toNat)
    case atStart => exact ⟨fl, 0, rfl, Int.le_refl _, hm0, ⟨bN2, hown2, hB2⟩, Lib.hid ⟨HG.out, rfl⟩⟩
    case round =>
      clear bN2 hown2 hB2
      obtain ⟨cur, sum, rfl, hsum0, hsum1, ⟨bN, hown, hB⟩, hin⟩ := hrel
      obtain ⟨w3, rfl⟩ : ∃ w', w' = wr := ⟨_, rfl⟩
      have hcl : cur.length = flen := by rw [hin.out.1.len, HlE.out]
      have HCL := Lib.hid hcl
      have hbz := hB.size
      have HFC := Lib.hid (ints_own hown (by omega)).2
      have HN3 := Lib.hid ((HE.out.below hB).more hbz)
      have HFT := Lib.hid hin.out.1.fits
      obtain ⟨lN, n0, n1⟩ := bN.two
      rw [hcl] at hown
      clear hcl
      by_cases hlt : sum < most
      · obtain ⟨l, hl⟩ : ∃ l, pathF n es cur s t = l := ⟨_, rfl⟩
        have HL := Lib.hid hl
        obtain ⟨T, hT⟩ : ∃ T, has (bfs n es cur s).seen t = T := ⟨_, rfl⟩
        have HT := Lib.hid hT
        unfold pathF at hl
        rw [hT] at hl
        rcases T with _ | _
        · have HR : Hid (pushed n es s t most (fl, 0) = (cur, sum)) := Lib.hid (by
            rw [hin.out.2]; exact pushed_stop (.inr HT.out))
          obtain rfl : l = [] := by rw [← hl]; simp
          clear hl hT
          go_wp2_with (go_at_call 26; (with_reducible refine (nextPath_any n _ _ _ es _ _ _ cur s t _ HN3.out HFC.out HFT.out hs0 hs1 ht0 ht1).mono ?_); rw [HL.out]; rintro e w4 ⟨pa, pc, rfl, hL, hb4⟩
                       have bN4 := bN.below hb4 lN
                       have hown4 := own_below hown hb4
                       have hB4 := hB.trans (hb4.mono hbz)
                       have hz4 := hB4.size)
          refine bodyPost_ret (v := .tuple #[.slice (some ⟨q, 0, none⟩) flen flen, .int .i64 sum, .int .i64 0]) (by simp [results, Try.results12, go_sem]) rfl ?_
          rw [HPF.out, HR.out]
          rw [← HCL.out] at hown4
          exact ⟨_, flen, _, rfl, by have := (ints_own (a := some ⟨q, 0, none⟩) (len := cur.length) (cap := flen) (by rw [HCL.out] at hown4 ⊢; exact hown4) (by rw [HCL.out]; omega)).2; rwa [HCL.out] at this, hB4⟩
        · have hseen : has (bfs n es (cur, sum).1 s).seen t = true := HT.out
          have hln : next n es cur s t = l := by simpa using hl
          have hway := next_is hin.out.1 hseen
          have hroom := push_room (most := most) (st := (cur, sum)) hin.out.1 hlt hseen
          have hstep := pushed_step (most := most) (st := (cur, sum)) hin.out.1 hlt hseen
          dsimp only at hway hroom hstep
          rw [hln] at hway hroom hstep
          have hll : l.length ≤ 63 := by have := hway.2; omega
          have hne : ∃ p ∈ l, spare es cur p ≤ 1073741824 := by
            rcases hl0 : l with _ | ⟨p, l'⟩
            · have := hway.1.ends s
              rw [hl0] at this
              simp only [legs, if_pos] at this
              rw [if_neg (fun e => hin.out.1.ne e.symm)] at this
              omega
            · refine ⟨p, by simp, ?_⟩
              have h2 := (hway.1.each p (by rw [hl0]; simp)).1
              have h3 := hin.out.1.fit _ (of_zip hin.out.1.len h2)
              have h4 := okE_iff.1 (hin.out.1.ok _ (of_zip hin.out.1.len h2))
              dsimp only at h3 h4
              unfold spare
              split <;> omega
          have hlpos : 0 < l.length := by
            obtain ⟨p, hp, _⟩ := hne
            exact List.length_pos_of_mem hp
          have hmin := roomOf_min (D := most - sum) hne
          obtain ⟨r, hr⟩ : ∃ r, roomOf es cur l (most - sum) = r := ⟨_, rfl⟩
          have hrle := (roomOf_le es cur l (most - sum)).2
          rw [hr] at hroom hstep hmin hrle
          obtain ⟨Z, hZ⟩ : ∃ Z, roomOf es cur l 1073741824 = Z := ⟨_, rfl⟩
          rw [hZ] at hmin
          have HZ := Lib.hid hZ
          have HMIN := Lib.hid hmin
          have HWAY := Lib.hid hway.1
          have HRLE := Lib.hid hrle
          obtain ⟨hr1, hr2, hr3, hr4, hr5⟩ := hroom
          have HNEW := Lib.hid hr4
          have HSTEP := Lib.hid hstep
          have hl0 : ((l.length : Int) == 0) = false := by rw [beq_eq_false_iff_ne]; omega
          clear hl hT hseen hln hway hstep hne hmin hrle hZ hr hr4 hr5
          have hw0 : IntKind.i64.wrap (most - sum) = most - sum := IntWalk.i64_in _ (by omega)
          go_upto_region 10 with (first
            | (go_at_call 26; (with_reducible refine (nextPath_any n _ _ _ es _ _ _ cur s t _ HN3.out HFC.out HFT.out hs0 hs1 ht0 ht1).mono ?_); rw [HL.out]; rintro e w4 ⟨pa, pc, rfl, hL, hb4⟩
               have bN4 := bN.below hb4 lN
               have hown4 := own_below hown hb4
               have hB4 := hB.trans (hb4.mono hbz)
               have hz4 := hB4.size
               have hq3 := (hown.lt q rfl).2
               obtain ⟨lN4, n40, n41⟩ := bN4.two
               have HN4 := Lib.hid ((HE.out.below hB4).more hz4)
               have HF4 := Lib.hid ((HFC.out.below hb4).more hb4.size)
               have HL4 := Lib.hid hL
               clear hL hb4)
            | (go_at_call 27; (with_reducible refine (room_any n _ _ _ es _ _ _ cur _ _ _ l _ HN4.out HF4.out HFT.out HL4.out (fun p hp => (HWAY.out.each p hp).1) (by omega)).mono ?_); rw [HZ.out]; rintro e w5 ⟨rfl, hb5⟩
               have bN5 := bN4.below hb5 lN4
               have hown5 := own_below hown4 hb5
               have hB5 := hB4.trans (hb5.mono hz4)
               have hz5 := hB5.size
               have hq5 := (hown5.lt q rfl).2
               obtain ⟨lN5, n50, n51⟩ := bN5.two
               have HL5 := Lib.hid ((HL4.out.below hb5).more hb5.size)
               clear hb5))
          rw [HMIN.out]
          have HN5 := Lib.hid (HE.out.below hB5)
          clear hw0
          have hw1 : IntKind.i64.wrap (sum + r) = sum + r := IntWalk.i64_in _ (by omega)
          go_wp2_with (go_at_call 28; (with_reducible refine (add_any n _ _ _ es q flen flen (w.heap.size + 1) w.heap.size cur _ _ _ l r _ HN5.out (by omega) hown5 HFT.out HL5.out hq3 (fun p hp => (HWAY.out.each p hp).1) HWAY.out.nodup (by omega) (by omega) HRLE.out).mono ?_); rintro e w6 ⟨rfl, hown6, hg6⟩
                       have bN6 := bN5.kept hg6 (by simp; omega)
                       have hB6 := hB5.grown hg6 hz5 (fun k e => by cases e; omega))
          clear hw1
          go_roundw
          case rel => exact ⟨puts cur l r, sum + r, rfl, by omega, by omega, ⟨bN6, by rw [puts_length, HCL.out]; exact hown6, hB6⟩, Lib.hid ⟨HNEW.out, by rw [hin.out.2, HSTEP.out]⟩⟩
          case measure => simp [intOf]; omega
      · obtain rfl : sum = most := by omega
        have HR : Hid (pushed n es s t sum (fl, 0) = (cur, sum)) := Lib.hid (by
          rw [hin.out.2]; exact pushed_stop (.inl rfl))
        go_wp2
        refine bodyPost_ret (v := .tuple #[.slice (some ⟨q, 0, none⟩) flen flen, .int .i64 sum, .int .i64 0]) (by simp [results, Try.results12, go_sem]) rfl ?_
        rw [HPF.out, HR.out]
        exact ⟨_, flen, _, rfl, HFC.out, hB⟩
  · have HPF : Hid (pushF v es fl s t most = ([], 0, 50)) := Lib.hid (by
      unfold pushF
      rw [HGD.out, if_neg]
      intro h
      simp at h
      exact hs h)
    have hw : most < 0 ∨ (¬ most < 0 ∧ g = false) := by
      by_cases h : most < 0
      · exact .inl h
      · refine .inr ⟨h, ?_⟩
        rcases g with _ | _
        · rfl
        · exact absurd ⟨rfl, by omega⟩ hs
    clear hs
    rcases hw with h1 | ⟨h1, rfl⟩
    · go_enter Try.func12, Try.ntmps12
      go_wp2
      rw [HW0.out]
      refine bodyPost_ret (v := .tuple #[.slice none 0 0, .int .i64 0, .int .i64 50]) (by simp [results, Try.results12, go_sem]) rfl ?_
      rw [HPF.out]
      exact ⟨none, 0, 0, rfl, ⟨rfl, by omega, 0, 0, .inl rfl, fun i hi => by simp at hi⟩, hB0⟩
    · go_enter Try.func12, Try.ntmps12
      go_wp2_with (go_at_call 25; rw [HW0.out]; (with_reducible refine (good_any _ _ _ _ es _ _ _ fl s t _ HE0.out HF0.out).mono ?_); rw [HGD.out]; rintro e w1 ⟨rfl, hb1⟩)
      refine bodyPost_ret (v := .tuple #[.slice none 0 0, .int .i64 0, .int .i64 50]) (by simp [results, Try.results12, go_sem]) rfl ?_
      rw [HPF.out]
      exact ⟨none, 0, 0, rfl, ⟨rfl, by omega, 0, 0, .inl rfl, fun i hi => by simp at hi⟩, hB0.trans (hb1.mono hz0)⟩

set_option maxRecDepth 100000 in
set_option maxHeartbeats 2000000 in
theorem max_any (v : Int) (a : Option Addr) (len cap : Nat) (es : List E) (s t : Int) (w : World) (hE : NetAt w.heap.size w a len es) :
    Calls Try.prog 14 #[netV v a len cap, .int .i64 s, .int .i64 t] w (PushPost (maxF v es s t) w) := by
  obtain ⟨W0, hW0⟩ : ∃ W0, w.alloc (.cells #[.int .i64 v, .slice a len cap] 24) = W0 := ⟨_, rfl⟩
  have hB0 : Below w.heap.size w W0 := by rw [← hW0]; exact (Below.refl _ w).alloc (Nat.le_refl _) _
  have bN : Blk W0 w.heap.size 24 #[.int .i64 v, .slice a len cap] := by rw [← hW0]; exact Blk.new w _ _
  have HW0 := Lib.hid hW0
  have HlE := Lib.hid hE.1
  have HE := Lib.hid hE
  have hz0 := hB0.size
  have HE0 := Lib.hid ((hE.below hB0).more hB0.size)
  clear hW0 hE
  obtain ⟨g, hg⟩ : ∃ g, right v es = g := ⟨_, rfl⟩
  have HG := Lib.hid hg
  clear hg
  rcases g with _ | _
  · have HMF : Hid (maxF v es s t = ([], 0, 50)) := Lib.hid (by
      unfold maxF pushF
      have : good v es (List.replicate (min es.length 300) 0) s t = false := by
        rw [Bool.eq_false_iff]
        intro h
        have := (goodG_iff.1 h).net
        rw [HG.out] at this; cases this
      rw [this]; rfl)
    go_enter Try.func14, Try.ntmps14
    go_wp2_with (go_at_call 31; rw [HW0.out]; (with_reducible refine (right_any _ _ _ _ es _ HE0.out).mono ?_); rw [HG.out]; rintro e w1 ⟨rfl, hb1⟩)
    refine bodyPost_ret (v := .tuple #[.slice none 0 0, .int .i64 0, .int .i64 50]) (by simp [results, Try.results14, go_sem]) rfl ?_
    rw [HMF.out]
    exact ⟨none, 0, 0, rfl, ⟨rfl, by omega, 0, 0, .inl rfl, fun i hi => by simp at hi⟩, hB0.trans (hb1.mono hz0)⟩
  · have hm3 : len ≤ 256 := by have := (right_iff.1 HG.out).2.2.1; rw [HlE.out] at this; exact this
    have HMF : Hid (maxF v es s t = pushF v es (List.replicate len 0) s t 1073741824) := Lib.hid (by unfold maxF; rw [HlE.out, Nat.min_eq_left (by omega)])
    have hmk := make_ints len (by omega)
    go_enter Try.func14, Try.ntmps14
    go_wp2_with (go_at_call 31; rw [HW0.out]; (with_reducible refine (right_any _ _ _ _ es _ HE0.out).mono ?_); rw [HG.out]; rintro e w1 ⟨rfl, hb1⟩)
    have bN1 := bN.below hb1 bN.lt
    have hB1 := hB0.trans (hb1.mono hz0)
    have hz1 := hB1.size
    have hcells : ∀ W, Below w1.heap.size w1 W → W.cell? ⟨w.heap.size, 0, none⟩ = some (.int .i64 v) ∧ W.cell? ⟨w.heap.size, 1, none⟩ = some (.slice a len cap) := fun W h => (bN1.below h bN1.lt).two.2
    have HCE := Lib.hid hcells
    have hB := below_drew (Below.refl w1.heap.size w1)
    clear hcells hb1
    refine region_mix (fun W => Below w1.heap.size w1 W) (11) (.reads [0, 1, 2, 3, 5, 6] (.only 4 (.only 7 (.reads [8, 9, 10] (.only 11 (.only 12 (.only 13 (.stop)))))))) (by kernel_rfl) (by kernel_rfl) (hB) ?_
    obtain ⟨wc, hwc⟩ : ∃ W, w1.drew = W := ⟨_, rfl⟩
    rw [hwc] at hB ⊢
    clear hwc
    repeat (
      refine plan_read rfl (fun K hK => ?_)
      first
        | (refine plan_neg ?_ ?_
           focus (go_simp; done)
           go_simp
           refine hK _ ?_
           clear hK K)
        | (apply plan_pos
           focus (go_simp; done)
           focus (
             intro W hW
             (first | obtain ⟨d0, d1⟩ := HCE.out W hW | skip)
             go_simp
             first
               | done
               | exact rfl)
           go_simp
           refine hK _ ?_
           clear hK K))
    refine plan_only rfl (fun Q hQ => ?_)
    go_wp2
    have bZ := Blk.new wc 3 (Array.replicate len (.int .i64 0))
    replace hB := hB.alloc hB.size (.cells (Array.replicate len (.int .i64 0)) 3)
    refine hQ _ _ (fun _ => hB) ?_
    clear hQ Q
    generalize wc.alloc (.cells (Array.replicate len (.int .i64 0)) 3) = wd at *
    generalize wc.heap.size = Z at *
    have hZ : FlowAt wd.heap.size wd (some ⟨Z, 0, none⟩) len (List.replicate len 0) := by
      have e : Array.replicate len (Value.int .i64 0) = (ints (List.replicate len 0)).toArray := by apply Array.toList_inj.1; simp
      rw [e] at bZ
      have h := flow_blk bZ (by simp; omega)
      simpa using h
    have HZ := Lib.hid hZ
    clear hZ bZ
    obtain ⟨wc, rfl⟩ : ∃ W, W = wd := ⟨_, rfl⟩
    refine plan_only rfl (fun Q hQ => ?_)
    have HN0 := Lib.hid ((HE.out.below (hB1.trans (hB.mono hz1))).more (show w.heap.size ≤ wc.heap.size by have := hB.size; omega))
    go_wp2_with (go_at_call 12; (with_reducible refine (push_any _ _ _ _ es _ _ _ (List.replicate len 0) s t 1073741824 _ HN0.out HZ.out (by simp [I64])).mono ?_); rintro e0 wd ⟨pa, pl, pc, rfl, hP, hb⟩)
    obtain ⟨R, hR⟩ : ∃ R, pushF v es (List.replicate len 0) s t 1073741824 = R := ⟨_, rfl⟩
    rw [hR] at hP ⊢
    have HR := Lib.hid hR
    replace hB := hB.trans (hb.mono hB.size)
    refine hQ _ _ (fun _ => hB) ?_
    clear hQ Q hb HN0 HZ hR
    obtain ⟨wc, rfl⟩ : ∃ W, W = wd := ⟨_, rfl⟩
    repeat (
      refine plan_read rfl (fun K hK => ?_)
      first
        | (refine plan_neg ?_ ?_
           focus (go_simp; done)
           go_simp
           refine hK _ ?_
           clear hK K)
        | (apply plan_pos
           focus (go_simp; done)
           focus (
             intro W hW
             (first | obtain ⟨d0, d1⟩ := HCE.out W hW | skip)
             go_simp
             first
               | done
               | exact rfl)
           go_simp
           refine hK _ ?_
           clear hK K))
    refine plan_only rfl (fun Q hQ => ?_)
    go_wp2
    refine hQ _ _ (fun h => absurd h (by omega)) ?_
    clear hQ Q
    refine plan_only rfl (fun Q hQ => ?_)
    go_wp2
    refine hQ _ _ (fun h => absurd h (by omega)) ?_
    clear hQ Q
    refine plan_only rfl (fun Q hQ => ?_)
    go_wp2
    refine hQ _ _ (fun h => absurd h (by omega)) ?_
    clear hQ Q
    unfold Plan.wp
    go_wp2
    refine bodyPost_ret (v := .tuple #[.slice pa pl pc, .int .i64 R.2.1, .int .i64 R.2.2]) (by simp [results, Try.results14, go_sem]) rfl ?_
    rw [HMF.out, HR.out]
    exact ⟨pa, pl, pc, rfl, hP, hB1.trans (hB.mono hz1)⟩
end Go.Proofs.Ytcbfgdiddhhhcaa
