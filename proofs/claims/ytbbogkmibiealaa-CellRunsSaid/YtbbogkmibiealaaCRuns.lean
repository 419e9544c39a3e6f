/-
  The statement CellRuns is proved for whatever raw grants and times: a cell runs nothing but the binds of one grant that it took, and nothing from its until on; one that was started anew runs nothing that was granted to it ahead of that. No condition.
-/
import Derived.Deep.DeepCutAuto
import Derived.Test.YtbbogkmibiealaaCcalls
import Derived.Test.YtbbogkmibiealaaCrunsn
import Derived.Test.YtbbogkmibiealaaOpen18
import Derived.Test.YtbbogkmibiealaaRows
namespace Go.Proofs.Ytbbogkmibiealaa.lawCRuns
open Go.ChangeShapes Go.WideShapes Go.ChangeAt Go.RowKit Gm

abbrev M (w wr : World) (p : Nat) (D : Ce) (q : Nat) (E : Ce) (bs : List (Nat × Obj)) : Prop := Held PCell PCell w wr p D q E bs
set_option maxRecDepth 100000 in
set_option maxHeartbeats 8000000 in
theorem walk (a : Option Addr) (len cap : Nat) (z : List GrE) (now : Int) (w : World) (h0 : GrantsAt w.heap.size w a len z) (hnow : I64 now) :
    Calls Try.prog 6 #[.slice a len cap, .int .i64 now] w fun e w' => e = .returned (.bool true) ∧ Below w.heap.size w w' := by
  have HZ := Lib.hid h0
  have hzl : z.length = len := h0.1
  have HZL := Lib.hid hzl
  have i0 : I64 0 := by unfold I64; omega
  have i1 : I64 1 := by unfold I64; omega
  have i7 : I64 7 := by unfold I64; omega
  have I0 := Lib.hid i0
  have I1 := Lib.hid i1
  have I7 := Lib.hid i7
  have hlen : len ≤ 140737488351232 := h0.2.1
  have H0 := Lib.hid (Held.start (X := Ce) (Y := Ce) w (newC 0 0) (newC 0 0))
  obtain ⟨ms, hms⟩ : ∃ ms, z.map fitM = ms := ⟨_, rfl⟩
  have HMS := Lib.hid hms
  have HOK : Hid (∀ i, OkC (stN (ms.take i) (newC 0 1))) := Lib.hid fun i => st_ok (OkC.new 0 1 i0 i1) _
  have HOK7 : Hid (∀ i, OkC (stN (ms.take i) (newC 0 7))) := Lib.hid fun i => st_ok (OkC.new 0 7 i0 i7) _
  have HRI : Hid (∀ i, RunsI (stN (ms.take i) (newC 0 1)) (stN (ms.take i) (newC 0 7))) := Lib.hid fun i => by
    induction i with
    | zero => exact runsI_new
    | succ i ih =>
      rw [List.take_add_one]
      rcases h : ms[i]? with _ | m
      · simpa using ih
      · rw [Option.toList_some, st_snoc, st_snoc]
        rw [← hms, List.getElem?_map] at h
        rcases hx : z[i]? with _ | x
        · rw [hx] at h; cases h
        · rw [hx] at h
          obtain rfl : fitM x = m := by simpa using h
          exact ih.step x
  have hpb := pk_bd now 70 (by omega)
  have HPK := Lib.hid (fun W => pick_any now 70 W hnow (by omega) (by omega))
  obtain ⟨t, ht⟩ : ∃ t, pk now 70 = t := ⟨_, rfl⟩
  rw [ht] at hpb HPK
  have HPB := Lib.hid hpb
  have ht64 : I64 t := by unfold I64; omega
  have HT64 := Lib.hid ht64
  clear h0 hzl i0 i1 i7 hms hnow ht ht64
  go_enter Try.func6, Try.ntmps6
  go_upto_region 2 with (go_at_call 8; with_reducible refine (awake_any w).mono ?_; rintro e w1 ⟨rfl, hb1⟩; have H1 := Lib.hid (H0.out.below nobody_law nobody_law hb1); clear hb1)
  go_upto_region 3 with (go_at_call 9; refine (H1.out.pNew1 nobody_law 0 1 I0.out I1.out).mono ?_; rintro e w2 ⟨p, rfl, h2⟩; have H2 := Lib.hid h2; clear h2)
  go_upto_region 4 with (go_at_call 9; refine (H2.out.pNew2 pcell_law 0 7 I0.out I7.out).mono ?_; rintro e w3 ⟨q, rfl, h3⟩; have H3 : Hid (M w w3 p (newC 0 1) q (newC 0 7) []) := Lib.hid h3; clear h3)
  clear H0 H1 H2
  go_wp2_with (go_at_call 20; (with_reducible refine (HPK.out _).mono ?_); rintro e w4 ⟨rfl, rfl⟩)
  go_loopw [8, 9, 10] (fun bv uv iv wr => ∃ i bs, i ≤ len ∧ i ≤ 60 ∧ iv = .int .i64 ((i : Nat) : Int) ∧ uv = .int .i64 (stN (ms.take i) (newC 0 1)).unt ∧ RowK bs bv (stN (ms.take i) (newC 0 1)).l ∧ M w wr p (stN (ms.take i) (newC 0 1)) q (stN (ms.take i) (newC 0 7)) bs) (fun _ _ iv _ => 61 - (intOf iv).toNat)
  case atStart => exact ⟨0, [], Nat.zero_le _, Nat.zero_le _, rfl, rfl, RowK.nil _, H3.out⟩
  case round =>
    obtain ⟨i, bs, hi, hi40, rfl, rfl, hrw, hh⟩ := hrel
    clear H3
    have HH := Lib.hid hh
    have hok := HOK.out i
    have hok7 := HOK7.out i
    have hri := HRI.out i
    have hri2 := HRI.out (i + 1)
    obtain ⟨D, hD⟩ : ∃ D, stN (ms.take i) (newC 0 1) = D := ⟨_, rfl⟩
    obtain ⟨E, hE⟩ : ∃ D, stN (ms.take i) (newC 0 7) = D := ⟨_, rfl⟩
    rw [hD] at HH hok hri hrw ⊢
    rw [hE] at HH hok7 hri
    obtain ⟨ba, bc, rfl⟩ := hrw.form
    have HRW := Lib.hid hrw
    have HD := Lib.hid hD
    have HE := Lib.hid hE
    have HOD := Lib.hid hok
    have HOE := Lib.hid hok7
    have HRD := Lib.hid hri
    obtain ⟨U0, hU0⟩ : ∃ u, D.unt = u := ⟨_, rfl⟩
    rw [hU0]
    have HU0 := Lib.hid hU0
    have hd64 : D.l.length ≤ 64 := hok.few.1
    obtain ⟨dn, hdn⟩ : ∃ n, D.l.length = n := ⟨_, rfl⟩
    rw [hdn] at HRW hd64 ⊢
    have HDN := Lib.hid hdn
    clear hh hD hE hok hok7 hri hrw hU0 hdn
    by_cases hlt : i < len
    · by_cases h40 : i < 60
      · have hii : (i : Int) < (len : Int) := by omega
        have hii40 : (i : Int) < 60 := by omega
        have hi0 : (0 : Int) ≤ (i : Int) := by omega
        have HU : Hid (i + 1 ≤ len ∧ i + 1 ≤ 60) := Lib.hid ⟨hlt, h40⟩
        clear h40 hi hi40
        obtain ⟨b, off, rfl, hb, hil, hx, c0, c1, c2, c3, c4, c5, ka, kl, kc, c6, hk⟩ := (HZ.out.below HH.out.to).get hlt
        have hbw : b < wr.heap.size := Nat.lt_of_lt_of_le hb HH.out.to.size
        obtain ⟨x, hxe⟩ : ∃ x, z[i] = x := ⟨_, rfl⟩
        rw [hxe] at hx c0 c1 c2 c3 c4 c5 hk
        obtain ⟨⟨k, c, bb, e, v, u, l⟩, hm⟩ : ∃ m, fitM x = m := ⟨_, rfl⟩
        have hmo := fitM_ok x
        rw [hm] at hmo
        have hml : l.length ≤ 64 := by
          have h1 := (fitL_few x.l).1
          unfold fitM at hm
          injection hm with _ _ _ _ _ _ e7
          rw [e7] at h1
          omega
        have hms1 : ms[i]? = some ⟨k, c, bb, e, v, u, l⟩ := by rw [← HMS.out, List.getElem?_map, List.getElem?_eq_getElem hil, hxe, ← hm]; rfl
        have HMI := Lib.hid hms1
        have HFIT := Lib.hid (HH.out.fit pcell_law pcell_law x (kc := kc) hx hk hm)
        have HMO := Lib.hid hmo
        have HN : Hid (stN (ms.take (i + 1)) (newC 0 1) = recvC D ⟨k, c, bb, e, v, u, l⟩) := Lib.hid (by
          rw [List.take_add_one, hms1, Option.toList_some, st_snoc, HD.out])
        have HSTALE := Lib.hid (stale_now D ⟨k, c, bb, e, v, u, l⟩)
        have HOD2 := Lib.hid (HOD.out.recv ⟨k, c, bb, e, v, u, l⟩)
        obtain ⟨D2, hD2⟩ : ∃ D2, recvC D ⟨k, c, bb, e, v, u, l⟩ = D2 := ⟨_, rfl⟩
        rw [hD2] at HN HSTALE HOD2
        have HD2 := Lib.hid hD2
        clear hD2
        obtain ⟨n, hn⟩ : ∃ n, l.length = n := ⟨_, rfl⟩
        rw [hn] at HFIT hml
        have HLN := Lib.hid hn
        obtain ⟨x1, hx1⟩ : ∃ n, x.kind = n := ⟨_, rfl⟩
        rw [hx1] at c0 HFIT
        obtain ⟨x2, hx2⟩ : ∃ n, x.cell = n := ⟨_, rfl⟩
        rw [hx2] at c1 HFIT
        obtain ⟨x3, hx3⟩ : ∃ n, x.boot = n := ⟨_, rfl⟩
        rw [hx3] at c2 HFIT
        obtain ⟨x4, hx4⟩ : ∃ n, x.epoch = n := ⟨_, rfl⟩
        rw [hx4] at c3 HFIT
        obtain ⟨x5, hx5⟩ : ∃ n, x.ver = n := ⟨_, rfl⟩
        rw [hx5] at c4 HFIT
        obtain ⟨x6, hx6⟩ : ∃ n, x.unt = n := ⟨_, rfl⟩
        rw [hx6] at c5 HFIT
        clear hx hk hxe hm hmo hms1 hil hb hn hx1 hx2 hx3 hx4 hx5 hx6
        have HNE : Hid (stN (ms.take (i + 1)) (newC 0 7) = recvC E ⟨k, c, bb, e, v, u, l⟩) := Lib.hid (by
          rw [List.take_add_one, HMI.out, Option.toList_some, st_snoc, HE.out])
        obtain ⟨E2, hE2⟩ : ∃ D2, recvC E ⟨k, c, bb, e, v, u, l⟩ = D2 := ⟨_, rfl⟩
        have HOE2 : Hid (OkC E2) := Lib.hid (by rw [← hE2]; exact HOE.out.recv _)
        rw [hE2] at HNE
        have HE2 := Lib.hid hE2
        rw [HN.out, HNE.out] at hri2
        have HRD2 := Lib.hid hri2
        obtain ⟨tk, htk⟩ : ∃ b, tookC D ⟨k, c, bb, e, v, u, l⟩ = b := ⟨_, rfl⟩
        have HTK := Lib.hid htk
        clear hE2 hri2 htk hlt
        go_upto_region 13 with (go_at_call 19; (with_reducible refine HFIT.out.mono ?_); rintro e' w4 ⟨fa, fc, cs, rfl, h4, hs4, hr4⟩
                                have h5 := h4.push pcell_law pcell_law (msgO k c bb e v u fa n fc)
                                have H5 := Lib.hid h5
                                have HS5 : Hid (∀ y ∈ bs, y ∈ (w4.heap.size, msgO k c bb e v u fa n fc) :: cs) := Lib.hid (fun y hy => List.mem_cons_of_mem _ (hs4 y hy))
                                have HR5 : Hid (RowK ((w4.heap.size, msgO k c bb e v u fa n fc) :: cs) (.slice fa n fc) l) := Lib.hid (hr4.more fun y hy => List.mem_cons_of_mem _ hy)
                                clear h4 hs4 hr4 h5)
        obtain ⟨W5, hW5⟩ : ∃ W, w4.alloc (msgO k c bb e v u fa n fc) = W := ⟨_, rfl⟩
        rw [hW5] at H5 ⊢
        obtain ⟨bs5, hbs5⟩ : ∃ l, (w4.heap.size, msgO k c bb e v u fa n fc) :: cs = l := ⟨_, rfl⟩
        have hm5 : (w4.heap.size, msgO k c bb e v u fa n fc) ∈ bs5 := by rw [← hbs5]; exact List.mem_cons_self ..
        rw [hbs5] at H5 HR5 HS5
        obtain ⟨G, hG⟩ : ∃ g, w4.heap.size = g := ⟨_, rfl⟩
        rw [hG] at hm5 ⊢
        have HM5 := Lib.hid hm5
        obtain ⟨g0, g1, g2, g3, g4, g5, g6, _, gl⟩ := msg_cells (H5.out.own hm5)
        clear hW5 hbs5 hG hm5 HFIT
        have HC5 : Hid (Calls Try.prog 11 #[.pointer (some ⟨p, 0, none⟩), msgV k c bb e v u fa n fc] W5 fun x w' => x = .returned (.bool tk) ∧ M w w' p D2 q E bs5) := Lib.hid (by
          have h := H5.out.pR1 pcell_law HOD.out k c bb e v u HMO.out HR5.out
          rw [HTK.out, HD2.out] at h
          exact h)
        by_cases hA : tk = true ∧ ¬ v = 0
        · obtain ⟨rfl, hv⟩ := hA
          obtain ⟨hrt, hk1, hc1, hnw⟩ := took_right HTK.out
          dsimp only at hk1 hc1
          rw [HRD.out.n] at hc1
          have hb1 : bb = 1 := by
            unfold newerC at hnw
            dsimp only at hnw
            rw [if_neg hv, HRD.out.boot] at hnw
            simp only [Bool.and_eq_true, decide_eq_true_eq] at hnw
            exact hnw.1
          have hv0 : 0 < v := by
            have := (nums_bd (rightM_l hrt).1).2.1.1
            dsimp only at this
            omega
          have hset : D2 = { D with epoch := e, ver := v, unt := u, l := l } := by rw [← HD2.out, recv_set HTK.out]; unfold setC; dsimp only; rw [if_neg hv]
          have HUU : Hid (D2.unt = u) := Lib.hid (by rw [hset])
          have hdl : D2.l = l := by rw [hset]
          have HDL2 : Hid (D2.l.length = n) := Lib.hid (by rw [hdl]; exact HLN.out)
          have HROW2 : Hid (RowK bs5 (.slice fa n fc) D2.l) := Lib.hid (by rw [hdl]; exact HR5.out)
          have HROW3 : Hid (RowK bs5 (.slice fa n fc) D2.l) := HROW2
          have f4 : decide (0 < v) = true := decide_eq_true hv0
          have e1 : (k == 1) = true := by simpa using hk1
          have e2 : (k != 1) = false := by simpa using hk1
          have e3 : (c == 0) = true := by simpa using hc1
          have e4 : (c != 0) = false := by simpa using hc1
          have e5 : (bb == 1) = true := by simpa using hb1
          have e6 : (bb != 1) = false := by simpa using hb1
          clear hrt hnw hv hv0 hset hdl hk1 hc1 hb1
          have HC6 : Hid (∀ W, M w W p D2 q E bs5 → Calls Try.prog 11 #[.pointer (some ⟨q, 0, none⟩), msgV k c bb e v u fa n fc] W fun x w' => x = .returned (.bool (tookC E ⟨k, c, bb, e, v, u, l⟩)) ∧ M w w' p D2 q E2 bs5) := Lib.hid fun W hW => by
            have h := hW.pR2 pcell_law HOE.out k c bb e v u HMO.out HR5.out
            rw [HE2.out] at h
            exact h
          by_cases hnu : t < u
          · have f5 : decide (t < u) = true := decide_eq_true hnu
            have f6 : decide (u ≤ t) = false := decide_eq_false (by omega)
            have HRC : Hid (runC D2 t = D2.l) := Lib.hid (by rw [runC_at ⟨HPB.out.1, by have := HPB.out.2; omega⟩ HRD2.out.unt, HUU.out, if_pos hnu])
            have HRE : Hid (runC E2 t = []) := Lib.hid (by rw [runC_at ⟨HPB.out.1, by have := HPB.out.2; omega⟩ (by rw [HRD2.out.eunt]; omega), HRD2.out.eunt, if_neg (by have := HPB.out.1; omega)])
            clear hnu
            go_wp2_with (first
              | (go_at_call 11; (with_reducible refine HC5.out.mono ?_); rintro e' w6 ⟨rfl, h6⟩
                 have H6 := Lib.hid h6
                 obtain ⟨j0, j1, j2, j3, j4, j5, j6, _, jl⟩ := msg_cells (h6.own HM5.out)
                 clear h6)
              | (go_at_call 11; (with_reducible refine (HC6.out _ H6.out).mono ?_); rintro e' w7 ⟨rfl, h7⟩; have H7 := Lib.hid h7; have HC7 := Lib.hid (h7.pU1 pcell_law HOD2.out t HT64.out); rw [HRC.out, HDL2.out] at HC7; clear h7)
              | (go_at_call 17; (with_reducible refine HC7.out.mono ?_); rintro e' w8 ⟨ra, rc, rfl, ho8, hb8, h8⟩; have H8 := Lib.hid h8; have HC8 := Lib.hid (same8_self ra fa n rc n fc D2.l w8 (by omega) (fresh_binds ho8) (HROW2.out.now h8)); clear ho8 hb8 h8)
              | (go_at_call 13; (with_reducible refine HC8.out.mono ?_); rintro e' w9 ⟨rfl, hb9⟩; have h9 := H8.out.below pcell_law pcell_law hb9; have HC9 := Lib.hid (h9.pU2 pcell_law HOE2.out t HT64.out); rw [HRE.out] at HC9; clear hb9 h9)
              | (go_at_call 17; (with_reducible refine HC9.out.mono ?_); rintro e' w10 ⟨sa, sc, rfl, _, _, h10⟩; have H10 := Lib.hid h10; clear h10))
            go_roundw
            case rel => exact ⟨i + 1, bs5, HU.out.1, HU.out.2, by go_num, by rw [HN.out, HUU.out], by rw [HN.out]; exact HROW3.out, by rw [HN.out, HNE.out]; exact H10.out⟩
            case measure => simp [intOf]; omega
          · have f5 : decide (t < u) = false := decide_eq_false hnu
            have f6 : decide (u ≤ t) = true := decide_eq_true (by omega)
            have HRC : Hid (runC D2 t = []) := Lib.hid (by rw [runC_at ⟨HPB.out.1, by have := HPB.out.2; omega⟩ HRD2.out.unt, HUU.out, if_neg hnu])
            have HRE : Hid (runC E2 t = []) := Lib.hid (by rw [runC_at ⟨HPB.out.1, by have := HPB.out.2; omega⟩ (by rw [HRD2.out.eunt]; omega), HRD2.out.eunt, if_neg (by have := HPB.out.1; omega)])
            clear hnu
            go_wp2_with (first
              | (go_at_call 11; (with_reducible refine HC5.out.mono ?_); rintro e' w6 ⟨rfl, h6⟩
                 have H6 := Lib.hid h6
                 obtain ⟨j0, j1, j2, j3, j4, j5, j6, _, jl⟩ := msg_cells (h6.own HM5.out)
                 clear h6)
              | (go_at_call 11; (with_reducible refine (HC6.out _ H6.out).mono ?_); rintro e' w7 ⟨rfl, h7⟩; have H7 := Lib.hid h7; have HC7 := Lib.hid (h7.pU1 pcell_law HOD2.out t HT64.out); rw [HRC.out] at HC7; clear h7)
              | (go_at_call 17; (with_reducible refine HC7.out.mono ?_); rintro e' w8 ⟨ra, rc, rfl, _, _, h8⟩; have H8 := Lib.hid h8; have HC9 := Lib.hid (h8.pU2 pcell_law HOE2.out t HT64.out); rw [HRE.out] at HC9; clear h8)
              | (go_at_call 17; (with_reducible refine HC9.out.mono ?_); rintro e' w10 ⟨sa, sc, rfl, _, _, h10⟩; have H10 := Lib.hid h10; clear h10))
            go_roundw
            case rel => exact ⟨i + 1, bs5, HU.out.1, HU.out.2, by go_num, by rw [HN.out, HUU.out], by rw [HN.out]; exact HROW3.out, by rw [HN.out, HNE.out]; exact H10.out⟩
            case measure => simp [intOf]; omega
        · have hset : D2.l = D.l ∧ D2.unt = U0 := by
            rw [← HD2.out, ← HU0.out]
            unfold recvC setC
            split
            · rename_i ht
              rw [HTK.out] at ht
              have hv0 : v = 0 := by
                rcases Classical.em (v = 0) with h | h
                · exact h
                · exact absurd ⟨ht, h⟩ hA
              rw [if_pos hv0]
              exact ⟨rfl, rfl⟩
            · exact ⟨rfl, rfl⟩
          have HUU : Hid (D2.unt = U0) := Lib.hid hset.2
          have HDL2 : Hid (D2.l.length = dn) := Lib.hid (by rw [hset.1]; exact HDN.out)
          have HROW2 : Hid (RowK bs5 (.slice ba dn bc) D2.l) := Lib.hid (by rw [hset.1]; exact HRW.out.more fun y hy => HS5.out y hy)
          have HROW3 : Hid (RowK bs5 (.slice ba dn bc) D2.l) := HROW2
          have HVZ : Hid (tk = true → v = 0) := Lib.hid fun h => by
            rcases Classical.em (v = 0) with h' | h'
            · exact h'
            · exact absurd ⟨h, h'⟩ hA
          clear hset hA
          rcases tk with _ | _
          · clear HVZ
            have HC6 : Hid (∀ W, M w W p D2 q E bs5 → Calls Try.prog 11 #[.pointer (some ⟨q, 0, none⟩), msgV k c bb e v u fa n fc] W fun x w' => x = .returned (.bool (tookC E ⟨k, c, bb, e, v, u, l⟩)) ∧ M w w' p D2 q E2 bs5) := Lib.hid fun W hW => by
              have h := hW.pR2 pcell_law HOE.out k c bb e v u HMO.out HR5.out
              rw [HE2.out] at h
              exact h
            by_cases hnu : t < U0
            · have f5 : decide (t < U0) = true := decide_eq_true hnu
              have f6 : decide (U0 ≤ t) = false := decide_eq_false (by omega)
              have HRC : Hid (runC D2 t = D2.l) := Lib.hid (by rw [runC_at ⟨HPB.out.1, by have := HPB.out.2; omega⟩ HRD2.out.unt, HUU.out, if_pos hnu])
              have HRE : Hid (runC E2 t = []) := Lib.hid (by rw [runC_at ⟨HPB.out.1, by have := HPB.out.2; omega⟩ (by rw [HRD2.out.eunt]; omega), HRD2.out.eunt, if_neg (by have := HPB.out.1; omega)])
              clear hnu
              go_wp2_with (first
                | (go_at_call 11; (with_reducible refine HC5.out.mono ?_); rintro e' w6 ⟨rfl, h6⟩
                   have H6 := Lib.hid h6
                   obtain ⟨j0, j1, j2, j3, j4, j5, j6, _, jl⟩ := msg_cells (h6.own HM5.out)
                   clear h6)
                | (go_at_call 11; (with_reducible refine (HC6.out _ H6.out).mono ?_); rintro e' w7 ⟨rfl, h7⟩; have H7 := Lib.hid h7; have HC7 := Lib.hid (h7.pU1 pcell_law HOD2.out t HT64.out); rw [HRC.out, HDL2.out] at HC7; clear h7)
                | (go_at_call 17; (with_reducible refine HC7.out.mono ?_); rintro e' w8 ⟨ra, rc, rfl, ho8, hb8, h8⟩; have H8 := Lib.hid h8; have HC8 := Lib.hid (same8_self ra ba dn rc dn bc D2.l w8 (by omega) (fresh_binds ho8) (HROW2.out.now h8)); clear ho8 hb8 h8)
                | (go_at_call 13; (with_reducible refine HC8.out.mono ?_); rintro e' w9 ⟨rfl, hb9⟩; have h9 := H8.out.below pcell_law pcell_law hb9; have HC9 := Lib.hid (h9.pU2 pcell_law HOE2.out t HT64.out); rw [HRE.out] at HC9; clear hb9 h9)
                | (go_at_call 17; (with_reducible refine HC9.out.mono ?_); rintro e' w10 ⟨sa, sc, rfl, _, _, h10⟩; have H10 := Lib.hid h10; clear h10))
              go_roundw
              case rel => exact ⟨i + 1, bs5, HU.out.1, HU.out.2, by go_num, by rw [HN.out, HUU.out], by rw [HN.out]; exact HROW3.out, by rw [HN.out, HNE.out]; exact H10.out⟩
              case measure => simp [intOf]; omega
            · have f5 : decide (t < U0) = false := decide_eq_false hnu
              have f6 : decide (U0 ≤ t) = true := decide_eq_true (by omega)
              have HRC : Hid (runC D2 t = []) := Lib.hid (by rw [runC_at ⟨HPB.out.1, by have := HPB.out.2; omega⟩ HRD2.out.unt, HUU.out, if_neg hnu])
              have HRE : Hid (runC E2 t = []) := Lib.hid (by rw [runC_at ⟨HPB.out.1, by have := HPB.out.2; omega⟩ (by rw [HRD2.out.eunt]; omega), HRD2.out.eunt, if_neg (by have := HPB.out.1; omega)])
              clear hnu
              go_wp2_with (first
                | (go_at_call 11; (with_reducible refine HC5.out.mono ?_); rintro e' w6 ⟨rfl, h6⟩
                   have H6 := Lib.hid h6
                   obtain ⟨j0, j1, j2, j3, j4, j5, j6, _, jl⟩ := msg_cells (h6.own HM5.out)
                   clear h6)
                | (go_at_call 11; (with_reducible refine (HC6.out _ H6.out).mono ?_); rintro e' w7 ⟨rfl, h7⟩; have H7 := Lib.hid h7; have HC7 := Lib.hid (h7.pU1 pcell_law HOD2.out t HT64.out); rw [HRC.out] at HC7; clear h7)
                | (go_at_call 17; (with_reducible refine HC7.out.mono ?_); rintro e' w8 ⟨ra, rc, rfl, _, _, h8⟩; have H8 := Lib.hid h8; have HC9 := Lib.hid (h8.pU2 pcell_law HOE2.out t HT64.out); rw [HRE.out] at HC9; clear h8)
                | (go_at_call 17; (with_reducible refine HC9.out.mono ?_); rintro e' w10 ⟨sa, sc, rfl, _, _, h10⟩; have H10 := Lib.hid h10; clear h10))
              go_roundw
              case rel => exact ⟨i + 1, bs5, HU.out.1, HU.out.2, by go_num, by rw [HN.out, HUU.out], by rw [HN.out]; exact HROW3.out, by rw [HN.out, HNE.out]; exact H10.out⟩
              case measure => simp [intOf]; omega
          · have hv0 := HVZ.out rfl
            have f4 : decide (0 < v) = false := decide_eq_false (by omega)
            clear HVZ hv0
            have HC6 : Hid (∀ W, M w W p D2 q E bs5 → Calls Try.prog 11 #[.pointer (some ⟨q, 0, none⟩), msgV k c bb e v u fa n fc] W fun x w' => x = .returned (.bool (tookC E ⟨k, c, bb, e, v, u, l⟩)) ∧ M w w' p D2 q E2 bs5) := Lib.hid fun W hW => by
              have h := hW.pR2 pcell_law HOE.out k c bb e v u HMO.out HR5.out
              rw [HE2.out] at h
              exact h
            by_cases hnu : t < U0
            · have f5 : decide (t < U0) = true := decide_eq_true hnu
              have f6 : decide (U0 ≤ t) = false := decide_eq_false (by omega)
              have HRC : Hid (runC D2 t = D2.l) := Lib.hid (by rw [runC_at ⟨HPB.out.1, by have := HPB.out.2; omega⟩ HRD2.out.unt, HUU.out, if_pos hnu])
              have HRE : Hid (runC E2 t = []) := Lib.hid (by rw [runC_at ⟨HPB.out.1, by have := HPB.out.2; omega⟩ (by rw [HRD2.out.eunt]; omega), HRD2.out.eunt, if_neg (by have := HPB.out.1; omega)])
              clear hnu
              go_wp2_with (first
                | (go_at_call 11; (with_reducible refine HC5.out.mono ?_); rintro e' w6 ⟨rfl, h6⟩
                   have H6 := Lib.hid h6
                   obtain ⟨j0, j1, j2, j3, j4, j5, j6, _, jl⟩ := msg_cells (h6.own HM5.out)
                   clear h6)
                | (go_at_call 11; (with_reducible refine (HC6.out _ H6.out).mono ?_); rintro e' w7 ⟨rfl, h7⟩; have H7 := Lib.hid h7; have HC7 := Lib.hid (h7.pU1 pcell_law HOD2.out t HT64.out); rw [HRC.out, HDL2.out] at HC7; clear h7)
                | (go_at_call 17; (with_reducible refine HC7.out.mono ?_); rintro e' w8 ⟨ra, rc, rfl, ho8, hb8, h8⟩; have H8 := Lib.hid h8; have HC8 := Lib.hid (same8_self ra ba dn rc dn bc D2.l w8 (by omega) (fresh_binds ho8) (HROW2.out.now h8)); clear ho8 hb8 h8)
                | (go_at_call 13; (with_reducible refine HC8.out.mono ?_); rintro e' w9 ⟨rfl, hb9⟩; have h9 := H8.out.below pcell_law pcell_law hb9; have HC9 := Lib.hid (h9.pU2 pcell_law HOE2.out t HT64.out); rw [HRE.out] at HC9; clear hb9 h9)
                | (go_at_call 17; (with_reducible refine HC9.out.mono ?_); rintro e' w10 ⟨sa, sc, rfl, _, _, h10⟩; have H10 := Lib.hid h10; clear h10))
              go_roundw
              case rel => exact ⟨i + 1, bs5, HU.out.1, HU.out.2, by go_num, by rw [HN.out, HUU.out], by rw [HN.out]; exact HROW3.out, by rw [HN.out, HNE.out]; exact H10.out⟩
              case measure => simp [intOf]; omega
            · have f5 : decide (t < U0) = false := decide_eq_false hnu
              have f6 : decide (U0 ≤ t) = true := decide_eq_true (by omega)
              have HRC : Hid (runC D2 t = []) := Lib.hid (by rw [runC_at ⟨HPB.out.1, by have := HPB.out.2; omega⟩ HRD2.out.unt, HUU.out, if_neg hnu])
              have HRE : Hid (runC E2 t = []) := Lib.hid (by rw [runC_at ⟨HPB.out.1, by have := HPB.out.2; omega⟩ (by rw [HRD2.out.eunt]; omega), HRD2.out.eunt, if_neg (by have := HPB.out.1; omega)])
              clear hnu
              go_wp2_with (first
                | (go_at_call 11; (with_reducible refine HC5.out.mono ?_); rintro e' w6 ⟨rfl, h6⟩
                   have H6 := Lib.hid h6
                   obtain ⟨j0, j1, j2, j3, j4, j5, j6, _, jl⟩ := msg_cells (h6.own HM5.out)
                   clear h6)
                | (go_at_call 11; (with_reducible refine (HC6.out _ H6.out).mono ?_); rintro e' w7 ⟨rfl, h7⟩; have H7 := Lib.hid h7; have HC7 := Lib.hid (h7.pU1 pcell_law HOD2.out t HT64.out); rw [HRC.out] at HC7; clear h7)
                | (go_at_call 17; (with_reducible refine HC7.out.mono ?_); rintro e' w8 ⟨ra, rc, rfl, _, _, h8⟩; have H8 := Lib.hid h8; have HC9 := Lib.hid (h8.pU2 pcell_law HOE2.out t HT64.out); rw [HRE.out] at HC9; clear h8)
                | (go_at_call 17; (with_reducible refine HC9.out.mono ?_); rintro e' w10 ⟨sa, sc, rfl, _, _, h10⟩; have H10 := Lib.hid h10; clear h10))
              go_roundw
              case rel => exact ⟨i + 1, bs5, HU.out.1, HU.out.2, by go_num, by rw [HN.out, HUU.out], by rw [HN.out]; exact HROW3.out, by rw [HN.out, HNE.out]; exact H10.out⟩
              case measure => simp [intOf]; omega
      · have h40' : ¬ (i : Int) < 60 := by omega
        have hii : (i : Int) < (len : Int) := by omega
        clear hri2
        go_wp2
        go_ret
        exact ⟨rfl, HH.out.to⟩
    · have hii : ¬ (i : Int) < (len : Int) := by omega
      clear hri2
      go_wp2
      go_ret
      exact ⟨rfl, HH.out.to⟩
theorem own : ownKnob Try.prog.godebug = none := by kernel_rfl
theorem laidOut : laidOutB Try.prog = true := by kernel_rfl

set_option maxRecDepth 100000 in
theorem lifted (os : Os) (started : os.Started) (H : Type) (enc : TypeId × Value → H) :
    ReturnsInHanded {} Try.checked os 6 .any (Rows.cellRunsSpec.pre6 enc Try.prog Try.f6 Rows.cellRunsRow.domain false) (Rows.cellRunsSpec.post enc Try.prog Try.f6 false true false false) := by
  refine returnsInHanded_of_change_sized (C := Try.checked) own started (by kernel_rfl) Try.func6
    (ChangeSpec.witness6 (enc := enc) (C := Try.checked) false ⟨#[], #[.slice none 0 0, .int .i64 0], []⟩ 8 (by kernel_rfl) (by kernel_rfl) (by kernel_rfl) (by kernel_rfl)) ?_
  intro W base args ds gs before hval0 hW _ hsz0 _
  have hsz : (DataW.weightsEach Try.prog (Try.f6.params.toList ++ Rows.cellRunsSpec.plain.varTypes Try.prog) (ds ++ gs)).all (· ≤ reachBytes) = true := hsz0
  have hval : ∀ (j : Nat) t v, Try.f6.params[j]? = some t → args[j]? = some v → Value.okWide Try.prog W .any base t v := hval0
  have hW' := hW
  obtain ⟨p, q, hA0, hV, rfl, hfz, hnd⟩ := hW
  have hA : DataW.TrodAll enc Try.prog W 0 (fun _ => true) true Try.f6.params.toList args.toList ds p := hA0
  rw [Try.params6] at hA hval hsz
  obtain ⟨v0, vs0, d0, ds0, p0, q0, hargs, rfl, rfl, h0, r0⟩ := trodAll_cons hA
  obtain ⟨v1, vs1, d1, ds1, p1, q1, rfl, rfl, rfl, h1, r1⟩ := trodAll_cons r0
  obtain ⟨rfl, rfl, rfl⟩ := trodAll_nil r1
  obtain rfl : args = #[v0, v1] := by cases args; simp_all
  obtain ⟨rfl, rfl⟩ := trodVars_none hV
  have k0 := h0
  have lt0 : ∀ x ∈ p0, x.block < W.heap.size := by obtain ⟨m, hm⟩ := k0; exact DataW.trod_lt m _ _ _ hm
  have k1 := h1
  have lt1 : ∀ x ∈ p1, x.block < W.heap.size := by obtain ⟨m, hm⟩ := k1; exact DataW.trod_lt m _ _ _ hm
  obtain ⟨a0, len0, cap0, rfl⟩ := okWide_slice Try.underlying23 (hval 0 23 v0 rfl rfl)
  obtain ⟨z0, b0⟩ := grants_of k0 (weights_at hsz (j := 0) (t := 23) rfl rfl)
  obtain ⟨a1, rfl, rfl, rfl, w1⟩ := open_int Try.underlying3 (hval 1 3 v1 rfl rfl) h1
  have b1 := in_of_wf w1
  clear hA0 hval0 hsz0 hsz
  refine (walk a0 len0 cap0 z0 a1 W b0 b1).mono fun e W' ⟨he, bel⟩ => ?_
  subst he
  exact ⟨_, rfl, _, _, _, [], _, [], hW', trodAll_mk1 (shut_bool Try.underlying4 _), (trodAll_cons_mk (Below.trod laidOut (by kernel_rfl) (of_decide_eq_true (by kernel_rfl)) k0 bel lt0) (trodAll_cons_mk (Below.trod laidOut (by kernel_rfl) (of_decide_eq_true (by kernel_rfl)) k1 bel lt1) trodAll_mk0)), rfl, bel.frame _, fun h => by cases h⟩

theorem over : Rows.cellRunsRow.holds Try.pinned (OpenSpec.ofChange Rows.cellRunsSpec) :=
  OpenClaim.holds_of_wide 6 Try.f6 rfl rfl rfl rfl rfl rfl rfl ⟨rfl, rfl, rfl, rfl, rfl⟩ rfl rfl rfl rfl rfl (by kernel_rfl) Try.func6 (by kernel_rfl)
    (of_decide_eq_true (by kernel_rfl)) (by unfold Func.isWrapper; first | (rw [if_pos (by decide +kernel)]; kernel_rfl) | (rw [if_neg (by decide +kernel)]; exact ⟨rfl, rfl⟩))
    (fun os started H enc _ => lifted os started H enc)

theorem proved : Rows.CellRunsSaid := over
end Go.Proofs.Ytbbogkmibiealaa.lawCRuns
