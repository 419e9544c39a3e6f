/-
  The statement CellTwice is proved for whatever raw grants: each message that comes a second time changes nothing, nor does one that comes again behind later ones. No condition.
-/
import Derived.Deep.DeepCutAuto
import Derived.Test.YtbbogkmibiealaaCcalls
import Derived.Test.YtbbogkmibiealaaOpen18
import Derived.Test.YtbbogkmibiealaaRows
namespace Go.Proofs.Ytbbogkmibiealaa.lawCTwice
open Go.ChangeShapes Go.WideShapes Go.ChangeAt Go.RowKit Gm

abbrev M (w wr : World) (p : Nat) (D : Ce) (q : Nat) (E : Ce) (bs : List (Nat × Obj)) : Prop := Held PCell PCell w wr p D q E bs
/-- Both tell the same. -/
theorem same_rep {W w9 w10 : World} {D2 : Ce} {ra sa : Option Addr} {dn rc sc : Nat} (hd : dn ≤ 64) (ho9 : w9.ownsRow W.heap.size 35 3 (.slice ra dn rc) dn (bdsV D2.l)) (hb10 : Below w9.heap.size w9 w10) (ho10 : w10.ownsRow w9.heap.size 35 3 (.slice sa dn sc) dn (bdsV D2.l)) :
    Calls Try.prog 14 #[msgV 2 D2.n D2.boot D2.epoch D2.ver D2.unt ra dn rc, msgV 2 D2.n D2.boot D2.epoch D2.ver D2.unt sa dn sc] w10 fun x w' => x = .returned (.bool true) ∧ Below w10.heap.size w10 w' :=
  (same16_any 2 D2.n D2.boot D2.epoch D2.ver D2.unt 2 D2.n D2.boot D2.epoch D2.ver D2.unt ra sa dn rc dn sc D2.l D2.l w10 (by omega) (later_binds ho9 hb10) (fresh_binds ho10)).mono fun x w' ⟨h1, h2⟩ => ⟨h1.trans (by simp), h2⟩
set_option maxRecDepth 100000 in
set_option maxHeartbeats 8000000 in
theorem walk (a : Option Addr) (len cap : Nat) (z : List GrE) (w : World) (h0 : GrantsAt w.heap.size w a len z) :
    Calls Try.prog 7 #[.slice a len cap] w fun e w' => e = .returned (.bool true) ∧ Below w.heap.size w w' := by
  have HZ := Lib.hid h0
  have hzl : z.length = len := h0.1
  have HZL := Lib.hid hzl
  have i0 : I64 0 := by unfold I64; omega
  have i1 : I64 1 := by unfold I64; omega
  have I0 := Lib.hid i0
  have I1 := Lib.hid i1
  have hlen : len ≤ 140737488351232 := h0.2.1
  have H0 := Lib.hid (Held.start (X := Ce) (Y := Ce) w (newC 0 0) (newC 0 0))
  obtain ⟨ms, hms⟩ : ∃ ms, z.map fitM = ms := ⟨_, rfl⟩
  have HMS := Lib.hid hms
  have HOK : Hid (∀ i, OkC (stN (ms.take i) (newC 0 1))) := Lib.hid fun i => st_ok (OkC.new 0 1 i0 i1) _
  clear h0 hzl i0 i1 hms
  go_enter Try.func7, Try.ntmps7
  go_upto_region 2 with (go_at_call 8; with_reducible refine (awake_any w).mono ?_; rintro e w1 ⟨rfl, hb1⟩; have H1 := Lib.hid (H0.out.below nobody_law nobody_law hb1); clear hb1)
  go_upto_region 3 with (go_at_call 9; refine (H1.out.pNew1 nobody_law 0 1 I0.out I1.out).mono ?_; rintro e w2 ⟨p, rfl, h2⟩; have H2 := Lib.hid h2; clear h2)
  go_upto_region 4 with (go_at_call 9; refine (H2.out.pNew2 pcell_law 0 1 I0.out I1.out).mono ?_; rintro e w3 ⟨q, rfl, h3⟩; have H3 : Hid (M w w3 p (newC 0 1) q (newC 0 1) []) := Lib.hid h3; clear h3)
  clear H0 H1 H2
  go_wp2
  go_loopw [6] (fun iv wr => ∃ i bs, i ≤ len ∧ i ≤ 40 ∧ iv = .int .i64 ((i : Nat) : Int) ∧ M w wr p (stN (ms.take i) (newC 0 1)) q (stN (ms.take i) (newC 0 1)) bs) (fun iv _ => 41 - (intOf iv).toNat)
  case atStart => exact ⟨0, [], Nat.zero_le _, Nat.zero_le _, rfl, H3.out⟩
  case round =>
    obtain ⟨i, bs, hi, hi40, rfl, hh⟩ := hrel
    clear H3
    have HH := Lib.hid hh
    have hok := HOK.out i
    obtain ⟨D, hD⟩ : ∃ D, stN (ms.take i) (newC 0 1) = D := ⟨_, rfl⟩
    rw [hD] at HH hok
    have HD := Lib.hid hD
    have HOD := Lib.hid hok
    clear hh hD hok
    by_cases hlt : i < len
    · by_cases h40 : i < 40
      · have hii : (i : Int) < (len : Int) := by omega
        have hii40 : (i : Int) < 40 := by omega
        have hi0 : (0 : Int) ≤ (i : Int) := by omega
        obtain ⟨b, off, rfl, hb, hil, hx, c0, c1, c2, c3, c4, c5, ka, kl, kc, c6, hk⟩ := (HZ.out.below HH.out.to).get hlt
        have hbw : b < wr.heap.size := Nat.lt_of_lt_of_le hb HH.out.to.size
        obtain ⟨x, hxe⟩ : ∃ x, z[i] = x := ⟨_, rfl⟩
        rw [hxe] at hx c0 c1 c2 c3 c4 c5 hk
        obtain ⟨⟨k, c, bb, e, v, u, l⟩, hm⟩ : ∃ m, fitM x = m := ⟨_, rfl⟩
        have hmo := fitM_ok x
        rw [hm] at hmo
        have hml : l.length ≤ 64 := by
          have h1 := (fitL_few x.l).1
          unfold fitM at hm
          injection hm with _ _ _ _ _ _ e7
          rw [e7] at h1
          omega
        have hms1 : ms[i]? = some ⟨k, c, bb, e, v, u, l⟩ := by rw [← HMS.out, List.getElem?_map, List.getElem?_eq_getElem hil, hxe, ← hm]; rfl
        have HMI := Lib.hid hms1
        have HFIT := Lib.hid (HH.out.fit pcell_law pcell_law x (kc := kc) hx hk hm)
        have HMO := Lib.hid hmo
        have HN : Hid (stN (ms.take (i + 1)) (newC 0 1) = recvC D ⟨k, c, bb, e, v, u, l⟩) := Lib.hid (by
          rw [List.take_add_one, hms1, Option.toList_some, st_snoc, HD.out])
        have HSTALE := Lib.hid (stale_now D ⟨k, c, bb, e, v, u, l⟩)
        have HOD2 := Lib.hid (HOD.out.recv ⟨k, c, bb, e, v, u, l⟩)
        obtain ⟨D2, hD2⟩ : ∃ D2, recvC D ⟨k, c, bb, e, v, u, l⟩ = D2 := ⟨_, rfl⟩
        rw [hD2] at HN HSTALE HOD2
        have HD2 := Lib.hid hD2
        clear hD2
        obtain ⟨n, hn⟩ : ∃ n, l.length = n := ⟨_, rfl⟩
        rw [hn] at HFIT hml
        have HLN := Lib.hid hn
        obtain ⟨x1, hx1⟩ : ∃ n, x.kind = n := ⟨_, rfl⟩
        rw [hx1] at c0 HFIT
        obtain ⟨x2, hx2⟩ : ∃ n, x.cell = n := ⟨_, rfl⟩
        rw [hx2] at c1 HFIT
        obtain ⟨x3, hx3⟩ : ∃ n, x.boot = n := ⟨_, rfl⟩
        rw [hx3] at c2 HFIT
        obtain ⟨x4, hx4⟩ : ∃ n, x.epoch = n := ⟨_, rfl⟩
        rw [hx4] at c3 HFIT
        obtain ⟨x5, hx5⟩ : ∃ n, x.ver = n := ⟨_, rfl⟩
        rw [hx5] at c4 HFIT
        obtain ⟨x6, hx6⟩ : ∃ n, x.unt = n := ⟨_, rfl⟩
        rw [hx6] at c5 HFIT
        clear hx hk hxe hm hmo hms1 hil hb hn hx1 hx2 hx3 hx4 hx5 hx6
        have HSAME2 : Hid (recvC D2 ⟨k, c, bb, e, v, u, l⟩ = D2) := Lib.hid (recv_same HSTALE.out)
        have HU : Hid (i + 1 ≤ len ∧ i + 1 ≤ 40) := Lib.hid ⟨hlt, h40⟩
        have hd64 : D2.l.length ≤ 64 := HOD2.out.few.1
        obtain ⟨dn, hdn⟩ : ∃ n, D2.l.length = n := ⟨_, rfl⟩
        have HDN := Lib.hid hdn
        rw [hdn] at hd64
        have HD64 := Lib.hid hd64
        clear hdn hlt h40 hi hi40
        go_upto_region 10 with (go_at_call 19; (with_reducible refine HFIT.out.mono ?_); rintro e' w4 ⟨fa, fc, cs, rfl, h4, hs4, hr4⟩
                                have h5 := h4.push pcell_law pcell_law (msgO k c bb e v u fa n fc)
                                have H5 := Lib.hid h5
                                have HS5 : Hid (∀ y ∈ bs, y ∈ (w4.heap.size, msgO k c bb e v u fa n fc) :: cs) := Lib.hid (fun y hy => List.mem_cons_of_mem _ (hs4 y hy))
                                have HR5 : Hid (RowK ((w4.heap.size, msgO k c bb e v u fa n fc) :: cs) (.slice fa n fc) l) := Lib.hid (hr4.more fun y hy => List.mem_cons_of_mem _ hy)
                                clear h4 hs4 hr4 h5)
        obtain ⟨W5, hW5⟩ : ∃ W, w4.alloc (msgO k c bb e v u fa n fc) = W := ⟨_, rfl⟩
        rw [hW5] at H5 ⊢
        obtain ⟨bs5, hbs5⟩ : ∃ l, (w4.heap.size, msgO k c bb e v u fa n fc) :: cs = l := ⟨_, rfl⟩
        have hm5 : (w4.heap.size, msgO k c bb e v u fa n fc) ∈ bs5 := by rw [← hbs5]; exact List.mem_cons_self ..
        rw [hbs5] at H5 HR5 HS5
        obtain ⟨G, hG⟩ : ∃ g, w4.heap.size = g := ⟨_, rfl⟩
        rw [hG] at hm5 ⊢
        have HM5 := Lib.hid hm5
        obtain ⟨g0, g1, g2, g3, g4, g5, g6, _, gl⟩ := msg_cells (H5.out.own hm5)
        clear hW5 hbs5 hG hm5 HFIT
        go_upto_region 11 with (go_at_call 11; (with_reducible refine (H5.out.pR1 pcell_law HOD.out k c bb e v u HMO.out HR5.out).mono ?_); rintro e' w6 ⟨rfl, h6⟩
                                rw [HD2.out] at h6
                                have H6 := Lib.hid h6
                                obtain ⟨g0', g1', g2', g3', g4', g5', g6', _, gl'⟩ := msg_cells (h6.own HM5.out)
                                clear h6)
        clear g0 g1 g2 g3 g4 g5 g6 gl
        go_upto_region 12 with (go_at_call 11; (with_reducible refine (H6.out.pR2 pcell_law HOD.out k c bb e v u HMO.out HR5.out).mono ?_); rintro e' w7 ⟨rfl, h7⟩
                                rw [HD2.out] at h7
                                have H7 := Lib.hid h7
                                obtain ⟨g0, g1, g2, g3, g4, g5, g6, _, gl⟩ := msg_cells (h7.own HM5.out)
                                clear h7)
        clear g0' g1' g2' g3' g4' g5' g6' gl'
        have HC8 : Hid (Calls Try.prog 11 #[.pointer (some ⟨q, 0, none⟩), msgV k c bb e v u fa n fc] w7 fun x w' => x = .returned (.bool false) ∧ M w w' p D2 q D2 bs5) := Lib.hid (by
          have h := H7.out.pR2 pcell_law HOD2.out k c bb e v u HMO.out HR5.out
          rw [HSTALE.out, HSAME2.out] at h
          exact h)
        go_wp2_with (first
          | (go_at_call 11; (with_reducible refine HC8.out.mono ?_); rintro e' w8 ⟨rfl, h8⟩; have H8 := Lib.hid h8; have HC9 := Lib.hid (h8.pP1 pcell_law HOD2.out); rw [HDN.out] at HC9; clear h8)
          | (go_at_call 15; (with_reducible refine HC9.out.mono ?_); rintro e' w9 ⟨ra, rc, rfl, ho9, hb9, h9⟩; have H9 := Lib.hid h9; have HO9 := Lib.hid ho9; have HC10 := Lib.hid (h9.pP2 pcell_law HOD2.out); rw [HDN.out] at HC10; clear ho9 hb9 h9)
          | (go_at_call 15; (with_reducible refine HC10.out.mono ?_); rintro e' w10 ⟨sa, sc, rfl, ho10, hb10, h10⟩; have H10 := Lib.hid h10; have HC11 := Lib.hid (same_rep HD64.out HO9.out hb10 ho10); clear ho10 hb10 h10)
          | (go_at_call 14; (with_reducible refine HC11.out.mono ?_); rintro e' w11 ⟨rfl, hb11⟩; have H11 := Lib.hid (H10.out.below pcell_law pcell_law hb11); clear hb11))
        go_roundw
        case rel => exact ⟨i + 1, bs5, HU.out.1, HU.out.2, by go_num, by rw [HN.out]; exact H11.out⟩
        case measure => simp [intOf]; omega
      · have h40' : ¬ (i : Int) < 40 := by omega
        have hii : (i : Int) < (len : Int) := by omega
        have hd64 : D.l.length ≤ 64 := HOD.out.few.1
        obtain ⟨dn, hdn⟩ : ∃ n, D.l.length = n := ⟨_, rfl⟩
        have HDN := Lib.hid hdn
        rw [hdn] at hd64
        have HD64 := Lib.hid hd64
        have HOLD : Hid (∀ m ∈ ms.take i, tookC D m = false) := Lib.hid fun m hm => by rw [← HD.out]; exact st_stale _ _ hm
        clear hdn
        go_wp2
        go_loopw [8] (fun jv wx => ∃ j cs, j ≤ i ∧ jv = .int .i64 ((j : Nat) : Int) ∧ M w wx p D q D cs) (fun jv _ => 41 - (intOf jv).toNat)
        case atStart => exact ⟨0, bs, Nat.zero_le _, rfl, HH.out⟩
        case round =>
          clear HH
          obtain ⟨j, bs, hj, rfl, hh⟩ := hrel
          have HH := Lib.hid hh
          clear hh
          by_cases hji : j < i
          · have hlt : j < len := by omega
            have hjj : (j : Int) < (len : Int) := by omega
            have hj40 : (j : Int) < 40 := by omega
            have hj0 : (0 : Int) ≤ (j : Int) := by omega
            obtain ⟨b, off, rfl, hb, hil, hx, c0, c1, c2, c3, c4, c5, ka, kl, kc, c6, hk⟩ := (HZ.out.below HH.out.to).get hlt
            have hbw : b < wr.heap.size := Nat.lt_of_lt_of_le hb HH.out.to.size
            obtain ⟨x, hxe⟩ : ∃ x, z[j] = x := ⟨_, rfl⟩
            rw [hxe] at hx c0 c1 c2 c3 c4 c5 hk
            obtain ⟨⟨k, c, bb, e, v, u, l⟩, hm⟩ : ∃ m, fitM x = m := ⟨_, rfl⟩
            have hmo := fitM_ok x
            rw [hm] at hmo
            have hml : l.length ≤ 64 := by
              have h1 := (fitL_few x.l).1
              unfold fitM at hm
              injection hm with _ _ _ _ _ _ e7
              rw [e7] at h1
              omega
            have hms1 : ms[j]? = some ⟨k, c, bb, e, v, u, l⟩ := by rw [← HMS.out, List.getElem?_map, List.getElem?_eq_getElem hil, hxe, ← hm]; rfl
            have HMI := Lib.hid hms1
            have HFIT := Lib.hid (HH.out.fit pcell_law pcell_law x (kc := kc) hx hk hm)
            have HMO := Lib.hid hmo
            obtain ⟨n, hn⟩ : ∃ n, l.length = n := ⟨_, rfl⟩
            rw [hn] at HFIT hml
            have HLN := Lib.hid hn
            obtain ⟨x1, hx1⟩ : ∃ n, x.kind = n := ⟨_, rfl⟩
            rw [hx1] at c0 HFIT
            obtain ⟨x2, hx2⟩ : ∃ n, x.cell = n := ⟨_, rfl⟩
            rw [hx2] at c1 HFIT
            obtain ⟨x3, hx3⟩ : ∃ n, x.boot = n := ⟨_, rfl⟩
            rw [hx3] at c2 HFIT
            obtain ⟨x4, hx4⟩ : ∃ n, x.epoch = n := ⟨_, rfl⟩
            rw [hx4] at c3 HFIT
            obtain ⟨x5, hx5⟩ : ∃ n, x.ver = n := ⟨_, rfl⟩
            rw [hx5] at c4 HFIT
            obtain ⟨x6, hx6⟩ : ∃ n, x.unt = n := ⟨_, rfl⟩
            rw [hx6] at c5 HFIT
            clear hx hk hxe hm hmo hms1 hil hb hn hx1 hx2 hx3 hx4 hx5 hx6
            have HV : Hid (j + 1 ≤ i) := Lib.hid hji
            have hst : tookC D ⟨k, c, bb, e, v, u, l⟩ = false := HOLD.out _ (by
              refine List.mem_iff_getElem?.2 ⟨j, ?_⟩
              rw [List.getElem?_take_of_lt hji]
              exact HMI.out)
            have HST := Lib.hid hst
            have HSM : Hid (recvC D ⟨k, c, bb, e, v, u, l⟩ = D) := Lib.hid (recv_same hst)
            clear hst hlt hji
            go_wp2_with (first
              | (go_at_call 19; (with_reducible refine HFIT.out.mono ?_); rintro e' w4 ⟨fa, fc, cs, rfl, h4, hs4, hr4⟩
                 have HC5 : Hid (Calls Try.prog 11 #[.pointer (some ⟨q, 0, none⟩), msgV k c bb e v u fa n fc] w4 fun x w' => x = .returned (.bool false) ∧ M w w' p D q D cs) := Lib.hid (by
                   have h := h4.pR2 pcell_law HOD.out k c bb e v u HMO.out hr4
                   rw [HST.out, HSM.out] at h
                   exact h)
                 clear h4 hs4 hr4)
              | (go_at_call 11; (with_reducible refine HC5.out.mono ?_); rintro e' w5 ⟨rfl, h5⟩; have H5 := Lib.hid h5; clear h5))
            go_roundw
            case rel => exact ⟨j + 1, cs, HV.out, by go_num, H5.out⟩
            case measure => simp [intOf]; omega
          · have hjn : j = i := by omega
            have hjx : (j : Int) < (len : Int) := by omega
            have hjy : ¬ (j : Int) < 40 := by omega
            have HC9 := Lib.hid (HH.out.pP1 pcell_law HOD.out)
            rw [HDN.out] at HC9
            clear hjn hji
            go_wp2_with (first
              | (go_at_call 15; (with_reducible refine HC9.out.mono ?_); rintro e' w9 ⟨ra, rc, rfl, ho9, hb9, h9⟩; have H9 := Lib.hid h9; have HO9 := Lib.hid ho9; have HC10 := Lib.hid (h9.pP2 pcell_law HOD.out); rw [HDN.out] at HC10; clear ho9 hb9 h9)
              | (go_at_call 15; (with_reducible refine HC10.out.mono ?_); rintro e' w10 ⟨sa, sc, rfl, ho10, hb10, h10⟩; have H10 := Lib.hid h10; have HC11 := Lib.hid (same_rep HD64.out HO9.out hb10 ho10); clear ho10 hb10 h10)
              | (go_at_call 14; (with_reducible refine HC11.out.mono ?_); rintro e' w11 ⟨rfl, hb11⟩; have H11 := Lib.hid (H10.out.below pcell_law pcell_law hb11); clear hb11))
            go_ret
            exact ⟨rfl, H11.out.to⟩
    · have hii : ¬ (i : Int) < (len : Int) := by omega
      have hd64 : D.l.length ≤ 64 := HOD.out.few.1
      obtain ⟨dn, hdn⟩ : ∃ n, D.l.length = n := ⟨_, rfl⟩
      have HDN := Lib.hid hdn
      rw [hdn] at hd64
      have HD64 := Lib.hid hd64
      have HOLD : Hid (∀ m ∈ ms.take i, tookC D m = false) := Lib.hid fun m hm => by rw [← HD.out]; exact st_stale _ _ hm
      clear hdn
      go_wp2
      go_loopw [8] (fun jv wx => ∃ j cs, j ≤ i ∧ jv = .int .i64 ((j : Nat) : Int) ∧ M w wx p D q D cs) (fun jv _ => 41 - (intOf jv).toNat)
      case atStart => exact ⟨0, bs, Nat.zero_le _, rfl, HH.out⟩
      case round =>
        clear HH
        obtain ⟨j, bs, hj, rfl, hh⟩ := hrel
        have HH := Lib.hid hh
        clear hh
        by_cases hji : j < i
        · have hlt : j < len := by omega
          have hjj : (j : Int) < (len : Int) := by omega
          have hj40 : (j : Int) < 40 := by omega
          have hj0 : (0 : Int) ≤ (j : Int) := by omega
          obtain ⟨b, off, rfl, hb, hil, hx, c0, c1, c2, c3, c4, c5, ka, kl, kc, c6, hk⟩ := (HZ.out.below HH.out.to).get hlt
          have hbw : b < wr.heap.size := Nat.lt_of_lt_of_le hb HH.out.to.size
          obtain ⟨x, hxe⟩ : ∃ x, z[j] = x := ⟨_, rfl⟩
          rw [hxe] at hx c0 c1 c2 c3 c4 c5 hk
          obtain ⟨⟨k, c, bb, e, v, u, l⟩, hm⟩ : ∃ m, fitM x = m := ⟨_, rfl⟩
          have hmo := fitM_ok x
          rw [hm] at hmo
          have hml : l.length ≤ 64 := by
            have h1 := (fitL_few x.l).1
            unfold fitM at hm
            injection hm with _ _ _ _ _ _ e7
            rw [e7] at h1
            omega
          have hms1 : ms[j]? = some ⟨k, c, bb, e, v, u, l⟩ := by rw [← HMS.out, List.getElem?_map, List.getElem?_eq_getElem hil, hxe, ← hm]; rfl
          have HMI := Lib.hid hms1
          have HFIT := Lib.hid (HH.out.fit pcell_law pcell_law x (kc := kc) hx hk hm)
          have HMO := Lib.hid hmo
          obtain ⟨n, hn⟩ : ∃ n, l.length = n := ⟨_, rfl⟩
          rw [hn] at HFIT hml
          have HLN := Lib.hid hn
          obtain ⟨x1, hx1⟩ : ∃ n, x.kind = n := ⟨_, rfl⟩
          rw [hx1] at c0 HFIT
          obtain ⟨x2, hx2⟩ : ∃ n, x.cell = n := ⟨_, rfl⟩
          rw [hx2] at c1 HFIT
          obtain ⟨x3, hx3⟩ : ∃ n, x.boot = n := ⟨_, rfl⟩
          rw [hx3] at c2 HFIT
          obtain ⟨x4, hx4⟩ : ∃ n, x.epoch = n := ⟨_, rfl⟩
          rw [hx4] at c3 HFIT
          obtain ⟨x5, hx5⟩ : ∃ n, x.ver = n := ⟨_, rfl⟩
          rw [hx5] at c4 HFIT
          obtain ⟨x6, hx6⟩ : ∃ n, x.unt = n := ⟨_, rfl⟩
          rw [hx6] at c5 HFIT
          clear hx hk hxe hm hmo hms1 hil hb hn hx1 hx2 hx3 hx4 hx5 hx6
          have HV : Hid (j + 1 ≤ i) := Lib.hid hji
          have hst : tookC D ⟨k, c, bb, e, v, u, l⟩ = false := HOLD.out _ (by
            refine List.mem_iff_getElem?.2 ⟨j, ?_⟩
            rw [List.getElem?_take_of_lt hji]
            exact HMI.out)
          have HST := Lib.hid hst
          have HSM : Hid (recvC D ⟨k, c, bb, e, v, u, l⟩ = D) := Lib.hid (recv_same hst)
          clear hst hlt hji
          go_wp2_with (first
            | (go_at_call 19; (with_reducible refine HFIT.out.mono ?_); rintro e' w4 ⟨fa, fc, cs, rfl, h4, hs4, hr4⟩
               have HC5 : Hid (Calls Try.prog 11 #[.pointer (some ⟨q, 0, none⟩), msgV k c bb e v u fa n fc] w4 fun x w' => x = .returned (.bool false) ∧ M w w' p D q D cs) := Lib.hid (by
                 have h := h4.pR2 pcell_law HOD.out k c bb e v u HMO.out hr4
                 rw [HST.out, HSM.out] at h
                 exact h)
               clear h4 hs4 hr4)
            | (go_at_call 11; (with_reducible refine HC5.out.mono ?_); rintro e' w5 ⟨rfl, h5⟩; have H5 := Lib.hid h5; clear h5))
          go_roundw
          case rel => exact ⟨j + 1, cs, HV.out, by go_num, H5.out⟩
          case measure => simp [intOf]; omega
        · have hjn : j = i := by omega
          have hjx : ¬ (j : Int) < (len : Int) := by omega
          have HC9 := Lib.hid (HH.out.pP1 pcell_law HOD.out)
          rw [HDN.out] at HC9
          clear hjn hji
          go_wp2_with (first
            | (go_at_call 15; (with_reducible refine HC9.out.mono ?_); rintro e' w9 ⟨ra, rc, rfl, ho9, hb9, h9⟩; have H9 := Lib.hid h9; have HO9 := Lib.hid ho9; have HC10 := Lib.hid (h9.pP2 pcell_law HOD.out); rw [HDN.out] at HC10; clear ho9 hb9 h9)
            | (go_at_call 15; (with_reducible refine HC10.out.mono ?_); rintro e' w10 ⟨sa, sc, rfl, ho10, hb10, h10⟩; have H10 := Lib.hid h10; have HC11 := Lib.hid (same_rep HD64.out HO9.out hb10 ho10); clear ho10 hb10 h10)
            | (go_at_call 14; (with_reducible refine HC11.out.mono ?_); rintro e' w11 ⟨rfl, hb11⟩; have H11 := Lib.hid (H10.out.below pcell_law pcell_law hb11); clear hb11))
          go_ret
          exact ⟨rfl, H11.out.to⟩
theorem own : ownKnob Try.prog.godebug = none := by kernel_rfl
theorem laidOut : laidOutB Try.prog = true := by kernel_rfl

set_option maxRecDepth 100000 in
theorem lifted (os : Os) (started : os.Started) (H : Type) (enc : TypeId × Value → H) :
    ReturnsInHanded {} Try.checked os 7 .any (Rows.cellTwiceSpec.pre6 enc Try.prog Try.f7 Rows.cellTwiceRow.domain false) (Rows.cellTwiceSpec.post enc Try.prog Try.f7 false true false false) := by
  refine returnsInHanded_of_change_sized (C := Try.checked) own started (by kernel_rfl) Try.func7
    (ChangeSpec.witness6 (enc := enc) (C := Try.checked) false ⟨#[], #[.slice none 0 0], []⟩ 8 (by kernel_rfl) (by kernel_rfl) (by kernel_rfl) (by kernel_rfl)) ?_
  intro W base args ds gs before hval0 hW _ hsz0 _
  have hsz : (DataW.weightsEach Try.prog (Try.f7.params.toList ++ Rows.cellTwiceSpec.plain.varTypes Try.prog) (ds ++ gs)).all (· ≤ reachBytes) = true := hsz0
  have hval : ∀ (j : Nat) t v, Try.f7.params[j]? = some t → args[j]? = some v → Value.okWide Try.prog W .any base t v := hval0
  have hW' := hW
  obtain ⟨p, q, hA0, hV, rfl, hfz, hnd⟩ := hW
  have hA : DataW.TrodAll enc Try.prog W 0 (fun _ => true) true Try.f7.params.toList args.toList ds p := hA0
  rw [Try.params7] at hA hval hsz
  obtain ⟨v0, vs0, d0, ds0, p0, q0, hargs, rfl, rfl, h0, r0⟩ := trodAll_cons hA
  obtain ⟨rfl, rfl, rfl⟩ := trodAll_nil r0
  obtain rfl : args = #[v0] := by cases args; simp_all
  obtain ⟨rfl, rfl⟩ := trodVars_none hV
  have k0 := h0
  have lt0 : ∀ x ∈ p0, x.block < W.heap.size := by obtain ⟨m, hm⟩ := k0; exact DataW.trod_lt m _ _ _ hm
  obtain ⟨a0, len0, cap0, rfl⟩ := okWide_slice Try.underlying23 (hval 0 23 v0 rfl rfl)
  obtain ⟨z0, b0⟩ := grants_of k0 (weights_at hsz (j := 0) (t := 23) rfl rfl)
  clear hA0 hval0 hsz0 hsz
  refine (walk a0 len0 cap0 z0 W b0).mono fun e W' ⟨he, bel⟩ => ?_
  subst he
  exact ⟨_, rfl, _, _, _, [], _, [], hW', trodAll_mk1 (shut_bool Try.underlying4 _), (trodAll_cons_mk (Below.trod laidOut (by kernel_rfl) (of_decide_eq_true (by kernel_rfl)) k0 bel lt0) trodAll_mk0), rfl, bel.frame _, fun h => by cases h⟩

theorem over : Rows.cellTwiceRow.holds Try.pinned (OpenSpec.ofChange Rows.cellTwiceSpec) :=
  OpenClaim.holds_of_wide 7 Try.f7 rfl rfl rfl rfl rfl rfl rfl ⟨rfl, rfl, rfl, rfl, rfl⟩ rfl rfl rfl rfl rfl (by kernel_rfl) Try.func7 (by kernel_rfl)
    (of_decide_eq_true (by kernel_rfl)) (by unfold Func.isWrapper; first | (rw [if_pos (by decide +kernel)]; kernel_rfl) | (rw [if_neg (by decide +kernel)]; exact ⟨rfl, rfl⟩))
    (fun os started H enc _ => lifted os started H enc)

theorem proved : Rows.CellTwiceSaid := over
end Go.Proofs.Ytbbogkmibiealaa.lawCTwice
