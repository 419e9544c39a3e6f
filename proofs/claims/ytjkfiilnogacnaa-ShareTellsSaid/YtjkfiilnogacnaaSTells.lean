/-
  The statement ShareTells is proved for whatever is wanted, held, aimed at and allowed: it is shared and trimmed as the document says, and what is handed in stays. No condition.
-/
import Derived.Deep.QuietTactic
import Derived.Deep.AppendLies
import Derived.Deep.DeepCutAuto
import Derived.Test.YtjkfiilnogacnaaQshare
import Derived.Test.YtjkfiilnogacnaaQtrim
import Derived.Test.YtjkfiilnogacnaaOpen15
import Derived.Test.YtjkfiilnogacnaaRows
namespace Go.Proofs.Ytjkfiilnogacnaa.lawSTells
open Go.ChangeShapes Go.WideShapes Go.ChangeAt Go.RowKit Gm

theorem ints_self (a b : Option Addr) (la ca cb : Nat) (r : List Int) (w : World) (hlen : la ≤ 1048576) (ha : KeepB w.heap.size w a la r) (hb : KeepB w.heap.size w b la r) :
    Calls Try.prog 14 #[.slice a la ca, .slice b la cb] w fun e w' => e = .returned (.bool true) ∧ Below w.heap.size w w' :=
  (ints_any a b la ca la cb r r w hlen ha hb).mono (by rintro e w' ⟨rfl, h⟩; exact ⟨by simp, h⟩)
theorem keep_i64 {B : Nat} {W : World} {a : Option Addr} {len : Nat} {l : List Int} (h : KeepB B W a len l) : ∀ x ∈ l, I64 x := fun x hx => by
  obtain ⟨_, b, off, _, h2⟩ := h
  obtain ⟨i, hi, rfl⟩ := List.getElem_of_mem hx
  exact (h2 i hi).2.2
theorem bindsB_to {B : Nat} {W W' : World} {a : Option Addr} {len : Nat} {l : List Bd} (h : BindsAt W (· < B) a len l) (hb : Below B W W') (hB : B ≤ W'.heap.size) : BindsAt W' (· < W'.heap.size) a len l :=
  (h.keep fun b hl => hb.block b hl).imp fun _ hl => Nat.lt_of_lt_of_le hl hB

set_option maxRecDepth 100000 in
set_option maxHeartbeats 8000000 in
theorem walk (want : Int) (a1 : Option Addr) (l1 c1 : Nat) (held : List Int) (a2 : Option Addr) (l2 c2 : Nat) (targ : List Int) (a3 : Option Addr) (l3 c3 : Nat) (t : List Bd) (a4 : Option Addr) (l4 c4 : Nat) (last : List Bd) (a5 : Option Addr) (l5 c5 : Nat) (works : List Bs) (a6 : Option Addr) (l6 c6 : Nat) (allowed : List Int) (w : World)
    (hw : I64 want) (h1 : KeepB w.heap.size w a1 l1 held) (h2 : KeepB w.heap.size w a2 l2 targ) (h3 : BindsB w.heap.size w a3 l3 t) (h4 : BindsB w.heap.size w a4 l4 last) (h5 : NamesB w.heap.size w a5 l5 works) (h6 : KeepB w.heap.size w a6 l6 allowed) :
    Calls Try.prog 3 #[.int .i64 want, .slice a1 l1 c1, .slice a2 l2 c2, .slice a3 l3 c3, .slice a4 l4 c4, .slice a5 l5 c5, .slice a6 l6 c6] w fun e w' => e = .returned (.bool true) ∧ Below w.heap.size w w' := by
  by_cases h100 : l1 ≤ 100 ∧ l3 ≤ 100 ∧ l4 ≤ 100 ∧ l5 ≤ 100
  · obtain ⟨b1, b3, b4, b5⟩ := h100
    have HW := Lib.hid hw
    have H1 := Lib.hid h1
    have H2 := Lib.hid h2
    have H3 := Lib.hid h3.binds
    have H4 := Lib.hid h4.binds
    have H5 := Lib.hid h5.names
    have H6 := Lib.hid h6
    have HO3 := Lib.hid (h3.okL (by omega))
    have HO4 := Lib.hid (h4.okL (by omega))
    have HL5 : Hid (OkW works) := Lib.hid (h5.okW (by omega))
    have HSl : Hid ((shareN want held targ).length ≤ 1048576) := Lib.hid (by have := shareN_len want held targ; omega)
    have HTl : Hid ((trimN t last works allowed).length ≤ 1048576) := Lib.hid (by
      have h := outN_len t (partN (allowN works allowed) t last)
      have := h3.1
      unfold trimN
      split
      · omega
      · exact Nat.zero_le _)
    have HSb : Hid (∀ x ∈ shareN want held targ, I64 x) := Lib.hid (fun x hx => by have := share_bd _ _ _ x hx; unfold I64; omega)
    obtain ⟨SH, hSH⟩ : ∃ x, shareN want held targ = x := ⟨_, rfl⟩
    obtain ⟨TR, hTR⟩ : ∃ x, trimN t last works allowed = x := ⟨_, rfl⟩
    rw [hSH] at HSl HSb
    rw [hTR] at HTl
    have HSH := Lib.hid hSH
    have HTR := Lib.hid hTR
    have d1 : decide ((100 : Int) < (l1 : Int)) = false := decide_eq_false (by omega)
    have d3 : decide ((100 : Int) < (l3 : Int)) = false := decide_eq_false (by omega)
    have d4 : decide ((100 : Int) < (l4 : Int)) = false := decide_eq_false (by omega)
    have d5 : decide ((100 : Int) < (l5 : Int)) = false := decide_eq_false (by omega)
    have BB1 := Lib.hid b1
    have BB3 := Lib.hid b3
    clear h1 h2 h3 h4 h5 h6 hw hSH hTR b1 b3 b4 b5
    go_enter Try.func3, Try.ntmps3
    go_upto_region 4 with (go_at_call 9; with_reducible refine (awake_any w).mono ?_; rintro e w1 ⟨rfl, hb1⟩; have HB1 := Lib.hid hb1; clear hb1)
    have HK1 := Lib.hid (keep_to H1.out HB1.out (Nat.le_refl _))
    have HK2 := Lib.hid (keep_to H2.out HB1.out (Nat.le_refl _))
    have HK6 := Lib.hid (keep_to H6.out HB1.out (Nat.le_refl _))
    have HX3 := Lib.hid (bindsB_to H3.out HB1.out HB1.out.size)
    have HX4 := Lib.hid (bindsB_to H4.out HB1.out HB1.out.size)
    have HX5 := Lib.hid (names_up H5.out HB1.out)
    clear H1 H2 H3 H4 H5 H6
    obtain ⟨hv, w2, hr2, ho2, hb2⟩ := append_k (c := c1) HK1.out (Nat.le_trans BB1.out (by omega)) 22
    have HR2 := Lib.hid hr2
    have HB2 := Lib.hid hb2
    obtain ⟨ha, hc, e2, _, hk2⟩ := keep_row ho2 (keep_i64 HK1.out)
    subst e2
    have HKO := Lib.hid hk2
    clear hr2 ho2 hb2 hk2
    go_upto_region 5 with (at_builtin; refine wpList_append_eq (by rfl) (.const (.slice none 0 0)) (.tmp 42) 22 22 (by rfl) _ _ _ _ (by rfl) (by rfl) HR2.out ?_)
    obtain ⟨bv, w3, hr3, ho3, hb3⟩ := append_b (c := c3) (binds_up HX3.out HB2.out) (Nat.le_trans BB3.out (by omega)) 23
    have HR3 := Lib.hid hr3
    have HB3 := Lib.hid hb3
    obtain ⟨ba, bc, e3, _, hk3⟩ := row_binds ho3
    subst e3
    have HBO := Lib.hid hk3
    have HB13 := Lib.hid (bt HB2.out hb3)
    clear hr3 ho3 hb3 hk3 HR2
    go_upto_region 6 with (at_builtin; refine wpList_append_eq (by rfl) (.const (.slice none 0 0)) (.tmp 44) 23 23 (by rfl) _ _ _ _ (by rfl) (by rfl) HR3.out ?_)
    have HO := Lib.hid (keep_to HKO.out HB3.out (Nat.le_refl _))
    have HY1 := Lib.hid (keep_to HK1.out HB13.out (Nat.le_refl _))
    have HY2 := Lib.hid (keep_to HK2.out HB13.out (Nat.le_refl _))
    have HY6 := Lib.hid (keep_to HK6.out HB13.out (Nat.le_refl _))
    have HY3 := Lib.hid (binds_up HX3.out HB13.out)
    have HY4 := Lib.hid (binds_up HX4.out HB13.out)
    have HY5 := Lib.hid (names_up HX5.out HB13.out)
    have HBW := Lib.hid (bt HB1.out HB13.out)
    clear HR3 HKO HK1 HK2 HK6 HX3 HX4 HX5 HB1 HB2 HB3 HB13
    go_upto_region 10 with (first
      | (go_at_call 10; (have hc := share_any want ha l1 hc held a2 l2 c2 targ w3 HW.out HO.out HY2.out; rw [HSH.out] at hc; with_reducible refine hc.mono ?_); rintro e w4 ⟨v4, rfl, hrow, hb4⟩; obtain ⟨sa, sc, rfl, _, hsk⟩ := keep_row hrow HSb.out; have HSA := Lib.hid hsk; have HB4 := Lib.hid hb4; clear hrow hsk hb4 hc)
      | (go_at_call 11; (have hc := qshare_any want a1 l1 c1 held a2 l2 c2 targ w4 (keep_to HY1.out HB4.out (Nat.le_refl _)) (keep_to HY2.out HB4.out (Nat.le_refl _)); rw [HSH.out] at hc; with_reducible refine hc.mono ?_); rintro e w5 ⟨v5, rfl, hrow, hb5⟩; obtain ⟨qa, qc, rfl, _, hqk⟩ := keep_row hrow HSb.out; have HQA := Lib.hid hqk; have HB45 := Lib.hid hb5; have HB5 := Lib.hid (bt HB4.out hb5); clear hrow hqk hb5 hc)
      | (go_at_call 12; (have hc := trim_any ba l3 bc t a4 l4 c4 last a5 l5 c5 works a6 l6 c6 allowed w5 (binds_up HBO.out HB5.out) (binds_up HY4.out HB5.out) (names_up HY5.out HB5.out) (keep_to HY6.out HB5.out (Nat.le_refl _)) HO3.out HO4.out HL5.out; rw [HTR.out] at hc; with_reducible refine hc.mono ?_); rintro e w6 ⟨v6, rfl, hrow, hb6⟩; obtain ⟨ra, rc, rfl, _, hrk⟩ := row_binds hrow; have HRA := Lib.hid hrk; have HB56 := Lib.hid hb6; have HB6 := Lib.hid (bt HB5.out hb6); clear hrow hrk hb6 hc)
      | (go_at_call 13; (have hc := qtrim_any a3 l3 c3 t a4 l4 c4 last a5 l5 c5 works a6 l6 c6 allowed w6 (binds_up HY3.out HB6.out) (binds_up HY4.out HB6.out) (names_up HY5.out HB6.out) (keep_to HY6.out HB6.out (Nat.le_refl _)) HO3.out HO4.out HL5.out.1; rw [HTR.out] at hc; with_reducible refine hc.mono ?_); rintro e w7 ⟨v7, rfl, hrow, hb7⟩; obtain ⟨da, dc, rfl, _, hdk⟩ := row_binds hrow; have HDA := Lib.hid hdk; have HB67 := Lib.hid hb7; have HB7 := Lib.hid (bt HB6.out hb7); clear hrow hdk hb7 hc))
    have Z1 := Lib.hid (keep_to HSA.out (bt HB45.out (bt HB56.out HB67.out)) (Nat.le_refl _))
    have Z2 := Lib.hid (keep_to HQA.out (bt HB56.out HB67.out) (Nat.le_refl _))
    have Z3 := Lib.hid (binds_up HRA.out HB67.out)
    have Z4 := HDA
    have Z5 := Lib.hid (keep_to HO.out HB7.out (Nat.le_refl _))
    have Z6 := Lib.hid (keep_to HY1.out HB7.out (Nat.le_refl _))
    have Z7 := Lib.hid (binds_up HBO.out HB7.out)
    have Z8 := Lib.hid (binds_up HY3.out HB7.out)
    have HBZ := Lib.hid (bt HBW.out HB7.out)
    clear HSA HQA HRA HDA HO HY1 HY2 HY3 HY4 HY5 HY6 HBO HB4 HB5 HB6 HB7 HB45 HB56 HB67 HBW HSb HSH HTR HO3 HO4 HL5 HW
    go_wp2_with (first
      | (go_at_call 14; (have hc := ints_self sa qa SH.length sc qc SH w7 HSl.out Z1.out Z2.out; with_reducible refine hc.mono ?_); rintro e w8 ⟨rfl, hb8⟩; have HB8 := Lib.hid hb8; clear hb8 hc)
      | (go_at_call 15; (have hc := same8_self ra da TR.length rc TR.length dc TR w8 HTl.out (binds_up Z3.out HB8.out) (binds_up Z4.out HB8.out); with_reducible refine hc.mono ?_); rintro e w9 ⟨rfl, hb9⟩; have HB9 := Lib.hid (bt HB8.out hb9); clear hb9 hc)
      | (go_at_call 14; (have hc := ints_self ha a1 l1 hc c1 held w9 (Nat.le_trans BB1.out (by omega)) (keep_to Z5.out HB9.out (Nat.le_refl _)) (keep_to Z6.out HB9.out (Nat.le_refl _)); with_reducible refine hc.mono ?_); rintro e w10 ⟨rfl, hb10⟩; have HB10 := Lib.hid (bt HB9.out hb10); clear hb10 hc)
      | (go_at_call 15; (have hc := same8_self ba a3 l3 bc l3 c3 t w10 (Nat.le_trans BB3.out (by omega)) (binds_up Z7.out HB10.out) (binds_up Z8.out HB10.out); with_reducible refine hc.mono ?_); rintro e w11 ⟨rfl, hb11⟩; have HB11 := Lib.hid (bt HB10.out hb11); clear hb11 hc))
    go_ret
    exact ⟨rfl, bt HBZ.out HB11.out⟩
  · clear h1 h2 h3 h4 h5 h6 hw
    by_cases h1 : 100 < l1
    · have d1 : decide ((100 : Int) < (l1 : Int)) = true := decide_eq_true (by omega)
      clear h100 h1
      go_enter Try.func3, Try.ntmps3
      go_wp2_with (go_at_call 9; with_reducible refine (awake_any w).mono ?_; rintro e w1 ⟨rfl, hb1⟩; have HB1 := Lib.hid hb1; clear hb1)
      go_ret
      exact ⟨rfl, HB1.out⟩
    · have d1 : decide ((100 : Int) < (l1 : Int)) = false := decide_eq_false (by omega)
      by_cases h3 : 100 < l3
      · have d3 : decide ((100 : Int) < (l3 : Int)) = true := decide_eq_true (by omega)
        clear h100 h1 h3
        go_enter Try.func3, Try.ntmps3
        go_wp2_with (go_at_call 9; with_reducible refine (awake_any w).mono ?_; rintro e w1 ⟨rfl, hb1⟩; have HB1 := Lib.hid hb1; clear hb1)
        go_ret
        exact ⟨rfl, HB1.out⟩
      · have d3 : decide ((100 : Int) < (l3 : Int)) = false := decide_eq_false (by omega)
        by_cases h4 : 100 < l4
        · have d4 : decide ((100 : Int) < (l4 : Int)) = true := decide_eq_true (by omega)
          clear h100 h1 h3 h4
          go_enter Try.func3, Try.ntmps3
          go_wp2_with (go_at_call 9; with_reducible refine (awake_any w).mono ?_; rintro e w1 ⟨rfl, hb1⟩; have HB1 := Lib.hid hb1; clear hb1)
          go_ret
          exact ⟨rfl, HB1.out⟩
        · have d4 : decide ((100 : Int) < (l4 : Int)) = false := decide_eq_false (by omega)
          have d5 : decide ((100 : Int) < (l5 : Int)) = true := decide_eq_true (by omega)
          clear h100 h1 h3 h4
          go_enter Try.func3, Try.ntmps3
          go_wp2_with (go_at_call 9; with_reducible refine (awake_any w).mono ?_; rintro e w1 ⟨rfl, hb1⟩; have HB1 := Lib.hid hb1; clear hb1)
          go_ret
          exact ⟨rfl, HB1.out⟩
theorem own : ownKnob Try.prog.godebug = none := by kernel_rfl
theorem laidOut : laidOutB Try.prog = true := by kernel_rfl

set_option maxRecDepth 100000 in
theorem lifted (os : Os) (started : os.Started) (H : Type) (enc : TypeId × Value → H) :
    ReturnsInHanded {} Try.checked os 3 .any (Rows.shareTellsSpec.pre6 enc Try.prog Try.f3 Rows.shareTellsRow.domain false) (Rows.shareTellsSpec.post enc Try.prog Try.f3 false true false false) := by
  refine returnsInHanded_of_change_sized (C := Try.checked) own started (by kernel_rfl) Try.func3
    (ChangeSpec.witness6 (enc := enc) (C := Try.checked) false ⟨#[], #[.int .i64 0, .slice none 0 0, .slice none 0 0, .slice none 0 0, .slice none 0 0, .slice none 0 0, .slice none 0 0], []⟩ 8 (by kernel_rfl) (by kernel_rfl) (by kernel_rfl) (by kernel_rfl)) ?_
  intro W base args ds gs before hval0 hW _ hsz0 _
  have hsz : (DataW.weightsEach Try.prog (Try.f3.params.toList ++ Rows.shareTellsSpec.plain.varTypes Try.prog) (ds ++ gs)).all (· ≤ reachBytes) = true := hsz0
  have hval : ∀ (j : Nat) t v, Try.f3.params[j]? = some t → args[j]? = some v → Value.okWide Try.prog W .any base t v := hval0
  have hW' := hW
  obtain ⟨p, q, hA0, hV, rfl, hfz, hnd⟩ := hW
  have hA : DataW.TrodAll enc Try.prog W 0 (fun _ => true) true Try.f3.params.toList args.toList ds p := hA0
  rw [Try.params3] at hA hval hsz
  obtain ⟨v0, vs0, d0, ds0, p0, q0, hargs, rfl, rfl, h0, r0⟩ := trodAll_cons hA
  obtain ⟨v1, vs1, d1, ds1, p1, q1, rfl, rfl, rfl, h1, r1⟩ := trodAll_cons r0
  obtain ⟨v2, vs2, d2, ds2, p2, q2, rfl, rfl, rfl, h2, r2⟩ := trodAll_cons r1
  obtain ⟨v3, vs3, d3, ds3, p3, q3, rfl, rfl, rfl, h3, r3⟩ := trodAll_cons r2
  obtain ⟨v4, vs4, d4, ds4, p4, q4, rfl, rfl, rfl, h4, r4⟩ := trodAll_cons r3
  obtain ⟨v5, vs5, d5, ds5, p5, q5, rfl, rfl, rfl, h5, r5⟩ := trodAll_cons r4
  obtain ⟨v6, vs6, d6, ds6, p6, q6, rfl, rfl, rfl, h6, r6⟩ := trodAll_cons r5
  obtain ⟨rfl, rfl, rfl⟩ := trodAll_nil r6
  obtain rfl : args = #[v0, v1, v2, v3, v4, v5, v6] := by cases args; simp_all
  obtain ⟨rfl, rfl⟩ := trodVars_none hV
  have k0 := h0
  have lt0 : ∀ x ∈ p0, x.block < W.heap.size := by obtain ⟨m, hm⟩ := k0; exact DataW.trod_lt m _ _ _ hm
  have k1 := h1
  have lt1 : ∀ x ∈ p1, x.block < W.heap.size := by obtain ⟨m, hm⟩ := k1; exact DataW.trod_lt m _ _ _ hm
  have k2 := h2
  have lt2 : ∀ x ∈ p2, x.block < W.heap.size := by obtain ⟨m, hm⟩ := k2; exact DataW.trod_lt m _ _ _ hm
  have k3 := h3
  have lt3 : ∀ x ∈ p3, x.block < W.heap.size := by obtain ⟨m, hm⟩ := k3; exact DataW.trod_lt m _ _ _ hm
  have k4 := h4
  have lt4 : ∀ x ∈ p4, x.block < W.heap.size := by obtain ⟨m, hm⟩ := k4; exact DataW.trod_lt m _ _ _ hm
  have k5 := h5
  have lt5 : ∀ x ∈ p5, x.block < W.heap.size := by obtain ⟨m, hm⟩ := k5; exact DataW.trod_lt m _ _ _ hm
  have k6 := h6
  have lt6 : ∀ x ∈ p6, x.block < W.heap.size := by obtain ⟨m, hm⟩ := k6; exact DataW.trod_lt m _ _ _ hm
  obtain ⟨a0, rfl, rfl, rfl, w0⟩ := open_int Try.underlying3 (hval 0 3 v0 rfl rfl) h0
  have b0 := in_of_wf w0
  obtain ⟨a1, len1, cap1, rfl⟩ := okWide_slice Try.underlying22 (hval 1 22 v1 rfl rfl)
  obtain ⟨z1, b1⟩ := keep_of k1
  obtain ⟨a2, len2, cap2, rfl⟩ := okWide_slice Try.underlying22 (hval 2 22 v2 rfl rfl)
  obtain ⟨z2, b2⟩ := keep_of k2
  obtain ⟨a3, len3, cap3, rfl⟩ := okWide_slice Try.underlying23 (hval 3 23 v3 rfl rfl)
  obtain ⟨z3, b3⟩ := binds_of k3 (weights_at hsz (j := 3) (t := 23) rfl rfl)
  obtain ⟨a4, len4, cap4, rfl⟩ := okWide_slice Try.underlying23 (hval 4 23 v4 rfl rfl)
  obtain ⟨z4, b4⟩ := binds_of k4 (weights_at hsz (j := 4) (t := 23) rfl rfl)
  obtain ⟨a5, len5, cap5, rfl⟩ := okWide_slice Try.underlying24 (hval 5 24 v5 rfl rfl)
  obtain ⟨z5, b5⟩ := texts_of k5 (weights_at hsz (j := 5) (t := 24) rfl rfl)
  obtain ⟨a6, len6, cap6, rfl⟩ := okWide_slice Try.underlying22 (hval 6 22 v6 rfl rfl)
  obtain ⟨z6, b6⟩ := keep_of k6
  clear hA0 hval0 hsz0 hsz
  refine (walk a0 a1 len1 cap1 z1 a2 len2 cap2 z2 a3 len3 cap3 z3 a4 len4 cap4 z4 a5 len5 cap5 z5 a6 len6 cap6 z6 W b0 b1 b2 b3 b4 b5 b6).mono fun e W' ⟨he, bel⟩ => ?_
  subst he
  exact ⟨_, rfl, _, _, _, [], _, [], hW', trodAll_mk1 (shut_bool Try.underlying4 _), (trodAll_cons_mk (Below.trod laidOut (by kernel_rfl) (of_decide_eq_true (by kernel_rfl)) k0 bel lt0) (trodAll_cons_mk (Below.trod laidOut (by kernel_rfl) (of_decide_eq_true (by kernel_rfl)) k1 bel lt1) (trodAll_cons_mk (Below.trod laidOut (by kernel_rfl) (of_decide_eq_true (by kernel_rfl)) k2 bel lt2) (trodAll_cons_mk (Below.trod laidOut (by kernel_rfl) (of_decide_eq_true (by kernel_rfl)) k3 bel lt3) (trodAll_cons_mk (Below.trod laidOut (by kernel_rfl) (of_decide_eq_true (by kernel_rfl)) k4 bel lt4) (trodAll_cons_mk (Below.trod laidOut (by kernel_rfl) (of_decide_eq_true (by kernel_rfl)) k5 bel lt5) (trodAll_cons_mk (Below.trod laidOut (by kernel_rfl) (of_decide_eq_true (by kernel_rfl)) k6 bel lt6) trodAll_mk0))))))), rfl, bel.frame _, fun h => by cases h⟩

theorem over : Rows.shareTellsRow.holds Try.pinned (OpenSpec.ofChange Rows.shareTellsSpec) :=
  OpenClaim.holds_of_wide 3 Try.f3 rfl rfl rfl rfl rfl rfl rfl ⟨rfl, rfl, rfl, rfl, rfl⟩ rfl rfl rfl rfl rfl (by kernel_rfl) Try.func3 (by kernel_rfl)
    (of_decide_eq_true (by kernel_rfl)) (by unfold Func.isWrapper; first | (rw [if_pos (by decide +kernel)]; kernel_rfl) | (rw [if_neg (by decide +kernel)]; exact ⟨rfl, rfl⟩))
    (fun os started H enc _ => lifted os started H enc)

theorem proved : Rows.ShareTellsSaid := over
end Go.Proofs.Ytjkfiilnogacnaa.lawSTells
