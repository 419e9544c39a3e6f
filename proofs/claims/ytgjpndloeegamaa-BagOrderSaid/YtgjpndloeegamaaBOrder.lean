/-
  The statement BagOrder is proved for whatever texts: they come out in the order in which they were sent, where always the first one is taken. No condition.
-/
import Derived.Deep.QuietTactic
import Derived.Deep.DeepCutAuto
import Derived.Test.YtgjpndloeegamaaBheld
import Derived.Test.YtgjpndloeegamaaBordn
import Derived.Test.YtgjpndloeegamaaOpen17
import Derived.Test.YtgjpndloeegamaaRows
namespace Go.Proofs.Ytgjpndloeegamaa.lawBOrder
open Go.ChangeShapes Go.WideShapes Go.ChangeAt Go.RowKit Gm

abbrev H1 (w wr : World) (p : Nat) (D : List Bs) : Prop := Held PBag (Nobody (X := Unit)) w wr p D 0 () []
set_option maxRecDepth 100000 in
set_option maxHeartbeats 8000000 in
theorem walk (a : Option Addr) (len cap : Nat) (z : List Bs) (ka : Option Addr) (kl kc : Nat) (l : List Int) (w : World) (h0 : TextsAt w.heap.size w a len z) (h1 : KeepB w.heap.size w ka kl l) :
    Calls Try.prog 5 #[.slice a len cap, .slice ka kl kc] w fun e w' => e = .returned (.bool true) ∧ Below w.heap.size w w' := by
  obtain ⟨hz, hlen, b, off, ha, hc⟩ := h0
  have HC := Lib.hid hc
  have HZ := Lib.hid hz
  have HFIT : Hid (∀ x ∈ z, x.length ≤ 140737488351232) := Lib.hid (fun x hx => by
    obtain ⟨i, hi, rfl⟩ := List.getElem_of_mem hx
    exact (hc i hi).2.1)
  obtain ⟨hk, kb, ko, hka, hkc⟩ := h1
  have HKC := Lib.hid hkc
  have HK := Lib.hid hk
  have HA := Lib.hid ha
  have HKA := Lib.hid hka
  obtain ⟨n, hn⟩ : ∃ n : Nat, min len 64 = n := ⟨_, rfl⟩
  have hn1 : n ≤ len := by omega
  have hn2 : n ≤ 64 := by omega
  have MN : ∀ (ts : Array TypeId) (ty : TypeId) (w : World), (Builtin.min_ ts ty #[.int .i64 (len : Int), .int .i64 64]).run Try.prog w = .ok (.int .i64 (n : Int)) w := fun ts ty w => by
    have e : (if (64 : Int) < (len : Int) then (64 : Int) else (len : Int)) = (n : Int) := by split <;> omega
    rw [run_min_int2, e]
  have H0 := Lib.hid (Held.start (X := List Bs) (Y := Unit) w [] ())
  clear hc hz hk hka hkc ha hn
  go_enter Try.func5, Try.ntmps5
  go_upto_region 2 with (go_at_call 6; with_reducible refine (awake_any w).mono ?_; rintro e w1 ⟨rfl, hb1⟩; have H1' := Lib.hid (H0.out.below nobody_law nobody_law hb1); clear hb1)
  go_wp2_with (go_at_call 7; refine (H1'.out.pNew nobody_law).mono ?_; rintro e w2 ⟨p, rfl, h2⟩; have H2 : Hid (H1 w w2 p (segB z 0 0)) := Lib.hid (by rw [seg_nil]; exact h2); clear h2)
  clear H0 H1'
  go_loopw [7, 9] (fun ov iv wr => ∃ i out : Nat, i ≤ n ∧ out ≤ i ∧ iv = .int .i64 (i : Int) ∧ ov = .int .i64 (out : Int) ∧ H1 w wr p (segB z i out)) (fun _ iv _ => n - (intOf iv).toNat)
  case atStart => exact ⟨0, 0, Nat.zero_le _, Nat.le_refl _, rfl, rfl, H2.out⟩
  case round =>
    obtain ⟨i, out, hi, ho, rfl, rfl, hh⟩ := hrel
    have HH := Lib.hid hh
    clear H2
    by_cases hlt : i < n
    · have hil : i < z.length := by rw [HZ.out]; omega
      obtain rfl : a = some ⟨b, off, none⟩ := by
        rcases HA.out with h | h
        · omega
        · exact h
      obtain ⟨hb, hfx, c1⟩ := HC.out i hil
      replace c1 := (hh.to.cell (p := ⟨b, off + i, none⟩) hb).trans c1
      have hb' : b < wr.heap.size := Nat.lt_of_lt_of_le hb hh.size
      have hi0 : (0 : Int) ≤ (i : Int) := by omega
      have hin : (i : Int) < (n : Int) := by omega
      have hil2 : (i : Int) < (len : Int) := by omega
      have HOK : Hid (OkB (segB z i out)) := Lib.hid (seg_ok (by omega) (by omega) HFIT.out)
      have HOK' : Hid (OkB (segB z (i + 1) out)) := Lib.hid (seg_ok (by omega) (by omega) HFIT.out)
      have HRM : Hid (roomB (segB z i out) = true) := Lib.hid (seg_room (by omega) (by omega))
      have HSN : Hid (sendB (segB z i out) z[i] = segB z (i + 1) out) := Lib.hid (seg_send hil ho (by omega))
      have HFX := Lib.hid hfx
      obtain ⟨x, hx⟩ : ∃ x, z[i] = x := ⟨_, rfl⟩
      rw [hx] at c1 HSN HFX
      have HLEN : Hid ((segB z (i + 1) out).length = i + 1 - out) := Lib.hid (seg_len (by omega))
      have HIN : Hid (inB (segB z (i + 1) out) 0 = true) := Lib.hid (seg_in (by omega) (by omega))
      have hol : out < z.length := by omega
      have HLK : Hid (lookB (segB z (i + 1) out) 0 = z[out]) := Lib.hid (seg_look (by omega) (by omega) hol)
      have HTK : Hid (takeB (segB z (i + 1) out) 0 = segB z (i + 1) (out + 1)) := Lib.hid (seg_take (by omega) (by omega))
      obtain ⟨_, _, c2⟩ := HC.out out hol
      have HC2 := Lib.hid c2
      obtain ⟨y, hy⟩ : ∃ y, z[out] = y := ⟨_, rfl⟩
      rw [hy] at HC2 HLK
      clear hh hx hfx hy c2
      go_upto_region 12 with (go_at_call 11; (have hc := HH.out.pSend nobody_law HOK.out x HFX.out; rw [HRM.out, HSN.out] at hc; with_reducible refine hc.mono ?_); rintro e w3 ⟨rfl, h3⟩; have H3 := Lib.hid h3; clear h3 hc)
      have hcase : ¬ (i < kl) ∨ i < kl := by omega
      rcases hcase with hik | hik
      · have d1 : decide ((i : Int) < (kl : Int)) = false := decide_eq_false (by omega)
        have d2 : ¬ (i : Int) < (kl : Int) := by omega
        clear hik
        go_wp2
        go_roundw
        case rel => exact ⟨i + 1, out, by omega, by omega, by go_num, rfl, H3.out⟩
        case measure => simp [intOf]; omega
      · have hikl : i < l.length := by rw [HK.out]; exact hik
        obtain rfl : ka = some ⟨kb, ko, none⟩ := by
          rcases HKA.out with h | h
          · omega
          · exact h
        obtain ⟨hkb, kc1, kx⟩ := HKC.out i hikl
        have k1 := (H3.out.to.cell (p := ⟨kb, ko + i, none⟩) hkb).trans kc1
        have hkb' : kb < w3.heap.size := Nat.lt_of_lt_of_le hkb H3.out.size
        have HKX := Lib.hid kx
        obtain ⟨v, hv⟩ : ∃ v, l[i] = v := ⟨_, rfl⟩
        rw [hv] at k1 HKX
        have hikI : (i : Int) < (kl : Int) := by omega
        have d1 : decide ((i : Int) < (kl : Int)) = true := decide_eq_true hikI
        obtain ⟨m, hm⟩ : ∃ m, pk v 3 = m := ⟨_, rfl⟩
        have HM := Lib.hid hm
        clear kc1 kx hv hm
        by_cases hm0 : m = 0
        · subst hm0
          obtain ⟨dl, hdl⟩ : ∃ d : Nat, i + 1 - out = d := ⟨_, rfl⟩
          rw [hdl] at HLEN
          have hdl0 : (0 : Int) < (dl : Int) := by omega
          have d3 : decide ((0 : Int) < (dl : Int)) = true := decide_eq_true hdl0
          have hb3 : b < w3.heap.size := Nat.lt_of_lt_of_le hb H3.out.size
          have ho0 : (0 : Int) ≤ (out : Int) := by omega
          have hol2 : (out : Int) < (len : Int) := by have := HZ.out; omega
          have ho1 : out ≤ i := ho
          have HI0 : Hid (I64 0) := Lib.hid (by unfold I64; omega)
          clear hdl
          go_upto_region 13 with (first
            | (go_at_call 9; (have hc := pick_any v 3 w3 HKX.out (by omega) (by omega); rw [HM.out] at hc; with_reducible refine hc.mono ?_); rintro e w4 ⟨rfl, rfl⟩)
            | (go_at_call 21; (have hc := H3.out.pLen nobody_law HOK'.out; rw [HLEN.out] at hc; with_reducible refine hc.mono ?_); rintro e w4 ⟨rfl, _, h4⟩; have H4 := Lib.hid h4; clear h4 hc))
          clear k1 hkb' hb3 c1 hb'
          go_upto_region 14 with (go_at_call 13; (have hc := H4.out.pTake nobody_law HOK'.out 0 HI0.out; rw [HLK.out, HIN.out, HTK.out] at hc; with_reducible refine hc.mono ?_); rintro e w5 ⟨rfl, h5⟩; have H5 := Lib.hid h5; clear h5 hc)
          have c2 := (H5.out.to.cell (p := ⟨b, off + out, none⟩) hb).trans HC2.out
          have hb5 : b < w5.heap.size := Nat.lt_of_lt_of_le hb H5.out.size
          have hwr : IntKind.i64.wrap ((out : Int) + 1) = (out : Int) + 1 := IntWalk.i64_in _ ⟨by omega, by omega⟩
          go_wp2
          go_roundw
          case rel => exact ⟨i + 1, out + 1, by omega, by omega, by go_num, by go_num, H5.out⟩
          case measure => simp [intOf]; omega
        · have d3 : (m == (0 : Int)) = false := by simpa using hm0
          go_wp2_with (go_at_call 9; (have hc := pick_any v 3 w3 HKX.out (by omega) (by omega); rw [HM.out] at hc; with_reducible refine hc.mono ?_); rintro e w4 ⟨rfl, rfl⟩)
          go_roundw
          case rel => exact ⟨i + 1, out, by omega, by omega, by go_num, rfl, H3.out⟩
          case measure => simp [intOf]; omega
    · have hin : i = n := by omega
      have hnlt : ¬ (i : Int) < (n : Int) := by omega
      clear hlt hh
      go_wp2
      go_loopw [7] (fun ov wq => ∃ o : Nat, o ≤ n ∧ ov = .int .i64 (o : Int) ∧ H1 w wq p (segB z n o)) (fun ov _ => n - (intOf ov).toNat)
      case atStart => exact ⟨out, by omega, rfl, by rw [← hin]; exact HH.out⟩
      case round =>
        obtain ⟨o, hon, rfl, hh⟩ := hrel
        have HQ := Lib.hid hh
        clear HH
        have HOK : Hid (OkB (segB z n o)) := Lib.hid (seg_ok (by have := HZ.out; omega) (by omega) HFIT.out)
        have HLEN : Hid ((segB z n o).length = n - o) := Lib.hid (seg_len (by have := HZ.out; omega))
        have HI0 : Hid (I64 0) := Lib.hid (by unfold I64; omega)
        by_cases hlo : o < n
        · have hol : o < z.length := by rw [HZ.out]; omega
          obtain rfl : a = some ⟨b, off, none⟩ := by
            rcases HA.out with h | h
            · omega
            · exact h
          have HIN : Hid (inB (segB z n o) 0 = true) := Lib.hid (seg_in (by have := HZ.out; omega) (by omega))
          have HLK : Hid (lookB (segB z n o) 0 = z[o]) := Lib.hid (seg_look (by have := HZ.out; omega) (by omega) hol)
          have HTK : Hid (takeB (segB z n o) 0 = segB z n (o + 1)) := Lib.hid (seg_take (by have := HZ.out; omega) (by omega))
          obtain ⟨hb, _, c2⟩ := HC.out o hol
          have HC2 := Lib.hid c2
          obtain ⟨y, hy⟩ : ∃ y, z[o] = y := ⟨_, rfl⟩
          rw [hy] at HC2 HLK
          have hoI : (o : Int) < (n : Int) := by omega
          have ho0 : (0 : Int) ≤ (o : Int) := by omega
          have hol2 : (o : Int) < (len : Int) := by omega
          clear hh hy c2
          go_upto_region 19 with (go_at_call 13; (have hc := HQ.out.pTake nobody_law HOK.out 0 HI0.out; rw [HLK.out, HIN.out, HTK.out] at hc; with_reducible refine hc.mono ?_); rintro e w5 ⟨rfl, h5⟩; have H5 := Lib.hid h5; clear h5 hc)
          have c2 := (H5.out.to.cell (p := ⟨b, off + o, none⟩) hb).trans HC2.out
          have hb5 : b < w5.heap.size := Nat.lt_of_lt_of_le hb H5.out.size
          go_wp2
          go_roundw
          case rel => exact ⟨o + 1, by omega, by go_num, H5.out⟩
          case measure => simp [intOf]; omega
        · have hoI : ¬ (o : Int) < (n : Int) := by omega
          have HL0 : Hid ((segB z n o).length = 0) := Lib.hid (by rw [HLEN.out]; omega)
          clear hh hlo
          go_wp2_with (go_at_call 21; (have hc := HQ.out.pLen nobody_law HOK.out; rw [HL0.out] at hc; with_reducible refine hc.mono ?_); rintro e w4 ⟨rfl, _, h4⟩; have H4 := Lib.hid h4; clear h4 hc)
          go_ret
          exact ⟨rfl, H4.out.to⟩
theorem own : ownKnob Try.prog.godebug = none := by kernel_rfl
theorem laidOut : laidOutB Try.prog = true := by kernel_rfl

set_option maxRecDepth 100000 in
theorem lifted (os : Os) (started : os.Started) (H : Type) (enc : TypeId × Value → H) :
    ReturnsInHanded {} Try.checked os 5 .any (Rows.bagOrderSpec.pre6 enc Try.prog Try.f5 Rows.bagOrderRow.domain false) (Rows.bagOrderSpec.post enc Try.prog Try.f5 false true false false) := by
  refine returnsInHanded_of_change_sized (C := Try.checked) own started (by kernel_rfl) Try.func5
    (ChangeSpec.witness6 (enc := enc) (C := Try.checked) false ⟨#[], #[.slice none 0 0, .slice none 0 0], []⟩ 8 (by kernel_rfl) (by kernel_rfl) (by kernel_rfl) (by kernel_rfl)) ?_
  intro W base args ds gs before hval0 hW _ hsz0 _
  have hsz : (DataW.weightsEach Try.prog (Try.f5.params.toList ++ Rows.bagOrderSpec.plain.varTypes Try.prog) (ds ++ gs)).all (· ≤ reachBytes) = true := hsz0
  have hval : ∀ (j : Nat) t v, Try.f5.params[j]? = some t → args[j]? = some v → Value.okWide Try.prog W .any base t v := hval0
  have hW' := hW
  obtain ⟨p, q, hA0, hV, rfl, hfz, hnd⟩ := hW
  have hA : DataW.TrodAll enc Try.prog W 0 (fun _ => true) true Try.f5.params.toList args.toList ds p := hA0
  rw [Try.params5] at hA hval hsz
  obtain ⟨v0, vs0, d0, ds0, p0, q0, hargs, rfl, rfl, h0, r0⟩ := trodAll_cons hA
  obtain ⟨v1, vs1, d1, ds1, p1, q1, rfl, rfl, rfl, h1, r1⟩ := trodAll_cons r0
  obtain ⟨rfl, rfl, rfl⟩ := trodAll_nil r1
  obtain rfl : args = #[v0, v1] := by cases args; simp_all
  obtain ⟨rfl, rfl⟩ := trodVars_none hV
  have k0 := h0
  have lt0 : ∀ x ∈ p0, x.block < W.heap.size := by obtain ⟨m, hm⟩ := k0; exact DataW.trod_lt m _ _ _ hm
  have k1 := h1
  have lt1 : ∀ x ∈ p1, x.block < W.heap.size := by obtain ⟨m, hm⟩ := k1; exact DataW.trod_lt m _ _ _ hm
  obtain ⟨a0, len0, cap0, rfl⟩ := okWide_slice Try.underlying37 (hval 0 37 v0 rfl rfl)
  obtain ⟨z0, b0⟩ := texts_of k0 (weights_at hsz (j := 0) (t := 37) rfl rfl)
  obtain ⟨a1, len1, cap1, rfl⟩ := okWide_slice Try.underlying40 (hval 1 40 v1 rfl rfl)
  obtain ⟨z1, b1⟩ := keep_of k1
  clear hA0 hval0 hsz0 hsz
  refine (walk a0 len0 cap0 z0 a1 len1 cap1 z1 W b0 b1).mono fun e W' ⟨he, bel⟩ => ?_
  subst he
  exact ⟨_, rfl, _, _, _, [], _, [], hW', trodAll_mk1 (shut_bool Try.underlying4 _), (trodAll_cons_mk (Below.trod laidOut (by kernel_rfl) (of_decide_eq_true (by kernel_rfl)) k0 bel lt0) (trodAll_cons_mk (Below.trod laidOut (by kernel_rfl) (of_decide_eq_true (by kernel_rfl)) k1 bel lt1) trodAll_mk0)), rfl, bel.frame _, fun h => by cases h⟩

theorem over : Rows.bagOrderRow.holds Try.pinned (OpenSpec.ofChange Rows.bagOrderSpec) :=
  OpenClaim.holds_of_wide 5 Try.f5 rfl rfl rfl rfl rfl rfl rfl ⟨rfl, rfl, rfl, rfl, rfl⟩ rfl rfl rfl rfl rfl (by kernel_rfl) Try.func5 (by kernel_rfl)
    (of_decide_eq_true (by kernel_rfl)) (by unfold Func.isWrapper; first | (rw [if_pos (by decide +kernel)]; kernel_rfl) | (rw [if_neg (by decide +kernel)]; exact ⟨rfl, rfl⟩))
    (fun os started H enc _ => lifted os started H enc)

theorem proved : Rows.BagOrderSaid := over
end Go.Proofs.Ytgjpndloeegamaa.lawBOrder
