/-
  The statement ShareSame is proved for every list of numbers: where target is what was last, and as many are allowed, nothing is moved. No condition.
-/
import Derived.Deep.QuietTactic
import Derived.Deep.AppendLies
import Derived.Deep.DeepCutAuto
import Derived.Test.YtjkfiilnogacnaaSonce
import Derived.Test.YtjkfiilnogacnaaSworks
import Derived.Test.YtjkfiilnogacnaaOpen14
import Derived.Test.YtjkfiilnogacnaaRows
namespace Go.Proofs.Ytjkfiilnogacnaa.lawSSame
open Go.ChangeShapes Go.WideShapes Go.ChangeAt Go.RowKit Gm

set_option maxRecDepth 100000 in
set_option maxHeartbeats 8000000 in
theorem walk (a : Option Addr) (len cap : Nat) (z : List Int) (w : World) (h : KeepB w.heap.size w a len z) :
    Calls Try.prog 7 #[.slice a len cap] w fun e w' => e = .returned (.bool true) ∧ Below w.heap.size w w' := by
  have HZ := Lib.hid h
  have HU := Lib.hid (rawN_uniq z)
  have hul := rawN_len z
  have HWK := Lib.hid (work_in z)
  have HBS : Hid (SmallC (bindsN z)) := Lib.hid (fun x hx => by
    obtain ⟨y, _, rfl⟩ := List.mem_map.1 hx
    have := bdN_ok y
    omega)
  have hbl := bindsN_len z
  obtain ⟨bl, hbn⟩ : ∃ y, bindsN z = y := ⟨_, rfl⟩
  obtain ⟨U, hU⟩ : ∃ y, rawN z = y := ⟨_, rfl⟩
  have HON : Hid (onceN bl = U) := Lib.hid (by rw [← hbn, ← hU]; rfl)
  rw [hbn] at HBS hbl
  rw [hU] at HU hul HWK
  have HBN := Lib.hid hbn
  obtain ⟨j0, hj0, hq0, hq1, hq2⟩ := info_parts infoInt
  clear h hbn hU
  go_enter Try.func7, Try.ntmps7
  go_upto_region 3 with (first
    | (go_at_call 9; with_reducible refine (awake_any w).mono ?_; rintro e w1 ⟨rfl, hb1⟩; have HB1 := Lib.hid hb1; clear hb1)
    | (go_at_call 19; (have hc := binds_any w.heap.size a len cap z w1 (HZ.out.below HB1.out) HB1.out.size; rw [HBN.out] at hc; with_reducible refine hc.mono ?_); rintro e w2 ⟨v2, rfl, hrow, _, hb2⟩; obtain ⟨ba, bc, rfl, _, hbk⟩ := row_binds hrow; have HBK := Lib.hid hbk; have HB2 := Lib.hid hb2; clear hrow hbk hb2 hc)
    | (go_at_call 18; (have hc := once_any ba bl.length bc bl w2 HBK.out (by omega) HBS.out; rw [HON.out] at hc; with_reducible refine hc.mono ?_); rintro e w3 ⟨v3, rfl, hrow, hb3⟩; obtain ⟨ua, uc, rfl, _, huk⟩ := row_binds hrow; have HUK := Lib.hid huk; have HB3 := Lib.hid hb3; clear hrow huk hb3 hc))
  have HW3 : Hid (Below w.heap.size w w3) := Lib.hid (bt (bt HB1.out HB2.out) HB3.out)
  obtain ⟨N, hN⟩ : ∃ N, w3.heap.size = N := ⟨_, rfl⟩
  have HN4 : Hid ((w3.alloc worksO).heap[N]? = some worksO) := Lib.hid (hN ▸ new_at w3 _)
  have HB4 : Hid (Below w3.heap.size w3 (w3.alloc worksO)) := Lib.hid ((Below.refl _ w3).alloc (Nat.le_refl _) _)
  have HNN := Lib.hid hN
  clear hN
  go_upto_region 4 with fail
  rw [HNN.out]
  have HUK4 := Lib.hid (binds_up HUK.out HB4.out)
  have HW4 := Lib.hid (bt HW3.out HB4.out)
  clear HNN HB1 HB2 HB3 HBK HBS HW3 HUK HB4
  generalize w3.alloc worksO = w4 at *
  have hN4 := (Array.getElem?_eq_some_iff.1 HN4.out).1
  go_wp2
  go_loopw [6, 7] (fun av iv wr => ∃ i : Nat, i ≤ 8 ∧ iv = .int .i64 (i : Int) ∧ wr.ownsRow w4.heap.size 3 1 av i (numV (allOf U i)) ∧ Below w4.heap.size w4 wr) (fun _ iv _ => 8 - (intOf iv).toNat)
  case atStart => exact ⟨0, Nat.zero_le _, rfl, World.ownsRow_nil _ _ _ _, Below.refl _ _⟩
  case round =>
    obtain ⟨i, hi, rfl, hrow, hb⟩ := hrel
    have HROW := Lib.hid hrow
    have HB := Lib.hid hb
    obtain ⟨aa, ac, hav⟩ := row_form hrow
    subst hav
    clear hrow
    by_cases hlt : i < 8
    · have x1 := (hb.cell (p := ⟨N, i, none⟩) hN4).trans (worksO_at HN4.out hlt)
      have y1 := Nat.lt_of_lt_of_le hN4 hb.size
      have hi0 : (0 : Int) ≤ (i : Int) := by omega
      have hi3 : (i : Int) < 8 := by omega
      have HNX : Hid (allOf U (i + 1) = allOf U i ++ [countN U (nmW i) []]) := Lib.hid (allOf_snoc U i)
      obtain ⟨c, hc⟩ : ∃ c, countN U (nmW i) [] = c := ⟨_, rfl⟩
      rw [hc] at HNX
      have HC := Lib.hid hc
      clear hc hb
      obtain ⟨kn, hkn⟩ : ∃ k, nmW i = k := ⟨_, rfl⟩
      rw [hkn] at x1 HC
      clear hkn
      go_wp2_with (first
        | (go_at_call 20; (have hc := count_any ua U.length uc U kn [] wr (binds_up HUK4.out HB.out) (by omega) HU.out.small; rw [HC.out, show S [] = ({ data := #[] } : ByteArray) from rfl] at hc; with_reducible refine hc.mono ?_); rintro e w5 ⟨rfl, hb5⟩; have HB5 := Lib.hid hb5; have HR5 : Hid ((w5.alloc (.cells #[.int .i64 c] 3)).ownsRow w4.heap.size 3 1 (.slice aa i ac) i (numV (allOf U i))) := Lib.hid ((row_moved HROW.out fun b e => HB5.out.block b (HROW.out.lt b e).2).alloc _); have HN5 : Hid ((w5.alloc (.cells #[.int .i64 c] 3)).heap[w5.heap.size]? = some (.cells #[.int .i64 c] 3)) := Lib.hid (new_at w5 _); have HZ5 : Hid (w4.heap.size ≤ (w5.alloc (.cells #[.int .i64 c] 3)).heap.size) := Lib.hid (((bt HB.out HB5.out).alloc (bt HB.out HB5.out).size _).size); clear hb5 hc)
        | (at_builtin; refine wpList_append_lies _ (by rfl) (.tmp 17) (.tmp 24) 22 (by rfl) w4.heap.size 3 j0 _ 1 8 Try.underlying22 hj0 hq0 hq1 hq2 rfl (by decide) (.slice aa i ac) i (numV (allOf U i)) (by rfl) HR5.out ⟨w5.heap.size, 0, none⟩ 1 1 [.int .i64 c] (by rfl) (by rfl) (news_one HN5.out) (by simp [Value.oneCell']) (by omega) (by unfold maxLen; omega) (by omega) HZ5.out _ rfl ?_; intro g6 c6 w6 ho6 hg6 hat6 hl6; have HO6 := Lib.hid ho6; have HB6 : Hid (Below w4.heap.size w4 w6) := Lib.hid (((bt HB.out HB5.out).alloc (bt HB.out HB5.out).size _).grown hg6 HZ5.out (fun j e => (HR5.out.lt j e).1)); clear ho6 hg6 hat6 hl6))
      go_roundw
      case rel => exact ⟨i + 1, by omega, by go_num, by rw [HNX.out]; simpa [numV] using HO6.out, HB6.out⟩
      case measure => simp [intOf]; omega
    · have hi8 : i = 8 := by omega
      have hnlt : ¬ (i : Int) < 8 := by omega
      have HAB := Lib.hid (allOf_bd HU.out.small hul 8)
      rw [hi8] at HROW
      obtain ⟨aa', ac', hv, _, hak⟩ := keep_row HROW.out (fun x hx => by have := HAB.out x hx; unfold I64; omega)
      injection hv with e1 e2 e3
      subst e1
      have HAK := Lib.hid hak
      have HUK5 := Lib.hid (binds_up HUK4.out HB.out)
      have HNM := Lib.hid (names_up (worksO_names HN4.out) HB.out)
      have HOK : Hid (OkL U) := Lib.hid (okl_of HU.out (by omega))
      have HT1 : Hid (trimN U U works8 (allOf U 8) = U) := Lib.hid (trim_same HU.out hul HWK.out U)
      have HT2 : Hid (trimN U [] works8 (allOf U 8) = U) := Lib.hid (trim_same HU.out hul HWK.out [])
      have HD : Hid (decide (U = U) = true) := Lib.hid (by simp)
      have HWr : Hid (Below w.heap.size w wr) := Lib.hid (bt HW4.out HB.out)
      subst hi8
      clear hlt hb hak
      go_wp2_with (first
        | (go_at_call 12; (have hc := trim_any ua U.length uc U ua U.length uc U (some ⟨N, 0, none⟩) 8 8 works8 aa 8 ac' (allOf U 8) wr HUK5.out HUK5.out HNM.out HAK.out HOK.out HOK.out works8_ok; rw [HT1.out] at hc; with_reducible refine hc.mono ?_); rintro e w5 ⟨v5, rfl, hrow5, hb5⟩; obtain ⟨ta, tc, rfl, _, htk⟩ := row_binds hrow5; have HTK := Lib.hid htk; have HB5 := Lib.hid hb5; clear hrow5 htk hb5 hc)
        | (go_at_call 15; (have hc := same8_self ta ua U.length tc U.length uc U w5 (by omega) HTK.out (binds_up HUK5.out HB5.out); with_reducible refine hc.mono ?_); rintro e w6 ⟨rfl, hb6⟩; have HB6 := Lib.hid (bt HB5.out hb6); clear hb6 hc)
        | (go_at_call 12; (have hc := trim_any ua U.length uc U none 0 0 [] (some ⟨N, 0, none⟩) 8 8 works8 aa 8 ac' (allOf U 8) w6 (binds_up HUK5.out HB6.out) (BindsAt.nil _ _ _) (names_up HNM.out HB6.out) (keep_to HAK.out HB6.out (Nat.le_refl _)) HOK.out ⟨by simp, by simp⟩ works8_ok; rw [HT2.out] at hc; with_reducible refine hc.mono ?_); rintro e w7 ⟨v7, rfl, hrow7, hb7⟩; obtain ⟨ta7, tc7, rfl, _, htk7⟩ := row_binds hrow7; have HTK7 := Lib.hid htk7; have HB7 := Lib.hid (bt HB6.out hb7); clear hrow7 htk7 hb7 hc)
        | (go_at_call 15; (have hc := same8_self ta7 ua U.length tc7 U.length uc U w7 (by omega) HTK7.out (binds_up HUK5.out HB7.out); with_reducible refine hc.mono ?_); rintro e w8 ⟨rfl, hb8⟩; have HB8 := Lib.hid (bt HB7.out hb8); clear hb8 hc))
      go_ret
      exact ⟨rfl, bt HWr.out HB8.out⟩
theorem own : ownKnob Try.prog.godebug = none := by kernel_rfl
theorem laidOut : laidOutB Try.prog = true := by kernel_rfl

set_option maxRecDepth 100000 in
theorem lifted (os : Os) (started : os.Started) (H : Type) (enc : TypeId × Value → H) :
    ReturnsInHanded {} Try.checked os 7 .any (Rows.shareSameSpec.pre6 enc Try.prog Try.f7 Rows.shareSameRow.domain false) (Rows.shareSameSpec.post enc Try.prog Try.f7 false true false false) := by
  refine returnsInHanded_of_change_sized (C := Try.checked) own started (by kernel_rfl) Try.func7
    (ChangeSpec.witness6 (enc := enc) (C := Try.checked) false ⟨#[], #[.slice none 0 0], []⟩ 8 (by kernel_rfl) (by kernel_rfl) (by kernel_rfl) (by kernel_rfl)) ?_
  intro W base args ds gs before hval0 hW _ hsz0 _
  have hsz : (DataW.weightsEach Try.prog (Try.f7.params.toList ++ Rows.shareSameSpec.plain.varTypes Try.prog) (ds ++ gs)).all (· ≤ reachBytes) = true := hsz0
  have hval : ∀ (j : Nat) t v, Try.f7.params[j]? = some t → args[j]? = some v → Value.okWide Try.prog W .any base t v := hval0
  have hW' := hW
  obtain ⟨p, q, hA0, hV, rfl, hfz, hnd⟩ := hW
  have hA : DataW.TrodAll enc Try.prog W 0 (fun _ => true) true Try.f7.params.toList args.toList ds p := hA0
  rw [Try.params7] at hA hval hsz
  obtain ⟨v0, vs0, d0, ds0, p0, q0, hargs, rfl, rfl, h0, r0⟩ := trodAll_cons hA
  obtain ⟨rfl, rfl, rfl⟩ := trodAll_nil r0
  obtain rfl : args = #[v0] := by cases args; simp_all
  obtain ⟨rfl, rfl⟩ := trodVars_none hV
  have k0 := h0
  have lt0 : ∀ x ∈ p0, x.block < W.heap.size := by obtain ⟨m, hm⟩ := k0; exact DataW.trod_lt m _ _ _ hm
  obtain ⟨a0, len0, cap0, rfl⟩ := okWide_slice Try.underlying22 (hval 0 22 v0 rfl rfl)
  obtain ⟨z0, b0⟩ := keep_of k0
  clear hA0 hval0 hsz0 hsz
  refine (walk a0 len0 cap0 z0 W b0).mono fun e W' ⟨he, bel⟩ => ?_
  subst he
  exact ⟨_, rfl, _, _, _, [], _, [], hW', trodAll_mk1 (shut_bool Try.underlying4 _), (trodAll_cons_mk (Below.trod laidOut (by kernel_rfl) (of_decide_eq_true (by kernel_rfl)) k0 bel lt0) trodAll_mk0), rfl, bel.frame _, fun h => by cases h⟩

theorem over : Rows.shareSameRow.holds Try.pinned (OpenSpec.ofChange Rows.shareSameSpec) :=
  OpenClaim.holds_of_wide 7 Try.f7 rfl rfl rfl rfl rfl rfl rfl ⟨rfl, rfl, rfl, rfl, rfl⟩ rfl rfl rfl rfl rfl (by kernel_rfl) Try.func7 (by kernel_rfl)
    (of_decide_eq_true (by kernel_rfl)) (by unfold Func.isWrapper; first | (rw [if_pos (by decide +kernel)]; kernel_rfl) | (rw [if_neg (by decide +kernel)]; exact ⟨rfl, rfl⟩))
    (fun os started H enc _ => lifted os started H enc)

theorem proved : Rows.ShareSameSaid := over
end Go.Proofs.Ytjkfiilnogacnaa.lawSSame
