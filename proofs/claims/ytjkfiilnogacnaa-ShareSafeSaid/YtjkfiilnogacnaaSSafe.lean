/-
  The statement ShareSafe is proved for every number and every list of numbers: what all cells hold and are granted together is want or less, or just what was held. No condition.
-/
import Derived.Deep.QuietTactic
import Derived.Deep.DeepCutAuto
import Derived.Test.YtjkfiilnogacnaaSafen
import Derived.Test.YtjkfiilnogacnaaSawake
import Derived.Test.YtjkfiilnogacnaaOpen14
import Derived.Test.YtjkfiilnogacnaaRows
namespace Go.Proofs.Ytjkfiilnogacnaa.lawSSafe
open Go.ChangeShapes Go.WideShapes Go.ChangeAt Go.RowKit Gm

theorem nums (want : Int) (raw : List Int) : ∃ G : List Int, shareN (pk want 20) (heldsN raw) (targsN raw) = G ∧ G.length = 3 ∧ (∀ i, i < 3 → 0 ≤ atN G i ∧ atN G i ≤ atN (targsN raw) i ∧ (atN (heldsN raw) i < 0 → atN G i = 0)) ∧
    upN (fun j => max (max (atN (heldsN raw) j) 0) (atN G j)) 3 ≤ max (pk want 20) (upN (fun j => max (atN (heldsN raw) j) 0) 3) ∧
    (anyN (fun j => decide (atN (heldsN raw) j < 0)) 3 = true → upN (fun j => max (max (atN (heldsN raw) j) 0) (atN G j)) 3 = upN (fun j => max (atN (heldsN raw) j) 0) 3) := by
  have hw := pk_bd want 20 (by omega)
  rw [heldsN_eq, targsN_eq]
  obtain ⟨g0, g1, g2, e, h0, h1, h2, h3, h4⟩ := share_safe (want := pk want 20) (by omega) (heldR_bd raw 0) (heldR_bd raw 1) (heldR_bd raw 2) (targR_bd raw 0) (targR_bd raw 1) (targR_bd raw 2)
  refine ⟨_, rfl, ?_⟩
  rw [e, upN_3, upN_3, anyN_3]
  refine ⟨rfl, fun i hi => ?_, h3, fun h => h4 ?_⟩
  · have : i = 0 ∨ i = 1 ∨ i = 2 := by omega
    rcases this with rfl | rfl | rfl
    · exact h0
    · exact h1
    · exact h2
  · simpa [atN, or_assoc] using h
set_option maxRecDepth 100000 in
set_option maxHeartbeats 8000000 in
theorem walk (want : Int) (a : Option Addr) (len cap : Nat) (raw : List Int) (w : World) (hw : I64 want) (h : KeepB w.heap.size w a len raw) :
    Calls Try.prog 4 #[.int .i64 want, .slice a len cap] w fun e w' => e = .returned (.bool true) ∧ Below w.heap.size w w' := by
  have HZ := Lib.hid h
  have HW := Lib.hid hw
  have hwb := pk_bd want 20 (by omega)
  obtain ⟨G, hG, hG3, hG1, hG2, hG4⟩ := nums want raw
  obtain ⟨H, hH⟩ : ∃ H, heldsN raw = H := ⟨_, rfl⟩
  obtain ⟨T, hT⟩ : ∃ T, targsN raw = T := ⟨_, rfl⟩
  obtain ⟨wn, hwn⟩ : ∃ x, pk want 20 = x := ⟨_, rfl⟩
  have hHb : ∀ i, -1 ≤ atN H i ∧ atN H i ≤ 7 := atN_bd (by omega) fun x hx => by
    rw [← hH, heldsN_eq] at hx
    simp only [List.mem_cons, List.not_mem_nil, or_false] at hx
    rcases hx with rfl | rfl | rfl <;> exact heldR_bd raw _
  have hTb : ∀ i, 0 ≤ atN T i ∧ atN T i ≤ 8 := atN_bd (by omega) fun x hx => by
    rw [← hT, targsN_eq] at hx
    simp only [List.mem_cons, List.not_mem_nil, or_false] at hx
    rcases hx with rfl | rfl | rfl <;> exact targR_bd raw _
  have hGb : ∀ x ∈ G, 0 ≤ x ∧ x ≤ 1000 := hG ▸ share_bd _ _ _
  rw [hH, hT, hwn] at hG
  rw [hH, hT] at hG1
  rw [hH, hwn] at hG2
  rw [hH] at hG4
  rw [hwn] at hwb
  have HH := Lib.hid hH
  have HT := Lib.hid hT
  have HWN := Lib.hid hwn
  have HG := Lib.hid hG
  have HG1 := Lib.hid hG1
  have HG2 := Lib.hid hG2
  have HG3 := Lib.hid hG3
  have HG4 := Lib.hid hG4
  have HHb := Lib.hid hHb
  have HTb := Lib.hid hTb
  have HGb := Lib.hid hGb
  have hI : I64 wn := by unfold I64; omega
  have HI := Lib.hid hI
  clear h hw hH hT hwn hG hG1 hG2 hG3 hG4 hHb hTb hGb hI
  go_enter Try.func4, Try.ntmps4
  go_upto_region 4 with (first
    | (go_at_call 9; with_reducible refine (awake_any w).mono ?_; rintro e w1 ⟨rfl, hb1⟩; have HB1 := Lib.hid hb1; clear hb1)
    | (go_at_call 16; (have hc := lists_any w.heap.size a len cap raw w1 (HZ.out.below HB1.out) HB1.out.size; rw [HH.out, HT.out] at hc; with_reducible refine hc.mono ?_); rintro e w2 ⟨g1, c1, g2, c2, rfl, htwo⟩; have HTWO := Lib.hid htwo; clear htwo hc)
    | (go_at_call 17; (have hc := pick_any want 20 w2 HW.out (by omega) (by omega); rw [HWN.out] at hc; with_reducible refine hc.mono ?_); rintro e w3 ⟨rfl, rfl⟩))
  obtain ⟨q1, k1, hq1, hl1, hk1⟩ := keep_row HTWO.out.a fun x hx => by
    rw [← HH.out, heldsN_eq] at hx
    simp only [List.mem_cons, List.not_mem_nil, or_false] at hx
    rcases hx with rfl | rfl | rfl <;> (have := heldR_bd raw; unfold I64; first | (have := heldR_bd raw 0; omega) | (have := heldR_bd raw 1; omega) | (have := heldR_bd raw 2; omega))
  obtain ⟨q2, k2, hq2, hl2, hk2⟩ := keep_row HTWO.out.b fun x hx => by
    rw [← HT.out, targsN_eq] at hx
    simp only [List.mem_cons, List.not_mem_nil, or_false] at hx
    rcases hx with rfl | rfl | rfl <;> (unfold I64; first | (have := targR_bd raw 0; omega) | (have := targR_bd raw 1; omega) | (have := targR_bd raw 2; omega))
  injection hq1 with e1 _ e2
  injection hq2 with e3 _ e4
  subst e1 e2 e3 e4
  have HK1 := Lib.hid hk1
  have HK2 := Lib.hid hk2
  clear hk1 hk2 hl1 hl2
  go_upto_region 5 with (go_at_call 10; (have hc := share_any wn _ 3 c1 H _ 3 c2 T w2 HI.out HK1.out HK2.out; rw [HG.out] at hc; with_reducible refine hc.mono ?_); rintro e w4 ⟨gv, rfl, hrow, hb4⟩; have HROW := Lib.hid hrow; have HB4 := Lib.hid hb4; clear hrow hb4 hc)
  obtain ⟨ga, gc, hgv, hgl, hgk⟩ := keep_row HROW.out fun x hx => by have := HGb.out x hx; unfold I64; omega
  rw [HG3.out] at hgv
  subst hgv
  have HKG := Lib.hid hgk
  clear hgk hgl
  have hb14 : Below w1.heap.size w1 w4 := HTWO.out.bw.trans (HB4.out.mono HTWO.out.bw.size)
  have HBw := Lib.hid (HB1.out.trans (hb14.mono HB1.out.size))
  clear hb14
  obtain ⟨b1, o1, hh1, hlt1, hc1⟩ := keep_at (keep_to HK1.out HB4.out (Nat.le_refl _)) (by omega)
  obtain ⟨b2, o2, hh2, hlt2, hc2⟩ := keep_at (keep_to HK2.out HB4.out (Nat.le_refl _)) (by omega)
  have hgk3 : KeepB w4.heap.size w4 ga 3 G := by have := HKG.out; rwa [HG3.out] at this
  obtain ⟨b3, o3, hh3, hlt3, hc3⟩ := keep_at hgk3 (by omega)
  subst hh3
  injection hh1 with hh1
  injection hh1 with e5 e6
  injection hh2 with hh2
  injection hh2 with e7 e8
  subst e5 e6 e7 e8
  have HC1 := Lib.hid hc1
  have HC2 := Lib.hid hc2
  have HC3 := Lib.hid hc3
  clear hc1 hc2 hc3 hgk3
  go_wp2
  go_loopw [9, 10, 11, 12] (fun sv wv uv iv wr => ∃ i : Nat, i ≤ 3 ∧ iv = .int .i64 (i : Int) ∧ sv = .int .i64 (upN (fun j => max (max (atN H j) 0) (atN G j)) i) ∧ wv = .int .i64 (upN (fun j => max (atN H j) 0) i) ∧ uv = .bool (anyN (fun j => decide (atN H j < 0)) i) ∧ Below w4.heap.size w4 wr) (fun _ _ _ iv _ => 3 - (intOf iv).toNat)
  case atStart => exact ⟨0, Nat.zero_le _, rfl, rfl, rfl, rfl, Below.refl _ _⟩
  case round =>
    obtain ⟨i, hi, rfl, rfl, rfl, rfl, hb⟩ := hrel
    have HB := Lib.hid hb
    by_cases hlt : i < 3
    · have x1 := (hb.cell (p := ⟨g1, 0 + i, none⟩) hlt1).trans (HC1.out i hlt)
      have x2 := (hb.cell (p := ⟨g2, 0 + i, none⟩) hlt2).trans (HC2.out i hlt)
      have x3 := (hb.cell (p := ⟨b3, o3 + i, none⟩) hlt3).trans (HC3.out i hlt)
      rw [Nat.zero_add] at x1 x2
      have hi0 : (0 : Int) ≤ (i : Int) := by omega
      have hi3 : (i : Int) < 3 := by omega
      have y1 := Nat.lt_of_lt_of_le hlt1 hb.size
      have y2 := Nat.lt_of_lt_of_le hlt2 hb.size
      have y3 := Nat.lt_of_lt_of_le hlt3 hb.size
      have bs := upN_bd (fun j => max (max (atN H j) 0) (atN G j)) 1000 (fun j => by
        have := HHb.out j
        have : 0 ≤ atN G j ∧ atN G j ≤ 1000 := atN_bd (by omega) HGb.out j
        omega) i
      have bw := upN_bd (fun j => max (atN H j) 0) 7 (fun j => by have := HHb.out j; omega) i
      obtain ⟨z1, z2, z3⟩ := HG1.out i hlt
      have tb := HTb.out i
      have hb1 := HHb.out i
      have HS1 : Hid (upN (fun j => max (max (atN H j) 0) (atN G j)) (i + 1) = upN (fun j => max (max (atN H j) 0) (atN G j)) i + max (max (atN H i) 0) (atN G i)) := Lib.hid rfl
      have HS2 : Hid (upN (fun j => max (atN H j) 0) (i + 1) = upN (fun j => max (atN H j) 0) i + max (atN H i) 0) := Lib.hid rfl
      have HS3 : Hid (anyN (fun j => decide (atN H j < 0)) (i + 1) = (anyN (fun j => decide (atN H j < 0)) i || decide (atN H i < 0))) := Lib.hid rfl
      obtain ⟨s, hs⟩ : ∃ s, upN (fun j => max (max (atN H j) 0) (atN G j)) i = s := ⟨_, rfl⟩
      obtain ⟨v, hv⟩ : ∃ s, upN (fun j => max (atN H j) 0) i = s := ⟨_, rfl⟩
      obtain ⟨ub, hu⟩ : ∃ s, anyN (fun j => decide (atN H j < 0)) i = s := ⟨_, rfl⟩
      rw [hs] at bs HS1 ⊢
      rw [hv] at bw HS2 ⊢
      rw [hu] at HS3 ⊢
      obtain ⟨x, hx⟩ : ∃ x, atN H i = x := ⟨_, rfl⟩
      obtain ⟨y, hy⟩ : ∃ x, atN T i = x := ⟨_, rfl⟩
      obtain ⟨z, hz⟩ : ∃ x, atN G i = x := ⟨_, rfl⟩
      rw [hx] at x1 z3 hb1 HS1 HS2 HS3
      rw [hy] at x2 z2 tb
      rw [hz] at x3 z1 z2 z3 HS1
      have m1 := max2 x 0
      obtain ⟨m, hm⟩ : ∃ m, max x 0 = m := ⟨_, rfl⟩
      have m2 := max2 m z
      obtain ⟨n, hn⟩ : ∃ n, max m z = n := ⟨_, rfl⟩
      rw [hm] at m1 HS1 HS2
      rw [hn] at m2 HS1
      have nb : 0 ≤ n ∧ n ≤ 8 := by omega
      have mb : 0 ≤ m ∧ m ≤ 7 := by omega
      have w1 : IntKind.i64.wrap (s + n) = s + n := IntWalk.i64_in _ ⟨by omega, by omega⟩
      have w2 : IntKind.i64.wrap (v + m) = v + m := IntWalk.i64_in _ ⟨by omega, by omega⟩
      have W1 := Lib.hid w1
      have W2 := Lib.hid w2
      have d1 : decide (z < 0) = false := decide_eq_false (by omega)
      have d2 : decide (y < z) = false := decide_eq_false (by omega)
      have HX1 := Lib.hid x1
      have HX2 := Lib.hid x2
      have HX3 := Lib.hid x3
      by_cases hn0 : x < 0
      · obtain rfl := z3 hn0
        have d3 : decide (x < 0) = true := decide_eq_true hn0
        have HS3' : Hid (anyN (fun j => decide (atN H j < 0)) (i + 1) = true) := Lib.hid (by rw [HS3.out, d3, Bool.or_true])
        clear hs hv hu hx hy hz hm hn z1 z2 z3 hn0 hb HS3 tb hb1 bs bw nb mb
        rcases Bool.eq_false_or_eq_true ub with rfl | rfl
        · go_wp2
          go_quiet (fail)
          go_wp2
          go_quiet (fail)
          go_wp2
          go_roundw
          case rel => exact ⟨i + 1, by omega, by go_num, by rw [HS1.out], by rw [HS2.out], by rw [HS3'.out], below_drewN HB.out _⟩
          case measure => simp [intOf]; omega
        · go_wp2
          go_quiet (fail)
          go_wp2
          go_quiet (fail)
          go_wp2
          go_roundw
          case rel => exact ⟨i + 1, by omega, by go_num, by rw [HS1.out], by rw [HS2.out], by rw [HS3'.out], below_drewN HB.out _⟩
          case measure => simp [intOf]; omega
      · have d3 : decide (x < 0) = false := decide_eq_false hn0
        rcases Bool.eq_false_or_eq_true ub with rfl | rfl
        · have HS3' : Hid (anyN (fun j => decide (atN H j < 0)) (i + 1) = true) := Lib.hid (by rw [HS3.out, Bool.true_or])
          clear hs hv hu hx hy hz hm hn z1 z2 z3 hn0 hb HS3 tb hb1 bs bw nb mb
          go_wp2
          go_quiet (fail)
          go_wp2
          go_quiet (fail)
          go_wp2
          go_roundw
          case rel => exact ⟨i + 1, by omega, by go_num, by rw [HS1.out], by rw [HS2.out], by rw [HS3'.out], below_drewN HB.out _⟩
          case measure => simp [intOf]; omega
        · have HS3' : Hid (anyN (fun j => decide (atN H j < 0)) (i + 1) = false) := Lib.hid (by rw [HS3.out, d3, Bool.or_false])
          clear hs hv hu hx hy hz hm hn z1 z2 z3 hn0 hb HS3 tb hb1 bs bw nb mb
          go_wp2
          go_quiet (fail)
          go_wp2
          go_quiet (fail)
          go_wp2
          go_roundw
          case rel => exact ⟨i + 1, by omega, by go_num, by rw [HS1.out], by rw [HS2.out], by rw [HS3'.out], below_drewN HB.out _⟩
          case measure => simp [intOf]; omega
    · obtain rfl : i = 3 := by omega
      clear hlt
      have h1 := HG2.out
      have h2 := HG4.out
      have k1 := upN_bd (fun j => max (max (atN H j) 0) (atN G j)) 1000 (fun j => by
        have := HHb.out j
        have : 0 ≤ atN G j ∧ atN G j ≤ 1000 := atN_bd (by omega) HGb.out j
        omega) 3
      have k2 := upN_bd (fun j => max (atN H j) 0) 7 (fun j => by have := HHb.out j; omega) 3
      obtain ⟨s, hs⟩ : ∃ s, upN (fun j => max (max (atN H j) 0) (atN G j)) 3 = s := ⟨_, rfl⟩
      obtain ⟨v, hv⟩ : ∃ s, upN (fun j => max (atN H j) 0) 3 = s := ⟨_, rfl⟩
      obtain ⟨ub, hu⟩ : ∃ s, anyN (fun j => decide (atN H j < 0)) 3 = s := ⟨_, rfl⟩
      rw [hs, hv] at h1 h2
      rw [hu] at h2
      rw [hs, hv, hu]
      have m1 := max2 wn v
      obtain ⟨m, hm⟩ : ∃ m, max wn v = m := ⟨_, rfl⟩
      rw [hm] at m1 h1
      have d1 : decide (s ≤ m) = true := decide_eq_true h1
      clear hs hv hu hm h1 hb k1 k2
      rcases Bool.eq_false_or_eq_true ub with rfl | rfl
      · obtain rfl := h2 rfl
        go_wp2
        go_ret
        exact ⟨rfl, HBw.out.trans (HB.out.mono HBw.out.size)⟩
      · clear h2
        go_wp2
        go_ret
        exact ⟨rfl, HBw.out.trans (HB.out.mono HBw.out.size)⟩
theorem own : ownKnob Try.prog.godebug = none := by kernel_rfl
theorem laidOut : laidOutB Try.prog = true := by kernel_rfl

set_option maxRecDepth 100000 in
theorem lifted (os : Os) (started : os.Started) (H : Type) (enc : TypeId × Value → H) :
    ReturnsInHanded {} Try.checked os 4 .any (Rows.shareSafeSpec.pre6 enc Try.prog Try.f4 Rows.shareSafeRow.domain false) (Rows.shareSafeSpec.post enc Try.prog Try.f4 false true false false) := by
  refine returnsInHanded_of_change_sized (C := Try.checked) own started (by kernel_rfl) Try.func4
    (ChangeSpec.witness6 (enc := enc) (C := Try.checked) false ⟨#[], #[.int .i64 0, .slice none 0 0], []⟩ 8 (by kernel_rfl) (by kernel_rfl) (by kernel_rfl) (by kernel_rfl)) ?_
  intro W base args ds gs before hval0 hW _ hsz0 _
  have hsz : (DataW.weightsEach Try.prog (Try.f4.params.toList ++ Rows.shareSafeSpec.plain.varTypes Try.prog) (ds ++ gs)).all (· ≤ reachBytes) = true := hsz0
  have hval : ∀ (j : Nat) t v, Try.f4.params[j]? = some t → args[j]? = some v → Value.okWide Try.prog W .any base t v := hval0
  have hW' := hW
  obtain ⟨p, q, hA0, hV, rfl, hfz, hnd⟩ := hW
  have hA : DataW.TrodAll enc Try.prog W 0 (fun _ => true) true Try.f4.params.toList args.toList ds p := hA0
  rw [Try.params4] at hA hval hsz
  obtain ⟨v0, vs0, d0, ds0, p0, q0, hargs, rfl, rfl, h0, r0⟩ := trodAll_cons hA
  obtain ⟨v1, vs1, d1, ds1, p1, q1, rfl, rfl, rfl, h1, r1⟩ := trodAll_cons r0
  obtain ⟨rfl, rfl, rfl⟩ := trodAll_nil r1
  obtain rfl : args = #[v0, v1] := by cases args; simp_all
  obtain ⟨rfl, rfl⟩ := trodVars_none hV
  have k0 := h0
  have lt0 : ∀ x ∈ p0, x.block < W.heap.size := by obtain ⟨m, hm⟩ := k0; exact DataW.trod_lt m _ _ _ hm
  have k1 := h1
  have lt1 : ∀ x ∈ p1, x.block < W.heap.size := by obtain ⟨m, hm⟩ := k1; exact DataW.trod_lt m _ _ _ hm
  obtain ⟨a0, rfl, rfl, rfl, w0⟩ := open_int Try.underlying3 (hval 0 3 v0 rfl rfl) h0
  have b0 := in_of_wf w0
  obtain ⟨a1, len1, cap1, rfl⟩ := okWide_slice Try.underlying22 (hval 1 22 v1 rfl rfl)
  obtain ⟨z1, b1⟩ := keep_of k1
  clear hA0 hval0 hsz0 hsz
  refine (walk a0 a1 len1 cap1 z1 W b0 b1).mono fun e W' ⟨he, bel⟩ => ?_
  subst he
  exact ⟨_, rfl, _, _, _, [], _, [], hW', trodAll_mk1 (shut_bool Try.underlying4 _), (trodAll_cons_mk (Below.trod laidOut (by kernel_rfl) (of_decide_eq_true (by kernel_rfl)) k0 bel lt0) (trodAll_cons_mk (Below.trod laidOut (by kernel_rfl) (of_decide_eq_true (by kernel_rfl)) k1 bel lt1) trodAll_mk0)), rfl, bel.frame _, fun h => by cases h⟩

theorem over : Rows.shareSafeRow.holds Try.pinned (OpenSpec.ofChange Rows.shareSafeSpec) :=
  OpenClaim.holds_of_wide 4 Try.f4 rfl rfl rfl rfl rfl rfl rfl ⟨rfl, rfl, rfl, rfl, rfl⟩ rfl rfl rfl rfl rfl (by kernel_rfl) Try.func4 (by kernel_rfl)
    (of_decide_eq_true (by kernel_rfl)) (by unfold Func.isWrapper; first | (rw [if_pos (by decide +kernel)]; kernel_rfl) | (rw [if_neg (by decide +kernel)]; exact ⟨rfl, rfl⟩))
    (fun os started H enc _ => lifted os started H enc)

theorem proved : Rows.ShareSafeSaid := over
end Go.Proofs.Ytjkfiilnogacnaa.lawSSafe
