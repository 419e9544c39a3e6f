/-
  The statement DiskFull is proved for every two numbers: a file has at most 65536 bytes, a disk at most four files; what is more is refused, and changes nothing. No condition.
-/
import Derived.Test.YtffpmcelelloeaaAwake10
import Derived.Test.YtffpmcelelloeaaMix
import Derived.Test.YtffpmcelelloeaaBytes
import Derived.Test.YtffpmcelelloeaaOpen10
import Derived.Test.YtffpmcelelloeaaRows
namespace Go.Proofs.Ytffpmcelelloeaa.lawDfull
open Go.ChangeShapes Go.WideShapes Go.ChangeAt Go.RowKit Gm
open Go.ChangeMaps (open_string shut_string)

abbrev names4 : Obj := .cells #[.string { data := #[97] }, .string { data := #[98] }, .string { data := #[99] }, .string { data := #[100] }] 9 (0, 0)
theorem names_at {W : World} {g : Nat} (h : W.heap[g]? = some names4) {i : Nat} (hi : i < 4) : W.cell? ⟨g, i, none⟩ = some (.string (S (nmK i))) := by
  rw [cell_of_row _ _ _ _ _ _ h]
  have : i = 0 ∨ i = 1 ∨ i = 2 ∨ i = 3 := by omega
  rcases this with rfl | rfl | rfl | rfl <;> rfl
theorem names_all {W : World} {g : Nat} (h : W.heap[g]? = some names4) : NamesAt W (some ⟨g, 0, none⟩) 4 [[97], [98], [99], [100]] := by
  refine ⟨rfl, g, 0, .inr rfl, fun i hi => ⟨(Array.getElem?_eq_some_iff.1 h).1, ?_⟩⟩
  have hi' : i < 4 := hi
  rw [Nat.zero_add, names_at h hi']
  have : i = 0 ∨ i = 1 ∨ i = 2 ∨ i = 3 := by omega
  rcases this with rfl | rfl | rfl | rfl <;> rfl

set_option maxRecDepth 100000 in
set_option maxHeartbeats 8000000 in
theorem walk (long more : Int) (w : World) (h0 : I64 long) (h1 : I64 more) :
    Calls Try.prog 4 #[.int .i64 long, .int .i64 more] w fun e w' => e = .returned (.bool true) ∧ Below w.heap.size w w' := by
  have HI0 := Lib.hid h0
  have HI1 := Lib.hid h1
  have hp := pk_bd long 300 (by omega)
  have hq := pk_bd more 600 (by omega)
  obtain ⟨N, hN⟩ : ∃ N : Nat, 65536 - pk long 300 = (N : Int) := ⟨(65536 - pk long 300).toNat, by omega⟩
  obtain ⟨M, hM⟩ : ∃ M : Nat, pk more 600 = (M : Int) := ⟨(pk more 600).toNat, by omega⟩
  have hNb : 65236 ≤ N ∧ N ≤ 65536 := by omega
  have hMb : M < 600 := by omega
  obtain ⟨P, hP⟩ : ∃ P, pk long 300 = P := ⟨_, rfl⟩
  rw [hP] at hN hp
  have HP := Lib.hid hP
  have HM := Lib.hid hM
  have HN := Lib.hid hN
  have H0 := Lib.hid (Held.start w)
  clear hP hM h0 h1 hq
  go_enter Try.func4, Try.ntmps4
  go_wp2_with (go_at_call 9; refine (awake_any _).mono ?_; rintro e w1 ⟨rfl, hb1⟩; have h1 := H0.out.below nobody_law nobody_law hb1)
  go_wp2_with (go_at_call 10; refine (h1.pNew nobody_law).mono ?_; rintro e w2 ⟨p, rfl, h2⟩)
  go_wp2_with (go_at_call 13; (with_reducible refine (pick_any _ _ _ HI0.out (by omega) (by omega)).mono ?_); rw [HP.out]; rintro e w3 ⟨rfl, rfl⟩)
  go_wp2_with (go_at_call 13; (with_reducible refine (pick_any _ _ _ HI1.out (by omega) (by omega)).mono ?_); rw [HM.out]; rintro e w3 ⟨rfl, rfl⟩)
  go_wp2_with fail
  have h3 := h2.push pdisk_law nobody_law names4
  obtain ⟨g, hg⟩ : ∃ g, w2.heap.size = g := ⟨_, rfl⟩
  rw [hg] at h3 ⊢
  have HH : Hid (Held PDisk Nobody w (w2.alloc names4) p (fullD N 0) 0 newD [(g, names4)]) := Lib.hid h3
  clear h1 h2 h3 hb1 hg hN hp
  go_loopw [10] (fun iv wr => ∃ i : Nat, i ≤ 4 ∧ iv = .int .i64 (i : Int) ∧ Held PDisk Nobody w wr p (fullD N i) 0 newD [(g, names4)]) (fun iv _ => 4 - (intOf iv).toNat)
  case atStart => exact ⟨0, by omega, rfl, HH.out⟩
  case round =>
    obtain ⟨i, hi, rfl, hh⟩ := hrel
    clear HH
    obtain ⟨w6, rfl⟩ : ∃ w', w' = wr := ⟨_, rfl⟩
    by_cases hlt : i < 4
    · have hg6 : g < w6.heap.size := (Array.getElem?_eq_some_iff.1 (hh.own (List.mem_cons_self ..))).1
      have HCE : Hid (∀ W, Below w6.heap.size w6 W → W.cell? ⟨g, i, none⟩ = some (.string (S (nmK i)))) := Lib.hid (fun W h => (h.cell (p := ⟨g, i, none⟩) hg6).trans (names_at (hh.own (List.mem_cons_self ..)) hlt))
      have H7 := Lib.hid hh
      have hi0 : (0 : Int) ≤ (i : Int) := by omega
      have hi1 : (i : Int) < 4 := by omega
      have HST := Lib.hid (full_step (n := N) hlt hNb.2)
      clear hh hlt
      go_wp2
      have hB := below_dn (Below.refl w6.heap.size w6) 0
      have hB : Below w6.heap.size w6 w6.drew := (Below.refl w6.heap.size w6).drew
      refine region_mix (fun W => Below w6.heap.size w6 W) (8) (.reads [0, 1, 2, 3, 4, 5] (.only 6 (.only 7 (.only 8 (.only 9 (.stop)))))) (by kernel_rfl) (by kernel_rfl) (hB) ?_
      obtain ⟨wq, hwq⟩ : ∃ W, w6.drew = W := ⟨_, rfl⟩
      rw [hwq] at hB ⊢
      clear hwq
      repeat (
        refine plan_read rfl (fun K hK => ?_)
        first
          | (refine plan_neg ?_ ?_
             focus (go_simp; done)
             go_simp
             refine hK _ ?_
             clear hK K)
          | (apply plan_pos
             focus (go_simp; done)
             focus (
               intro W hW
               (have d0 := HCE.out W hW)
               go_simp
               first
                 | done
                 | exact rfl)
             go_simp
             refine hK _ ?_
             clear hK K))
      have hmk := fun W => make_zs N (by omega) W
      have hcv := fun W => str_zs N W
      have hB2 := hB.alloc hB.size (zeros N)
      refine plan_only rfl (fun Q hQ => ?_)
      go_wp2
      refine hQ _ _ (fun _ => hB2) ?_
      clear hQ Q
      refine plan_only rfl (fun Q hQ => ?_)
      go_wp2
      refine hQ _ _ (fun _ => hB2) ?_
      clear hQ Q
      have h8 := (H7.out.below pdisk_law nobody_law hB).below pdisk_law nobody_law ((Below.refl wq.heap.size wq).alloc (Nat.le_refl _) (zeros N))
      have hzl := zs_len N
      have hac : (fullD N i).acts ≤ 1099511627776 := by show i ≤ _; omega
      refine plan_only rfl (fun Q hQ => ?_)
      go_wp2_with (go_at_call 14; (have hc := h8.pAppend nobody_law (nmK i) (zs N) hac (by show 1 ≤ 1048576; omega) (by omega); rw [HST.out] at hc; with_reducible refine hc.mono ?_); rintro e w9 ⟨rfl, h9⟩)
      have H9 := Lib.hid h9
      clear h8 h9
      refine hQ _ _ (fun h => absurd h (by omega)) ?_
      clear hQ Q
      refine plan_only rfl (fun Q hQ => ?_)
      go_wp2
      refine hQ _ _ (fun h => absurd h (by omega)) ?_
      clear hQ Q
      unfold Plan.wp
      go_wp2
      go_roundw
      case rel => exact ⟨i + 1, by omega, by go_num, H9.out⟩
      case measure => simp [intOf]; omega
    · obtain rfl : i = 4 := by omega
      obtain ⟨B, C, e, L, h1, h2, h3, h4, hBa, hcase⟩ := full_ends (n := N) (m := M)
      have hmk := fun W => make_zs M (by omega) W
      have hcv := fun W => str_zs M W
      have hzl := zs_len M
      have hsl : (S (zs L)).size = L := by rw [S_size, zs_len]
      have e0 : S [] = { data := #[] } := rfl
      clear hlt
      obtain ⟨wr, rfl⟩ : ∃ w', w' = w6 := ⟨_, rfl⟩
      replace hh := hh.below pdisk_law nobody_law ((Below.refl wr.heap.size wr).alloc (Nat.le_refl _) (zeros M))
      rcases hcase with ⟨rfl, rfl, hc⟩ | ⟨rfl, rfl, hc⟩
      · have hci : (N : Int) + (M : Int) ≤ 65536 := by omega
        have hcn : ((N + M : Nat) : Int) = (N : Int) + (M : Int) := by omega
        go_wp2_with (go_at_call 14; (have hc := hh.pAppend nobody_law [98] (zs M) (by show 4 ≤ 1099511627776; omega) (by decide) (by omega); rw [e98, h1] at hc; with_reducible refine hc.mono ?_); rintro e w7 ⟨rfl, h7⟩)
        go_wp2_with (go_at_call 26; (have hc := h7.pRead nobody_law [98] (by decide); rw [e98, h2] at hc; with_reducible refine hc.mono ?_); rintro e w8 ⟨rfl, _, h8⟩)
        go_wp2_with (go_at_call 14; (have hc := h8.pAppend nobody_law [101] [] (by omega) (by decide) (by decide); rw [e101, e0, h3] at hc; with_reducible refine hc.mono ?_); rintro e w9 ⟨rfl, h9⟩)
        go_wp2_with (go_at_call 29; (have hc := h9.pList nobody_law; rw [h4] at hc; with_reducible refine hc.mono ?_); rintro e w10 ⟨⟨la, ll, lc, rfl, hn⟩, _, h10⟩)
        have hn2 := names_all (h10.own (List.mem_cons_self ..))
        go_wp2_with (go_at_call 28; (with_reducible refine (same_any _ _ _ _ _ _ _ _ _ hn hn2 (by decide)).mono ?_); rintro e w11 ⟨rfl, hb11⟩; have h11 := h10.below pdisk_law nobody_law hb11)
        go_ret
        exact ⟨rfl, h11.to⟩
      · have hci : ¬ (L : Int) + (M : Int) ≤ 65536 := by omega
        go_wp2_with (go_at_call 14; (have hc := hh.pAppend nobody_law [98] (zs M) (by show 4 ≤ 1099511627776; omega) (by decide) (by omega); rw [e98, h1] at hc; with_reducible refine hc.mono ?_); rintro e w7 ⟨rfl, h7⟩)
        go_wp2_with (go_at_call 26; (have hc := h7.pRead nobody_law [98] (by decide); rw [e98, h2] at hc; with_reducible refine hc.mono ?_); rintro e w8 ⟨rfl, _, h8⟩)
        go_wp2_with (go_at_call 14; (have hc := h8.pAppend nobody_law [101] [] (by omega) (by decide) (by decide); rw [e101, e0, h3] at hc; with_reducible refine hc.mono ?_); rintro e w9 ⟨rfl, h9⟩)
        go_wp2_with (go_at_call 29; (have hc := h9.pList nobody_law; rw [h4] at hc; with_reducible refine hc.mono ?_); rintro e w10 ⟨⟨la, ll, lc, rfl, hn⟩, _, h10⟩)
        have hn2 := names_all (h10.own (List.mem_cons_self ..))
        go_wp2_with (go_at_call 28; (with_reducible refine (same_any _ _ _ _ _ _ _ _ _ hn hn2 (by decide)).mono ?_); rintro e w11 ⟨rfl, hb11⟩; have h11 := h10.below pdisk_law nobody_law hb11)
        go_ret
        exact ⟨rfl, h11.to⟩
theorem own : ownKnob Try.prog.godebug = none := by kernel_rfl
theorem laidOut : laidOutB Try.prog = true := by kernel_rfl

set_option maxRecDepth 100000 in
theorem lifted (os : Os) (started : os.Started) (H : Type) (enc : TypeId × Value → H) :
    ReturnsInHanded {} Try.checked os 4 .any (Rows.diskFullSpec.pre6 enc Try.prog Try.f4 Rows.diskFullRow.domain false) (Rows.diskFullSpec.post enc Try.prog Try.f4 false true false false) := by
  refine returnsInHanded_of_change_sized (C := Try.checked) own started (by kernel_rfl) Try.func4
    (ChangeSpec.witness6 (enc := enc) (C := Try.checked) false ⟨#[], #[.int .i64 0, .int .i64 0], []⟩ 8 (by kernel_rfl) (by kernel_rfl) (by kernel_rfl) (by kernel_rfl)) ?_
  intro W base args ds gs before hval0 hW _ hsz0 _
  have hsz : (DataW.weightsEach Try.prog (Try.f4.params.toList ++ Rows.diskFullSpec.plain.varTypes Try.prog) (ds ++ gs)).all (· ≤ reachBytes) = true := hsz0
  have hval : ∀ (j : Nat) t v, Try.f4.params[j]? = some t → args[j]? = some v → Value.okWide Try.prog W .any base t v := hval0
  have hW' := hW
  obtain ⟨p, q, hA0, hV, rfl, hfz, hnd⟩ := hW
  have hA : DataW.TrodAll enc Try.prog W 0 (fun _ => true) true Try.f4.params.toList args.toList ds p := hA0
  rw [Try.params4] at hA hval hsz
  obtain ⟨v0, vs0, d0, ds0, p0, q0, hargs, rfl, rfl, h0, r0⟩ := trodAll_cons hA
  obtain ⟨v1, vs1, d1, ds1, p1, q1, rfl, rfl, rfl, h1, r1⟩ := trodAll_cons r0
  obtain ⟨rfl, rfl, rfl⟩ := trodAll_nil r1
  obtain rfl : args = #[v0, v1] := by cases args; simp_all
  obtain ⟨rfl, rfl⟩ := trodVars_none hV
  have k0 := h0
  have lt0 : ∀ x ∈ p0, x.block < W.heap.size := by obtain ⟨m, hm⟩ := k0; exact DataW.trod_lt m _ _ _ hm
  have k1 := h1
  have lt1 : ∀ x ∈ p1, x.block < W.heap.size := by obtain ⟨m, hm⟩ := k1; exact DataW.trod_lt m _ _ _ hm
  obtain ⟨a0, rfl, rfl, rfl, w0⟩ := open_int Try.underlying3 (hval 0 3 v0 rfl rfl) h0
  have b0 := in_of_wf w0
  obtain ⟨a1, rfl, rfl, rfl, w1⟩ := open_int Try.underlying3 (hval 1 3 v1 rfl rfl) h1
  have b1 := in_of_wf w1
  clear hA0 hval0 hsz0 hsz
  refine (walk a0 a1 W b0 b1).mono fun e W' ⟨he, bel⟩ => ?_
  subst he
  exact ⟨_, rfl, _, _, _, [], _, [], hW', trodAll_mk1 (shut_bool Try.underlying4 _), (trodAll_cons_mk (Below.trod laidOut (by kernel_rfl) (of_decide_eq_true (by kernel_rfl)) k0 bel lt0) (trodAll_cons_mk (Below.trod laidOut (by kernel_rfl) (of_decide_eq_true (by kernel_rfl)) k1 bel lt1) trodAll_mk0)), rfl, bel.frame _, fun h => by cases h⟩

theorem over : Rows.diskFullRow.holds Try.pinned (OpenSpec.ofChange Rows.diskFullSpec) :=
  OpenClaim.holds_of_wide 4 Try.f4 rfl rfl rfl rfl rfl rfl rfl ⟨rfl, rfl, rfl, rfl, rfl⟩ rfl rfl rfl rfl rfl (by kernel_rfl) Try.func4 (by kernel_rfl)
    (of_decide_eq_true (by kernel_rfl)) (by unfold Func.isWrapper; first | (rw [if_pos (by decide +kernel)]; kernel_rfl) | (rw [if_neg (by decide +kernel)]; exact ⟨rfl, rfl⟩))
    (fun os started H enc _ => lifted os started H enc)

theorem proved : Rows.DiskFullSaid := over
end Go.Proofs.Ytffpmcelelloeaa.lawDfull
