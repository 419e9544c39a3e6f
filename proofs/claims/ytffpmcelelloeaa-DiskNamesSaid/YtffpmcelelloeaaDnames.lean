/-
  The statement DiskNames is proved for every three texts, either choice and every number: a file that is renamed is there by its new name alone, as it was, synced or not, and what had that name is gone. No condition.
-/
import Derived.Test.YtffpmcelelloeaaAwake10
import Derived.Test.YtffpmcelelloeaaDnamesn
import Derived.Test.YtffpmcelelloeaaOpen10
import Derived.Test.YtffpmcelelloeaaRows
namespace Go.Proofs.Ytffpmcelelloeaa.lawDnames
open Go.ChangeShapes Go.WideShapes Go.ChangeAt Go.RowKit Gm
open Go.ChangeMaps (open_string shut_string)

set_option maxRecDepth 100000 in
set_option maxHeartbeats 4000000 in
theorem walk (a0 a1 a2 : ByteArray) (both : Bool) (keep : Int) (w : World) (h0 : a0.size ≤ 140737488351232) (h1 : a1.size ≤ 140737488351232) (h2 : a2.size ≤ 140737488351232) (hk : I64 keep) :
    Calls Try.prog 7 #[.string a0, .string a1, .string a2, .bool both, .int .i64 keep] w fun e w' => e = .returned (.bool true) ∧ Below w.heap.size w w' := by
  obtain ⟨x, rfl⟩ : ∃ x, a0 = S x := ⟨_, (S_eq a0).symm⟩
  obtain ⟨y, rfl⟩ : ∃ x, a1 = S x := ⟨_, (S_eq a1).symm⟩
  obtain ⟨z, rfl⟩ : ∃ x, a2 = S x := ⟨_, (S_eq a2).symm⟩
  have sx := S_size x
  have sy := S_size y
  have sz := S_size z
  rw [sx] at h0
  rw [sy] at h1
  rw [sz] at h2
  obtain ⟨kx, mx, cx⟩ := cut_500 x
  obtain ⟨ky, my, cy⟩ := cut_500 y
  obtain ⟨kz, mz, cz⟩ := cut_500 z
  obtain ⟨o, ho⟩ : ∃ o, x.take 500 = o := ⟨_, rfl⟩
  obtain ⟨m, hm⟩ : ∃ o, y.take 500 = o := ⟨_, rfl⟩
  obtain ⟨r, hr⟩ : ∃ o, z.take 500 = o := ⟨_, rfl⟩
  have lo : o.length ≤ 500 := by rw [← ho, List.length_take]; omega
  have lm : m.length ≤ 500 := by rw [← hm, List.length_take]; omega
  have lr : r.length ≤ 500 := by rw [← hr, List.length_take]; omega
  rw [ho] at cx
  rw [hm] at cy
  rw [hr] at cz
  have H0 := Lib.hid (Held.start w)
  have HK := Lib.hid hk
  clear ho hm hr hk
  go_enter Try.func7, Try.ntmps7
  go_wp2_with (go_at_call 9; refine (awake_any _).mono ?_; rintro e w1 ⟨rfl, hb1⟩; have h1 := H0.out.below nobody_law nobody_law hb1)
  go_wp2_with (go_at_call 10; refine (h1.pNew nobody_law).mono ?_; rintro e w2 ⟨p, rfl, h2⟩)
  go_wp2_with (go_at_call 14; (have hc := h2.pAppend nobody_law [97] o (by decide) (by decide) (by omega); rw [e97, dn1 lo] at hc; with_reducible refine hc.mono ?_); rintro e w3 ⟨rfl, h3⟩)
  go_wp2_with (go_at_call 16; (have hc := h3.pSync nobody_law [97] (by dsimp only; omega) (by decide); rw [e97, dn2] at hc; with_reducible refine hc.mono ?_); rintro e w4 ⟨rfl, h4⟩)
  have c0 := fun W => slice_to m (keepN keep m.length) (keep_le keep m.length) W
  obtain ⟨mk, hmk⟩ : ∃ l, m.take (keepN keep m.length) = l := ⟨_, rfl⟩
  have lk : mk.length ≤ 500 := by rw [← hmk, List.length_take]; omega
  have so := S_size o
  have sm := S_size m
  have sk := S_size mk
  have nb1 : ¬ 9223372036854775807 < o.length + m.length := by omega
  have nb2 : ¬ 9223372036854775807 < o.length + mk.length := by omega
  rw [hmk] at c0
  have q1 := S_app o m
  have q2 := S_app o (mk)
  have q3 := S_toList (o ++ m)
  have q4 := S_toList (o ++ mk)
  cases both
  · go_wp2_with (go_at_call 14; (have hc := h4.pAppend nobody_law [97] m (by dsimp only; omega) (by decide) (by omega); rw [e97, dn3 lo lm] at hc; with_reducible refine hc.mono ?_); rintro e w5 ⟨rfl, hX⟩)
    go_wp2_with (go_at_call 18; (have hc := hX.pRename nobody_law [97] [98] (by dsimp only; omega) (by decide) (by decide); rw [e97, e98, dn6a] at hc; with_reducible refine hc.mono ?_); rintro e w6 ⟨rfl, h6⟩)
    go_wp2_with (go_at_call 29; (have hc := h6.pList nobody_law; rw [dn7] at hc; with_reducible refine hc.mono ?_); rintro e w7 ⟨⟨la, ll, lc, rfl, hn7⟩, hb7, h7⟩)
    have h7' := h7.push pdisk_law nobody_law (.cells #[.string { data := #[98] }] 9)
    have hn8 := hn7.below ((Below.refl w7.heap.size w7).alloc (Nat.le_refl _) (.cells #[.string { data := #[98] }] 9))
    have ho8 := NamesAt.one (l := [98]) (h7'.own (List.mem_cons_self ..))
    go_wp2_with (go_at_call 28; (with_reducible refine (same_any _ _ _ _ _ _ _ _ _ hn8 ho8 (by decide)).mono ?_); rintro e w8 ⟨rfl, hb8⟩; have h8 := (h7'.below pdisk_law nobody_law hb8).pop)
    clear hn8 ho8 hn7 h7'
    go_wp2_with (go_at_call 26; (have hc := h8.pRead nobody_law [98] (by decide); rw [e98, dn8] at hc; with_reducible refine hc.mono ?_); rintro e w9 ⟨rfl, _, h9⟩)
    go_wp2_with (go_at_call 26; (have hc := h9.pRead nobody_law [97] (by decide); rw [e97, dn9] at hc; with_reducible refine hc.mono ?_); rintro e w10 ⟨rfl, _, h10⟩)
    have h10' := h10.push pdisk_law nobody_law (.cells #[.int .i64 keep] 3)
    obtain ⟨n, hcut⟩ := dn10 o m 4 keep
    rw [hmk] at hcut
    go_wp2_with (go_at_call 24; (have hc := h10'.pRestart1 nobody_law (x := keep) (List.mem_cons_self ..) HK.out 1; rw [hcut] at hc; with_reducible refine hc.mono ?_); rintro e w11 ⟨rfl, h11⟩)
    go_wp2_with (go_at_call 26; (have hc := h11.pRead nobody_law [98] (by decide); rw [e98, dn8] at hc; with_reducible refine hc.mono ?_); rintro e w12 ⟨rfl, _, h12⟩)
    have hb12 := Lib.hid h12.to
    clear h2 h3 h4 hX h6 h7 h8 h9 h10 h10' h11 h12 hcut
    go_wp2_with (go_at_call 13; (with_reducible refine (pick_any _ _ _ HK.out (by omega) (by omega)).mono ?_); rw [← keep_pk]; rintro e w13 ⟨rfl, rfl⟩)
    go_ret
    exact ⟨rfl, hb12.out⟩
  · go_wp2_with (go_at_call 14; (have hc := h4.pAppend nobody_law [97] m (by dsimp only; omega) (by decide) (by omega); rw [e97, dn3 lo lm] at hc; with_reducible refine hc.mono ?_); rintro e w5 ⟨rfl, h5⟩)
    go_wp2_with (go_at_call 14; (have hc := h5.pAppend nobody_law [98] r (by dsimp only; omega) (by decide) (by omega); rw [e98, dn4 lr] at hc; with_reducible refine hc.mono ?_); rintro e w5a ⟨rfl, h5a⟩)
    go_wp2_with (go_at_call 16; (have hc := h5a.pSync nobody_law [98] (by dsimp only; omega) (by decide); rw [e98, dn5] at hc; with_reducible refine hc.mono ?_); rintro e w5b ⟨rfl, hX⟩)
    go_wp2_with (go_at_call 18; (have hc := hX.pRename nobody_law [97] [98] (by dsimp only; omega) (by decide) (by decide); rw [e97, e98, dn6b] at hc; with_reducible refine hc.mono ?_); rintro e w6 ⟨rfl, h6⟩)
    go_wp2_with (go_at_call 29; (have hc := h6.pList nobody_law; rw [dn7] at hc; with_reducible refine hc.mono ?_); rintro e w7 ⟨⟨la, ll, lc, rfl, hn7⟩, hb7, h7⟩)
    have h7' := h7.push pdisk_law nobody_law (.cells #[.string { data := #[98] }] 9)
    have hn8 := hn7.below ((Below.refl w7.heap.size w7).alloc (Nat.le_refl _) (.cells #[.string { data := #[98] }] 9))
    have ho8 := NamesAt.one (l := [98]) (h7'.own (List.mem_cons_self ..))
    go_wp2_with (go_at_call 28; (with_reducible refine (same_any _ _ _ _ _ _ _ _ _ hn8 ho8 (by decide)).mono ?_); rintro e w8 ⟨rfl, hb8⟩; have h8 := (h7'.below pdisk_law nobody_law hb8).pop)
    clear hn8 ho8 hn7 h7'
    go_wp2_with (go_at_call 26; (have hc := h8.pRead nobody_law [98] (by decide); rw [e98, dn8] at hc; with_reducible refine hc.mono ?_); rintro e w9 ⟨rfl, _, h9⟩)
    go_wp2_with (go_at_call 26; (have hc := h9.pRead nobody_law [97] (by decide); rw [e97, dn9] at hc; with_reducible refine hc.mono ?_); rintro e w10 ⟨rfl, _, h10⟩)
    have h10' := h10.push pdisk_law nobody_law (.cells #[.int .i64 keep] 3)
    obtain ⟨n, hcut⟩ := dn10 o m 6 keep
    rw [hmk] at hcut
    go_wp2_with (go_at_call 24; (have hc := h10'.pRestart1 nobody_law (x := keep) (List.mem_cons_self ..) HK.out 1; rw [hcut] at hc; with_reducible refine hc.mono ?_); rintro e w11 ⟨rfl, h11⟩)
    go_wp2_with (go_at_call 26; (have hc := h11.pRead nobody_law [98] (by decide); rw [e98, dn8] at hc; with_reducible refine hc.mono ?_); rintro e w12 ⟨rfl, _, h12⟩)
    have hb12 := Lib.hid h12.to
    clear h5 h5a h2 h3 h4 hX h6 h7 h8 h9 h10 h10' h11 h12 hcut
    go_wp2_with (go_at_call 13; (with_reducible refine (pick_any _ _ _ HK.out (by omega) (by omega)).mono ?_); rw [← keep_pk]; rintro e w13 ⟨rfl, rfl⟩)
    go_ret
    exact ⟨rfl, hb12.out⟩
theorem own : ownKnob Try.prog.godebug = none := by kernel_rfl
theorem laidOut : laidOutB Try.prog = true := by kernel_rfl

set_option maxRecDepth 100000 in
theorem lifted (os : Os) (started : os.Started) (H : Type) (enc : TypeId × Value → H) :
    ReturnsInHanded {} Try.checked os 7 .any (Rows.diskNamesSpec.pre6 enc Try.prog Try.f7 Rows.diskNamesRow.domain false) (Rows.diskNamesSpec.post enc Try.prog Try.f7 false true false false) := by
  refine returnsInHanded_of_change_sized (C := Try.checked) own started (by kernel_rfl) Try.func7
    (ChangeSpec.witness6 (enc := enc) (C := Try.checked) false ⟨#[], #[.string ByteArray.empty, .string ByteArray.empty, .string ByteArray.empty, .bool false, .int .i64 0], []⟩ 8 (by kernel_rfl) (by kernel_rfl) (by kernel_rfl) (by kernel_rfl)) ?_
  intro W base args ds gs before hval0 hW _ hsz0 _
  have hsz : (DataW.weightsEach Try.prog (Try.f7.params.toList ++ Rows.diskNamesSpec.plain.varTypes Try.prog) (ds ++ gs)).all (· ≤ reachBytes) = true := hsz0
  have hval : ∀ (j : Nat) t v, Try.f7.params[j]? = some t → args[j]? = some v → Value.okWide Try.prog W .any base t v := hval0
  have hW' := hW
  obtain ⟨p, q, hA0, hV, rfl, hfz, hnd⟩ := hW
  have hA : DataW.TrodAll enc Try.prog W 0 (fun _ => true) true Try.f7.params.toList args.toList ds p := hA0
  rw [Try.params7] at hA hval hsz
  obtain ⟨v0, vs0, d0, ds0, p0, q0, hargs, rfl, rfl, h0, r0⟩ := trodAll_cons hA
  obtain ⟨v1, vs1, d1, ds1, p1, q1, rfl, rfl, rfl, h1, r1⟩ := trodAll_cons r0
  obtain ⟨v2, vs2, d2, ds2, p2, q2, rfl, rfl, rfl, h2, r2⟩ := trodAll_cons r1
  obtain ⟨v3, vs3, d3, ds3, p3, q3, rfl, rfl, rfl, h3, r3⟩ := trodAll_cons r2
  obtain ⟨v4, vs4, d4, ds4, p4, q4, rfl, rfl, rfl, h4, r4⟩ := trodAll_cons r3
  obtain ⟨rfl, rfl, rfl⟩ := trodAll_nil r4
  obtain rfl : args = #[v0, v1, v2, v3, v4] := by cases args; simp_all
  obtain ⟨rfl, rfl⟩ := trodVars_none hV
  have k0 := h0
  have lt0 : ∀ x ∈ p0, x.block < W.heap.size := by obtain ⟨m, hm⟩ := k0; exact DataW.trod_lt m _ _ _ hm
  have k1 := h1
  have lt1 : ∀ x ∈ p1, x.block < W.heap.size := by obtain ⟨m, hm⟩ := k1; exact DataW.trod_lt m _ _ _ hm
  have k2 := h2
  have lt2 : ∀ x ∈ p2, x.block < W.heap.size := by obtain ⟨m, hm⟩ := k2; exact DataW.trod_lt m _ _ _ hm
  have k3 := h3
  have lt3 : ∀ x ∈ p3, x.block < W.heap.size := by obtain ⟨m, hm⟩ := k3; exact DataW.trod_lt m _ _ _ hm
  have k4 := h4
  have lt4 : ∀ x ∈ p4, x.block < W.heap.size := by obtain ⟨m, hm⟩ := k4; exact DataW.trod_lt m _ _ _ hm
  obtain ⟨a0, rfl, rfl, rfl, w0⟩ := open_string Try.underlying9 (hval 0 9 v0 rfl rfl) h0
  have b0 := sized_of (sized_string hsz (j := 0) (t := 9) rfl rfl)
  obtain ⟨a1, rfl, rfl, rfl, w1⟩ := open_string Try.underlying9 (hval 1 9 v1 rfl rfl) h1
  have b1 := sized_of (sized_string hsz (j := 1) (t := 9) rfl rfl)
  obtain ⟨a2, rfl, rfl, rfl, w2⟩ := open_string Try.underlying9 (hval 2 9 v2 rfl rfl) h2
  have b2 := sized_of (sized_string hsz (j := 2) (t := 9) rfl rfl)
  obtain ⟨a3, rfl, rfl, rfl⟩ := open_bool Try.underlying4 (hval 3 4 v3 rfl rfl) h3
  obtain ⟨a4, rfl, rfl, rfl, w4⟩ := open_int Try.underlying3 (hval 4 3 v4 rfl rfl) h4
  have b4 := in_of_wf w4
  clear hA0 hval0 hsz0 hsz
  refine (walk a0 a1 a2 a3 a4 W b0 b1 b2 b4).mono fun e W' ⟨he, bel⟩ => ?_
  subst he
  exact ⟨_, rfl, _, _, _, [], _, [], hW', trodAll_mk1 (shut_bool Try.underlying4 _), (trodAll_cons_mk (Below.trod laidOut (by kernel_rfl) (of_decide_eq_true (by kernel_rfl)) k0 bel lt0) (trodAll_cons_mk (Below.trod laidOut (by kernel_rfl) (of_decide_eq_true (by kernel_rfl)) k1 bel lt1) (trodAll_cons_mk (Below.trod laidOut (by kernel_rfl) (of_decide_eq_true (by kernel_rfl)) k2 bel lt2) (trodAll_cons_mk (Below.trod laidOut (by kernel_rfl) (of_decide_eq_true (by kernel_rfl)) k3 bel lt3) (trodAll_cons_mk (Below.trod laidOut (by kernel_rfl) (of_decide_eq_true (by kernel_rfl)) k4 bel lt4) trodAll_mk0))))), rfl, bel.frame _, fun h => by cases h⟩

theorem over : Rows.diskNamesRow.holds Try.pinned (OpenSpec.ofChange Rows.diskNamesSpec) :=
  OpenClaim.holds_of_wide 7 Try.f7 rfl rfl rfl rfl rfl rfl rfl ⟨rfl, rfl, rfl, rfl, rfl⟩ rfl rfl rfl rfl rfl (by kernel_rfl) Try.func7 (by kernel_rfl)
    (of_decide_eq_true (by kernel_rfl)) (by unfold Func.isWrapper; first | (rw [if_pos (by decide +kernel)]; kernel_rfl) | (rw [if_neg (by decide +kernel)]; exact ⟨rfl, rfl⟩))
    (fun os started H enc _ => lifted os started H enc)

theorem proved : Rows.DiskNamesSaid := over
end Go.Proofs.Ytffpmcelelloeaa.lawDnames
