/-
  The statement AdlerOne is proved for every text, any byte of it and any other byte in its place: the sums are unlike. No condition.
-/
import Derived.StillTailTactics
import Derived.Test.YthbbefjgmnocdaaAwake
import Derived.Test.YthbbefjgmnocdaaOpen
import Derived.Test.YthbbefjgmnocdaaRows
namespace Go.Proofs.Ythbbefjgmnocdaa.lawOne
open Go.ChangeShapes Go.WideShapes Go.ChangeAt Go.RowKit
open Go.ChangeMaps (open_string shut_string)

theorem walk (s : ByteArray) (c d : Int) (w : World) (hs : s.size ≤ 140737488351232) (hc : I64 c) (hd : I64 d) :
    Calls Try.prog 6 #[.string s, .int .i64 c, .int .i64 d] w fun e w' => e = .returned (.bool true) ∧ Below w.heap.size w w' := by
  obtain ⟨l, rfl⟩ : ∃ l, s = S l := ⟨_, (S_eq s).symm⟩
  have hsz := S_size l
  rw [hsz] at hs
  by_cases h0 : l.length = 0
  · have h0' : ((l.length : Int) == 0) = true := by rw [beq_iff_eq]; omega
    go_enter Try.func6, Try.ntmps6
    go_wp2_with (go_at_call 10; refine (awake_any _).mono ?_; rintro e w1 ⟨rfl, hb1⟩)
    go_ret
    exact ⟨rfl, hb1⟩
  · have h0' : ((l.length : Int) == 0) = false := by rw [beq_eq_false_iff_ne]; omega
    obtain ⟨at', hat⟩ : ∃ n : Nat, Am.pick c (l.length : Int) = (n : Int) := ⟨(Am.pick c (l.length : Int)).toNat, by have := Am.pick_bd c (l.length : Int) (by omega); omega⟩
    obtain ⟨k, hk⟩ : ∃ n : Nat, Am.pick d 255 = (n : Int) := ⟨(Am.pick d 255).toNat, by have := Am.pick_bd d 255 (by omega); omega⟩
    have a1 := Am.pick_bd c (l.length : Int) (by omega)
    have a2 := Am.pick_bd d 255 (by omega)
    rw [hat] at a1
    rw [hk] at a2
    have HA := Lib.hid hat
    have HK := Lib.hid hk
    have HC := Lib.hid hc
    have HD := Lib.hid hd
    clear hat hk hc hd h0
    go_enter Try.func6, Try.ntmps6
    go_wp2_with fail
    refine (awake_any _).mono ?_; rintro e w1 ⟨rfl, hb1⟩
    obtain ⟨cap, w2, hcv, hb2, hz2, hcap, hc2, hf2⟩ := bytes_of l w1
    go_wp2_with fail
    refine (pick_any _ _ _ HC.out ⟨by omega, by omega⟩).mono ?_; rintro e w3 ⟨rfl, rfl⟩
    rw [HA.out]
    have hx := hc2 at' (by omega)
    have hfx := hf2 at' (by omega)
    clear hcv
    go_wp2
    refine wp_region_still_tail 12 (by kernel_rfl) (by kernel_rfl) ?_
    simp only [List.take_succ_cons, List.take_zero, List.drop_succ_cons, List.drop_zero]
    repeat still_step
    refine wpStill_step (fun K hK => ?_)
    go_simp
    refine ⟨_, (pick_any _ _ _ HD.out ⟨by omega, by omega⟩).mono (fun e w' h => ⟨h.1, h.2.symm⟩), hK _ ?_⟩
    clear hK K
    rw [HK.out]
    repeat still_step
    refine wpStill_nil ?_
    change wpList _ _ _ _ _ w2.drew
    have hfx2 : w2.drew.frozen? ⟨w1.heap.size, at', none⟩ = false := hfx
    have hxv : bits .xor .u8 (l[at'].toNat : Int) (1 + (k : Int)) = ((l[at'] ^^^ UInt8.ofNat (k + 1)).toNat : Int) := by
      have e := xor_byte l[at'] (UInt8.ofNat (k + 1))
      rw [show (UInt8.ofNat (k + 1)).toNat = k + 1 by simp; omega, show ((k + 1 : Nat) : Int) = 1 + (k : Int) by omega] at e
      exact e
    have hne := Am.xor_ne l[at'] (k + 1) (by omega) (by omega)
    obtain ⟨y, hy⟩ : ∃ y, l[at'] ^^^ UInt8.ofNat (k + 1) = y := ⟨_, rfl⟩
    rw [hy] at hxv hne
    have HNE : Hid ((Am.sum (l.set at' y) != Am.sum l) = true) := Lib.hid (by rw [bne_iff_ne]; exact Am.sum_set l at' (by omega) y hne)
    have hlen : (l.set at' y).length = l.length := List.length_set
    have hcv : (convert 32 9 (.slice (some ⟨w1.heap.size, 0, none⟩) l.length cap)).run Try.prog (w2.setCell ⟨w1.heap.size, at', none⟩ (.int .u8 (y.toNat : Int))).drew = .ok (.string (S (l.set at' y))) (w2.setCell ⟨w1.heap.size, at', none⟩ (.int .u8 (y.toNat : Int))).drew := by
      have := str_of (BytesAt.drew (BytesAt.set (W := w2) hc2 at' (by omega) y)) cap
      rwa [hlen] at this
    have HL := Lib.hid hlen
    have HC2 := Lib.hid hc2
    have hb3 : Below w.heap.size w (w2.setCell ⟨w1.heap.size, at', none⟩ (.int .u8 (y.toNat : Int))).drew := ((bt hb1 hb2).setCell (p := ⟨w1.heap.size, at', none⟩) hb1.size _).drew
    clear hlen hc2 hf2 hne hy
    go_wp2_with fail
    refine (sum_any _ _ (by rw [HL.out]; omega)).mono ?_; rintro e w3 ⟨rfl, hb4⟩
    go_wp2_with fail
    refine (sum_any l _ (by omega)).mono ?_; rintro e w5 ⟨rfl, hb5⟩
    have hne := HNE.out
    go_wp2
    go_ret
    exact ⟨rfl, bt (bt hb3 hb4) hb5⟩

theorem own : ownKnob Try.prog.godebug = none := by kernel_rfl
theorem laidOut : laidOutB Try.prog = true := by kernel_rfl

set_option maxRecDepth 100000 in
theorem lifted (os : Os) (started : os.Started) (H : Type) (enc : TypeId × Value → H) :
    ReturnsInHanded {} Try.checked os 6 .any (Rows.adlerOneSpec.pre6 enc Try.prog Try.f6 Rows.adlerOneRow.domain false) (Rows.adlerOneSpec.post enc Try.prog Try.f6 false true false false) := by
  refine returnsInHanded_of_change_sized (C := Try.checked) own started (by kernel_rfl) Try.func6
    (ChangeSpec.witness6 (enc := enc) (C := Try.checked) false ⟨#[], #[.string ByteArray.empty, .int .i64 0, .int .i64 0], []⟩ 8 (by kernel_rfl) (by kernel_rfl) (by kernel_rfl) (by kernel_rfl)) ?_
  intro W base args ds gs before hval0 hW _ hsz0 _
  have hsz : (DataW.weightsEach Try.prog (Try.f6.params.toList ++ Rows.adlerOneSpec.plain.varTypes Try.prog) (ds ++ gs)).all (· ≤ reachBytes) = true := hsz0
  have hval : ∀ (j : Nat) t v, Try.f6.params[j]? = some t → args[j]? = some v → Value.okWide Try.prog W .any base t v := hval0
  have hW' := hW
  obtain ⟨p, q, hA0, hV, rfl, hfz, hnd⟩ := hW
  have hA : DataW.TrodAll enc Try.prog W 0 (fun _ => true) true Try.f6.params.toList args.toList ds p := hA0
  rw [Try.params6] at hA hval hsz
  obtain ⟨v0, vs0, d0, ds0, p0, q0, hargs, rfl, rfl, h0, r0⟩ := trodAll_cons hA
  obtain ⟨v1, vs1, d1, ds1, p1, q1, rfl, rfl, rfl, h1, r1⟩ := trodAll_cons r0
  obtain ⟨v2, vs2, d2, ds2, p2, q2, rfl, rfl, rfl, h2, r2⟩ := trodAll_cons r1
  obtain ⟨rfl, rfl, rfl⟩ := trodAll_nil r2
  obtain rfl : args = #[v0, v1, v2] := by cases args; simp_all
  obtain ⟨rfl, rfl⟩ := trodVars_none hV
  have k0 := h0
  have lt0 : ∀ x ∈ p0, x.block < W.heap.size := by obtain ⟨m, hm⟩ := k0; exact DataW.trod_lt m _ _ _ hm
  have k1 := h1
  have lt1 : ∀ x ∈ p1, x.block < W.heap.size := by obtain ⟨m, hm⟩ := k1; exact DataW.trod_lt m _ _ _ hm
  have k2 := h2
  have lt2 : ∀ x ∈ p2, x.block < W.heap.size := by obtain ⟨m, hm⟩ := k2; exact DataW.trod_lt m _ _ _ hm
  obtain ⟨a0, rfl, rfl, rfl, w0⟩ := open_string Try.underlying9 (hval 0 9 v0 rfl rfl) h0
  have b0 := sized_of (sized_string hsz (j := 0) (t := 9) rfl rfl)
  obtain ⟨a1, rfl, rfl, rfl, w1⟩ := open_int Try.underlying3 (hval 1 3 v1 rfl rfl) h1
  have b1 := in_of_wf w1
  obtain ⟨a2, rfl, rfl, rfl, w2⟩ := open_int Try.underlying3 (hval 2 3 v2 rfl rfl) h2
  have b2 := in_of_wf w2
  clear hA0 hval0 hsz0 hsz
  refine (walk a0 a1 a2 W b0 b1 b2).mono fun e W' ⟨he, bel⟩ => ?_
  subst he
  exact ⟨_, rfl, _, _, _, [], _, [], hW', trodAll_mk1 (shut_bool Try.underlying4 _), (trodAll_cons_mk (Below.trod laidOut (by kernel_rfl) (of_decide_eq_true (by kernel_rfl)) k0 bel lt0) (trodAll_cons_mk (Below.trod laidOut (by kernel_rfl) (of_decide_eq_true (by kernel_rfl)) k1 bel lt1) (trodAll_cons_mk (Below.trod laidOut (by kernel_rfl) (of_decide_eq_true (by kernel_rfl)) k2 bel lt2) trodAll_mk0))), rfl, bel.frame _, fun h => by cases h⟩

theorem over : Rows.adlerOneRow.holds Try.pinned (OpenSpec.ofChange Rows.adlerOneSpec) :=
  OpenClaim.holds_of_wide 6 Try.f6 rfl rfl rfl rfl rfl rfl rfl ⟨rfl, rfl, rfl, rfl, rfl⟩ rfl rfl rfl rfl rfl (by kernel_rfl) Try.func6 (by kernel_rfl)
    (of_decide_eq_true (by kernel_rfl)) (by unfold Func.isWrapper; first | (rw [if_pos (by decide +kernel)]; kernel_rfl) | (rw [if_neg (by decide +kernel)]; exact ⟨rfl, rfl⟩))
    (fun os started H enc _ => lifted os started H enc)

theorem proved : Rows.AdlerOneSaid := over
end Go.Proofs.Ythbbefjgmnocdaa.lawOne
