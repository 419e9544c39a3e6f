/-
  The statement VarintReads is proved for every text and takes: a reader takes any text up as the document does, whatever is asked. No condition.
-/
import Derived.Deep.QuietTactic
import Derived.Deep.RegionHeld3
import Derived.BigQuiet
import Derived.Test.YtdnlpjmjhlmjgaaBoth
import Derived.Test.YtdnlpjmjhlmjgaaSlices
import Derived.Test.YtdnlpjmjhlmjgaaRows
namespace Go.Proofs.Ytdnlpjmjhlmjgaa.lawReads
open Go.ChangeShapes Go.WideShapes Go.ChangeAt Go.RowKit
open Go.ChangeMaps (open_string shut_string)

theorem tmod_two (p : Int) : p.tmod 2 = 0 ∨ p.tmod 2 = 1 ∨ p.tmod 2 = -1 := by
  rcases Int.le_total 0 p with h | h
  · rw [Int.tmod_eq_emod_of_nonneg h]; omega
  · have := Int.neg_tmod p 2
    rw [Int.tmod_eq_emod_of_nonneg (show 0 ≤ -p by omega)] at this
    omega

set_option maxRecDepth 100000 in
set_option maxHeartbeats 4000000 in
theorem walk (s : ByteArray) (a1 : Option Addr) (len1 cap1 : Nat) (z1 : Nat → Int × Int) (w : World) (hs : s.size ≤ 140737488351232) (h1 : TakesAt w a1 len1 z1) :
    Calls Try.prog 4 #[.string s, .slice a1 len1 cap1] w fun e w' => e = .returned (.bool true) ∧ Below w.heap.size w w' := by
  obtain ⟨hl1, b1, o1, hn1, hcell1⟩ := h1
  have HC1 := Lib.hid hcell1
  have HN1 := Lib.hid hn1
  clear hcell1 hn1
  go_enter Try.func4, Try.ntmps4
  go_wp2_with (go_at_call 13; refine (awake_any _).mono ?_; rintro e w1 ⟨rfl, hb1⟩)
  refine (new_any _ _).mono ?_
  rintro e w2 ⟨rfl, rfl⟩
  go_wp2_with fail
  refine (qnew_any _ _).mono ?_
  rintro e w3 ⟨rfl, rfl⟩
  have r0 := (RdAt.new 49 w1 s false).grown (World.grownBy_alloc _ (.cells #[.string s, .bool false] 51) none) (by simp)
  have q0 := RdAt.new 51 (w1.alloc (.cells #[.string s, .bool false] 49)) s false
  rw [World.size_alloc] at q0
  have hB0 : Below w.heap.size w ((w1.alloc (.cells #[.string s, .bool false] 49)).alloc (.cells #[.string s, .bool false] 51)) := (hb1.alloc hb1.size _).alloc (by have := hb1.size; simp; omega) _
  have hra := hb1.size
  go_wp2_with fail
  generalize w1.heap.size = ra at *
  go_loopw [8] (fun i wr => ∃ (q : Nat) (t : ByteArray) (x : Bool), q ≤ len1 ∧ q ≤ 300 ∧ i = .int .i64 q ∧ t.size ≤ 140737488351232 ∧ RdAt 49 wr ra t x ∧ RdAt 51 wr (ra + 1) t x ∧ Below w.heap.size w wr) (fun i _ => len1 - (intOf i).toNat)
  case atStart => exact ⟨0, s, false, Nat.zero_le _, Nat.zero_le _, rfl, hs, r0, q0, hB0⟩
  case round =>
    clear r0 q0 hB0
    obtain ⟨q, t, x, hq, hq300, rfl, ht, rA, rB, hB⟩ := hrel
    by_cases hlt : q < len1 ∧ q < 300
    · obtain ⟨hlt0, hlt1⟩ := hlt
      obtain rfl : a1 = some ⟨b1, o1, none⟩ := by
        rcases HN1.out with h | h
        · omega
        · exact h
      obtain ⟨hb, hi1, hi2, hx0, hx1⟩ := HC1.out q hlt0
      generalize (z1 q).1 = p at *
      generalize (z1 q).2 = n at *
      have hcx0 : wr.cell? ⟨b1, o1 + q * 2, none⟩ = some (.int .i64 p) := (hB.cell (p := ⟨b1, o1 + q * 2, none⟩) hb).trans hx0
      have hcx1 : wr.cell? ⟨b1, o1 + q * 2 + 1, none⟩ = some (.int .i64 n) := (hB.cell (p := ⟨b1, o1 + q * 2 + 1, none⟩) hb).trans hx1
      have hqi0 : (0 : Int) ≤ (q : Int) := by omega
      have hqi1 : (q : Int) < (len1 : Int) := by omega
      clear hx0 hx1 hi1 hi2
      rcases tmod_two p with hp | hp | hp
      · obtain ⟨v, t', x', hv⟩ : ∃ v t' x', numS t x = (v, t', x') := ⟨_, _, _, rfl⟩
        have hts := numS_size hv
        have HV := Lib.hid hv
        clear hv
        go_wp2_with fail
        refine (rnum_step ra t t' x x' v ht _ rA HV.out).mono ?_
        rintro e w4 ⟨rfl, rA4, g4⟩
        have rB4 := rB.grown g4 (by simp)
        have hB4 := hB.grown g4 hB.size (fun k e => by cases e; exact hra)
        go_wp2_with fail
        refine (qnum_step (ra + 1) t t' x x' v ht _ rB4 HV.out).mono ?_
        rintro e w5 ⟨rfl, rB5, g5⟩
        have rA5 := rA4.grown g5 (by simp)
        have hB5 := hB4.grown g5 hB4.size (fun k e => by cases e; omega)
        have ca0 := rA5.cell0
        have ca1 := rA5.cell1
        have cb0 := rB5.cell0
        have cb1 := rB5.cell1
        go_wp2_with (first
          | (go_at_call 24; refine (left_any _ _ _ ca0).mono ?_; rintro e w7 ⟨rfl, rfl⟩)
          | (go_at_call 25; refine (qleft_any _ _ _ cb0).mono ?_; rintro e w7 ⟨rfl, rfl⟩)
          | (go_at_call 26; refine (bad_any _ _ _ ca1).mono ?_; rintro e w7 ⟨rfl, rfl⟩)
          | (go_at_call 27; refine (qbad_any _ _ _ cb1).mono ?_; rintro e w7 ⟨rfl, rfl⟩)
          | (go_at_call 28; refine (ends_step _ _ _ _ rA5).mono ?_; rintro e w7 ⟨rfl, rfl⟩)
          | (go_at_call 29; refine (qends_step _ _ _ _ rB5).mono ?_; rintro e w7 ⟨rfl, rfl⟩))
        go_roundw
        case rel => exact ⟨q + 1, t', x', by omega, by omega, by go_num, by omega, rA5, rB5, hB5⟩
        case measure => simp [intOf]; omega
      all_goals
        obtain ⟨v, t', x', hv⟩ : ∃ v t' x', textS n t x = (v, t', x') := ⟨_, _, _, rfl⟩
        have hts := textS_size hv
        have HV := Lib.hid hv
        clear hv
        go_wp2_with fail
        go_region_held3 (fun w' => w'.cell? ⟨b1, o1 + q * 2 + 1, none⟩ = some (.int .i64 n)) (first | go_keep | exact d1 | exact d2)
          (first
            | (go_at_call 22; refine (rtext_step ra t t' v x x' n ht _ rA.drew HV.out).mono ?_; rintro e w4 ⟨rfl, rA4, g4⟩; have rB4 := rB.drew.grown g4 (by simp); have hB4 := hB.drew.grown g4 hB.size (fun k e => by cases e; exact hra); have d1 := g4.cell (a := ⟨b1, o1 + q * 2 + 1, none⟩) (v := .int .i64 n) hcx1 (by simp; omega))
            | (go_at_call 23; refine (qtext_step (ra + 1) t t' v x x' n ht _ rB4 HV.out).mono ?_; rintro e w5 ⟨rfl, rB5, g5⟩; have rA5 := rA4.grown g5 (by simp); have hB5 := hB4.grown g5 hB4.size (fun k e => by cases e; omega); have d2 := g5.cell (a := ⟨b1, o1 + q * 2 + 1, none⟩) (v := .int .i64 n) d1 (by simp; omega)))
        have ca0 := rA5.cell0
        have ca1 := rA5.cell1
        have cb0 := rB5.cell0
        have cb1 := rB5.cell1
        go_wp2_with (first
          | (go_at_call 24; refine (left_any _ _ _ ca0).mono ?_; rintro e w7 ⟨rfl, rfl⟩)
          | (go_at_call 25; refine (qleft_any _ _ _ cb0).mono ?_; rintro e w7 ⟨rfl, rfl⟩)
          | (go_at_call 26; refine (bad_any _ _ _ ca1).mono ?_; rintro e w7 ⟨rfl, rfl⟩)
          | (go_at_call 27; refine (qbad_any _ _ _ cb1).mono ?_; rintro e w7 ⟨rfl, rfl⟩)
          | (go_at_call 28; refine (ends_step _ _ _ _ rA5).mono ?_; rintro e w7 ⟨rfl, rfl⟩)
          | (go_at_call 29; refine (qends_step _ _ _ _ rB5).mono ?_; rintro e w7 ⟨rfl, rfl⟩))
        go_roundw
        case rel => exact ⟨q + 1, t', x', by omega, by omega, by go_num, by omega, rA5, rB5, hB5⟩
        case measure => simp [intOf]; omega
    · rcases Nat.lt_or_ge q len1 with hkl | hkl
      all_goals
        have ca0 := rA.cell0
        have cb0 := rB.cell0
        go_wp2_with (first
          | (go_at_call 24; refine (left_any _ _ _ ca0).mono ?_; rintro e w7 ⟨rfl, rfl⟩)
          | (go_at_call 25; refine (qleft_any _ _ _ cb0).mono ?_; rintro e w7 ⟨rfl, rfl⟩)
          | (go_at_call 28; refine (ends_step _ _ _ _ rA).mono ?_; rintro e w7 ⟨rfl, rfl⟩)
          | (go_at_call 29; refine (qends_step _ _ _ _ rB).mono ?_; rintro e w7 ⟨rfl, rfl⟩))
        go_ret
        exact ⟨rfl, hB⟩

theorem own : ownKnob Try.prog.godebug = none := by kernel_rfl
theorem laidOut : laidOutB Try.prog = true := by kernel_rfl

set_option maxRecDepth 100000 in
theorem lifted (os : Os) (started : os.Started) (H : Type) (enc : TypeId × Value → H) :
    ReturnsInHanded {} Try.checked os 4 .any (Rows.varintReadsSpec.pre6 enc Try.prog Try.f4 Rows.varintReadsRow.domain false) (Rows.varintReadsSpec.post enc Try.prog Try.f4 false true false false) := by
  refine returnsInHanded_of_change_sized (C := Try.checked) own started (by kernel_rfl) Try.func4
    (ChangeSpec.witness6 (enc := enc) (C := Try.checked) false ⟨#[], #[.string ByteArray.empty, .slice none 0 0], []⟩ 8 (by kernel_rfl) (by kernel_rfl) (by kernel_rfl) (by kernel_rfl)) ?_
  intro W base args ds gs before hval0 hW _ hsz0 _
  have hsz : (DataW.weightsEach Try.prog (Try.f4.params.toList ++ Rows.varintReadsSpec.plain.varTypes Try.prog) (ds ++ gs)).all (· ≤ reachBytes) = true := hsz0
  have hval : ∀ (j : Nat) t v, Try.f4.params[j]? = some t → args[j]? = some v → Value.okWide Try.prog W .any base t v := hval0
  have hW' := hW
  obtain ⟨p, q, hA0, hV, rfl, hfz, hnd⟩ := hW
  have hA : DataW.TrodAll enc Try.prog W 0 (fun _ => true) true Try.f4.params.toList args.toList ds p := hA0
  rw [Try.params4] at hA hval hsz
  obtain ⟨v0, vs0, d0, ds0, p0, q0, hargs, rfl, rfl, h0, r0⟩ := trodAll_cons hA
  obtain ⟨v1, vs1, d1, ds1, p1, q1, rfl, rfl, rfl, h1, r1⟩ := trodAll_cons r0
  obtain ⟨rfl, rfl, rfl⟩ := trodAll_nil r1
  obtain rfl : args = #[v0, v1] := by cases args; simp_all
  obtain ⟨rfl, rfl⟩ := trodVars_none hV
  have k0 := h0
  have lt0 : ∀ x ∈ p0, x.block < W.heap.size := by obtain ⟨m, hm⟩ := k0; exact DataW.trod_lt m _ _ _ hm
  have k1 := h1
  have lt1 : ∀ x ∈ p1, x.block < W.heap.size := by obtain ⟨m, hm⟩ := k1; exact DataW.trod_lt m _ _ _ hm
  obtain ⟨a0, rfl, rfl, rfl, w0⟩ := open_string Try.underlying9 (hval 0 9 v0 rfl rfl) h0
  have b0 := sized_of (sized_string hsz (j := 0) (t := 9) rfl rfl)
  obtain ⟨a1, len1, cap1, rfl⟩ := okWide_slice Try.underlying26 (hval 1 26 v1 rfl rfl)
  obtain ⟨z1, b1⟩ := takes_of k1 lt1 (fun el sp hd => sized_slice hsz (j := 1) (t := 26) rfl (by simpa using hd) Try.underlying26)
  clear hA0 hval0 hsz0 hsz
  refine (walk a0 a1 len1 cap1 z1 W b0 b1).mono fun e W' ⟨he, bel⟩ => ?_
  subst he
  exact ⟨_, rfl, _, _, _, [], _, [], hW', trodAll_mk1 (shut_bool Try.underlying4 _), (trodAll_cons_mk (Below.trod laidOut (by kernel_rfl) (of_decide_eq_true (by kernel_rfl)) k0 bel lt0) (trodAll_cons_mk (Below.trod laidOut (by kernel_rfl) (of_decide_eq_true (by kernel_rfl)) k1 bel lt1) trodAll_mk0)), rfl, bel.frame _, fun h => by cases h⟩

theorem over : Rows.varintReadsRow.holds Try.pinned (OpenSpec.ofChange Rows.varintReadsSpec) :=
  OpenClaim.holds_of_wide 4 Try.f4 rfl rfl rfl rfl rfl rfl rfl ⟨rfl, rfl, rfl, rfl, rfl⟩ rfl rfl rfl rfl rfl (by kernel_rfl) Try.func4 (by kernel_rfl)
    (of_decide_eq_true (by kernel_rfl)) (by unfold Func.isWrapper; first | (rw [if_pos (by decide +kernel)]; kernel_rfl) | (rw [if_neg (by decide +kernel)]; exact ⟨rfl, rfl⟩))
    (fun os started H enc _ => lifted os started H enc)

theorem proved : Rows.VarintReadsSaid := over
end Go.Proofs.Ytdnlpjmjhlmjgaa.lawReads
