/-
  The statement VarintBack is proved for all numbers and texts: what is laid is read back, in its order, and then it ends. No condition.
-/
import Derived.Deep.QuietTactic
import Derived.Deep.RegionHeld3
import Derived.BigQuiet
import Derived.Test.YtdnlpjmjhlmjgaaMath4
import Derived.Test.YtdnlpjmjhlmjgaaSlices
import Derived.Test.YtdnlpjmjhlmjgaaText
import Derived.Test.YtdnlpjmjhlmjgaaRows
namespace Go.Proofs.Ytdnlpjmjhlmjgaa.lawBack
open Go.ChangeShapes Go.WideShapes Go.ChangeAt Go.RowKit
open Go.ChangeMaps (open_string shut_string)

/-- The i-th text with its length, where there is one. -/
def txt (z1 : List ByteArray) (i : Nat) : List UInt8 := if i < z1.length then Vm.enc (z1[i]?.getD ByteArray.empty).size ++ (z1[i]?.getD ByteArray.empty).data.toList else []
def part (z0 : List Int) (z1 : List ByteArray) (i : Nat) : List UInt8 := Vm.enc (z0[i]?.getD 0) ++ txt z1 i
theorem text_le {z1 : List ByteArray} (h : ∀ x ∈ z1, x.size ≤ 140737488351232) (i : Nat) : (z1[i]?.getD ByteArray.empty).size ≤ 140737488351232 := by
  rcases Nat.lt_or_ge i z1.length with hi | hi
  · rw [List.getElem?_eq_getElem hi]; exact h _ (List.getElem_mem hi)
  · rw [List.getElem?_eq_none hi]; decide
theorem part_le {z0 : List Int} {z1 : List ByteArray} (h : ∀ x ∈ z1, x.size ≤ 140737488351232) (i : Nat) : (part z0 z1 i).length ≤ 140737488351300 := by
  unfold part txt
  have h1 := (Vm.enc_length (z0[i]?.getD 0)).2
  have h2 := (Vm.enc_length (z1[i]?.getD ByteArray.empty).size).2
  have h3 := text_le h i
  rw [List.length_append]
  split
  · rw [List.length_append, ← Lib.size_eq]; omega
  · simp; omega

set_option maxRecDepth 100000 in
set_option maxHeartbeats 4000000 in
theorem walk (a0 : Option Addr) (len0 cap0 : Nat) (z0 : List Int) (a1 : Option Addr) (len1 cap1 : Nat) (z1 : List ByteArray) (w : World) (h0 : IntsAt w a0 len0 cap0 z0) (h1 : StrsAt w a1 len1 z1) :
    Calls Try.prog 5 #[.slice a0 len0 cap0, .slice a1 len1 cap1] w fun e w' => e = .returned (.bool true) ∧ Below w.heap.size w w' := by
  obtain ⟨hz0, hc0, hl0, hi0, b0, o0, hn0, hcell0⟩ := h0
  obtain ⟨hz1, hl1, hi1, b1, o1, hn1, hcell1⟩ := h1
  have HP : Hid (∀ i, (part z0 z1 i).length ≤ 140737488351300) := Lib.hid (part_le hi1)
  have HC0 := Lib.hid hcell0
  have HC1 := Lib.hid hcell1
  have HI0 := Lib.hid hi0
  have HI1 := Lib.hid hi1
  have HZ0 := Lib.hid hz0
  have HZ1 := Lib.hid hz1
  have HN0 := Lib.hid hn0
  have HN1 := Lib.hid hn1
  clear hcell0 hcell1 hi0 hi1 hz0 hz1 hn0 hn1
  go_enter Try.func5, Try.ntmps5
  go_wp2_with (go_at_call 13; refine (awake_any _).mono ?_; rintro e w1 ⟨rfl, hw1⟩)
  go_loopw [6, 7] (fun s i wr => ∃ k : Nat, k ≤ len0 ∧ k ≤ 50 ∧ i = .int .i64 k ∧ s = .string (S (Vm.upto (part z0 z1) k)) ∧ Below w.heap.size w wr) (fun _ i _ => len0 - (intOf i).toNat)
  case atStart => exact ⟨0, Nat.zero_le _, Nat.zero_le _, rfl, rfl, hw1⟩
  case round =>
    obtain ⟨k, hk, hk50, rfl, rfl, hB⟩ := hrel
    have hsz : (S (Vm.upto (part z0 z1) k)).size ≤ 7036874417565000 := by
      rw [S_size]; have := Vm.upto_length (part z0 z1) _ HP.out k; have : k * 140737488351300 ≤ 50 * 140737488351300 := Nat.mul_le_mul_right _ hk50; omega
    by_cases hlt : k < len0 ∧ k < 50
    · obtain ⟨hlt0, hlt1⟩ := hlt
      obtain rfl : a0 = some ⟨b0, o0, none⟩ := by
        rcases HN0.out with h | h
        · omega
        · exact h
      have hx := HC0.out k (by omega)
      have hcx : wr.cell? ⟨b0, o0 + k, none⟩ = some (.int .i64 (z0[k]?.getD 0)) := (hB.cell (p := ⟨b0, o0 + k, none⟩) hx.1).trans hx.2
      have hkz : k < z0.length := by rw [HZ0.out]; omega
      have hin : Vm.In (z0[k]?.getD 0) := by rw [List.getElem?_eq_getElem hkz]; exact HI0.out _ (List.getElem_mem hkz)
      have hl2 : (S (Vm.enc (z0[k]?.getD 0))).size ≤ 10 := by rw [S_size]; exact (Vm.enc_length _).2
      clear hx hkz
      go_wp2_with fail
      refine (num_any _ hin _).mono ?_
      rintro e w2 ⟨rfl, hb2⟩
      have hB2 : Below w.heap.size w w2 := hB.trans (hb2.mono hB.size)
      by_cases ht : k < len1
      · obtain rfl : a1 = some ⟨b1, o1, none⟩ := by
          rcases HN1.out with h | h
          · omega
          · exact h
        have hy := HC1.out k (by omega)
        have hcy : w2.cell? ⟨b1, o1 + k, none⟩ = some (.string (z1[k]?.getD ByteArray.empty)) := (hB2.cell (p := ⟨b1, o1 + k, none⟩) hy.1).trans hy.2
        have hts := text_le HI1.out k
        have HS : Hid (S (Vm.upto (part z0 z1) k) ++ S (Vm.enc (z0[k]?.getD 0)) ++ S (Vm.enc (z1[k]?.getD ByteArray.empty).size ++ (z1[k]?.getD ByteArray.empty).data.toList) = S (Vm.upto (part z0 z1) (k + 1))) := Lib.hid (by
          rw [S_append, S_append, S_list, S_list, Vm.upto_succ, part, txt, if_pos (by rw [HZ1.out]; exact ht), List.append_assoc])
        clear hy
        have hl3 : (S (Vm.enc (z1[k]?.getD ByteArray.empty).size ++ (z1[k]?.getD ByteArray.empty).data.toList)).size ≤ 140737488351300 := by
          rw [S_size, List.length_append, ← Lib.size_eq]; have := (Vm.enc_length (z1[k]?.getD ByteArray.empty).size).2; omega
        go_wp2_with fail
        refine (text_any _ (by omega) _).mono ?_
        rintro e w3 ⟨rfl, hb3⟩
        go_wp2
        go_roundw
        case rel => exact ⟨k + 1, by omega, by omega, by go_num, by rw [HS.out], hB2.trans (hb3.mono hB2.size)⟩
        case measure => simp [intOf]; omega
      · have HS : Hid (S (Vm.upto (part z0 z1) k) ++ S (Vm.enc (z0[k]?.getD 0)) = S (Vm.upto (part z0 z1) (k + 1))) := Lib.hid (by
          rw [S_append, S_list, Vm.upto_succ, part, txt, if_neg (by rw [HZ1.out]; exact ht), List.append_nil])
        go_wp2
        go_roundw
        case rel => exact ⟨k + 1, by omega, by omega, by go_num, by rw [HS.out], hB2⟩
        case measure => simp [intOf]; omega
    · have HK : Hid (k = min len0 50) := Lib.hid (by omega)
      have hnot : ¬ ((k : Int) < (len0 : Int)) ∨ ¬ ((k : Int) < 50) := by omega
      obtain ⟨L, hL⟩ : ∃ L, Vm.upto (part z0 z1) k = L := ⟨_, rfl⟩
      rw [hL] at hsz ⊢
      have HL := Lib.hid hL
      clear hL hlt
      rcases Nat.lt_or_ge k len0 with hkl | hkl
      all_goals
        go_wp2_with fail
        refine (new_any _ _).mono ?_
        rintro e w2 ⟨rfl, rfl⟩
        have r0 := RdAt.new 49 wr (S L) false
        have hB2 : Below w.heap.size w (wr.alloc (.cells #[.string (S L), .bool false] 49)) := hB.alloc hB.size _
        have hrb := hB.size
        generalize wr.heap.size = rb at *
        generalize wr.alloc (.cells #[.string (S L), .bool false] 49) = w3 at *
        clear hB hsz
        go_wp2
        go_loopw [9] (fun i wr => ∃ q : Nat, q ≤ k ∧ i = .int .i64 q ∧ RdAt 49 wr rb (S (Vm.from' (part z0 z1) (k - q) q)) false ∧ Below w.heap.size w wr) (fun i _ => k - (intOf i).toNat)
        case atStart => exact ⟨0, Nat.zero_le _, rfl, by rw [Nat.sub_zero, Vm.from_zero, HL.out]; exact r0, hB2⟩
        case round =>
          clear r0 hB2
          obtain ⟨q, hq, rfl, r1, hB⟩ := hrel
          have hsz : (S (Vm.from' (part z0 z1) (k - q) q)).size ≤ 4611686018427387904 := by
            rw [S_size]; have := Vm.from_length (part z0 z1) _ HP.out (k - q) q; have : (k - q) * 140737488351300 ≤ 50 * 140737488351300 := Nat.mul_le_mul_right _ (by omega); omega
          by_cases hlt : q < k
          · have hk0 : q < len0 := by have := HK.out; omega
            have hk50 : q < 50 := by have := HK.out; omega
            obtain rfl : a0 = some ⟨b0, o0, none⟩ := by
              rcases HN0.out with h | h
              · omega
              · exact h
            have hx := HC0.out q (by omega)
            have hcx : wr.cell? ⟨b0, o0 + q, none⟩ = some (.int .i64 (z0[q]?.getD 0)) := (hB.cell (p := ⟨b0, o0 + q, none⟩) hx.1).trans hx.2
            have hkz : q < z0.length := by rw [HZ0.out]; omega
            have hin : Vm.In (z0[q]?.getD 0) := by rw [List.getElem?_eq_getElem hkz]; exact HI0.out _ (List.getElem_mem hkz)
            have hF : Vm.from' (part z0 z1) (k - q) q = part z0 z1 q ++ Vm.from' (part z0 z1) (k - (q + 1)) (q + 1) := by
              rw [show k - q = (k - (q + 1)) + 1 by omega]; rfl
            have hr : Hid (Vm.rd (S (Vm.from' (part z0 z1) (k - q) q)).data.toList = some (z0[q]?.getD 0, txt z1 q ++ Vm.from' (part z0 z1) (k - (q + 1)) (q + 1))) := Lib.hid (by
              rw [S_list, hF, part, List.append_assoc]; exact Vm.rd_enc hin _)
            have hbq := hx.1
            have hqi0 : (0 : Int) ≤ (q : Int) := by omega
            have hqi1 : (q : Int) < (len0 : Int) := by omega
            clear hx hkz hF
            have hne : rb ≠ b0 := by omega
            go_wp2_with fail
            go_region_held3 (fun w' => w'.cell? ⟨b0, o0 + q, none⟩ = some (.int .i64 (z0[q]?.getD 0))) (first | go_keep | exact d0)
              (first | (go_at_call 20; refine (rnum_ok rb _ hsz _ _ _ r1.drew hr.out).mono ?_; rintro e w4 ⟨rfl, r4, g4⟩; have d0 := g4.cell (a := ⟨b0, o0 + q, none⟩) (v := .int .i64 (z0[q]?.getD 0)) hcx (by simp; omega)))
            have hB4 : Below w.heap.size w w4 := (hB.drew).grown g4 hB.size (fun k e => by cases e; exact hrb)
            clear hcx d0
            by_cases ht : q < len1
            · obtain rfl : a1 = some ⟨b1, o1, none⟩ := by
                rcases HN1.out with h | h
                · omega
                · exact h
              have hy := HC1.out q (by omega)
              have hby := hy.1
              have hcy : w4.cell? ⟨b1, o1 + q, none⟩ = some (.string (z1[q]?.getD ByteArray.empty)) := (hB4.cell (p := ⟨b1, o1 + q, none⟩) hy.1).trans hy.2
              have hts := text_le HI1.out q
              have htx : txt z1 q = Vm.enc (z1[q]?.getD ByteArray.empty).size ++ (z1[q]?.getD ByteArray.empty).data.toList := by rw [txt, if_pos (by rw [HZ1.out]; exact ht)]
              generalize z1[q]?.getD ByteArray.empty = t at *
              obtain ⟨R, hR⟩ : ∃ R, Vm.from' (part z0 z1) (k - (q + 1)) (q + 1) = R := ⟨_, rfl⟩
              rw [hR] at hr r4
              have HR := Lib.hid hR
              clear hR
              have hr2 : Hid (Vm.rd (S (txt z1 q ++ R)).data.toList = some ((t.size : Int), t.data.toList ++ R)) := Lib.hid (by
                rw [S_list, htx, List.append_assoc]; exact Vm.rd_enc (In_size (by omega)) _)
              have hsz2 : (S (txt z1 q ++ R)).size ≤ 4611686018427387904 := by
                have h1 := Vm.rd_length hr.out
                rw [S_size]; rw [← Lib.size_eq] at h1; omega
              have e1 : Hid (S ((t.data.toList ++ R).take t.size) = t) := Lib.hid (by
                rw [List.take_append_of_le_length (by rw [← Lib.size_eq]; exact Nat.le_refl _), List.take_of_length_le (by rw [← Lib.size_eq]; exact Nat.le_refl _), S_eq])
              have e2 : Hid (S ((t.data.toList ++ R).drop t.size) = S R) := Lib.hid (by
                rw [show t.size = t.data.toList.length from Lib.size_eq t, List.drop_left])
              have hle : t.size ≤ (t.data.toList ++ R).length := by rw [List.length_append, ← Lib.size_eq]; omega
              have HLe := Lib.hid hle
              have hqj : (q : Int) < (len1 : Int) := by omega
              clear htx hy hle
              go_wp2_with fail
              go_region_held3 (fun w' => w'.cell? ⟨b1, o1 + q, none⟩ = some (.string t)) (first | go_keep | exact d1)
                (first | (go_at_call 22; refine (rtext_ok rb _ hsz2 (t.size : Int) t.size _ _ r4.drew hr2.out (Int.le_refl _) HLe.out (by omega)).mono ?_; rintro e w5 ⟨rfl, r5, g5⟩; rw [e1.out]; rw [e2.out] at r5; have d1 := g5.cell (a := ⟨b1, o1 + q, none⟩) (v := .string t) hcy (by simp; omega)))
              go_wp2
              go_roundw
              case rel => exact ⟨q + 1, by omega, by go_num, by rw [HR.out]; exact r5, (hB4.drew).grown g5 hB4.size (fun k e => by cases e; exact hrb)⟩
              case measure => simp [intOf]; omega
            · have htx : txt z1 q = [] := by rw [txt, if_neg (by rw [HZ1.out]; exact ht)]
              rw [htx, List.nil_append] at r4
              have hqj : ¬ (q : Int) < (len1 : Int) := by omega
              have hqd : decide ((q : Int) < (len1 : Int)) = false := decide_eq_false hqj
              go_wp2_with fail
              go_quiet (fail)
              go_wp2
              go_roundw
              case rel => exact ⟨q + 1, by omega, by go_num, r4, below_drewN hB4 _⟩
              case measure => simp [intOf]; omega
          · obtain rfl : q = k := by omega
            rw [Nat.sub_self] at r1
            have c0 := r1.cell0
            have c1 := r1.cell1
            have hS : (S (Vm.from' (part z0 z1) 0 q)).size = 0 := by rw [S_size]; rfl
            clear hsz
            go_wp2_with (first
              | (go_at_call 24; refine (left_any _ _ _ c0).mono ?_; rintro e w7 ⟨rfl, rfl⟩)
              | (go_at_call 26; refine (bad_any _ _ _ c1).mono ?_; rintro e w7 ⟨rfl, rfl⟩)
              | (go_at_call 28; refine (ends_good _ _ _ c1 c0).mono ?_; rintro e w7 ⟨rfl, rfl⟩))
            go_ret
            exact ⟨rfl, hB⟩

theorem own : ownKnob Try.prog.godebug = none := by kernel_rfl
theorem laidOut : laidOutB Try.prog = true := by kernel_rfl

set_option maxRecDepth 100000 in
theorem lifted (os : Os) (started : os.Started) (H : Type) (enc : TypeId × Value → H) :
    ReturnsInHanded {} Try.checked os 5 .any (Rows.varintBackSpec.pre6 enc Try.prog Try.f5 Rows.varintBackRow.domain false) (Rows.varintBackSpec.post enc Try.prog Try.f5 false true false false) := by
  refine returnsInHanded_of_change_sized (C := Try.checked) own started (by kernel_rfl) Try.func5
    (ChangeSpec.witness6 (enc := enc) (C := Try.checked) false ⟨#[], #[.slice none 0 0, .slice none 0 0], []⟩ 8 (by kernel_rfl) (by kernel_rfl) (by kernel_rfl) (by kernel_rfl)) ?_
  intro W base args ds gs before hval0 hW _ hsz0 _
  have hsz : (DataW.weightsEach Try.prog (Try.f5.params.toList ++ Rows.varintBackSpec.plain.varTypes Try.prog) (ds ++ gs)).all (· ≤ reachBytes) = true := hsz0
  have hval : ∀ (j : Nat) t v, Try.f5.params[j]? = some t → args[j]? = some v → Value.okWide Try.prog W .any base t v := hval0
  have hW' := hW
  obtain ⟨p, q, hA0, hV, rfl, hfz, hnd⟩ := hW
  have hA : DataW.TrodAll enc Try.prog W 0 (fun _ => true) true Try.f5.params.toList args.toList ds p := hA0
  rw [Try.params5] at hA hval hsz
  obtain ⟨v0, vs0, d0, ds0, p0, q0, hargs, rfl, rfl, h0, r0⟩ := trodAll_cons hA
  obtain ⟨v1, vs1, d1, ds1, p1, q1, rfl, rfl, rfl, h1, r1⟩ := trodAll_cons r0
  obtain ⟨rfl, rfl, rfl⟩ := trodAll_nil r1
  obtain rfl : args = #[v0, v1] := by cases args; simp_all
  obtain ⟨rfl, rfl⟩ := trodVars_none hV
  have k0 := h0
  have lt0 : ∀ x ∈ p0, x.block < W.heap.size := by obtain ⟨m, hm⟩ := k0; exact DataW.trod_lt m _ _ _ hm
  have k1 := h1
  have lt1 : ∀ x ∈ p1, x.block < W.heap.size := by obtain ⟨m, hm⟩ := k1; exact DataW.trod_lt m _ _ _ hm
  obtain ⟨a0, len0, cap0, rfl⟩ := okWide_slice Try.underlying35 (hval 0 35 v0 rfl rfl)
  obtain ⟨z0, b0⟩ := ints_of k0 lt0 (fun el sp hd => sized_slice hsz (j := 0) (t := 35) rfl (by simpa using hd) Try.underlying35)
  obtain ⟨a1, len1, cap1, rfl⟩ := okWide_slice Try.underlying36 (hval 1 36 v1 rfl rfl)
  obtain ⟨z1, b1⟩ := strs_of k1 lt1 (weights_at hsz (j := 1) (t := 36) rfl rfl)
  clear hA0 hval0 hsz0 hsz
  refine (walk a0 len0 cap0 z0 a1 len1 cap1 z1 W b0 b1).mono fun e W' ⟨he, bel⟩ => ?_
  subst he
  exact ⟨_, rfl, _, _, _, [], _, [], hW', trodAll_mk1 (shut_bool Try.underlying4 _), (trodAll_cons_mk (Below.trod laidOut (by kernel_rfl) (of_decide_eq_true (by kernel_rfl)) k0 bel lt0) (trodAll_cons_mk (Below.trod laidOut (by kernel_rfl) (of_decide_eq_true (by kernel_rfl)) k1 bel lt1) trodAll_mk0)), rfl, bel.frame _, fun h => by cases h⟩

theorem over : Rows.varintBackRow.holds Try.pinned (OpenSpec.ofChange Rows.varintBackSpec) :=
  OpenClaim.holds_of_wide 5 Try.f5 rfl rfl rfl rfl rfl rfl rfl ⟨rfl, rfl, rfl, rfl, rfl⟩ rfl rfl rfl rfl rfl (by kernel_rfl) Try.func5 (by kernel_rfl)
    (of_decide_eq_true (by kernel_rfl)) (by unfold Func.isWrapper; first | (rw [if_pos (by decide +kernel)]; kernel_rfl) | (rw [if_neg (by decide +kernel)]; exact ⟨rfl, rfl⟩))
    (fun os started H enc _ => lifted os started H enc)

theorem proved : Rows.VarintBackSaid := over
end Go.Proofs.Ytdnlpjmjhlmjgaa.lawBack
