/-
  The statement DiskLasts is proved for every script and every two lists of numbers: what was synced is there behind a Restart, and behind it some of what was appended since, from its beginning on; nothing else; and a Restart behind it is nothing. No condition.
-/
import Derived.Test.YtffpmcelelloeaaAwake10
import Derived.Test.YtffpmcelelloeaaDlastsn
import Derived.Test.YtffpmcelelloeaaOpen10
import Derived.Test.YtffpmcelelloeaaRows
namespace Go.Proofs.Ytffpmcelelloeaa.lawDlasts
open Go.ChangeShapes Go.WideShapes Go.ChangeAt Go.RowKit Gm
open Go.ChangeMaps (open_string shut_string)

def strs3 (f : Nat → Bs) : Array Value := #[.string (S (f 0)), .string (S (f 1)), .string (S (f 2))]
def bools3 (f : Nat → Bool) : Array Value := #[.bool (f 0), .bool (f 1), .bool (f 2)]

def blocks (g : Nat) (su al : Nat → Bs) (hs : Nat → Bool) : List (Nat × Obj) := [(g + 1 + 1 + 1, .cells (bools3 hs) 48 (0, 0)), (g + 1 + 1, .cells (strs3 al) 47 (0, 0)), (g + 1, .cells (strs3 su) 47 (0, 0)), (g, .cells #[.string { data := #[97] }, .string { data := #[98] }, .string { data := #[99] }] 9 (0, 0))]
/-- The disk p and the four blocks from g on, behind i rounds. -/
def LaH (w wr : World) (p g : Nat) (su al : Nat → Bs) (hs : Nat → Bool) (i : Nat) : Prop := ∃ D, LaSt D su al hs i ∧ Held PDisk Nobody w wr p D 0 newD (blocks g su al hs)
theorem blk_cell {W : World} {g : Nat} {cs : Array Value} {t : TypeId} (h : W.heap[g]? = some (.cells cs t (0, 0))) (i : Nat) : W.cell? ⟨g, i, none⟩ = cs[i]? := by simp [World.cell?, h]
theorem blk_fr {W : World} {g : Nat} {cs : Array Value} {t : TypeId} (h : W.heap[g]? = some (.cells cs t (0, 0))) (i : Nat) : W.frozen? ⟨g, i, none⟩ = false := by simp [World.frozen?, h]
theorem laCells0 {w wr : World} {p g q : Nat} {D E : Dk} {su al : Nat → Bs} {hs : Nat → Bool} (h : Held PDisk Nobody w wr p D q E (blocks g su al hs)) :
    wr.cell? ⟨g, 0, none⟩ = some (.string { data := #[97] }) ∧ wr.cell? ⟨g + 1, 0, none⟩ = some (.string (S (su 0))) ∧ wr.cell? ⟨g + 1 + 1, 0, none⟩ = some (.string (S (al 0))) ∧ wr.cell? ⟨g + 1 + 1 + 1, 0, none⟩ = some (.bool (hs 0)) ∧
    (wr.frozen? ⟨g + 1, 0, none⟩ = false ∧ wr.frozen? ⟨g + 1 + 1, 0, none⟩ = false ∧ wr.frozen? ⟨g + 1 + 1 + 1, 0, none⟩ = false) ∧ g + 1 + 1 + 1 < wr.heap.size := by
  have hN := h.own (g := g) (List.mem_cons_of_mem _ (List.mem_cons_of_mem _ (List.mem_cons_of_mem _ (List.mem_cons_self ..))))
  have hS := h.own (g := g + 1) (List.mem_cons_of_mem _ (List.mem_cons_of_mem _ (List.mem_cons_self ..)))
  have hA := h.own (g := g + 1 + 1) (List.mem_cons_of_mem _ (List.mem_cons_self ..))
  have hB := h.own (g := g + 1 + 1 + 1) (List.mem_cons_self ..)
  exact ⟨blk_cell hN _, blk_cell hS _, blk_cell hA _, blk_cell hB _, ⟨blk_fr hS _, blk_fr hA _, blk_fr hB _⟩, (Array.getElem?_eq_some_iff.1 hB).1⟩
theorem laCells1 {w wr : World} {p g q : Nat} {D E : Dk} {su al : Nat → Bs} {hs : Nat → Bool} (h : Held PDisk Nobody w wr p D q E (blocks g su al hs)) :
    wr.cell? ⟨g, 1, none⟩ = some (.string { data := #[98] }) ∧ wr.cell? ⟨g + 1, 1, none⟩ = some (.string (S (su 1))) ∧ wr.cell? ⟨g + 1 + 1, 1, none⟩ = some (.string (S (al 1))) ∧ wr.cell? ⟨g + 1 + 1 + 1, 1, none⟩ = some (.bool (hs 1)) ∧
    (wr.frozen? ⟨g + 1, 1, none⟩ = false ∧ wr.frozen? ⟨g + 1 + 1, 1, none⟩ = false ∧ wr.frozen? ⟨g + 1 + 1 + 1, 1, none⟩ = false) ∧ g + 1 + 1 + 1 < wr.heap.size := by
  have hN := h.own (g := g) (List.mem_cons_of_mem _ (List.mem_cons_of_mem _ (List.mem_cons_of_mem _ (List.mem_cons_self ..))))
  have hS := h.own (g := g + 1) (List.mem_cons_of_mem _ (List.mem_cons_of_mem _ (List.mem_cons_self ..)))
  have hA := h.own (g := g + 1 + 1) (List.mem_cons_of_mem _ (List.mem_cons_self ..))
  have hB := h.own (g := g + 1 + 1 + 1) (List.mem_cons_self ..)
  exact ⟨blk_cell hN _, blk_cell hS _, blk_cell hA _, blk_cell hB _, ⟨blk_fr hS _, blk_fr hA _, blk_fr hB _⟩, (Array.getElem?_eq_some_iff.1 hB).1⟩
theorem laCells2 {w wr : World} {p g q : Nat} {D E : Dk} {su al : Nat → Bs} {hs : Nat → Bool} (h : Held PDisk Nobody w wr p D q E (blocks g su al hs)) :
    wr.cell? ⟨g, 2, none⟩ = some (.string { data := #[99] }) ∧ wr.cell? ⟨g + 1, 2, none⟩ = some (.string (S (su 2))) ∧ wr.cell? ⟨g + 1 + 1, 2, none⟩ = some (.string (S (al 2))) ∧ wr.cell? ⟨g + 1 + 1 + 1, 2, none⟩ = some (.bool (hs 2)) ∧
    (wr.frozen? ⟨g + 1, 2, none⟩ = false ∧ wr.frozen? ⟨g + 1 + 1, 2, none⟩ = false ∧ wr.frozen? ⟨g + 1 + 1 + 1, 2, none⟩ = false) ∧ g + 1 + 1 + 1 < wr.heap.size := by
  have hN := h.own (g := g) (List.mem_cons_of_mem _ (List.mem_cons_of_mem _ (List.mem_cons_of_mem _ (List.mem_cons_self ..))))
  have hS := h.own (g := g + 1) (List.mem_cons_of_mem _ (List.mem_cons_of_mem _ (List.mem_cons_self ..)))
  have hA := h.own (g := g + 1 + 1) (List.mem_cons_of_mem _ (List.mem_cons_self ..))
  have hB := h.own (g := g + 1 + 1 + 1) (List.mem_cons_self ..)
  exact ⟨blk_cell hN _, blk_cell hS _, blk_cell hA _, blk_cell hB _, ⟨blk_fr hS _, blk_fr hA _, blk_fr hB _⟩, (Array.getElem?_eq_some_iff.1 hB).1⟩

def nowF (D : Dk) (k : Nat) : Nat → Bs := fun j => if j < k then finK D j else []
theorem now_none {D : Dk} {k : Nat} (hk : k < 3) (h : finK D k = []) : strs3 (nowF D k) = strs3 (nowF D (k + 1)) := by
  have e : ∀ j, nowF D k j = nowF D (k + 1) j := fun j => by
    unfold nowF
    by_cases h1 : j < k
    · rw [if_pos h1, if_pos (by omega)]
    · rw [if_neg h1]
      by_cases h2 : j = k
      · subst h2; rw [if_pos (by omega), h]
      · rw [if_neg (by omega)]
  unfold strs3
  rw [e, e, e]
theorem now_set0 (D : Dk) : (strs3 (nowF D 0)).setIfInBounds 0 (.string (S (finK D 0))) = strs3 (nowF D (0 + 1)) := rfl
theorem now_set1 (D : Dk) : (strs3 (nowF D 1)).setIfInBounds 1 (.string (S (finK D 1))) = strs3 (nowF D (1 + 1)) := rfl
theorem now_set2 (D : Dk) : (strs3 (nowF D 2)).setIfInBounds 2 (.string (S (finK D 2))) = strs3 (nowF D (2 + 1)) := rfl

set_option maxRecDepth 100000 in
set_option maxHeartbeats 8000000 in
theorem walk (a : Option Addr) (len cap : Nat) (l : List ActE) (ka : Option Addr) (klen kcap : Nat) (keep : List Int) (ga : Option Addr) (glen gcap : Nat) (again : List Int) (w : World) (h0 : ActsAt w.heap.size w a len l) (hk : KeepB w.heap.size w ka klen keep) (hg : KeepB w.heap.size w ga glen again) :
    Calls Try.prog 5 #[.slice a len cap, .slice ka klen kcap, .slice ga glen gcap] w fun e w' => e = .returned (.bool true) ∧ Below w.heap.size w w' := by
  have HT := Lib.hid h0
  have hlen := h0.2.1
  have HL := Lib.hid h0.1
  have HK := Lib.hid hk
  have HG := Lib.hid hg
  have H0 := Lib.hid (Held.start w)
  clear h0 hk hg
  go_enter Try.func5, Try.ntmps5
  go_wp2_with (go_at_call 9; refine (awake_any _).mono ?_; rintro e w1 ⟨rfl, hb1⟩; have h1 := H0.out.below nobody_law nobody_law hb1)
  go_wp2_with (go_at_call 10; refine (h1.pNew nobody_law).mono ?_; rintro e w2 ⟨p, rfl, h2⟩)
  go_wp2_with fail
  obtain ⟨g, hg⟩ : ∃ g, w2.heap.size = g := ⟨_, rfl⟩
  have HH : Hid (LaH w ((((w2.alloc (.cells #[.string { data := #[97] }, .string { data := #[98] }, .string { data := #[99] }] 9)).alloc (.cells #[.string { data := #[] }, .string { data := #[] }, .string { data := #[] }] 47)).alloc (.cells #[.string { data := #[] }, .string { data := #[] }, .string { data := #[] }] 47)).alloc (.cells #[.bool false, .bool false, .bool false] 48)) p g (fun _ => []) (fun _ => []) (fun _ => false) 0) := Lib.hid (by
    have h3 := (((h2.push pdisk_law nobody_law (.cells #[.string { data := #[97] }, .string { data := #[98] }, .string { data := #[99] }] 9)).push pdisk_law nobody_law (.cells #[.string { data := #[] }, .string { data := #[] }, .string { data := #[] }] 47)).push pdisk_law nobody_law (.cells #[.string { data := #[] }, .string { data := #[] }, .string { data := #[] }] 47)).push pdisk_law nobody_law (.cells #[.bool false, .bool false, .bool false] 48)
    simp only [World.size_alloc, hg] at h3
    exact ⟨newD, LaSt.start _ _ _ (fun _ => rfl) (fun _ => rfl) (fun _ => rfl), h3⟩)
  rw [hg]
  clear h1 h2 hb1
  go_loopw [13] (fun iv wr => ∃ i su al hs, i ≤ len ∧ i ≤ 60 ∧ iv = .int .i64 ((i : Nat) : Int) ∧ LaH w wr p g su al hs i) (fun iv _ => len - (intOf iv).toNat)
  case atStart => exact ⟨0, _, _, _, Nat.zero_le _, by omega, rfl, HH.out⟩
  case round =>
    obtain ⟨i, su, al, hs, hi, hi60, rfl, D, hst, hh⟩ := hrel
    clear HH hg
    by_cases hlt : i < len ∧ i < 60
    · obtain ⟨hl1, hl2⟩ := hlt
      obtain ⟨_, _, b, off, ha, hc⟩ := HT.out
      have hil : i < l.length := by rw [HL.out]; exact hl1
      obtain ⟨hb, hx⟩ := hc i hil
      obtain rfl : a = some ⟨b, off, none⟩ := by
        rcases ha with h | h
        · omega
        · exact h
      obtain ⟨x, hxe⟩ : ∃ x, l[i] = x := ⟨_, rfl⟩
      rw [hxe] at hx
      obtain ⟨⟨b0, b1, _, _, _⟩, c0, c1, _, _, c4, _⟩ := hx
      replace c0 := (hh.to.cell (p := ⟨b, off + i * 6, none⟩) hb).trans c0
      replace c1 := (hh.to.cell (p := ⟨b, off + i * 6 + 1, none⟩) hb).trans c1
      replace c4 := (hh.to.cell (p := ⟨b, off + i * 6 + 4, none⟩) hb).trans c4
      have HB0 := Lib.hid b0
      have HB1 := Lib.hid b1
      obtain ⟨ky, my, cy⟩ := cut_500 x.text
      obtain ⟨t, htt⟩ : ∃ t, x.text.take 500 = t := ⟨_, rfl⟩
      rw [htt] at cy
      have lt : t.length ≤ 500 := by rw [← htt, List.length_take]; omega
      have st0 := S_size x.text
      have hi0 : (0 : Int) ≤ (i : Int) := by omega
      have hi1 : (i : Int) < (len : Int) := by omega
      have hi2 : (i : Int) < 60 := by omega
      have hb' : b < wr.heap.size := Nat.lt_of_lt_of_le hb hh.size
      have hac : D.acts ≤ 1099511627776 := by have := hst.acts; omega
      have HOK := Lib.hid (hh.ok pdisk_law)
      have H7 := Lib.hid hh
      have HST := Lib.hid hst
      have hp0 := pk_bd x.what 3 (by omega)
      have hp1 := pk_bd x.file 3 (by omega)
      have q1 : pk x.file 3 = 0 ∨ pk x.file 3 = 1 ∨ pk x.file 3 = 2 := by omega
      have HF2 : pk x.what 3 = 2 ∨ ¬ pk x.what 3 = 2 := by omega
      clear ha hc hxe hil hh hst b0 b1 htt hp0 hp1
      rcases q1 with hf | hf | hf
      · have HF := Lib.hid hf
        clear hf
        obtain ⟨z0, z1, z2, z3, z4, z5⟩ := laCells0 H7.out
        go_wp2_with (go_at_call 13; (with_reducible refine (pick_any _ _ _ HB1.out (by omega) (by omega)).mono ?_); rw [HF.out]; rintro e w7 ⟨rfl, rfl⟩)
        rcases HF2 with hw | hw
        · have HW := Lib.hid hw
          clear hw
          go_wp2_with (go_at_call 13; (with_reducible refine (pick_any _ _ _ HB0.out (by omega) (by omega)).mono ?_); rw [HW.out]; rintro e w7 ⟨rfl, rfl⟩)
          have hsy := HST.out.sync HOK.out (k := 0) (by omega)
          rcases hhs : hs 0 with _ | _
          · rw [hhs] at z3 hsy
            obtain ⟨hse, hsn⟩ := hsy
            have HSE : Hid (syncD D [97] = ((syncD D [97]).1, 101)) := Lib.hid (Prod.ext rfl hse)
            have HSN := Lib.hid hsn
            clear hse hsn
            go_wp2_with (go_at_call 16; (have hc := H7.out.pSync nobody_law [97] hac (by decide); rw [e97, HSE.out] at hc; with_reducible refine hc.mono ?_); rintro e w8 ⟨rfl, h8⟩; obtain ⟨y0, y1, y2, y3, y4, y5⟩ := laCells0 h8; rw [hhs] at y3; have h9 := h8.setIn (pre := [_, _]) pdisk_law nobody_law 0 (.string (S (al 0))))
            have H9 := Lib.hid h9
            clear h8 h9
            go_roundw
            case rel => exact ⟨i + 1, upd su 0 (al 0), al, hs, by omega, by omega, by go_num, _, HSN.out, H9.out⟩
            case measure => simp [intOf]; omega
          · rw [hhs] at z3 hsy
            obtain ⟨hse, hsn⟩ := hsy
            have HSE : Hid (syncD D [97] = ((syncD D [97]).1, 0)) := Lib.hid (Prod.ext rfl hse)
            have HSN := Lib.hid hsn
            clear hse hsn
            go_wp2_with (go_at_call 16; (have hc := H7.out.pSync nobody_law [97] hac (by decide); rw [e97, HSE.out] at hc; with_reducible refine hc.mono ?_); rintro e w8 ⟨rfl, h8⟩; obtain ⟨y0, y1, y2, y3, y4, y5⟩ := laCells0 h8; rw [hhs] at y3; have h9 := h8.setIn (pre := [_, _]) pdisk_law nobody_law 0 (.string (S (al 0))))
            have H9 := Lib.hid h9
            clear h8 h9
            go_roundw
            case rel => exact ⟨i + 1, upd su 0 (al 0), al, hs, by omega, by omega, by go_num, _, HSN.out, H9.out⟩
            case measure => simp [intOf]; omega
        · have t2 : (pk x.what 3 == 2) = false := by simpa using hw
          clear hw
          go_wp2_with (go_at_call 13; (with_reducible refine (pick_any _ _ _ HB0.out (by omega) (by omega)).mono ?_); rintro e w7 ⟨rfl, rfl⟩)
          go_quiet (fail)
          have hD := H7.out.below pdisk_law nobody_law (below_dn (Below.refl wr.heap.size wr) nq)
          obtain ⟨wq, hwq⟩ : ∃ W, wr.drewN nq = W := ⟨_, rfl⟩
          rw [hwq] at hD ⊢
          obtain ⟨x0, x1, x2, x3, x4, x5⟩ := laCells0 hD
          have HD := Lib.hid hD
          clear hD hwq z0 z1 z2 z3 z4 z5 c0 c1 c4
          obtain ⟨hse, hsn⟩ := HST.out.append HOK.out (k := 0) (by omega) hl2 lt
          have HSE : Hid (appendD D [97] t = ((appendD D [97] t).1, 0)) := Lib.hid (Prod.ext rfl hse)
          have HSN := Lib.hid hsn
          clear hse hsn
          have sa := S_app (al 0) t
          have sl := S_size (al 0)
          have sl2 := S_size t
          have hal := (HST.out.pre 0 (by omega)).2
          have nb : ¬ 9223372036854775807 < (al 0).length + t.length := by omega
          go_wp2_with (go_at_call 14; (have hc := HD.out.pAppend nobody_law [97] t hac (by decide) (by omega); rw [e97, HSE.out] at hc; with_reducible refine hc.mono ?_); rintro e w8 ⟨rfl, h8⟩; obtain ⟨y0, y1, y2, y3, y4, y5⟩ := laCells0 h8; have h9 := (h8.setIn (pre := [_]) pdisk_law nobody_law 0 (.string (S (al 0 ++ t)))).setIn (pre := []) pdisk_law nobody_law 0 (.bool true))
          have H9 := Lib.hid h9
          clear h8 h9
          go_roundw
          case rel => exact ⟨i + 1, su, upd al 0 (al 0 ++ t), upd hs 0 true, by omega, by omega, by go_num, _, HSN.out, H9.out⟩
          case measure => simp [intOf]; omega
      · have HF := Lib.hid hf
        clear hf
        obtain ⟨z0, z1, z2, z3, z4, z5⟩ := laCells1 H7.out
        go_wp2_with (go_at_call 13; (with_reducible refine (pick_any _ _ _ HB1.out (by omega) (by omega)).mono ?_); rw [HF.out]; rintro e w7 ⟨rfl, rfl⟩)
        rcases HF2 with hw | hw
        · have HW := Lib.hid hw
          clear hw
          go_wp2_with (go_at_call 13; (with_reducible refine (pick_any _ _ _ HB0.out (by omega) (by omega)).mono ?_); rw [HW.out]; rintro e w7 ⟨rfl, rfl⟩)
          have hsy := HST.out.sync HOK.out (k := 1) (by omega)
          rcases hhs : hs 1 with _ | _
          · rw [hhs] at z3 hsy
            obtain ⟨hse, hsn⟩ := hsy
            have HSE : Hid (syncD D [98] = ((syncD D [98]).1, 101)) := Lib.hid (Prod.ext rfl hse)
            have HSN := Lib.hid hsn
            clear hse hsn
            go_wp2_with (go_at_call 16; (have hc := H7.out.pSync nobody_law [98] hac (by decide); rw [e98, HSE.out] at hc; with_reducible refine hc.mono ?_); rintro e w8 ⟨rfl, h8⟩; obtain ⟨y0, y1, y2, y3, y4, y5⟩ := laCells1 h8; rw [hhs] at y3; have h9 := h8.setIn (pre := [_, _]) pdisk_law nobody_law 1 (.string (S (al 1))))
            have H9 := Lib.hid h9
            clear h8 h9
            go_roundw
            case rel => exact ⟨i + 1, upd su 1 (al 1), al, hs, by omega, by omega, by go_num, _, HSN.out, H9.out⟩
            case measure => simp [intOf]; omega
          · rw [hhs] at z3 hsy
            obtain ⟨hse, hsn⟩ := hsy
            have HSE : Hid (syncD D [98] = ((syncD D [98]).1, 0)) := Lib.hid (Prod.ext rfl hse)
            have HSN := Lib.hid hsn
            clear hse hsn
            go_wp2_with (go_at_call 16; (have hc := H7.out.pSync nobody_law [98] hac (by decide); rw [e98, HSE.out] at hc; with_reducible refine hc.mono ?_); rintro e w8 ⟨rfl, h8⟩; obtain ⟨y0, y1, y2, y3, y4, y5⟩ := laCells1 h8; rw [hhs] at y3; have h9 := h8.setIn (pre := [_, _]) pdisk_law nobody_law 1 (.string (S (al 1))))
            have H9 := Lib.hid h9
            clear h8 h9
            go_roundw
            case rel => exact ⟨i + 1, upd su 1 (al 1), al, hs, by omega, by omega, by go_num, _, HSN.out, H9.out⟩
            case measure => simp [intOf]; omega
        · have t2 : (pk x.what 3 == 2) = false := by simpa using hw
          clear hw
          go_wp2_with (go_at_call 13; (with_reducible refine (pick_any _ _ _ HB0.out (by omega) (by omega)).mono ?_); rintro e w7 ⟨rfl, rfl⟩)
          go_quiet (fail)
          have hD := H7.out.below pdisk_law nobody_law (below_dn (Below.refl wr.heap.size wr) nq)
          obtain ⟨wq, hwq⟩ : ∃ W, wr.drewN nq = W := ⟨_, rfl⟩
          rw [hwq] at hD ⊢
          obtain ⟨x0, x1, x2, x3, x4, x5⟩ := laCells1 hD
          have HD := Lib.hid hD
          clear hD hwq z0 z1 z2 z3 z4 z5 c0 c1 c4
          obtain ⟨hse, hsn⟩ := HST.out.append HOK.out (k := 1) (by omega) hl2 lt
          have HSE : Hid (appendD D [98] t = ((appendD D [98] t).1, 0)) := Lib.hid (Prod.ext rfl hse)
          have HSN := Lib.hid hsn
          clear hse hsn
          have sa := S_app (al 1) t
          have sl := S_size (al 1)
          have sl2 := S_size t
          have hal := (HST.out.pre 1 (by omega)).2
          have nb : ¬ 9223372036854775807 < (al 1).length + t.length := by omega
          go_wp2_with (go_at_call 14; (have hc := HD.out.pAppend nobody_law [98] t hac (by decide) (by omega); rw [e98, HSE.out] at hc; with_reducible refine hc.mono ?_); rintro e w8 ⟨rfl, h8⟩; obtain ⟨y0, y1, y2, y3, y4, y5⟩ := laCells1 h8; have h9 := (h8.setIn (pre := [_]) pdisk_law nobody_law 1 (.string (S (al 1 ++ t)))).setIn (pre := []) pdisk_law nobody_law 1 (.bool true))
          have H9 := Lib.hid h9
          clear h8 h9
          go_roundw
          case rel => exact ⟨i + 1, su, upd al 1 (al 1 ++ t), upd hs 1 true, by omega, by omega, by go_num, _, HSN.out, H9.out⟩
          case measure => simp [intOf]; omega
      · have HF := Lib.hid hf
        clear hf
        obtain ⟨z0, z1, z2, z3, z4, z5⟩ := laCells2 H7.out
        go_wp2_with (go_at_call 13; (with_reducible refine (pick_any _ _ _ HB1.out (by omega) (by omega)).mono ?_); rw [HF.out]; rintro e w7 ⟨rfl, rfl⟩)
        rcases HF2 with hw | hw
        · have HW := Lib.hid hw
          clear hw
          go_wp2_with (go_at_call 13; (with_reducible refine (pick_any _ _ _ HB0.out (by omega) (by omega)).mono ?_); rw [HW.out]; rintro e w7 ⟨rfl, rfl⟩)
          have hsy := HST.out.sync HOK.out (k := 2) (by omega)
          rcases hhs : hs 2 with _ | _
          · rw [hhs] at z3 hsy
            obtain ⟨hse, hsn⟩ := hsy
            have HSE : Hid (syncD D [99] = ((syncD D [99]).1, 101)) := Lib.hid (Prod.ext rfl hse)
            have HSN := Lib.hid hsn
            clear hse hsn
            go_wp2_with (go_at_call 16; (have hc := H7.out.pSync nobody_law [99] hac (by decide); rw [e99, HSE.out] at hc; with_reducible refine hc.mono ?_); rintro e w8 ⟨rfl, h8⟩; obtain ⟨y0, y1, y2, y3, y4, y5⟩ := laCells2 h8; rw [hhs] at y3; have h9 := h8.setIn (pre := [_, _]) pdisk_law nobody_law 2 (.string (S (al 2))))
            have H9 := Lib.hid h9
            clear h8 h9
            go_roundw
            case rel => exact ⟨i + 1, upd su 2 (al 2), al, hs, by omega, by omega, by go_num, _, HSN.out, H9.out⟩
            case measure => simp [intOf]; omega
          · rw [hhs] at z3 hsy
            obtain ⟨hse, hsn⟩ := hsy
            have HSE : Hid (syncD D [99] = ((syncD D [99]).1, 0)) := Lib.hid (Prod.ext rfl hse)
            have HSN := Lib.hid hsn
            clear hse hsn
            go_wp2_with (go_at_call 16; (have hc := H7.out.pSync nobody_law [99] hac (by decide); rw [e99, HSE.out] at hc; with_reducible refine hc.mono ?_); rintro e w8 ⟨rfl, h8⟩; obtain ⟨y0, y1, y2, y3, y4, y5⟩ := laCells2 h8; rw [hhs] at y3; have h9 := h8.setIn (pre := [_, _]) pdisk_law nobody_law 2 (.string (S (al 2))))
            have H9 := Lib.hid h9
            clear h8 h9
            go_roundw
            case rel => exact ⟨i + 1, upd su 2 (al 2), al, hs, by omega, by omega, by go_num, _, HSN.out, H9.out⟩
            case measure => simp [intOf]; omega
        · have t2 : (pk x.what 3 == 2) = false := by simpa using hw
          clear hw
          go_wp2_with (go_at_call 13; (with_reducible refine (pick_any _ _ _ HB0.out (by omega) (by omega)).mono ?_); rintro e w7 ⟨rfl, rfl⟩)
          go_quiet (fail)
          have hD := H7.out.below pdisk_law nobody_law (below_dn (Below.refl wr.heap.size wr) nq)
          obtain ⟨wq, hwq⟩ : ∃ W, wr.drewN nq = W := ⟨_, rfl⟩
          rw [hwq] at hD ⊢
          obtain ⟨x0, x1, x2, x3, x4, x5⟩ := laCells2 hD
          have HD := Lib.hid hD
          clear hD hwq z0 z1 z2 z3 z4 z5 c0 c1 c4
          obtain ⟨hse, hsn⟩ := HST.out.append HOK.out (k := 2) (by omega) hl2 lt
          have HSE : Hid (appendD D [99] t = ((appendD D [99] t).1, 0)) := Lib.hid (Prod.ext rfl hse)
          have HSN := Lib.hid hsn
          clear hse hsn
          have sa := S_app (al 2) t
          have sl := S_size (al 2)
          have sl2 := S_size t
          have hal := (HST.out.pre 2 (by omega)).2
          have nb : ¬ 9223372036854775807 < (al 2).length + t.length := by omega
          go_wp2_with (go_at_call 14; (have hc := HD.out.pAppend nobody_law [99] t hac (by decide) (by omega); rw [e99, HSE.out] at hc; with_reducible refine hc.mono ?_); rintro e w8 ⟨rfl, h8⟩; obtain ⟨y0, y1, y2, y3, y4, y5⟩ := laCells2 h8; have h9 := (h8.setIn (pre := [_]) pdisk_law nobody_law 2 (.string (S (al 2 ++ t)))).setIn (pre := []) pdisk_law nobody_law 2 (.bool true))
          have H9 := Lib.hid h9
          clear h8 h9
          go_roundw
          case rel => exact ⟨i + 1, su, upd al 2 (al 2 ++ t), upd hs 2 true, by omega, by omega, by go_num, _, HSN.out, H9.out⟩
          case measure => simp [intOf]; omega
    · have hcc : (¬ (i : Int) < (len : Int)) ∨ ((i : Int) < (len : Int) ∧ ¬ (i : Int) < 60) := by omega
      obtain ⟨hR, hR2⟩ := hst.restart keep again
      have hpre := hst.pre
      obtain ⟨D1, hD1⟩ : ∃ X, restartD D keep = X := ⟨_, rfl⟩
      rw [hD1] at hR hR2
      obtain ⟨D2, hD2⟩ : ∃ X, restartD D1 again = X := ⟨_, rfl⟩
      rw [hD2] at hR2
      have HD1 := Lib.hid hD1
      have HD2 := Lib.hid hD2
      have HR := Lib.hid hR
      have HR2 := Lib.hid hR2
      have HPRE := Lib.hid hpre
      have H7 := Lib.hid hh
      clear hlt hD1 hD2 hR hR2 hpre hh hst
      rcases hcc with hcc | ⟨_, hcc⟩
      all_goals
        go_wp2_with (go_at_call 24; (have hc := H7.out.pRestart nobody_law kcap HK.out; rw [HD1.out] at hc; with_reducible refine hc.mono ?_); rintro e w4 ⟨rfl, h4⟩)
        obtain ⟨gW, hgW⟩ : ∃ x, w4.heap.size = x := ⟨_, rfl⟩
        have H5 : Hid (Held PDisk Nobody w (w4.alloc (.cells #[.string { data := #[] }, .string { data := #[] }, .string { data := #[] }] 47)) p D1 0 newD ((gW, .cells (strs3 (nowF D1 0)) 47 (0, 0)) :: blocks g su al hs)) := Lib.hid (by
          have := h4.push pdisk_law nobody_law (.cells #[.string { data := #[] }, .string { data := #[] }, .string { data := #[] }] 47)
          rw [hgW] at this; exact this)
        rw [hgW]
        clear h4 hgW
        go_loopw [18] (fun kv wr => ∃ k, k ≤ 3 ∧ kv = .int .i64 ((k : Nat) : Int) ∧ Held PDisk Nobody w wr p D1 0 newD ((gW, .cells (strs3 (nowF D1 k)) 47 (0, 0)) :: blocks g su al hs)) (fun kv _ => 3 - (intOf kv).toNat)
        case atStart => exact ⟨0, Nat.zero_le _, rfl, H5.out⟩
        case round =>
          obtain ⟨k, hk, rfl, hh⟩ := hrel
          clear H5 H7
          obtain ⟨wx, rfl⟩ : ∃ w', w' = wr := ⟨_, rfl⟩
          have H7 := Lib.hid hh
          clear hh
          have hks : k = 0 ∨ k = 1 ∨ k = 2 ∨ k = 3 := by omega
          rcases hks with rfl | rfl | rfl | rfl
          · obtain ⟨z0, z1, z2, z3, _, z5⟩ := laCells0 H7.out.pop
            have hgw := H7.out.own (List.mem_cons_self ..)
            have fW := blk_fr hgw 0
            have lW : gW < wx.heap.size := (Array.getElem?_eq_some_iff.1 hgw).1
            clear hgw
            obtain ⟨sf, hsf⟩ : ∃ s, finK D1 0 = s := ⟨_, rfl⟩
            rcases hhs : hs 0 with _ | _
            · rw [hhs] at z3
              have hr := HR.out.no 0 (by omega) hhs
              have h0 : finK D1 0 = [] := by unfold finK; rw [hr]
              have HRD := Lib.hid (show readD D1 [97] = ([], 101) from hr)
              have HN : Hid (strs3 (nowF D1 0) = strs3 (nowF D1 (0 + 1))) := Lib.hid (now_none (by omega) h0)
              clear hr h0 hsf
              go_wp2_with (go_at_call 26; (have hc := H7.out.pRead nobody_law [97] (by decide); rw [e97, HRD.out] at hc; with_reducible refine hc.mono ?_); rintro e w8 ⟨rfl, _, h8⟩; obtain ⟨y0, y1, y2, y3, _, y5⟩ := laCells0 h8.pop; rw [hhs] at y3)
              rw [HN.out] at h8
              have H8 := Lib.hid h8
              clear h8
              go_roundw
              case rel => exact ⟨0 + 1, by omega, by go_num, H8.out⟩
              case measure => simp [intOf]
            · rw [hhs] at z3
              obtain ⟨hr, hl1, hl2, hl3⟩ := HR.out.yes 0 (by omega) hhs
              have HRD : Hid (readD D1 [97] = (sf, 0)) := Lib.hid (by rw [← hsf]; exact hr)
              rw [hsf] at hl1 hl2 hl3
              have HN : Hid ((strs3 (nowF D1 0)).setIfInBounds 0 (.string (S sf)) = strs3 (nowF D1 (0 + 1))) := Lib.hid (by rw [← hsf]; exact now_set0 _)
              have s1 := S_size sf
              have s2 := S_size (su 0)
              have s3 := S_size (al 0)
              have u1 : ¬ (sf.length : Int) < ((su 0).length : Int) := by omega
              have u2 : ¬ ((al 0).length : Int) < (sf.length : Int) := by omega
              have u3 := S_toList sf
              have cs := fun W => slice_to (al 0) sf.length (by omega) W
              rw [← hl3] at cs
              have hbl := (HPRE.out 0 (by omega)).2
              clear hr hl1 hl2 hl3 hsf
              go_wp2_with (go_at_call 26; (have hc := H7.out.pRead nobody_law [97] (by decide); rw [e97, HRD.out] at hc; with_reducible refine hc.mono ?_); rintro e w8 ⟨rfl, _, h8⟩; obtain ⟨y0, y1, y2, y3, _, y5⟩ := laCells0 h8.pop; rw [hhs] at y3; have hgw8 := h8.own (List.mem_cons_self ..); have fW8 := blk_fr hgw8 0; have cW8 : w8.cell? ⟨gW, 0, none⟩ = some (.string (S [])) := blk_cell hgw8 0; have lW8 : gW < w8.heap.size := (Array.getElem?_eq_some_iff.1 hgw8).1; clear hgw8; have h9 := h8.set pdisk_law nobody_law 0 (.string (S sf)); rw [HN.out] at h9)
              have H9 := Lib.hid h9
              clear h8 h9
              go_roundw
              case rel => exact ⟨0 + 1, by omega, by go_num, H9.out⟩
              case measure => simp [intOf]
          · obtain ⟨z0, z1, z2, z3, _, z5⟩ := laCells1 H7.out.pop
            have hgw := H7.out.own (List.mem_cons_self ..)
            have fW := blk_fr hgw 1
            have lW : gW < wx.heap.size := (Array.getElem?_eq_some_iff.1 hgw).1
            clear hgw
            obtain ⟨sf, hsf⟩ : ∃ s, finK D1 1 = s := ⟨_, rfl⟩
            rcases hhs : hs 1 with _ | _
            · rw [hhs] at z3
              have hr := HR.out.no 1 (by omega) hhs
              have h0 : finK D1 1 = [] := by unfold finK; rw [hr]
              have HRD := Lib.hid (show readD D1 [98] = ([], 101) from hr)
              have HN : Hid (strs3 (nowF D1 1) = strs3 (nowF D1 (1 + 1))) := Lib.hid (now_none (by omega) h0)
              clear hr h0 hsf
              go_wp2_with (go_at_call 26; (have hc := H7.out.pRead nobody_law [98] (by decide); rw [e98, HRD.out] at hc; with_reducible refine hc.mono ?_); rintro e w8 ⟨rfl, _, h8⟩; obtain ⟨y0, y1, y2, y3, _, y5⟩ := laCells1 h8.pop; rw [hhs] at y3)
              rw [HN.out] at h8
              have H8 := Lib.hid h8
              clear h8
              go_roundw
              case rel => exact ⟨1 + 1, by omega, by go_num, H8.out⟩
              case measure => simp [intOf]
            · rw [hhs] at z3
              obtain ⟨hr, hl1, hl2, hl3⟩ := HR.out.yes 1 (by omega) hhs
              have HRD : Hid (readD D1 [98] = (sf, 0)) := Lib.hid (by rw [← hsf]; exact hr)
              rw [hsf] at hl1 hl2 hl3
              have HN : Hid ((strs3 (nowF D1 1)).setIfInBounds 1 (.string (S sf)) = strs3 (nowF D1 (1 + 1))) := Lib.hid (by rw [← hsf]; exact now_set1 _)
              have s1 := S_size sf
              have s2 := S_size (su 1)
              have s3 := S_size (al 1)
              have u1 : ¬ (sf.length : Int) < ((su 1).length : Int) := by omega
              have u2 : ¬ ((al 1).length : Int) < (sf.length : Int) := by omega
              have u3 := S_toList sf
              have cs := fun W => slice_to (al 1) sf.length (by omega) W
              rw [← hl3] at cs
              have hbl := (HPRE.out 1 (by omega)).2
              clear hr hl1 hl2 hl3 hsf
              go_wp2_with (go_at_call 26; (have hc := H7.out.pRead nobody_law [98] (by decide); rw [e98, HRD.out] at hc; with_reducible refine hc.mono ?_); rintro e w8 ⟨rfl, _, h8⟩; obtain ⟨y0, y1, y2, y3, _, y5⟩ := laCells1 h8.pop; rw [hhs] at y3; have hgw8 := h8.own (List.mem_cons_self ..); have fW8 := blk_fr hgw8 1; have cW8 : w8.cell? ⟨gW, 1, none⟩ = some (.string (S [])) := blk_cell hgw8 1; have lW8 : gW < w8.heap.size := (Array.getElem?_eq_some_iff.1 hgw8).1; clear hgw8; have h9 := h8.set pdisk_law nobody_law 1 (.string (S sf)); rw [HN.out] at h9)
              have H9 := Lib.hid h9
              clear h8 h9
              go_roundw
              case rel => exact ⟨1 + 1, by omega, by go_num, H9.out⟩
              case measure => simp [intOf]
          · obtain ⟨z0, z1, z2, z3, _, z5⟩ := laCells2 H7.out.pop
            have hgw := H7.out.own (List.mem_cons_self ..)
            have fW := blk_fr hgw 2
            have lW : gW < wx.heap.size := (Array.getElem?_eq_some_iff.1 hgw).1
            clear hgw
            obtain ⟨sf, hsf⟩ : ∃ s, finK D1 2 = s := ⟨_, rfl⟩
            rcases hhs : hs 2 with _ | _
            · rw [hhs] at z3
              have hr := HR.out.no 2 (by omega) hhs
              have h0 : finK D1 2 = [] := by unfold finK; rw [hr]
              have HRD := Lib.hid (show readD D1 [99] = ([], 101) from hr)
              have HN : Hid (strs3 (nowF D1 2) = strs3 (nowF D1 (2 + 1))) := Lib.hid (now_none (by omega) h0)
              clear hr h0 hsf
              go_wp2_with (go_at_call 26; (have hc := H7.out.pRead nobody_law [99] (by decide); rw [e99, HRD.out] at hc; with_reducible refine hc.mono ?_); rintro e w8 ⟨rfl, _, h8⟩; obtain ⟨y0, y1, y2, y3, _, y5⟩ := laCells2 h8.pop; rw [hhs] at y3)
              rw [HN.out] at h8
              have H8 := Lib.hid h8
              clear h8
              go_roundw
              case rel => exact ⟨2 + 1, by omega, by go_num, H8.out⟩
              case measure => simp [intOf]
            · rw [hhs] at z3
              obtain ⟨hr, hl1, hl2, hl3⟩ := HR.out.yes 2 (by omega) hhs
              have HRD : Hid (readD D1 [99] = (sf, 0)) := Lib.hid (by rw [← hsf]; exact hr)
              rw [hsf] at hl1 hl2 hl3
              have HN : Hid ((strs3 (nowF D1 2)).setIfInBounds 2 (.string (S sf)) = strs3 (nowF D1 (2 + 1))) := Lib.hid (by rw [← hsf]; exact now_set2 _)
              have s1 := S_size sf
              have s2 := S_size (su 2)
              have s3 := S_size (al 2)
              have u1 : ¬ (sf.length : Int) < ((su 2).length : Int) := by omega
              have u2 : ¬ ((al 2).length : Int) < (sf.length : Int) := by omega
              have u3 := S_toList sf
              have cs := fun W => slice_to (al 2) sf.length (by omega) W
              rw [← hl3] at cs
              have hbl := (HPRE.out 2 (by omega)).2
              clear hr hl1 hl2 hl3 hsf
              go_wp2_with (go_at_call 26; (have hc := H7.out.pRead nobody_law [99] (by decide); rw [e99, HRD.out] at hc; with_reducible refine hc.mono ?_); rintro e w8 ⟨rfl, _, h8⟩; obtain ⟨y0, y1, y2, y3, _, y5⟩ := laCells2 h8.pop; rw [hhs] at y3; have hgw8 := h8.own (List.mem_cons_self ..); have fW8 := blk_fr hgw8 2; have cW8 : w8.cell? ⟨gW, 2, none⟩ = some (.string (S [])) := blk_cell hgw8 2; have lW8 : gW < w8.heap.size := (Array.getElem?_eq_some_iff.1 hgw8).1; clear hgw8; have h9 := h8.set pdisk_law nobody_law 2 (.string (S sf)); rw [HN.out] at h9)
              have H9 := Lib.hid h9
              clear h8 h9
              go_roundw
              case rel => exact ⟨2 + 1, by omega, by go_num, H9.out⟩
              case measure => simp [intOf]
          · go_wp2_with (go_at_call 24; (have hc := H7.out.pRestart nobody_law gcap HG.out; rw [HD2.out] at hc; with_reducible refine hc.mono ?_); rintro e w5 ⟨rfl, h5⟩)
            have H5 := Lib.hid h5
            clear h5 H7
            go_loopw [21] (fun kv wr => ∃ k, k ≤ 3 ∧ kv = .int .i64 ((k : Nat) : Int) ∧ Held PDisk Nobody w wr p D2 0 newD ((gW, .cells (strs3 (nowF D1 3)) 47 (0, 0)) :: blocks g su al hs)) (fun kv _ => 3 - (intOf kv).toNat)
            case atStart => exact ⟨0, Nat.zero_le _, rfl, H5.out⟩
            case round =>
              obtain ⟨k, hk, rfl, hh⟩ := hrel
              clear H5
              obtain ⟨wy, rfl⟩ : ∃ w', w' = wr := ⟨_, rfl⟩
              have H7 := Lib.hid hh
              clear hh
              have hks : k = 0 ∨ k = 1 ∨ k = 2 ∨ k = 3 := by omega
              rcases hks with rfl | rfl | rfl | rfl
              · obtain ⟨z0, _, _, _, _, z5⟩ := laCells0 H7.out.pop
                obtain ⟨sf, hsf⟩ : ∃ s, finK D1 0 = s := ⟨_, rfl⟩
                have hr := HR2.out 0 (by omega)
                rw [hsf] at hr
                have HRD : Hid ((readD D2 [97]).1 = sf) := Lib.hid hr
                have HSF := Lib.hid hsf
                have u3 := S_toList sf
                clear hr hsf
                go_wp2_with (go_at_call 26; (have hc := H7.out.pRead nobody_law [97] (by decide); rw [e97, HRD.out] at hc; with_reducible refine hc.mono ?_); rintro e w8 ⟨rfl, _, h8⟩; have cW : w8.cell? ⟨gW, 0, none⟩ = some (.string (S sf)) := by rw [← HSF.out]; exact blk_cell (h8.own (List.mem_cons_self ..)) 0)
                have H8 := Lib.hid h8
                clear h8
                go_roundw
                case rel => exact ⟨0 + 1, by omega, by go_num, H8.out⟩
                case measure => simp [intOf]
              · obtain ⟨z0, _, _, _, _, z5⟩ := laCells1 H7.out.pop
                obtain ⟨sf, hsf⟩ : ∃ s, finK D1 1 = s := ⟨_, rfl⟩
                have hr := HR2.out 1 (by omega)
                rw [hsf] at hr
                have HRD : Hid ((readD D2 [98]).1 = sf) := Lib.hid hr
                have HSF := Lib.hid hsf
                have u3 := S_toList sf
                clear hr hsf
                go_wp2_with (go_at_call 26; (have hc := H7.out.pRead nobody_law [98] (by decide); rw [e98, HRD.out] at hc; with_reducible refine hc.mono ?_); rintro e w8 ⟨rfl, _, h8⟩; have cW : w8.cell? ⟨gW, 1, none⟩ = some (.string (S sf)) := by rw [← HSF.out]; exact blk_cell (h8.own (List.mem_cons_self ..)) 1)
                have H8 := Lib.hid h8
                clear h8
                go_roundw
                case rel => exact ⟨1 + 1, by omega, by go_num, H8.out⟩
                case measure => simp [intOf]
              · obtain ⟨z0, _, _, _, _, z5⟩ := laCells2 H7.out.pop
                obtain ⟨sf, hsf⟩ : ∃ s, finK D1 2 = s := ⟨_, rfl⟩
                have hr := HR2.out 2 (by omega)
                rw [hsf] at hr
                have HRD : Hid ((readD D2 [99]).1 = sf) := Lib.hid hr
                have HSF := Lib.hid hsf
                have u3 := S_toList sf
                clear hr hsf
                go_wp2_with (go_at_call 26; (have hc := H7.out.pRead nobody_law [99] (by decide); rw [e99, HRD.out] at hc; with_reducible refine hc.mono ?_); rintro e w8 ⟨rfl, _, h8⟩; have cW : w8.cell? ⟨gW, 2, none⟩ = some (.string (S sf)) := by rw [← HSF.out]; exact blk_cell (h8.own (List.mem_cons_self ..)) 2)
                have H8 := Lib.hid h8
                clear h8
                go_roundw
                case rel => exact ⟨2 + 1, by omega, by go_num, H8.out⟩
                case measure => simp [intOf]
              · have hT := H7.out.to
                go_wp2
                go_ret
                exact ⟨rfl, hT⟩
theorem own : ownKnob Try.prog.godebug = none := by kernel_rfl
theorem laidOut : laidOutB Try.prog = true := by kernel_rfl

set_option maxRecDepth 100000 in
theorem lifted (os : Os) (started : os.Started) (H : Type) (enc : TypeId × Value → H) :
    ReturnsInHanded {} Try.checked os 5 .any (Rows.diskLastsSpec.pre6 enc Try.prog Try.f5 Rows.diskLastsRow.domain false) (Rows.diskLastsSpec.post enc Try.prog Try.f5 false true false false) := by
  refine returnsInHanded_of_change_sized (C := Try.checked) own started (by kernel_rfl) Try.func5
    (ChangeSpec.witness6 (enc := enc) (C := Try.checked) false ⟨#[], #[.slice none 0 0, .slice none 0 0, .slice none 0 0], []⟩ 8 (by kernel_rfl) (by kernel_rfl) (by kernel_rfl) (by kernel_rfl)) ?_
  intro W base args ds gs before hval0 hW _ hsz0 _
  have hsz : (DataW.weightsEach Try.prog (Try.f5.params.toList ++ Rows.diskLastsSpec.plain.varTypes Try.prog) (ds ++ gs)).all (· ≤ reachBytes) = true := hsz0
  have hval : ∀ (j : Nat) t v, Try.f5.params[j]? = some t → args[j]? = some v → Value.okWide Try.prog W .any base t v := hval0
  have hW' := hW
  obtain ⟨p, q, hA0, hV, rfl, hfz, hnd⟩ := hW
  have hA : DataW.TrodAll enc Try.prog W 0 (fun _ => true) true Try.f5.params.toList args.toList ds p := hA0
  rw [Try.params5] at hA hval hsz
  obtain ⟨v0, vs0, d0, ds0, p0, q0, hargs, rfl, rfl, h0, r0⟩ := trodAll_cons hA
  obtain ⟨v1, vs1, d1, ds1, p1, q1, rfl, rfl, rfl, h1, r1⟩ := trodAll_cons r0
  obtain ⟨v2, vs2, d2, ds2, p2, q2, rfl, rfl, rfl, h2, r2⟩ := trodAll_cons r1
  obtain ⟨rfl, rfl, rfl⟩ := trodAll_nil r2
  obtain rfl : args = #[v0, v1, v2] := by cases args; simp_all
  obtain ⟨rfl, rfl⟩ := trodVars_none hV
  have k0 := h0
  have lt0 : ∀ x ∈ p0, x.block < W.heap.size := by obtain ⟨m, hm⟩ := k0; exact DataW.trod_lt m _ _ _ hm
  have k1 := h1
  have lt1 : ∀ x ∈ p1, x.block < W.heap.size := by obtain ⟨m, hm⟩ := k1; exact DataW.trod_lt m _ _ _ hm
  have k2 := h2
  have lt2 : ∀ x ∈ p2, x.block < W.heap.size := by obtain ⟨m, hm⟩ := k2; exact DataW.trod_lt m _ _ _ hm
  obtain ⟨a0, len0, cap0, rfl⟩ := okWide_slice Try.underlying22 (hval 0 22 v0 rfl rfl)
  obtain ⟨z0, b0⟩ := acts_of k0 (weights_at hsz (j := 0) (t := 22) rfl rfl)
  obtain ⟨a1, len1, cap1, rfl⟩ := okWide_slice Try.underlying28 (hval 1 28 v1 rfl rfl)
  obtain ⟨z1, b1⟩ := keep_of k1
  obtain ⟨a2, len2, cap2, rfl⟩ := okWide_slice Try.underlying28 (hval 2 28 v2 rfl rfl)
  obtain ⟨z2, b2⟩ := keep_of k2
  clear hA0 hval0 hsz0 hsz
  refine (walk a0 len0 cap0 z0 a1 len1 cap1 z1 a2 len2 cap2 z2 W b0 b1 b2).mono fun e W' ⟨he, bel⟩ => ?_
  subst he
  exact ⟨_, rfl, _, _, _, [], _, [], hW', trodAll_mk1 (shut_bool Try.underlying4 _), (trodAll_cons_mk (Below.trod laidOut (by kernel_rfl) (of_decide_eq_true (by kernel_rfl)) k0 bel lt0) (trodAll_cons_mk (Below.trod laidOut (by kernel_rfl) (of_decide_eq_true (by kernel_rfl)) k1 bel lt1) (trodAll_cons_mk (Below.trod laidOut (by kernel_rfl) (of_decide_eq_true (by kernel_rfl)) k2 bel lt2) trodAll_mk0))), rfl, bel.frame _, fun h => by cases h⟩

theorem over : Rows.diskLastsRow.holds Try.pinned (OpenSpec.ofChange Rows.diskLastsSpec) :=
  OpenClaim.holds_of_wide 5 Try.f5 rfl rfl rfl rfl rfl rfl rfl ⟨rfl, rfl, rfl, rfl, rfl⟩ rfl rfl rfl rfl rfl (by kernel_rfl) Try.func5 (by kernel_rfl)
    (of_decide_eq_true (by kernel_rfl)) (by unfold Func.isWrapper; first | (rw [if_pos (by decide +kernel)]; kernel_rfl) | (rw [if_neg (by decide +kernel)]; exact ⟨rfl, rfl⟩))
    (fun os started H enc _ => lifted os started H enc)

theorem proved : Rows.DiskLastsSaid := over
end Go.Proofs.Ytffpmcelelloeaa.lawDlasts
