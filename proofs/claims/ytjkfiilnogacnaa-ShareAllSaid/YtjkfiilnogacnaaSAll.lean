/-
  The statement ShareAll is proved for every list of numbers: step by step everybody comes to the target. No condition.
-/
import Derived.Deep.QuietTactic
import Derived.Deep.DeepCutAuto
import Derived.Test.YtjkfiilnogacnaaSrow
import Derived.Test.YtjkfiilnogacnaaSawake
import Derived.Test.YtjkfiilnogacnaaOpen14
import Derived.Test.YtjkfiilnogacnaaRows
namespace Go.Proofs.Ytjkfiilnogacnaa.lawSAll
open Go.ChangeShapes Go.WideShapes Go.ChangeAt Go.RowKit Gm

theorem heldsN_len (z : List Int) : (heldsN z).length = 3 := rfl
theorem targsN_len (z : List Int) : (targsN z).length = 3 := rfl
theorem of_3 {l : List Int} (h : l.length = 3) : l = [atN l 0, atN l 1, atN l 2] := by
  match l, h with
  | [a, b, c], _ => rfl
def clipN (H : List Int) : Nat → List Int
  | 0 => H
  | i + 1 => (clipN H i).set i (max (atN (clipN H i) i) 0)
theorem clipN_len (H : List Int) : ∀ i, (clipN H i).length = H.length
  | 0 => rfl
  | i + 1 => by unfold clipN; rw [List.length_set, clipN_len H i]
theorem atN_set (l : List Int) (i j : Nat) (v : Int) : atN (l.set i v) j = if i = j ∧ j < l.length then v else atN l j := by
  unfold atN
  rw [List.getElem?_set]
  by_cases h : i = j
  · subst h
    by_cases h2 : i < l.length
    · simp [h2]
    · simp [h2]
  · simp [h]
theorem clipN_bd (H : List Int) (h : ∀ j, -1 ≤ atN H j ∧ atN H j ≤ 7) : ∀ i j, -1 ≤ atN (clipN H i) j ∧ atN (clipN H i) j ≤ 7
  | 0, j => h j
  | i + 1, j => by
    unfold clipN
    rw [atN_set]
    have := clipN_bd H h i i
    have := clipN_bd H h i j
    split <;> omega
theorem clipN_3 (H : List Int) (hl : H.length = 3) (h : ∀ j, -1 ≤ atN H j ∧ atN H j ≤ 7) : ∀ j, 0 ≤ atN (clipN H 3) j ∧ atN (clipN H 3) j ≤ 7 := by
  rw [of_3 hl]
  have h0 := h 0
  have h1 := h 1
  have h2 := h 2
  intro j
  have e : clipN [atN H 0, atN H 1, atN H 2] 3 = [max (atN H 0) 0, max (atN H 1) 0, max (atN H 2) 0] := by rfl
  rw [e]
  refine atN_bd (by omega) (fun x hx => ?_) j
  simp only [List.mem_cons, List.not_mem_nil, or_false] at hx
  rcases hx with rfl | rfl | rfl <;> omega
def stepN (want : Int) (L T : List Int) : Nat → List Int
  | 0 => L
  | s + 1 => shareN want (stepN want L T s) T
def allN (f : Nat → Bool) : Nat → Bool
  | 0 => true
  | i + 1 => allN f i && f i
theorem allN_3 {f : Nat → Bool} (h : allN f 3 = true) : ∀ i, i < 3 → f i = true := by
  simp only [allN, Bool.true_and, Bool.and_eq_true] at h
  intro i hi
  have : i = 0 ∨ i = 1 ∨ i = 2 := by omega
  rcases this with rfl | rfl | rfl
  · exact h.1.1
  · exact h.1.2
  · exact h.2
theorem fits_3 {want : Int} {L T : List Int} (hL : L.length = 3) (hT : T.length = 3) (hw : atN T 0 + atN T 1 + atN T 2 ≤ want ∧ want ≤ 1000) (h0 : ∀ i, 0 ≤ atN L i) (h1 : ∀ i, i < 3 → atN L i ≤ atN T i) (h2 : ∀ i, 0 ≤ atN T i ∧ atN T i ≤ 8) : shareN want L T = T := by
  have a0 := h0 0
  have a1 := h0 1
  have a2 := h0 2
  have b0 := h1 0 (by omega)
  have b1 := h1 1 (by omega)
  have b2 := h1 2 (by omega)
  have c0 := h2 0
  have c1 := h2 1
  have c2 := h2 2
  have := share_fits (want := want) (a := atN L 0) (b := atN L 1) (c := atN L 2) (x := atN T 0) (y := atN T 1) (z := atN T 2) hw ⟨a0, b0⟩ ⟨a1, b1⟩ ⟨a2, b2⟩ (by omega) (by omega) (by omega)
  rwa [← of_3 hL, ← of_3 hT] at this
theorem step_3 {want : Int} {L T : List Int} (hL : L.length = 3) (hT : T.length = 3) (hw : 0 ≤ want ∧ want ≤ 1000) (h0 : ∀ i, 0 ≤ atN L i ∧ atN L i ≤ 8) (h2 : ∀ i, 0 ≤ atN T i ∧ atN T i ≤ 8) : (shareN want L T).length = 3 ∧ (∀ i, 0 ≤ atN (shareN want L T) i ∧ atN (shareN want L T) i ≤ 8) ∧ ∀ i, i < 3 → atN (shareN want L T) i ≤ atN T i := by
  have a0 := h0 0
  have a1 := h0 1
  have a2 := h0 2
  have c0 := h2 0
  have c1 := h2 1
  have c2 := h2 2
  obtain ⟨g0, g1, g2, e, k0, k1, k2⟩ := share_step (want := want) (a := atN L 0) (b := atN L 1) (c := atN L 2) (x := atN T 0) (y := atN T 1) (z := atN T 2) hw (by omega) (by omega) (by omega) (by omega) (by omega) (by omega)
  rw [← of_3 hL, ← of_3 hT] at e
  rw [e]
  refine ⟨rfl, atN_bd (by omega) (fun x hx => ?_), fun i hi => ?_⟩
  · simp only [List.mem_cons, List.not_mem_nil, or_false] at hx
    rcases hx with rfl | rfl | rfl <;> omega
  · have : i = 0 ∨ i = 1 ∨ i = 2 := by omega
    rcases this with rfl | rfl | rfl
    · exact k0.2
    · exact k1.2
    · exact k2.2
section
variable {want : Int} {L T : List Int} (hL : L.length = 3) (hT : T.length = 3) (hw : atN T 0 + atN T 1 + atN T 2 ≤ want ∧ want ≤ 1000) (h0 : ∀ i, 0 ≤ atN L i ∧ atN L i ≤ 8) (h2 : ∀ i, 0 ≤ atN T i ∧ atN T i ≤ 8)
include hL hT hw h0 h2
theorem stepN_ok : ∀ s, (stepN want L T s).length = 3 ∧ (∀ i, 0 ≤ atN (stepN want L T s) i ∧ atN (stepN want L T s) i ≤ 8) ∧ (0 < s → ∀ i, i < 3 → atN (stepN want L T s) i ≤ atN T i)
  | 0 => ⟨hL, h0, fun h => absurd h (by omega)⟩
  | s + 1 => by
    obtain ⟨k1, k2, _⟩ := stepN_ok s
    have c0 := h2 0
    have c1 := h2 1
    have c2 := h2 2
    obtain ⟨e1, e2, e3⟩ := step_3 k1 hT (want := want) (by omega) k2 h2
    exact ⟨e1, e2, fun _ => e3⟩
theorem stepN_fits (s : Nat) (h : ∀ i, i < 3 → atN (stepN want L T s) i ≤ atN T i) : stepN want L T (s + 1) = T := by
  obtain ⟨k1, k2, _⟩ := stepN_ok hL hT hw h0 h2 s
  exact fits_3 k1 hT hw (fun i => (k2 i).1) h h2
theorem stepN_3 : stepN want L T 3 = T := stepN_fits hL hT hw h0 h2 2 ((stepN_ok hL hT hw h0 h2 2).2.2 (by omega))
end
theorem i64_small {l : List Int} {a b : Int} (h : ∀ x ∈ l, a ≤ x ∧ x ≤ b) (ha : -1000000 ≤ a) (hb : b ≤ 1000000) : ∀ x ∈ l, I64 x := fun x hx => by have := h x hx; unfold I64; omega
theorem i64_at {l : List Int} {a b : Int} (h : ∀ i, a ≤ atN l i ∧ atN l i ≤ b) (ha : -1000000 ≤ a) (hb : b ≤ 1000000) : ∀ x ∈ l, I64 x := fun x hx => by
  obtain ⟨i, hi, rfl⟩ := List.getElem_of_mem hx
  have := h i
  rw [atN_of hi]
  unfold I64
  omega
theorem helds_bd (z : List Int) : ∀ x ∈ heldsN z, -1 ≤ x ∧ x ≤ 7 := fun x hx => by
  rw [heldsN_eq] at hx
  simp only [List.mem_cons, List.not_mem_nil, or_false] at hx
  rcases hx with rfl | rfl | rfl <;> exact heldR_bd z _
theorem targs_bd (z : List Int) : ∀ x ∈ targsN z, 0 ≤ x ∧ x ≤ 8 := fun x hx => by
  rw [targsN_eq] at hx
  simp only [List.mem_cons, List.not_mem_nil, or_false] at hx
  rcases hx with rfl | rfl | rfl <;> exact targR_bd z _
set_option maxRecDepth 100000 in
set_option maxHeartbeats 8000000 in
theorem walk (a : Option Addr) (len cap : Nat) (raw : List Int) (more : Int) (w : World) (h : KeepB w.heap.size w a len raw) (hm : I64 more) :
    Calls Try.prog 5 #[.slice a len cap, .int .i64 more] w fun e w' => e = .returned (.bool true) ∧ Below w.heap.size w w' := by
  have HZ := Lib.hid h
  have HM := Lib.hid hm
  have hmb := pk_bd more 5 (by omega)
  have hHl := heldsN_len raw
  have hTl := targsN_len raw
  have hHb := helds_bd raw
  have hTb := targs_bd raw
  obtain ⟨H, hH⟩ : ∃ H, heldsN raw = H := ⟨_, rfl⟩
  obtain ⟨T, hT⟩ : ∃ T, targsN raw = T := ⟨_, rfl⟩
  obtain ⟨pm, hpm⟩ : ∃ x, pk more 5 = x := ⟨_, rfl⟩
  rw [hH] at hHl hHb
  rw [hT] at hTl hTb
  rw [hpm] at hmb
  have HH := Lib.hid hH
  have HT := Lib.hid hT
  have HPM := Lib.hid hpm
  have HHl := Lib.hid hHl
  have HTl := Lib.hid hTl
  have HTb := Lib.hid hTb
  have HAB : Hid (∀ i, -1 ≤ atN H i ∧ atN H i ≤ 7) := Lib.hid (atN_bd (by omega) hHb)
  have HTB : Hid (∀ i, 0 ≤ atN T i ∧ atN T i ≤ 8) := Lib.hid (atN_bd (by omega) hTb)
  have tb0 := HTB.out 0
  have tb1 := HTB.out 1
  have tb2 := HTB.out 2
  clear h hm hH hT hpm hHl hTl hHb hTb
  go_enter Try.func5, Try.ntmps5
  go_upto_region 3 with (first
    | (go_at_call 9; with_reducible refine (awake_any w).mono ?_; rintro e w1 ⟨rfl, hb1⟩; have HB1 := Lib.hid hb1; clear hb1)
    | (go_at_call 16; (have hc := lists_any w.heap.size a len cap raw w1 (HZ.out.below HB1.out) HB1.out.size; rw [HH.out, HT.out] at hc; with_reducible refine hc.mono ?_); rintro e w2 ⟨g1, c1, g2, c2, rfl, htwo⟩; have HTWO := Lib.hid htwo; clear htwo hc))
  have HBw2 := Lib.hid (HB1.out.trans (HTWO.out.bw.mono HB1.out.size))
  have HR1 := Lib.hid (RowC.of_row HTWO.out.a)
  have HR2 := Lib.hid (RowC.of_row HTWO.out.b)
  have hne : g1 ≠ g2 := fun e => HTWO.out.ne g1 rfl (by rw [e]; rfl)
  have hg1 : w1.heap.size ≤ g1 := (HTWO.out.a.lt g1 rfl).1
  have hg1' : w.heap.size ≤ g1 := Nat.le_trans HB1.out.size hg1
  have HNE := Lib.hid hne
  clear HB1 HTWO hne hg1
  have k0 := HR2.out.cell (i := 0) (by rw [HTl.out]; omega)
  have k1 := HR2.out.cell (i := 1) (by rw [HTl.out]; omega)
  have k2 := HR2.out.cell (i := 2) (by rw [HTl.out]; omega)
  have hl2 := HR2.out.lt
  obtain ⟨t0, ht0⟩ : ∃ x, atN T 0 = x := ⟨_, rfl⟩
  obtain ⟨t1, ht1⟩ : ∃ x, atN T 1 = x := ⟨_, rfl⟩
  obtain ⟨t2, ht2⟩ : ∃ x, atN T 2 = x := ⟨_, rfl⟩
  rw [ht0] at k0 tb0
  rw [ht1] at k1 tb1
  rw [ht2] at k2 tb2
  have s1 : IntKind.i64.wrap (t0 + t1) = t0 + t1 := IntWalk.i64_in _ ⟨by omega, by omega⟩
  have s2 : IntKind.i64.wrap (t0 + t1 + t2) = t0 + t1 + t2 := IntWalk.i64_in _ ⟨by omega, by omega⟩
  have s3 : IntKind.i64.wrap (t0 + t1 + t2 + pm) = t0 + t1 + t2 + pm := IntWalk.i64_in _ ⟨by omega, by omega⟩
  have HW0 : Hid (atN T 0 + atN T 1 + atN T 2 ≤ t0 + t1 + t2 + pm ∧ t0 + t1 + t2 + pm ≤ 1000) := Lib.hid (by rw [ht0, ht1, ht2]; omega)
  have HI : Hid (I64 (t0 + t1 + t2 + pm)) := Lib.hid (by unfold I64; omega)
  clear ht0 ht1 ht2 tb0 tb1 tb2
  have q0 : w2.drew.cell? ⟨g2, 0, none⟩ = some (.int .i64 t0) := k0
  have q1 : w2.drew.cell? ⟨g2, 1, none⟩ = some (.int .i64 t1) := k1
  have q2 : w2.drew.cell? ⟨g2, 2, none⟩ = some (.int .i64 t2) := k2
  refine region_mix (fun W => W.cell? ⟨g2, 0, none⟩ = some (.int .i64 t0) ∧ W.cell? ⟨g2, 1, none⟩ = some (.int .i64 t1) ∧ W.cell? ⟨g2, 2, none⟩ = some (.int .i64 t2)) (13) (.reads [0, 1, 2, 3, 4, 5, 6, 7, 8, 9, 10, 11] (.only 12 (.only 13 (.only 14 (.stop))))) (by kernel_rfl) (by kernel_rfl) (⟨q0, q1, q2⟩) ?_
  repeat (
    refine plan_read rfl (fun K hK => ?_)
    first
      | (refine plan_neg ?_ ?_
         focus (go_simp; done)
         go_simp
         refine hK _ ?_
         clear hK K)
      | (apply plan_pos
         focus (go_simp; done)
         focus (
           intro W hW
           (obtain ⟨k0, k1, k2⟩ := hW)
           go_simp
           first
             | done
             | exact rfl)
         go_simp
         refine hK _ ?_
         clear hK K))
  refine plan_only rfl (fun Q hQ => ?_)
  go_wp2_with (go_at_call 17; (have hc := pick_any more 5 w2.drew HM.out (by omega) (by omega); rw [HPM.out] at hc; with_reducible refine hc.mono ?_); rintro e w3 ⟨rfl, rfl⟩)
  refine hQ _ _ (fun _ => ⟨q0, q1, q2⟩) ?_
  clear hQ Q
  refine plan_only rfl (fun Q hQ => ?_)
  go_wp2
  refine hQ _ _ (fun h => absurd h (by omega)) ?_
  clear hQ Q
  refine plan_only rfl (fun Q hQ => ?_)
  go_wp2
  refine hQ _ _ (fun h => absurd h (by omega)) ?_
  clear hQ Q
  unfold Plan.wp
  obtain ⟨wn, hwn⟩ : ∃ x, t0 + t1 + t2 + pm = x := ⟨_, rfl⟩
  rw [hwn] at HW0 HI s3 ⊢
  clear q0 q1 q2 k0 k1 k2 s1 s2 s3 hwn hmb
  have HR1d := Lib.hid (HR1.out.up (Below.refl w2.heap.size w2).drew)
  have HR2d := Lib.hid (HR2.out.up (Below.refl w2.heap.size w2).drew)
  have HB2d : Hid (Below w.heap.size w w2.drew) := Lib.hid HBw2.out.drew
  clear HR1 HR2 HBw2 hl2
  generalize w2.drew = w3 at *
  go_wp2
  go_loopw [9] (fun iv wr => ∃ i : Nat, i ≤ 3 ∧ iv = .int .i64 (i : Int) ∧ RowC wr g1 (clipN H i) ∧ RowC wr g2 T ∧ Below w.heap.size w wr) (fun iv _ => 3 - (intOf iv).toNat)
  case atStart => exact ⟨0, Nat.zero_le _, rfl, HR1d.out, HR2d.out, HB2d.out⟩
  case round =>
    obtain ⟨i, hi, rfl, hr1, hr2, hb⟩ := hrel
    have HR1' := Lib.hid hr1
    have HR2' := Lib.hid hr2
    have HB' := Lib.hid hb
    clear HR1d HR2d HB2d hb
    by_cases hlt : i < 3
    · have x1 := hr1.cell (i := i) (by rw [clipN_len, HHl.out]; exact hlt)
      have fz := hr1.frozen i
      have hl1 := hr1.lt
      have hi0 : (0 : Int) ≤ (i : Int) := by omega
      have hi3 : (i : Int) < 3 := by omega
      obtain ⟨x, hx⟩ : ∃ x, atN (clipN H i) i = x := ⟨_, rfl⟩
      rw [hx] at x1
      have m1 := max2 x 0
      obtain ⟨m, hm⟩ : ∃ m, max x 0 = m := ⟨_, rfl⟩
      rw [hm] at m1
      have HNX : Hid (RowC (wr.setCell ⟨g1, i, none⟩ (.int .i64 m)) g1 (clipN H (i + 1))) := Lib.hid (by
        have := HR1'.out.set i m
        rw [← hm, ← hx]
        rw [← hm, ← hx] at this
        exact this)
      have HN2 : Hid (RowC (wr.setCell ⟨g1, i, none⟩ (.int .i64 m)) g2 T) := Lib.hid (HR2'.out.other (Ne.symm HNE.out))
      have HNB : Hid (Below w.heap.size w (wr.setCell ⟨g1, i, none⟩ (.int .i64 m))) := Lib.hid (HB'.out.setCell (p := ⟨g1, i, none⟩) hg1' _)
      clear hr1 hr2 hx hm
      go_wp2
      go_roundw
      case rel => exact ⟨i + 1, by omega, by go_num, HNX.out, HN2.out, HNB.out⟩
      case measure => simp [intOf]; omega
    · have hi3 : i = 3 := by omega
      rw [hi3] at HR1'
      have hnlt : ¬ (i : Int) < 3 := by omega
      clear hi3 hi
      have HCb : Hid (∀ j, 0 ≤ atN (clipN H 3) j ∧ atN (clipN H 3) j ≤ 7) := Lib.hid (clipN_3 H HHl.out HAB.out)
      have HCl : Hid ((clipN H 3).length = 3) := Lib.hid (by rw [clipN_len, HHl.out])
      obtain ⟨L, hL⟩ : ∃ L, clipN H 3 = L := ⟨_, rfl⟩
      rw [hL] at HR1' HCb HCl
      have HOK : Hid (∀ s, (stepN wn L T s).length = 3 ∧ (∀ i, 0 ≤ atN (stepN wn L T s) i ∧ atN (stepN wn L T s) i ≤ 8) ∧ (0 < s → ∀ i, i < 3 → atN (stepN wn L T s) i ≤ atN T i)) := Lib.hid (stepN_ok HCl.out HTl.out HW0.out (fun j => by have := HCb.out j; omega) HTB.out)
      have HFIT : Hid (∀ s, (∀ i, i < 3 → atN (stepN wn L T s) i ≤ atN T i) → stepN wn L T (s + 1) = T) := Lib.hid (stepN_fits HCl.out HTl.out HW0.out (fun j => by have := HCb.out j; omega) HTB.out)
      have HEND : Hid (stepN wn L T 3 = T) := Lib.hid (stepN_3 HCl.out HTl.out HW0.out (fun j => by have := HCb.out j; omega) HTB.out)
      have HK0 : Hid (KeepB wr.heap.size wr (some ⟨g1, 0, none⟩) 3 (stepN wn L T 0)) := Lib.hid (HR1'.out.keep HCl.out (i64_at HCb.out (by omega) (by omega)))
      clear hL hr1 hr2 hlt HR1' HCb HCl HH HT HHl HAB HW0
      go_wp2
      go_loopw [6, 10] (fun hv sv wq => ∃ (s : Nat) (ha : Option Addr) (hc : Nat), s ≤ 3 ∧ sv = .int .i64 (s : Int) ∧ hv = .slice ha 3 hc ∧ KeepB wq.heap.size wq ha 3 (stepN wn L T s) ∧ RowC wq g2 T ∧ Below w.heap.size w wq) (fun _ sv _ => 3 - (intOf sv).toNat)
      case atStart => exact ⟨0, _, _, Nat.zero_le _, rfl, rfl, HK0.out, HR2'.out, HB'.out⟩
      case round =>
        obtain ⟨s, ha, hc, hs, rfl, rfl, hk, hr, hbw⟩ := hrel
        have HK := Lib.hid hk
        have HR := Lib.hid hr
        have HBW := Lib.hid hbw
        clear HK0 HR2' HB' hk hr hbw
        have HKT : Hid (KeepB wr.heap.size wr (some ⟨g2, 0, none⟩) 3 T) := Lib.hid (HR.out.keep HTl.out (i64_small HTb.out (by omega) (by omega)))
        by_cases hlt : s < 3
        · have hi0 : (0 : Int) ≤ (s : Int) := by omega
          have hi3 : (s : Int) < 3 := by omega
          obtain ⟨hGl, hGb, _⟩ := HOK.out (s + 1)
          have HFS : Hid ((∀ i, i < 3 → atN (stepN wn L T s) i ≤ atN T i) → stepN wn L T (s + 1) = T) := Lib.hid (HFIT.out s)
          have HG : Hid (shareN wn (stepN wn L T s) T = stepN wn L T (s + 1)) := Lib.hid rfl
          have HIL : Hid ((stepN wn L T s).length = 3) := Lib.hid (HOK.out s).1
          obtain ⟨G, hG⟩ : ∃ G, stepN wn L T (s + 1) = G := ⟨_, rfl⟩
          obtain ⟨S0, hS0⟩ : ∃ G, stepN wn L T s = G := ⟨_, rfl⟩
          rw [hG] at hGl hGb HG HFS
          rw [hS0] at HG HFS HK HIL
          have HGE := Lib.hid hG
          have HGl := Lib.hid hGl
          have HGb := Lib.hid hGb
          clear hG hS0 hGl hGb
          go_upto_region 12 with (go_at_call 10; (have hc' := share_any wn _ 3 hc S0 _ 3 c2 T wr HI.out HK.out HKT.out; rw [HG.out] at hc'; with_reducible refine hc'.mono ?_); rintro e w4 ⟨gv, rfl, hrow, hb4⟩; have HROW := Lib.hid hrow; have HB4 := Lib.hid hb4; clear hrow hb4 hc')
          obtain ⟨ga, gc, hgv, _, hgk⟩ := keep_row HROW.out (i64_at HGb.out (by omega) (by omega))
          rw [HGl.out] at hgv hgk
          subst hgv
          have HGK := Lib.hid hgk
          clear hgk
          obtain ⟨hb_, ho_, e1, hlh, kh⟩ := keep_at (keep_to HK.out HB4.out (Nat.le_refl _)) (by omega)
          subst e1
          have hr4 := HR.out.up HB4.out
          have hlt2 := hr4.lt
          have HKH := Lib.hid kh
          have HR4 := Lib.hid hr4
          have HBW4 : Hid (Below w.heap.size w w4) := Lib.hid (bt HBW.out HB4.out)
          have HTK4 : Hid (KeepB w4.heap.size w4 (some ⟨g2, 0, none⟩) 3 T) := Lib.hid (HR4.out.keep HTl.out (i64_small HTb.out (by omega) (by omega)))
          clear kh hr4 HROW HB4 HR HBW HKT
          go_wp2
          go_loopw [12, 13] (fun fv iv wq => ∃ i : Nat, i ≤ 3 ∧ iv = .int .i64 (i : Int) ∧ fv = .bool (allN (fun j => decide (atN S0 j ≤ atN T j)) i) ∧ Below w4.heap.size w4 wq) (fun _ iv _ => 3 - (intOf iv).toNat)
          case atStart => exact ⟨0, Nat.zero_le _, rfl, rfl, Below.refl _ _⟩
          case round =>
            obtain ⟨i, hi, rfl, rfl, hb⟩ := hrel
            have HBI := Lib.hid hb
            by_cases hl3 : i < 3
            · have x1 := (hb.cell (p := ⟨hb_, ho_ + i, none⟩) hlh).trans (HKH.out i hl3)
              have x2 := (hb.cell (p := ⟨g2, i, none⟩) hlt2).trans (HR4.out.cell (by rw [HTl.out]; exact hl3))
              have hj0 : (0 : Int) ≤ (i : Int) := by omega
              have hj3 : (i : Int) < 3 := by omega
              have y1 := Nat.lt_of_lt_of_le hlh hb.size
              have y2 := Nat.lt_of_lt_of_le hlt2 hb.size
              have HS1 : Hid (allN (fun j => decide (atN S0 j ≤ atN T j)) (i + 1) = (allN (fun j => decide (atN S0 j ≤ atN T j)) i && decide (atN S0 i ≤ atN T i))) := Lib.hid rfl
              obtain ⟨fb, hf⟩ : ∃ s, allN (fun j => decide (atN S0 j ≤ atN T j)) i = s := ⟨_, rfl⟩
              obtain ⟨x, hx⟩ : ∃ x, atN S0 i = x := ⟨_, rfl⟩
              obtain ⟨y, hy⟩ : ∃ x, atN T i = x := ⟨_, rfl⟩
              rw [hf, hx, hy] at HS1
              rw [hf]
              rw [hx] at x1
              rw [hy] at x2
              clear hf hx hy hb
              rcases Bool.eq_false_or_eq_true fb with rfl | rfl
              · by_cases hle : x ≤ y
                · have d1 : decide (x ≤ y) = true := decide_eq_true hle
                  have HS2 : Hid (allN (fun j => decide (atN S0 j ≤ atN T j)) (i + 1) = true) := Lib.hid (by rw [HS1.out, d1]; rfl)
                  clear hle
                  go_wp2
                  go_quiet (fail)
                  go_wp2
                  go_roundw
                  case rel => exact ⟨i + 1, by omega, by go_num, by rw [HS2.out], below_drewN HBI.out _⟩
                  case measure => simp [intOf]; omega
                · have d1 : decide (x ≤ y) = false := decide_eq_false hle
                  have HS2 : Hid (allN (fun j => decide (atN S0 j ≤ atN T j)) (i + 1) = false) := Lib.hid (by rw [HS1.out, d1]; rfl)
                  clear hle
                  go_wp2
                  go_quiet (fail)
                  go_wp2
                  go_roundw
                  case rel => exact ⟨i + 1, by omega, by go_num, by rw [HS2.out], below_drewN HBI.out _⟩
                  case measure => simp [intOf]; omega
              · have HS2 : Hid (allN (fun j => decide (atN S0 j ≤ atN T j)) (i + 1) = false) := Lib.hid (by rw [HS1.out, Bool.false_and])
                go_wp2
                go_quiet (fail)
                go_wp2
                go_roundw
                case rel => exact ⟨i + 1, by omega, by go_num, by rw [HS2.out], below_drewN HBI.out _⟩
                case measure => simp [intOf]; omega
            · have hi3 : i = 3 := by omega
              have hnl3 : ¬ (i : Int) < 3 := by omega
              obtain ⟨fb, hf⟩ : ∃ s, allN (fun j => decide (atN S0 j ≤ atN T j)) i = s := ⟨_, rfl⟩
              rw [hf]
              have hgk2 := HGK.out.below (HBI.out)
              have HGK2 := Lib.hid (keep_bs hgk2 HBI.out.size)
              have HTK2 := Lib.hid (keep_bs (HTK4.out.below HBI.out) HBI.out.size)
              have HRX := Lib.hid (HR4.out.up HBI.out)
              have HBX : Hid (Below w.heap.size w wr) := Lib.hid (bt HBW4.out HBI.out)
              rcases Bool.eq_false_or_eq_true fb with rfl | rfl
              · have hEQ : G = T := HFS.out fun i hi => by
                  have := allN_3 (hi3 ▸ hf) i hi
                  simpa using this
                have HD : Hid (decide (G = T) = true) := Lib.hid (decide_eq_true hEQ)
                clear hf hb hl3 hgk2 hEQ hi3
                go_wp2_with (go_at_call 14; (have hc' := ints_any _ _ 3 gc 3 c2 G T wr (by omega) HGK2.out HTK2.out; rw [HD.out] at hc'; with_reducible refine hc'.mono ?_); rintro e w5 ⟨rfl, hb5⟩; have HB5 := Lib.hid hb5; clear hb5 hc')
                go_roundw
                case rel => exact ⟨s + 1, _, _, by omega, by go_num, rfl, by rw [HGE.out]; exact keep_to HGK2.out HB5.out (Nat.le_refl _), HRX.out.up HB5.out, bt HBX.out HB5.out⟩
                case measure => simp [intOf]; omega
              · clear hf hb hl3 hgk2 hi3
                go_wp2
                go_roundw
                case rel => exact ⟨s + 1, _, _, by omega, by go_num, rfl, by rw [HGE.out]; exact HGK2.out, HRX.out, HBX.out⟩
                case measure => simp [intOf]; omega
        · obtain rfl : s = 3 := by omega
          have HD : Hid (decide (T = T) = true) := Lib.hid (by simp)
          have HK3 : Hid (KeepB wr.heap.size wr ha 3 T) := Lib.hid (HEND.out ▸ HK.out)
          clear hlt
          go_wp2_with (go_at_call 14; (have hc' := ints_any _ _ 3 hc 3 c2 T T wr (by omega) HK3.out HKT.out; rw [HD.out] at hc'; with_reducible refine hc'.mono ?_); rintro e w5 ⟨rfl, hb5⟩; have HB5 := Lib.hid hb5; clear hb5 hc')
          go_ret
          exact ⟨rfl, bt HBW.out HB5.out⟩
theorem own : ownKnob Try.prog.godebug = none := by kernel_rfl
theorem laidOut : laidOutB Try.prog = true := by kernel_rfl

set_option maxRecDepth 100000 in
theorem lifted (os : Os) (started : os.Started) (H : Type) (enc : TypeId × Value → H) :
    ReturnsInHanded {} Try.checked os 5 .any (Rows.shareAllSpec.pre6 enc Try.prog Try.f5 Rows.shareAllRow.domain false) (Rows.shareAllSpec.post enc Try.prog Try.f5 false true false false) := by
  refine returnsInHanded_of_change_sized (C := Try.checked) own started (by kernel_rfl) Try.func5
    (ChangeSpec.witness6 (enc := enc) (C := Try.checked) false ⟨#[], #[.slice none 0 0, .int .i64 0], []⟩ 8 (by kernel_rfl) (by kernel_rfl) (by kernel_rfl) (by kernel_rfl)) ?_
  intro W base args ds gs before hval0 hW _ hsz0 _
  have hsz : (DataW.weightsEach Try.prog (Try.f5.params.toList ++ Rows.shareAllSpec.plain.varTypes Try.prog) (ds ++ gs)).all (· ≤ reachBytes) = true := hsz0
  have hval : ∀ (j : Nat) t v, Try.f5.params[j]? = some t → args[j]? = some v → Value.okWide Try.prog W .any base t v := hval0
  have hW' := hW
  obtain ⟨p, q, hA0, hV, rfl, hfz, hnd⟩ := hW
  have hA : DataW.TrodAll enc Try.prog W 0 (fun _ => true) true Try.f5.params.toList args.toList ds p := hA0
  rw [Try.params5] at hA hval hsz
  obtain ⟨v0, vs0, d0, ds0, p0, q0, hargs, rfl, rfl, h0, r0⟩ := trodAll_cons hA
  obtain ⟨v1, vs1, d1, ds1, p1, q1, rfl, rfl, rfl, h1, r1⟩ := trodAll_cons r0
  obtain ⟨rfl, rfl, rfl⟩ := trodAll_nil r1
  obtain rfl : args = #[v0, v1] := by cases args; simp_all
  obtain ⟨rfl, rfl⟩ := trodVars_none hV
  have k0 := h0
  have lt0 : ∀ x ∈ p0, x.block < W.heap.size := by obtain ⟨m, hm⟩ := k0; exact DataW.trod_lt m _ _ _ hm
  have k1 := h1
  have lt1 : ∀ x ∈ p1, x.block < W.heap.size := by obtain ⟨m, hm⟩ := k1; exact DataW.trod_lt m _ _ _ hm
  obtain ⟨a0, len0, cap0, rfl⟩ := okWide_slice Try.underlying22 (hval 0 22 v0 rfl rfl)
  obtain ⟨z0, b0⟩ := keep_of k0
  obtain ⟨a1, rfl, rfl, rfl, w1⟩ := open_int Try.underlying3 (hval 1 3 v1 rfl rfl) h1
  have b1 := in_of_wf w1
  clear hA0 hval0 hsz0 hsz
  refine (walk a0 len0 cap0 z0 a1 W b0 b1).mono fun e W' ⟨he, bel⟩ => ?_
  subst he
  exact ⟨_, rfl, _, _, _, [], _, [], hW', trodAll_mk1 (shut_bool Try.underlying4 _), (trodAll_cons_mk (Below.trod laidOut (by kernel_rfl) (of_decide_eq_true (by kernel_rfl)) k0 bel lt0) (trodAll_cons_mk (Below.trod laidOut (by kernel_rfl) (of_decide_eq_true (by kernel_rfl)) k1 bel lt1) trodAll_mk0)), rfl, bel.frame _, fun h => by cases h⟩

theorem over : Rows.shareAllRow.holds Try.pinned (OpenSpec.ofChange Rows.shareAllSpec) :=
  OpenClaim.holds_of_wide 5 Try.f5 rfl rfl rfl rfl rfl rfl rfl ⟨rfl, rfl, rfl, rfl, rfl⟩ rfl rfl rfl rfl rfl (by kernel_rfl) Try.func5 (by kernel_rfl)
    (of_decide_eq_true (by kernel_rfl)) (by unfold Func.isWrapper; first | (rw [if_pos (by decide +kernel)]; kernel_rfl) | (rw [if_neg (by decide +kernel)]; exact ⟨rfl, rfl⟩))
    (fun os started H enc _ => lifted os started H enc)

theorem proved : Rows.ShareAllSaid := over
end Go.Proofs.Ytjkfiilnogacnaa.lawSAll
