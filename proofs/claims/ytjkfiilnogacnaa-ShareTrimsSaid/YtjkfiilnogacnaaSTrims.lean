/-
  The statement ShareTrims is proved for all lists of numbers: what is trimmed has at most allowed of each workload, is a part of target, and keeps as many as can be of what was last. No condition.
-/
import Derived.Deep.QuietTactic
import Derived.Deep.DeepCutAuto
import Derived.Test.YtjkfiilnogacnaaSonce
import Derived.Test.YtjkfiilnogacnaaSrow
import Derived.Test.YtjkfiilnogacnaaTrimn
import Derived.Test.YtjkfiilnogacnaaOpen14
import Derived.Test.YtjkfiilnogacnaaRows
namespace Go.Proofs.Ytjkfiilnogacnaa.lawSTrims
open Go.ChangeShapes Go.WideShapes Go.ChangeAt Go.RowKit Gm

def mstN (z : List Int) : Nat → List Int
  | 0 => [0, 0, 0, 0, 0, 0, 0, 0]
  | i + 1 => (mstN z i).set i (pk (atN z i) 9)
theorem mstN_len (z : List Int) : ∀ i, (mstN z i).length = 8
  | 0 => rfl
  | i + 1 => by unfold mstN; rw [List.length_set, mstN_len z i]
theorem atN_set (l : List Int) (i j : Nat) (v : Int) : atN (l.set i v) j = if i = j ∧ j < l.length then v else atN l j := by
  unfold atN
  rw [List.getElem?_set]
  by_cases h : i = j
  · subst h
    by_cases h2 : i < l.length
    · simp [h2]
    · simp [h2]
  · simp [h]
theorem mstN_bd (z : List Int) : ∀ i j, 0 ≤ atN (mstN z i) j ∧ atN (mstN z i) j ≤ 8
  | 0, j => atN_bd (by omega) (fun x hx => by
      simp only [mstN, List.mem_cons, List.not_mem_nil, or_false] at hx
      omega) j
  | i + 1, j => by
    unfold mstN
    rw [atN_set]
    have := mstN_bd z i j
    have := pk_bd (atN z i) 9 (by omega)
    split <;> omega
theorem i64_at {l : List Int} {a b : Int} (h : ∀ i, a ≤ atN l i ∧ atN l i ≤ b) (ha : -1000000 ≤ a) (hb : b ≤ 1000000) : ∀ x ∈ l, I64 x := fun x hx => by
  obtain ⟨i, hi, rfl⟩ := List.getElem_of_mem hx
  have := h i
  rw [atN_of hi]
  unfold I64
  omega
theorem keep_atN {B : Nat} {w : World} {a : Option Addr} {len : Nat} {l : List Int} (h : KeepB B w a len l) {i : Nat} (hi : i < len) : ∃ b off, a = some ⟨b, off, none⟩ ∧ b < B ∧ w.cell? ⟨b, off + i, none⟩ = some (.int .i64 (atN l i)) ∧ I64 (atN l i) := by
  obtain ⟨h0, b, off, h1, h2⟩ := h
  obtain ⟨k1, k2, k3⟩ := h2 i (by omega)
  rw [atN_of (by omega)] at k2 k3
  refine ⟨b, off, ?_, k1, k2, k3⟩
  rcases h1 with h1 | h1
  · omega
  · exact h1
theorem binds_small (z : List Int) : SmallC (bindsN z) := fun x hx => by
  obtain ⟨y, _, rfl⟩ := List.mem_map.1 hx
  have := bdN_ok y
  omega
theorem zs_bd (p : Bd → Bool) (m : Int) (hm : 0 ≤ m) : ∀ (bs : List Bd) (ms : List Int), (∀ x ∈ ms, 0 ≤ x ∧ x ≤ m) → 0 ≤ zs p bs ms ∧ zs p bs ms ≤ m * (bs.length : Int)
  | [], _, _ => by simp [zs]
  | b :: bs, [], _ => by
    simp only [zs, List.length_cons]
    have := Int.mul_nonneg hm (show (0 : Int) ≤ ((bs.length + 1 : Nat) : Int) by omega)
    omega
  | b :: bs, x :: ms, h => by
    have h0 := h x (List.mem_cons_self ..)
    have ih := zs_bd p m hm bs ms fun y hy => h y (List.mem_cons_of_mem _ hy)
    simp only [zs, List.length_cons]
    have e : m * ((bs.length + 1 : Nat) : Int) = m * (bs.length : Int) + m := by rw [Int.natCast_add, Int.natCast_one, Int.mul_add, Int.mul_one]
    split <;> omega
theorem take_bd {l : List Int} {m : Int} (h : ∀ x ∈ l, 0 ≤ x ∧ x ≤ m) (j : Nat) : ∀ x ∈ l.take j, 0 ≤ x ∧ x ≤ m := fun x hx => h x (List.mem_of_mem_take hx)
theorem sumA_bd {l : List Bd} (h : ∀ x ∈ l, 0 < x.cnt ∧ x.cnt ≤ 4) (i : Nat) : 0 ≤ sumA (l.take i) ∧ sumA (l.take i) ≤ 4 * (l.length : Int) := by
  have key : ∀ (m : List Bd), (∀ x ∈ m, 0 < x.cnt ∧ x.cnt ≤ 4) → 0 ≤ sumA m ∧ sumA m ≤ 4 * (m.length : Int) := by
    intro m hm
    induction m with
    | nil => simp [sumA]
    | cons x m ih =>
      have := hm x (List.mem_cons_self ..)
      have := ih fun y hy => hm y (List.mem_cons_of_mem _ hy)
      have e : sumA (x :: m) = x.cnt + sumA m := by simp [sumA]
      rw [e, List.length_cons]
      omega
  have := key (l.take i) fun x hx => h x (List.mem_of_mem_take hx)
  rw [List.length_take] at this
  omega
theorem binds_cell {W : World} {a : Option Addr} {len : Nat} {l : List Bd} (h : BindsAt W (· < W.heap.size) a len l) (hn : 0 < len) : ∃ b off, a = some ⟨b, off, none⟩ ∧ b < W.heap.size ∧ ∀ i (h : i < l.length), W.cell? ⟨b, off + i * 3, none⟩ = some (.string (S l[i].work)) ∧ W.cell? ⟨b, off + i * 3 + 1, none⟩ = some (.string (S l[i].node)) ∧ W.cell? ⟨b, off + i * 3 + 2, none⟩ = some (.int .i64 l[i].cnt) := by
  obtain ⟨h0, b, off, h1, h2⟩ := h
  rcases h1 with h1 | ⟨h1, h3⟩
  · omega
  · exact ⟨b, off, h1, h3, h2⟩
set_option maxRecDepth 100000 in
set_option maxHeartbeats 16000000 in
theorem walk (ta : Option Addr) (tl tc : Nat) (tz : List Int) (la : Option Addr) (ll lc : Nat) (lz : List Int) (aa : Option Addr) (al ac : Nat) (az : List Int) (w : World) (ht : KeepB w.heap.size w ta tl tz) (hl : KeepB w.heap.size w la ll lz) (ha : KeepB w.heap.size w aa al az) :
    Calls Try.prog 6 #[.slice ta tl tc, .slice la ll lc, .slice aa al ac] w fun e w' => e = .returned (.bool true) ∧ Below w.heap.size w w' := by
  have HTZ := Lib.hid ht
  have HLZ := Lib.hid hl
  have HAZ := Lib.hid ha
  have HU := Lib.hid (rawN_uniq tz)
  have HV := Lib.hid (rawN_uniq lz)
  have hul := rawN_len tz
  have hvl := rawN_len lz
  have HWK := Lib.hid (work_in tz)
  have HBS1 := Lib.hid (binds_small tz)
  have HBS2 := Lib.hid (binds_small lz)
  have hb1 := bindsN_len tz
  have hb2 := bindsN_len lz
  obtain ⟨tb, htb⟩ : ∃ y, bindsN tz = y := ⟨_, rfl⟩
  obtain ⟨lb, hlb⟩ : ∃ y, bindsN lz = y := ⟨_, rfl⟩
  obtain ⟨U, hU⟩ : ∃ y, rawN tz = y := ⟨_, rfl⟩
  obtain ⟨V, hV⟩ : ∃ y, rawN lz = y := ⟨_, rfl⟩
  have HON1 : Hid (onceN tb = U) := Lib.hid (by rw [← htb, ← hU]; rfl)
  have HON2 : Hid (onceN lb = V) := Lib.hid (by rw [← hlb, ← hV]; rfl)
  rw [htb] at HBS1 hb1
  rw [hlb] at HBS2 hb2
  rw [hU] at HU hul HWK
  rw [hV] at HV hvl
  have HTB := Lib.hid htb
  have HLB := Lib.hid hlb
  clear ht hl ha htb hlb hU hV
  go_enter Try.func6, Try.ntmps6
  go_upto_region 4 with (first
    | (go_at_call 9; with_reducible refine (awake_any w).mono ?_; rintro e w1 ⟨rfl, hb1⟩; have HB1 := Lib.hid hb1; clear hb1)
    | (go_at_call 19; (have hc := binds_any w.heap.size ta tl tc tz w1 (HTZ.out.below HB1.out) HB1.out.size; rw [HTB.out] at hc; with_reducible refine hc.mono ?_); rintro e w2 ⟨v2, rfl, hrow, _, hb2⟩; obtain ⟨ba, bc, rfl, _, hbk⟩ := row_binds hrow; have HBK := Lib.hid hbk; have HB2 := Lib.hid (bt HB1.out hb2); clear hrow hbk hb2 hc)
    | (go_at_call 18; (have hc := once_any ba tb.length bc tb w2 HBK.out (by omega) HBS1.out; rw [HON1.out] at hc; with_reducible refine hc.mono ?_); rintro e w3 ⟨v3, rfl, hrow, hb3⟩; obtain ⟨ua, uc, rfl, _, huk⟩ := row_binds hrow; have HUK := Lib.hid huk; have HB3 := Lib.hid (bt HB2.out hb3); clear hrow huk hb3 hc)
    | (go_at_call 19; (have hc := binds_any w.heap.size la ll lc lz w3 (HLZ.out.below HB3.out) HB3.out.size; rw [HLB.out] at hc; with_reducible refine hc.mono ?_); rintro e w4 ⟨v4, rfl, hrow, _, hb4⟩; obtain ⟨ca, cc, rfl, _, hck⟩ := row_binds hrow; have HCK := Lib.hid hck; have HB34 := Lib.hid hb4; have HB4 := Lib.hid (bt HB3.out hb4); clear hrow hck hb4 hc)
    | (go_at_call 18; (have hc := once_any ca lb.length cc lb w4 HCK.out (by omega) HBS2.out; rw [HON2.out] at hc; with_reducible refine hc.mono ?_); rintro e w5 ⟨v5, rfl, hrow, hb5⟩; obtain ⟨va, vc, rfl, _, hvk⟩ := row_binds hrow; have HVK := Lib.hid hvk; have HB35 := Lib.hid (bt HB34.out hb5); have HB5 := Lib.hid (bt HB4.out hb5); clear hrow hvk hb5 hc))
  have HUK5 := Lib.hid (binds_up HUK.out HB35.out)
  obtain ⟨N, hN⟩ : ∃ N, w5.heap.size = N := ⟨_, rfl⟩
  have HN6 : Hid ((w5.alloc worksO).heap[N]? = some worksO) := Lib.hid (hN ▸ new_at w5 _)
  have HB56 : Hid (Below w5.heap.size w5 (w5.alloc worksO)) := Lib.hid ((Below.refl _ w5).alloc (Nat.le_refl _) _)
  have HNN := Lib.hid hN
  clear hN
  go_upto_region 5 with fail
  rw [HNN.out]
  have HUK6 := Lib.hid (binds_up HUK5.out HB56.out)
  have HVK6 := Lib.hid (binds_up HVK.out HB56.out)
  have HW6 := Lib.hid (bt HB5.out HB56.out)
  clear HNN HB1 HB2 HB3 HB4 HB5 HB34 HB35 HB56 HUK HUK5 HVK HBK HCK HBS1 HBS2 HTB HLB HON1 HON2 HTZ HLZ hb1 hb2
  generalize w5.alloc worksO = w6 at *
  have hmk := make_8 w6
  have HR0 : Hid (RowC (w6.alloc zeros8) w6.heap.size (mstN az 0)) := Lib.hid (zeros8_row w6)
  have HB67 : Hid (Below w6.heap.size w6 (w6.alloc zeros8)) := Lib.hid ((Below.refl _ w6).alloc (Nat.le_refl _) _)
  obtain ⟨g, hg⟩ : ∃ g, w6.heap.size = g := ⟨_, rfl⟩
  have HG := Lib.hid hg
  clear hg
  go_upto_region 6 with fail
  clear hmk
  rw [HG.out]
  rw [HG.out] at HR0
  generalize w6.alloc zeros8 = w7 at *
  go_wp2
  go_loopw [12] (fun iv wr => ∃ i : Nat, i ≤ 8 ∧ i ≤ al ∧ iv = .int .i64 (i : Int) ∧ RowC wr g (mstN az i) ∧ Below w6.heap.size w6 wr) (fun iv _ => 8 - (intOf iv).toNat)
  case atStart => exact ⟨0, Nat.zero_le _, Nat.zero_le _, rfl, HR0.out, HB67.out⟩
  case round =>
    obtain ⟨i, hi, hia, rfl, hr, hb⟩ := hrel
    have HR := Lib.hid hr
    have HB := Lib.hid hb
    clear HR0 HB67
    by_cases hlt : i < 8 ∧ i < al
    · obtain ⟨h1, h2⟩ := hlt
      obtain ⟨b, off, ha, hbl, hcell, hx64⟩ := keep_atN (HAZ.out.below HW6.out) h2
      subst ha
      have x1 := (hb.cell (p := ⟨b, off + i, none⟩) (Nat.lt_of_lt_of_le hbl HW6.out.size)).trans hcell
      have hbl' : b < wr.heap.size := Nat.lt_of_lt_of_le hbl (Nat.le_trans HW6.out.size hb.size)
      have x2 := hr.cell (i := i) (by rw [mstN_len]; exact h1)
      have fz := hr.frozen i
      have hl := hr.lt
      have hi0 : (0 : Int) ≤ (i : Int) := by omega
      have hi8 : (i : Int) < 8 := by omega
      have hial : (i : Int) < (al : Int) := by omega
      have HNX : Hid (RowC (wr.setCell ⟨g, i, none⟩ (.int .i64 (pk (atN az i) 9))) g (mstN az (i + 1))) := Lib.hid (hr.set i _)
      have HNB : Hid (Below w6.heap.size w6 (wr.setCell ⟨g, i, none⟩ (.int .i64 (pk (atN az i) 9)))) := Lib.hid (hb.setCell (p := ⟨g, i, none⟩) (by rw [← HG.out]; exact Nat.le_refl _) _)
      obtain ⟨x, hx⟩ : ∃ x, atN az i = x := ⟨_, rfl⟩
      obtain ⟨m, hm⟩ : ∃ m, pk x 9 = m := ⟨_, rfl⟩
      rw [hx] at x1 hx64 HNX HNB
      rw [hm] at HNX HNB
      have HPK := Lib.hid hm
      have HX64 := Lib.hid hx64
      clear hx hm hr hb hx64 hcell
      go_wp2_with (go_at_call 17; (have hc := pick_any x 9 wr HX64.out (by omega) (by omega); rw [HPK.out] at hc; with_reducible refine hc.mono ?_); rintro e w8 ⟨rfl, rfl⟩)
      go_roundw
      case rel => exact ⟨i + 1, by omega, by omega, by go_num, HNX.out, HNB.out⟩
      case measure => simp [intOf]; omega
    · have hcase : ¬ (i : Int) < 8 ∨ ((i : Int) < 8 ∧ ¬ (i : Int) < (al : Int)) := by omega
      have HMl := Lib.hid (mstN_len az i)
      have HMb := Lib.hid (mstN_bd az i)
      obtain ⟨M, hM⟩ : ∃ M, mstN az i = M := ⟨_, rfl⟩
      rw [hM] at HR HMl HMb
      have HTR := Lib.hid (trims_of HU.out HV.out HWK.out HMl.out HMb.out)
      obtain ⟨L, hL⟩ : ∃ L, trimN U V works8 M = L := ⟨_, rfl⟩
      rw [hL] at HTR
      have HLE := Lib.hid hL
      have HUKr := Lib.hid (binds_up HUK6.out HB.out)
      have HVKr := Lib.hid (binds_up HVK6.out HB.out)
      have HNMr := Lib.hid (names_up (worksO_names HN6.out) HB.out)
      have HMKr := Lib.hid (HR.out.keep HMl.out (i64_at HMb.out (by omega) (by omega)))
      have HOKU : Hid (OkL U) := Lib.hid (okl_of HU.out (by omega))
      have HOKV : Hid (OkL V) := Lib.hid (okl_of HV.out (by omega))
      have HWr : Hid (Below w.heap.size w wr) := Lib.hid (bt HW6.out HB.out)
      have HNr : Hid (wr.heap[N]? = some worksO) := Lib.hid ((HB.out.block N (Array.getElem?_eq_some_iff.1 HN6.out).1).trans HN6.out)
      have hLl : L.length ≤ 20 := Nat.le_trans HTR.out.len hul
      clear hM hL hr hb hlt
      rcases hcase with hcase | ⟨hcase, hcase2⟩
      · go_upto_region 11 with (go_at_call 12; (have hc := trim_any ua U.length uc U va V.length vc V (some ⟨N, 0, none⟩) 8 8 works8 (some ⟨g, 0, none⟩) 8 8 M wr HUKr.out HVKr.out HNMr.out HMKr.out HOKU.out HOKV.out works8_ok; rw [HLE.out] at hc; with_reducible refine hc.mono ?_); rintro e w8 ⟨v8, rfl, hrow, hb8⟩; obtain ⟨xa, xc, rfl, _, hlk⟩ := row_binds hrow; have HLK := Lib.hid hlk; have HB8 := Lib.hid hb8; clear hrow hlk hb8 hc)
        have HUK := Lib.hid (binds_up HUKr.out HB8.out)
        have HVK := Lib.hid (binds_up HVKr.out HB8.out)
        have HRM := Lib.hid (HR.out.up HB8.out)
        have HN8 : Hid (w8.heap[N]? = some worksO) := Lib.hid ((HB8.out.block N (Array.getElem?_eq_some_iff.1 HNr.out).1).trans HNr.out)
        have HW8 := Lib.hid (bt HWr.out HB8.out)
        have hNl := (Array.getElem?_eq_some_iff.1 HN8.out).1
        have hgl := HRM.out.lt
        have HLS : Hid (SmallC L) := Lib.hid (fun x hx => by have := HTR.out.pos x hx; omega)
        clear HUKr HVKr HNMr HMKr HR HNr HWr HB8 HB
        go_wp2
        go_loopw [14] (fun iv wq => ∃ i : Nat, i ≤ 8 ∧ iv = .int .i64 (i : Int) ∧ Below w8.heap.size w8 wq) (fun iv _ => 8 - (intOf iv).toNat)
        case atStart => exact ⟨0, Nat.zero_le _, rfl, Below.refl _ _⟩
        case round =>
          obtain ⟨p, hp, rfl, hb⟩ := hrel
          have HB := Lib.hid hb
          by_cases hlt : p < 8
          · have x1 := (hb.cell (p := ⟨N, p, none⟩) hNl).trans (worksO_at HN8.out hlt)
            have x2 := (hb.cell (p := ⟨g, p, none⟩) hgl).trans (HRM.out.cell (i := p) (by rw [HMl.out]; exact hlt))
            have y1 := Nat.lt_of_lt_of_le hNl hb.size
            have y2 := Nat.lt_of_lt_of_le hgl hb.size
            have hp0 : (0 : Int) ≤ (p : Int) := by omega
            have hp8 : (p : Int) < 8 := by omega
            have HEA := Lib.hid (HTR.out.each p hlt)
            have HKE := Lib.hid (HTR.out.kept p hlt)
            obtain ⟨m, hm⟩ : ∃ m, atN M p = m := ⟨_, rfl⟩
            obtain ⟨kn, hkn⟩ : ∃ k, nmW p = k := ⟨_, rfl⟩
            rw [hm] at x2 HEA HKE
            rw [hkn] at x1 HEA HKE
            have HX1 := Lib.hid x1
            have HX2 := Lib.hid x2
            obtain ⟨cu, hcu⟩ : ∃ c, countN U kn [] = c := ⟨_, rfl⟩
            obtain ⟨cl, hcl⟩ : ∃ c, countN L kn [] = c := ⟨_, rfl⟩
            have HCU := Lib.hid hcu
            have HCL := Lib.hid hcl
            rw [hcu, hcl] at HEA
            have m1 := min2 m cu
            rw [← HEA.out] at m1
            have M1 := Lib.hid m1
            have hbd := (Below.refl wr.heap.size wr).drew
            have e1 : (cl == cl) = true := by simp
            have HKN := Lib.hid hkn
            have HX2w : Hid (w8.cell? ⟨g, p, none⟩ = some (.int .i64 m)) := Lib.hid (by rw [← hm]; exact HRM.out.cell (i := p) (by rw [HMl.out]; exact hlt))
            clear hm hkn hcu hcl hb
            go_wp2
            (refine region_calm (fun W => Below wr.heap.size wr W) (by kernel_rfl) (by kernel_rfl) (hbd) ?_
             repeat (
               refine wpQuiet_step (fun K hK => ?_)
               first
                 | (refine calm_neg ?_ ?_
                    focus (go_simp; done)
                    go_simp
                    refine hK _ ?_
                    clear hK K)
                 | (apply calm_pos
                    focus (go_simp; done)
                    focus (
                      intro W hW
                      (have k1 := (hW.cell (p := ⟨N, p, none⟩) y1).trans HX1.out
                       have k2 := (hW.cell (p := ⟨g, p, none⟩) y2).trans HX2.out
                       have k3 := M1.out)
                      go_simp
                      first
                        | done
                        | exact rfl
                        | (first
                            | (go_at_call 20; (have hc := count_any xa L.length xc L kn [] W (binds_up (binds_up HLK.out HB.out) hW) (by omega) HLS.out; rw [HCL.out, show S [] = ({ data := #[] } : ByteArray) from rfl] at hc; with_reducible refine hc.mono ?_); rintro e w12 ⟨rfl, hb12⟩; exact ⟨rfl, hW.trans (hb12.mono hW.size)⟩)
                            | (go_at_call 20; (have hc := count_any ua U.length uc U kn [] W (binds_up (binds_up HUK.out HB.out) hW) (by omega) HU.out.small; rw [HCU.out, show S [] = ({ data := #[] } : ByteArray) from rfl] at hc; with_reducible refine hc.mono ?_); rintro e w12 ⟨rfl, hb12⟩; exact ⟨rfl, hW.trans (hb12.mono hW.size)⟩)))
                    go_simp
                    refine hK _ ?_
                    clear hK K))
             refine wpQuiet_nil ?_)
            intro w9 hb9
            have HB9 := Lib.hid (bt HB.out hb9)
            have y3 := Nat.lt_of_lt_of_le hNl HB9.out.size
            clear hb9 hbd x1 x2 m1 y1 y2
            obtain ⟨KK, hKK⟩ : ∃ K, (U.map fun b => min (countN L b.work b.node) (countN V b.work b.node)) = K := ⟨_, rfl⟩
            obtain ⟨CC, hCC⟩ : ∃ K, (U.map fun b => min b.cnt (countN V b.work b.node)) = K := ⟨_, rfl⟩
            have hKl : KK.length = U.length := by rw [← hKK, List.length_map]
            have hCl : CC.length = U.length := by rw [← hCC, List.length_map]
            have HKb : Hid (∀ x ∈ KK, 0 ≤ x ∧ x ≤ 1000) := Lib.hid (fun x hx => by
              rw [← hKK] at hx
              obtain ⟨b, hb, rfl⟩ := List.mem_map.1 hx
              have h1 := HTR.out.part b hb
              have h2 := countN_bd HV.out.small b.work b.node
              have h3 := HU.out.pos b hb
              omega)
            have HCb : Hid (∀ x ∈ CC, 0 ≤ x ∧ x ≤ 1000) := Lib.hid (fun x hx => by
              rw [← hCC] at hx
              obtain ⟨b, hb, rfl⟩ := List.mem_map.1 hx
              have h2 := countN_bd HV.out.small b.work b.node
              have h3 := HU.out.pos b hb
              omega)
            rw [hKK, hCC] at HKE
            have HKK := Lib.hid hKK
            have HCC := Lib.hid hCC
            have HKl := Lib.hid hKl
            have HCl := Lib.hid hCl
            clear hKK hCC hKl hCl
            go_wp2
            go_loopw [15, 16, 17] (fun kv cv jv wq => ∃ j : Nat, j ≤ U.length ∧ jv = .int .i64 (j : Int) ∧ kv = .int .i64 (zs (isW kn) (U.take j) (KK.take j)) ∧ cv = .int .i64 (zs (isW kn) (U.take j) (CC.take j)) ∧ Below w9.heap.size w9 wq) (fun _ _ jv _ => U.length - (intOf jv).toNat)
            case atStart => exact ⟨0, Nat.zero_le _, rfl, by simp [zs], by simp [zs], Below.refl _ _⟩
            case round =>
              obtain ⟨j, hj, rfl, rfl, rfl, hb⟩ := hrel
              have HBJ := Lib.hid hb
              have HBT : Hid (Below w8.heap.size w8 wr) := Lib.hid (bt HB9.out hb)
              by_cases hjl : j < U.length
              · obtain ⟨ub, uo, hua, hubl, hcells⟩ := binds_cell HUK.out (show 0 < U.length by omega)
                subst hua
                obtain ⟨c1, d1, f1⟩ := hcells j hjl
                have HCNT := Lib.hid (HTR.out.part U[j] (List.getElem_mem hjl))
                have HPOS := Lib.hid (HU.out.pos U[j] (List.getElem_mem hjl))
                have hkj : KK[j]? = some (min (countN L U[j].work U[j].node) (countN V U[j].work U[j].node)) := by rw [← HKK.out]; simp [hjl]
                have hcj : CC[j]? = some (min U[j].cnt (countN V U[j].work U[j].node)) := by rw [← HCC.out]; simp [hjl]
                rw [List.getElem?_eq_getElem (by rw [HKl.out]; exact hjl)] at hkj
                rw [List.getElem?_eq_getElem (by rw [HCl.out]; exact hjl)] at hcj
                injection hkj with hkj
                injection hcj with hcj
                have hz1 := zs_take (isW kn) U KK j hjl (by rw [HKl.out]; exact hjl)
                have hz2 := zs_take (isW kn) U CC j hjl (by rw [HCl.out]; exact hjl)
                rw [hkj] at hz1
                rw [hcj] at hz2
                have bz1 := zs_bd (isW kn) 1000 (by omega) (U.take j) (KK.take j) (take_bd HKb.out j)
                have bz2 := zs_bd (isW kn) 1000 (by omega) (U.take j) (CC.take j) (take_bd HCb.out j)
                rw [List.length_take] at bz1 bz2
                obtain ⟨x, hx⟩ : ∃ x, U[j] = x := ⟨_, rfl⟩
                rw [hx] at c1 d1 f1 HCNT HPOS hz1 hz2
                have HZ1 := Lib.hid hz1
                have HZ2 := Lib.hid hz2
                obtain ⟨z1, hzz1⟩ : ∃ z, zs (isW kn) (U.take j) (KK.take j) = z := ⟨_, rfl⟩
                obtain ⟨z2, hzz2⟩ : ∃ z, zs (isW kn) (U.take j) (CC.take j) = z := ⟨_, rfl⟩
                rw [hzz1] at HZ1 bz1 ⊢
                rw [hzz2] at HZ2 bz2 ⊢
                replace c1 := (HBT.out.cell (p := ⟨ub, uo + j * 3, none⟩) hubl).trans c1
                replace d1 := (HBT.out.cell (p := ⟨ub, uo + j * 3 + 1, none⟩) hubl).trans d1
                replace f1 := (HBT.out.cell (p := ⟨ub, uo + j * 3 + 2, none⟩) hubl).trans f1
                have C1 := Lib.hid c1
                have D1 := Lib.hid d1
                have F1 := Lib.hid f1
                have x1 := (HBT.out.cell (p := ⟨N, p, none⟩) hNl).trans (worksO_at HN8.out hlt)
                rw [show nmW p = kn from HKN.out] at x1
                have X1 := Lib.hid x1
                have y4 := Nat.lt_of_lt_of_le hNl HBT.out.size
                have y5 := Nat.lt_of_lt_of_le hubl HBT.out.size
                have hj0 : (0 : Int) ≤ (j : Int) := by omega
                have hj1 : (j : Int) < (U.length : Int) := by omega
                clear hx hzz1 hzz2 hz1 hz2 hkj hcj hcells hb
                by_cases hw : x.work = kn
                · have e1 : ((S x.work).toList == (S kn).toList) = true := by rw [S_beq]; simpa using hw
                  have hiw : isW kn x = true := by simp [isW, hw]
                  rw [hiw, if_pos rfl, hw] at HZ1 HZ2
                  rw [hw] at HCNT
                  obtain ⟨nv, hnv⟩ : ∃ c, countN L kn x.node = c := ⟨_, rfl⟩
                  obtain ⟨cv, hcv⟩ : ∃ c, countN V kn x.node = c := ⟨_, rfl⟩
                  have bcv := countN_bd HV.out.small kn x.node
                  rw [hcv] at bcv HZ1 HZ2
                  rw [hnv] at HCNT HZ1
                  have HNV := Lib.hid hnv
                  have HCV := Lib.hid hcv
                  have b1 := HCNT.out
                  have b2 := HPOS.out
                  have d2 : decide (x.cnt < nv) = false := decide_eq_false (by omega)
                  have m1 := min2 nv cv
                  have m2 := min2 x.cnt cv
                  obtain ⟨q1, hq1⟩ : ∃ q, min nv cv = q := ⟨_, rfl⟩
                  obtain ⟨q2, hq2⟩ : ∃ q, min x.cnt cv = q := ⟨_, rfl⟩
                  rw [hq1] at m1 HZ1
                  rw [hq2] at m2 HZ2
                  have w1 : IntKind.i64.wrap (z1 + q1) = z1 + q1 := IntWalk.i64_in _ ⟨by omega, by omega⟩
                  have w2 : IntKind.i64.wrap (z2 + q2) = z2 + q2 := IntWalk.i64_in _ ⟨by omega, by omega⟩
                  have M1' := Lib.hid m1
                  have M2' := Lib.hid m2
                  have W1' := Lib.hid w1
                  have W2' := Lib.hid w2
                  clear hw hnv hcv hq1 hq2 hiw bcv b1 b2 bz1 bz2 m1 m2 w1 w2
                  go_wp2
                  go_quiet (fail)
                  go_wp2
                  have hbd := (below_drewN (Below.refl wr.heap.size wr) nq).drew
                  (refine region_calm (fun W => Below wr.heap.size wr W) (by kernel_rfl) (by kernel_rfl) (hbd) ?_
                   repeat (
                     refine wpQuiet_step (fun K hK => ?_)
                     first
                       | (refine calm_neg ?_ ?_
                          focus (go_simp; done)
                          go_simp
                          refine hK _ ?_
                          clear hK K)
                       | (apply calm_pos
                          focus (go_simp; done)
                          focus (
                            intro W hW
                            (have k1 := (hW.cell (p := ⟨N, p, none⟩) y4).trans X1.out
                             have k2 := (hW.cell (p := ⟨ub, uo + j * 3 + 1, none⟩) y5).trans D1.out)
                            go_simp
                            first
                              | done
                              | exact rfl
                              | (go_at_call 20; (have hc := count_any xa L.length xc L kn x.node W (binds_up (binds_up HLK.out HBT.out) hW) (by omega) HLS.out; rw [HNV.out] at hc; with_reducible refine hc.mono ?_); rintro e w12 ⟨rfl, hb12⟩; exact ⟨rfl, hW.trans (hb12.mono hW.size)⟩))
                          go_simp
                          refine hK _ ?_
                          clear hK K))
                   refine wpQuiet_nil ?_)
                  intro w10 hb10
                  have HB10 := Lib.hid hb10
                  clear hb10 hbd
                  have f2 := (HB10.out.cell (p := ⟨ub, uo + j * 3 + 2, none⟩) y5).trans F1.out
                  have y6 := Nat.lt_of_lt_of_le y5 HB10.out.size
                  go_wp2
                  have hbd := HB10.out.drew
                  (refine region_calm (fun W => Below wr.heap.size wr W) (by kernel_rfl) (by kernel_rfl) (hbd) ?_
                   repeat (
                     refine wpQuiet_step (fun K hK => ?_)
                     first
                       | (refine calm_neg ?_ ?_
                          focus (go_simp; done)
                          go_simp
                          refine hK _ ?_
                          clear hK K)
                       | (apply calm_pos
                          focus (go_simp; done)
                          focus (
                            intro W hW
                            (have k1 := (hW.cell (p := ⟨N, p, none⟩) y4).trans X1.out
                             have k2 := (hW.cell (p := ⟨ub, uo + j * 3 + 1, none⟩) y5).trans D1.out
                             have k3 := M1'.out
                             have k4 := W1'.out)
                            go_simp
                            first
                              | done
                              | exact rfl
                              | (go_at_call 20; (have hc := count_any va V.length vc V kn x.node W (binds_up (binds_up HVK.out HBT.out) hW) (by omega) HV.out.small; rw [HCV.out] at hc; with_reducible refine hc.mono ?_); rintro e w12 ⟨rfl, hb12⟩; exact ⟨rfl, hW.trans (hb12.mono hW.size)⟩))
                          go_simp
                          refine hK _ ?_
                          clear hK K))
                   refine wpQuiet_nil ?_)
                  intro w11 hb11
                  have HB11 := Lib.hid hb11
                  clear hb11 hbd
                  go_wp2
                  have hbd := HB11.out.drew
                  (refine region_calm (fun W => Below wr.heap.size wr W) (by kernel_rfl) (by kernel_rfl) (hbd) ?_
                   repeat (
                     refine wpQuiet_step (fun K hK => ?_)
                     first
                       | (refine calm_neg ?_ ?_
                          focus (go_simp; done)
                          go_simp
                          refine hK _ ?_
                          clear hK K)
                       | (apply calm_pos
                          focus (go_simp; done)
                          focus (
                            intro W hW
                            (have k1 := (hW.cell (p := ⟨N, p, none⟩) y4).trans X1.out
                             have k2 := (hW.cell (p := ⟨ub, uo + j * 3 + 1, none⟩) y5).trans D1.out
                             have k5 := (hW.cell (p := ⟨ub, uo + j * 3 + 2, none⟩) y5).trans F1.out
                             have k3 := M2'.out
                             have k4 := W2'.out)
                            go_simp
                            first
                              | done
                              | exact rfl
                              | (go_at_call 20; (have hc := count_any va V.length vc V kn x.node W (binds_up (binds_up HVK.out HBT.out) hW) (by omega) HV.out.small; rw [HCV.out] at hc; with_reducible refine hc.mono ?_); rintro e w12 ⟨rfl, hb12⟩; exact ⟨rfl, hW.trans (hb12.mono hW.size)⟩))
                          go_simp
                          refine hK _ ?_
                          clear hK K))
                   refine wpQuiet_nil ?_)
                  intro w13 hb13
                  have HB13 := Lib.hid hb13
                  clear hb13 hbd
                  go_wp2
                  go_roundw
                  case rel => exact ⟨j + 1, by omega, by go_num, by rw [HZ1.out], by rw [HZ2.out], bt HBJ.out HB13.out⟩
                  case measure => simp [intOf]; omega
                · have e1 : ((S x.work).toList == (S kn).toList) = false := by rw [S_beq]; simpa using hw
                  have hiw : isW kn x = false := by simp [isW, hw]
                  rw [hiw, if_neg (by simp), Int.add_zero] at HZ1 HZ2
                  clear hw hiw bz1 bz2
                  go_wp2
                  go_quiet (fail)
                  go_wp2
                  go_roundw
                  case rel => exact ⟨j + 1, by omega, by go_num, by rw [HZ1.out], by rw [HZ2.out], below_drewN HBJ.out _⟩
                  case measure => simp [intOf]; omega
              · have hje : j = U.length := by omega
                have hjn : ¬ (j : Int) < (U.length : Int) := by omega
                have HK1 : Hid (zs (isW kn) (U.take j) (KK.take j) = zs (isW kn) U KK) := Lib.hid (by rw [hje, List.take_length, ← HKl.out, List.take_length])
                have HK2 : Hid (zs (isW kn) (U.take j) (CC.take j) = zs (isW kn) U CC) := Lib.hid (by rw [hje, List.take_length, ← HCl.out, List.take_length])
                rw [HK1.out, HK2.out]
                obtain ⟨s1, hs1⟩ : ∃ z, zs (isW kn) U KK = z := ⟨_, rfl⟩
                obtain ⟨s2, hs2⟩ : ∃ z, zs (isW kn) U CC = z := ⟨_, rfl⟩
                rw [hs1, hs2] at HKE
                rw [hs1, hs2]
                have m1 := min2 m s2
                rw [← HKE.out] at m1
                have x2 := (HBT.out.cell (p := ⟨g, p, none⟩) hgl).trans HX2w.out
                have y6 := Nat.lt_of_lt_of_le hgl HBT.out.size
                have e1 : (s1 == s1) = true := by simp
                clear hs1 hs2 hje hjl hb HK1 HK2
                go_wp2
                go_roundw
                case rel => exact ⟨p + 1, by omega, by go_num, HBT.out⟩
                case measure => simp [intOf]; omega
          · have hpn : ¬ (p : Int) < 8 := by omega
            clear hlt
            go_wp2
            go_loopw [19, 20] (fun sv iv wq => ∃ q : Nat, q ≤ L.length ∧ iv = .int .i64 (q : Int) ∧ sv = .int .i64 (sumA (L.take q)) ∧ Below w8.heap.size w8 wq) (fun _ iv _ => L.length - (intOf iv).toNat)
            case atStart => exact ⟨0, Nat.zero_le _, rfl, rfl, HB.out⟩
            case round =>
              obtain ⟨q, hq, rfl, rfl, hb2⟩ := hrel
              have HB2 := Lib.hid hb2
              clear hb HB
              by_cases hql : q < L.length
              · obtain ⟨ub, uo, hua, hubl, hcells⟩ := binds_cell HLK.out (show 0 < L.length by omega)
                subst hua
                obtain ⟨_, _, f1⟩ := hcells q hql
                have HSN := Lib.hid (sumA_snoc hql)
                have bs := sumA_bd HTR.out.pos q
                have bx := HTR.out.pos L[q] (List.getElem_mem hql)
                obtain ⟨x, hx⟩ : ∃ x, L[q].cnt = x := ⟨_, rfl⟩
                obtain ⟨s, hs⟩ : ∃ s, sumA (L.take q) = s := ⟨_, rfl⟩
                rw [hx] at f1 HSN bx
                rw [hs] at bs HSN ⊢
                replace f1 := (HB2.out.cell (p := ⟨ub, uo + q * 3 + 2, none⟩) hubl).trans f1
                have y5 := Nat.lt_of_lt_of_le hubl HB2.out.size
                have hq0 : (0 : Int) ≤ (q : Int) := by omega
                have hq1 : (q : Int) < (L.length : Int) := by omega
                have d2 : decide (x < 1) = false := decide_eq_false (by omega)
                have w1 : IntKind.i64.wrap (s + x) = s + x := IntWalk.i64_in _ ⟨by omega, by omega⟩
                have bx1 : 1 ≤ x := by omega
                clear hx hs hcells bs bx hb2
                go_wp2
                go_roundw
                case rel => exact ⟨q + 1, by omega, by go_num, by rw [HSN.out], HB2.out⟩
                case measure => simp [intOf]; omega
              · have hqe : q = L.length := by omega
                have hqn : ¬ (q : Int) < (L.length : Int) := by omega
                have HSE : Hid (sumA (L.take q) = sumA L) := Lib.hid (by rw [hqe, List.take_length])
                rw [HSE.out]
                obtain ⟨st, hst⟩ : ∃ s, sumA L = s := ⟨_, rfl⟩
                rw [hst]
                have HST : Hid (upN (fun i => countN L (nmW i) []) 8 = st) := Lib.hid (by rw [← hst, HTR.out.sum])
                clear hqe hql hst hb2
                go_wp2
                go_loopw [21, 22] (fun av iv wq => ∃ q : Nat, q ≤ 8 ∧ iv = .int .i64 (q : Int) ∧ av = .int .i64 (upN (fun i => countN L (nmW i) []) q) ∧ Below w8.heap.size w8 wq) (fun _ iv _ => 8 - (intOf iv).toNat)
                case atStart => exact ⟨0, Nat.zero_le _, rfl, rfl, HB2.out⟩
                case round =>
                  obtain ⟨r, hr, rfl, rfl, hb3⟩ := hrel
                  have HB3 := Lib.hid hb3
                  have bs := upN_bd (fun i => countN L (nmW i) []) 20000 (fun i => by have := countN_bd HLS.out (nmW i) []; omega) r
                  clear HB2
                  by_cases hrl : r < 8
                  · have x1 := (hb3.cell (p := ⟨N, r, none⟩) hNl).trans (worksO_at HN8.out hrl)
                    have y1 := Nat.lt_of_lt_of_le hNl hb3.size
                    have hr0 : (0 : Int) ≤ (r : Int) := by omega
                    have hr8 : (r : Int) < 8 := by omega
                    have HSN : Hid (upN (fun i => countN L (nmW i) []) (r + 1) = upN (fun i => countN L (nmW i) []) r + countN L (nmW r) []) := Lib.hid rfl
                    have bc := countN_bd HLS.out (nmW r) []
                    obtain ⟨c, hc⟩ : ∃ c, countN L (nmW r) [] = c := ⟨_, rfl⟩
                    obtain ⟨s, hs⟩ : ∃ c, upN (fun i => countN L (nmW i) []) r = c := ⟨_, rfl⟩
                    rw [hc] at bc HSN
                    rw [hs] at bs HSN ⊢
                    have HC := Lib.hid hc
                    obtain ⟨kn, hkn⟩ : ∃ k, nmW r = k := ⟨_, rfl⟩
                    rw [hkn] at x1 HC
                    have X1 := Lib.hid x1
                    have w1 : IntKind.i64.wrap (s + c) = s + c := IntWalk.i64_in _ ⟨by omega, by omega⟩
                    have W1' := Lib.hid w1
                    clear hc hs hkn bs bc hb3
                    go_wp2_with (go_at_call 20; (have hc := count_any xa L.length xc L kn [] wr (binds_up HLK.out HB3.out) (by omega) HLS.out; rw [HC.out, show S [] = ({ data := #[] } : ByteArray) from rfl] at hc; with_reducible refine hc.mono ?_); rintro e w12 ⟨rfl, hb12⟩; have HB12 := Lib.hid (bt HB3.out hb12); clear hb12 hc)
                    go_roundw
                    case rel => exact ⟨r + 1, by omega, by go_num, by rw [HSN.out], HB12.out⟩
                    case measure => simp [intOf]; omega
                  · obtain rfl : r = 8 := by omega
                    rw [HST.out]
                    have e1 : (st == st) = true := by simp
                    clear hrl bs hb3
                    go_wp2
                    go_ret
                    exact ⟨rfl, bt HW8.out HB3.out⟩
      · go_upto_region 11 with (go_at_call 12; (have hc := trim_any ua U.length uc U va V.length vc V (some ⟨N, 0, none⟩) 8 8 works8 (some ⟨g, 0, none⟩) 8 8 M wr HUKr.out HVKr.out HNMr.out HMKr.out HOKU.out HOKV.out works8_ok; rw [HLE.out] at hc; with_reducible refine hc.mono ?_); rintro e w8 ⟨v8, rfl, hrow, hb8⟩; obtain ⟨xa, xc, rfl, _, hlk⟩ := row_binds hrow; have HLK := Lib.hid hlk; have HB8 := Lib.hid hb8; clear hrow hlk hb8 hc)
        have HUK := Lib.hid (binds_up HUKr.out HB8.out)
        have HVK := Lib.hid (binds_up HVKr.out HB8.out)
        have HRM := Lib.hid (HR.out.up HB8.out)
        have HN8 : Hid (w8.heap[N]? = some worksO) := Lib.hid ((HB8.out.block N (Array.getElem?_eq_some_iff.1 HNr.out).1).trans HNr.out)
        have HW8 := Lib.hid (bt HWr.out HB8.out)
        have hNl := (Array.getElem?_eq_some_iff.1 HN8.out).1
        have hgl := HRM.out.lt
        have HLS : Hid (SmallC L) := Lib.hid (fun x hx => by have := HTR.out.pos x hx; omega)
        clear HUKr HVKr HNMr HMKr HR HNr HWr HB8 HB
        go_wp2
        go_loopw [14] (fun iv wq => ∃ i : Nat, i ≤ 8 ∧ iv = .int .i64 (i : Int) ∧ Below w8.heap.size w8 wq) (fun iv _ => 8 - (intOf iv).toNat)
        case atStart => exact ⟨0, Nat.zero_le _, rfl, Below.refl _ _⟩
        case round =>
          obtain ⟨p, hp, rfl, hb⟩ := hrel
          have HB := Lib.hid hb
          by_cases hlt : p < 8
          · have x1 := (hb.cell (p := ⟨N, p, none⟩) hNl).trans (worksO_at HN8.out hlt)
            have x2 := (hb.cell (p := ⟨g, p, none⟩) hgl).trans (HRM.out.cell (i := p) (by rw [HMl.out]; exact hlt))
            have y1 := Nat.lt_of_lt_of_le hNl hb.size
            have y2 := Nat.lt_of_lt_of_le hgl hb.size
            have hp0 : (0 : Int) ≤ (p : Int) := by omega
            have hp8 : (p : Int) < 8 := by omega
            have HEA := Lib.hid (HTR.out.each p hlt)
            have HKE := Lib.hid (HTR.out.kept p hlt)
            obtain ⟨m, hm⟩ : ∃ m, atN M p = m := ⟨_, rfl⟩
            obtain ⟨kn, hkn⟩ : ∃ k, nmW p = k := ⟨_, rfl⟩
            rw [hm] at x2 HEA HKE
            rw [hkn] at x1 HEA HKE
            have HX1 := Lib.hid x1
            have HX2 := Lib.hid x2
            obtain ⟨cu, hcu⟩ : ∃ c, countN U kn [] = c := ⟨_, rfl⟩
            obtain ⟨cl, hcl⟩ : ∃ c, countN L kn [] = c := ⟨_, rfl⟩
            have HCU := Lib.hid hcu
            have HCL := Lib.hid hcl
            rw [hcu, hcl] at HEA
            have m1 := min2 m cu
            rw [← HEA.out] at m1
            have M1 := Lib.hid m1
            have hbd := (Below.refl wr.heap.size wr).drew
            have e1 : (cl == cl) = true := by simp
            have HKN := Lib.hid hkn
            have HX2w : Hid (w8.cell? ⟨g, p, none⟩ = some (.int .i64 m)) := Lib.hid (by rw [← hm]; exact HRM.out.cell (i := p) (by rw [HMl.out]; exact hlt))
            clear hm hkn hcu hcl hb
            go_wp2
            (refine region_calm (fun W => Below wr.heap.size wr W) (by kernel_rfl) (by kernel_rfl) (hbd) ?_
             repeat (
               refine wpQuiet_step (fun K hK => ?_)
               first
                 | (refine calm_neg ?_ ?_
                    focus (go_simp; done)
                    go_simp
                    refine hK _ ?_
                    clear hK K)
                 | (apply calm_pos
                    focus (go_simp; done)
                    focus (
                      intro W hW
                      (have k1 := (hW.cell (p := ⟨N, p, none⟩) y1).trans HX1.out
                       have k2 := (hW.cell (p := ⟨g, p, none⟩) y2).trans HX2.out
                       have k3 := M1.out)
                      go_simp
                      first
                        | done
                        | exact rfl
                        | (first
                            | (go_at_call 20; (have hc := count_any xa L.length xc L kn [] W (binds_up (binds_up HLK.out HB.out) hW) (by omega) HLS.out; rw [HCL.out, show S [] = ({ data := #[] } : ByteArray) from rfl] at hc; with_reducible refine hc.mono ?_); rintro e w12 ⟨rfl, hb12⟩; exact ⟨rfl, hW.trans (hb12.mono hW.size)⟩)
                            | (go_at_call 20; (have hc := count_any ua U.length uc U kn [] W (binds_up (binds_up HUK.out HB.out) hW) (by omega) HU.out.small; rw [HCU.out, show S [] = ({ data := #[] } : ByteArray) from rfl] at hc; with_reducible refine hc.mono ?_); rintro e w12 ⟨rfl, hb12⟩; exact ⟨rfl, hW.trans (hb12.mono hW.size)⟩)))
                    go_simp
                    refine hK _ ?_
                    clear hK K))
             refine wpQuiet_nil ?_)
            intro w9 hb9
            have HB9 := Lib.hid (bt HB.out hb9)
            have y3 := Nat.lt_of_lt_of_le hNl HB9.out.size
            clear hb9 hbd x1 x2 m1 y1 y2
            obtain ⟨KK, hKK⟩ : ∃ K, (U.map fun b => min (countN L b.work b.node) (countN V b.work b.node)) = K := ⟨_, rfl⟩
            obtain ⟨CC, hCC⟩ : ∃ K, (U.map fun b => min b.cnt (countN V b.work b.node)) = K := ⟨_, rfl⟩
            have hKl : KK.length = U.length := by rw [← hKK, List.length_map]
            have hCl : CC.length = U.length := by rw [← hCC, List.length_map]
            have HKb : Hid (∀ x ∈ KK, 0 ≤ x ∧ x ≤ 1000) := Lib.hid (fun x hx => by
              rw [← hKK] at hx
              obtain ⟨b, hb, rfl⟩ := List.mem_map.1 hx
              have h1 := HTR.out.part b hb
              have h2 := countN_bd HV.out.small b.work b.node
              have h3 := HU.out.pos b hb
              omega)
            have HCb : Hid (∀ x ∈ CC, 0 ≤ x ∧ x ≤ 1000) := Lib.hid (fun x hx => by
              rw [← hCC] at hx
              obtain ⟨b, hb, rfl⟩ := List.mem_map.1 hx
              have h2 := countN_bd HV.out.small b.work b.node
              have h3 := HU.out.pos b hb
              omega)
            rw [hKK, hCC] at HKE
            have HKK := Lib.hid hKK
            have HCC := Lib.hid hCC
            have HKl := Lib.hid hKl
            have HCl := Lib.hid hCl
            clear hKK hCC hKl hCl
            go_wp2
            go_loopw [15, 16, 17] (fun kv cv jv wq => ∃ j : Nat, j ≤ U.length ∧ jv = .int .i64 (j : Int) ∧ kv = .int .i64 (zs (isW kn) (U.take j) (KK.take j)) ∧ cv = .int .i64 (zs (isW kn) (U.take j) (CC.take j)) ∧ Below w9.heap.size w9 wq) (fun _ _ jv _ => U.length - (intOf jv).toNat)
            case atStart => exact ⟨0, Nat.zero_le _, rfl, by simp [zs], by simp [zs], Below.refl _ _⟩
            case round =>
              obtain ⟨j, hj, rfl, rfl, rfl, hb⟩ := hrel
              have HBJ := Lib.hid hb
              have HBT : Hid (Below w8.heap.size w8 wr) := Lib.hid (bt HB9.out hb)
              by_cases hjl : j < U.length
              · obtain ⟨ub, uo, hua, hubl, hcells⟩ := binds_cell HUK.out (show 0 < U.length by omega)
                subst hua
                obtain ⟨c1, d1, f1⟩ := hcells j hjl
                have HCNT := Lib.hid (HTR.out.part U[j] (List.getElem_mem hjl))
                have HPOS := Lib.hid (HU.out.pos U[j] (List.getElem_mem hjl))
                have hkj : KK[j]? = some (min (countN L U[j].work U[j].node) (countN V U[j].work U[j].node)) := by rw [← HKK.out]; simp [hjl]
                have hcj : CC[j]? = some (min U[j].cnt (countN V U[j].work U[j].node)) := by rw [← HCC.out]; simp [hjl]
                rw [List.getElem?_eq_getElem (by rw [HKl.out]; exact hjl)] at hkj
                rw [List.getElem?_eq_getElem (by rw [HCl.out]; exact hjl)] at hcj
                injection hkj with hkj
                injection hcj with hcj
                have hz1 := zs_take (isW kn) U KK j hjl (by rw [HKl.out]; exact hjl)
                have hz2 := zs_take (isW kn) U CC j hjl (by rw [HCl.out]; exact hjl)
                rw [hkj] at hz1
                rw [hcj] at hz2
                have bz1 := zs_bd (isW kn) 1000 (by omega) (U.take j) (KK.take j) (take_bd HKb.out j)
                have bz2 := zs_bd (isW kn) 1000 (by omega) (U.take j) (CC.take j) (take_bd HCb.out j)
                rw [List.length_take] at bz1 bz2
                obtain ⟨x, hx⟩ : ∃ x, U[j] = x := ⟨_, rfl⟩
                rw [hx] at c1 d1 f1 HCNT HPOS hz1 hz2
                have HZ1 := Lib.hid hz1
                have HZ2 := Lib.hid hz2
                obtain ⟨z1, hzz1⟩ : ∃ z, zs (isW kn) (U.take j) (KK.take j) = z := ⟨_, rfl⟩
                obtain ⟨z2, hzz2⟩ : ∃ z, zs (isW kn) (U.take j) (CC.take j) = z := ⟨_, rfl⟩
                rw [hzz1] at HZ1 bz1 ⊢
                rw [hzz2] at HZ2 bz2 ⊢
                replace c1 := (HBT.out.cell (p := ⟨ub, uo + j * 3, none⟩) hubl).trans c1
                replace d1 := (HBT.out.cell (p := ⟨ub, uo + j * 3 + 1, none⟩) hubl).trans d1
                replace f1 := (HBT.out.cell (p := ⟨ub, uo + j * 3 + 2, none⟩) hubl).trans f1
                have C1 := Lib.hid c1
                have D1 := Lib.hid d1
                have F1 := Lib.hid f1
                have x1 := (HBT.out.cell (p := ⟨N, p, none⟩) hNl).trans (worksO_at HN8.out hlt)
                rw [show nmW p = kn from HKN.out] at x1
                have X1 := Lib.hid x1
                have y4 := Nat.lt_of_lt_of_le hNl HBT.out.size
                have y5 := Nat.lt_of_lt_of_le hubl HBT.out.size
                have hj0 : (0 : Int) ≤ (j : Int) := by omega
                have hj1 : (j : Int) < (U.length : Int) := by omega
                clear hx hzz1 hzz2 hz1 hz2 hkj hcj hcells hb
                by_cases hw : x.work = kn
                · have e1 : ((S x.work).toList == (S kn).toList) = true := by rw [S_beq]; simpa using hw
                  have hiw : isW kn x = true := by simp [isW, hw]
                  rw [hiw, if_pos rfl, hw] at HZ1 HZ2
                  rw [hw] at HCNT
                  obtain ⟨nv, hnv⟩ : ∃ c, countN L kn x.node = c := ⟨_, rfl⟩
                  obtain ⟨cv, hcv⟩ : ∃ c, countN V kn x.node = c := ⟨_, rfl⟩
                  have bcv := countN_bd HV.out.small kn x.node
                  rw [hcv] at bcv HZ1 HZ2
                  rw [hnv] at HCNT HZ1
                  have HNV := Lib.hid hnv
                  have HCV := Lib.hid hcv
                  have b1 := HCNT.out
                  have b2 := HPOS.out
                  have d2 : decide (x.cnt < nv) = false := decide_eq_false (by omega)
                  have m1 := min2 nv cv
                  have m2 := min2 x.cnt cv
                  obtain ⟨q1, hq1⟩ : ∃ q, min nv cv = q := ⟨_, rfl⟩
                  obtain ⟨q2, hq2⟩ : ∃ q, min x.cnt cv = q := ⟨_, rfl⟩
                  rw [hq1] at m1 HZ1
                  rw [hq2] at m2 HZ2
                  have w1 : IntKind.i64.wrap (z1 + q1) = z1 + q1 := IntWalk.i64_in _ ⟨by omega, by omega⟩
                  have w2 : IntKind.i64.wrap (z2 + q2) = z2 + q2 := IntWalk.i64_in _ ⟨by omega, by omega⟩
                  have M1' := Lib.hid m1
                  have M2' := Lib.hid m2
                  have W1' := Lib.hid w1
                  have W2' := Lib.hid w2
                  clear hw hnv hcv hq1 hq2 hiw bcv b1 b2 bz1 bz2 m1 m2 w1 w2
                  go_wp2
                  go_quiet (fail)
                  go_wp2
                  have hbd := (below_drewN (Below.refl wr.heap.size wr) nq).drew
                  (refine region_calm (fun W => Below wr.heap.size wr W) (by kernel_rfl) (by kernel_rfl) (hbd) ?_
                   repeat (
                     refine wpQuiet_step (fun K hK => ?_)
                     first
                       | (refine calm_neg ?_ ?_
                          focus (go_simp; done)
                          go_simp
                          refine hK _ ?_
                          clear hK K)
                       | (apply calm_pos
                          focus (go_simp; done)
                          focus (
                            intro W hW
                            (have k1 := (hW.cell (p := ⟨N, p, none⟩) y4).trans X1.out
                             have k2 := (hW.cell (p := ⟨ub, uo + j * 3 + 1, none⟩) y5).trans D1.out)
                            go_simp
                            first
                              | done
                              | exact rfl
                              | (go_at_call 20; (have hc := count_any xa L.length xc L kn x.node W (binds_up (binds_up HLK.out HBT.out) hW) (by omega) HLS.out; rw [HNV.out] at hc; with_reducible refine hc.mono ?_); rintro e w12 ⟨rfl, hb12⟩; exact ⟨rfl, hW.trans (hb12.mono hW.size)⟩))
                          go_simp
                          refine hK _ ?_
                          clear hK K))
                   refine wpQuiet_nil ?_)
                  intro w10 hb10
                  have HB10 := Lib.hid hb10
                  clear hb10 hbd
                  have f2 := (HB10.out.cell (p := ⟨ub, uo + j * 3 + 2, none⟩) y5).trans F1.out
                  have y6 := Nat.lt_of_lt_of_le y5 HB10.out.size
                  go_wp2
                  have hbd := HB10.out.drew
                  (refine region_calm (fun W => Below wr.heap.size wr W) (by kernel_rfl) (by kernel_rfl) (hbd) ?_
                   repeat (
                     refine wpQuiet_step (fun K hK => ?_)
                     first
                       | (refine calm_neg ?_ ?_
                          focus (go_simp; done)
                          go_simp
                          refine hK _ ?_
                          clear hK K)
                       | (apply calm_pos
                          focus (go_simp; done)
                          focus (
                            intro W hW
                            (have k1 := (hW.cell (p := ⟨N, p, none⟩) y4).trans X1.out
                             have k2 := (hW.cell (p := ⟨ub, uo + j * 3 + 1, none⟩) y5).trans D1.out
                             have k3 := M1'.out
                             have k4 := W1'.out)
                            go_simp
                            first
                              | done
                              | exact rfl
                              | (go_at_call 20; (have hc := count_any va V.length vc V kn x.node W (binds_up (binds_up HVK.out HBT.out) hW) (by omega) HV.out.small; rw [HCV.out] at hc; with_reducible refine hc.mono ?_); rintro e w12 ⟨rfl, hb12⟩; exact ⟨rfl, hW.trans (hb12.mono hW.size)⟩))
                          go_simp
                          refine hK _ ?_
                          clear hK K))
                   refine wpQuiet_nil ?_)
                  intro w11 hb11
                  have HB11 := Lib.hid hb11
                  clear hb11 hbd
                  go_wp2
                  have hbd := HB11.out.drew
                  (refine region_calm (fun W => Below wr.heap.size wr W) (by kernel_rfl) (by kernel_rfl) (hbd) ?_
                   repeat (
                     refine wpQuiet_step (fun K hK => ?_)
                     first
                       | (refine calm_neg ?_ ?_
                          focus (go_simp; done)
                          go_simp
                          refine hK _ ?_
                          clear hK K)
                       | (apply calm_pos
                          focus (go_simp; done)
                          focus (
                            intro W hW
                            (have k1 := (hW.cell (p := ⟨N, p, none⟩) y4).trans X1.out
                             have k2 := (hW.cell (p := ⟨ub, uo + j * 3 + 1, none⟩) y5).trans D1.out
                             have k5 := (hW.cell (p := ⟨ub, uo + j * 3 + 2, none⟩) y5).trans F1.out
                             have k3 := M2'.out
                             have k4 := W2'.out)
                            go_simp
                            first
                              | done
                              | exact rfl
                              | (go_at_call 20; (have hc := count_any va V.length vc V kn x.node W (binds_up (binds_up HVK.out HBT.out) hW) (by omega) HV.out.small; rw [HCV.out] at hc; with_reducible refine hc.mono ?_); rintro e w12 ⟨rfl, hb12⟩; exact ⟨rfl, hW.trans (hb12.mono hW.size)⟩))
                          go_simp
                          refine hK _ ?_
                          clear hK K))
                   refine wpQuiet_nil ?_)
                  intro w13 hb13
                  have HB13 := Lib.hid hb13
                  clear hb13 hbd
                  go_wp2
                  go_roundw
                  case rel => exact ⟨j + 1, by omega, by go_num, by rw [HZ1.out], by rw [HZ2.out], bt HBJ.out HB13.out⟩
                  case measure => simp [intOf]; omega
                · have e1 : ((S x.work).toList == (S kn).toList) = false := by rw [S_beq]; simpa using hw
                  have hiw : isW kn x = false := by simp [isW, hw]
                  rw [hiw, if_neg (by simp), Int.add_zero] at HZ1 HZ2
                  clear hw hiw bz1 bz2
                  go_wp2
                  go_quiet (fail)
                  go_wp2
                  go_roundw
                  case rel => exact ⟨j + 1, by omega, by go_num, by rw [HZ1.out], by rw [HZ2.out], below_drewN HBJ.out _⟩
                  case measure => simp [intOf]; omega
              · have hje : j = U.length := by omega
                have hjn : ¬ (j : Int) < (U.length : Int) := by omega
                have HK1 : Hid (zs (isW kn) (U.take j) (KK.take j) = zs (isW kn) U KK) := Lib.hid (by rw [hje, List.take_length, ← HKl.out, List.take_length])
                have HK2 : Hid (zs (isW kn) (U.take j) (CC.take j) = zs (isW kn) U CC) := Lib.hid (by rw [hje, List.take_length, ← HCl.out, List.take_length])
                rw [HK1.out, HK2.out]
                obtain ⟨s1, hs1⟩ : ∃ z, zs (isW kn) U KK = z := ⟨_, rfl⟩
                obtain ⟨s2, hs2⟩ : ∃ z, zs (isW kn) U CC = z := ⟨_, rfl⟩
                rw [hs1, hs2] at HKE
                rw [hs1, hs2]
                have m1 := min2 m s2
                rw [← HKE.out] at m1
                have x2 := (HBT.out.cell (p := ⟨g, p, none⟩) hgl).trans HX2w.out
                have y6 := Nat.lt_of_lt_of_le hgl HBT.out.size
                have e1 : (s1 == s1) = true := by simp
                clear hs1 hs2 hje hjl hb HK1 HK2
                go_wp2
                go_roundw
                case rel => exact ⟨p + 1, by omega, by go_num, HBT.out⟩
                case measure => simp [intOf]; omega
          · have hpn : ¬ (p : Int) < 8 := by omega
            clear hlt
            go_wp2
            go_loopw [19, 20] (fun sv iv wq => ∃ q : Nat, q ≤ L.length ∧ iv = .int .i64 (q : Int) ∧ sv = .int .i64 (sumA (L.take q)) ∧ Below w8.heap.size w8 wq) (fun _ iv _ => L.length - (intOf iv).toNat)
            case atStart => exact ⟨0, Nat.zero_le _, rfl, rfl, HB.out⟩
            case round =>
              obtain ⟨q, hq, rfl, rfl, hb2⟩ := hrel
              have HB2 := Lib.hid hb2
              clear hb HB
              by_cases hql : q < L.length
              · obtain ⟨ub, uo, hua, hubl, hcells⟩ := binds_cell HLK.out (show 0 < L.length by omega)
                subst hua
                obtain ⟨_, _, f1⟩ := hcells q hql
                have HSN := Lib.hid (sumA_snoc hql)
                have bs := sumA_bd HTR.out.pos q
                have bx := HTR.out.pos L[q] (List.getElem_mem hql)
                obtain ⟨x, hx⟩ : ∃ x, L[q].cnt = x := ⟨_, rfl⟩
                obtain ⟨s, hs⟩ : ∃ s, sumA (L.take q) = s := ⟨_, rfl⟩
                rw [hx] at f1 HSN bx
                rw [hs] at bs HSN ⊢
                replace f1 := (HB2.out.cell (p := ⟨ub, uo + q * 3 + 2, none⟩) hubl).trans f1
                have y5 := Nat.lt_of_lt_of_le hubl HB2.out.size
                have hq0 : (0 : Int) ≤ (q : Int) := by omega
                have hq1 : (q : Int) < (L.length : Int) := by omega
                have d2 : decide (x < 1) = false := decide_eq_false (by omega)
                have w1 : IntKind.i64.wrap (s + x) = s + x := IntWalk.i64_in _ ⟨by omega, by omega⟩
                have bx1 : 1 ≤ x := by omega
                clear hx hs hcells bs bx hb2
                go_wp2
                go_roundw
                case rel => exact ⟨q + 1, by omega, by go_num, by rw [HSN.out], HB2.out⟩
                case measure => simp [intOf]; omega
              · have hqe : q = L.length := by omega
                have hqn : ¬ (q : Int) < (L.length : Int) := by omega
                have HSE : Hid (sumA (L.take q) = sumA L) := Lib.hid (by rw [hqe, List.take_length])
                rw [HSE.out]
                obtain ⟨st, hst⟩ : ∃ s, sumA L = s := ⟨_, rfl⟩
                rw [hst]
                have HST : Hid (upN (fun i => countN L (nmW i) []) 8 = st) := Lib.hid (by rw [← hst, HTR.out.sum])
                clear hqe hql hst hb2
                go_wp2
                go_loopw [21, 22] (fun av iv wq => ∃ q : Nat, q ≤ 8 ∧ iv = .int .i64 (q : Int) ∧ av = .int .i64 (upN (fun i => countN L (nmW i) []) q) ∧ Below w8.heap.size w8 wq) (fun _ iv _ => 8 - (intOf iv).toNat)
                case atStart => exact ⟨0, Nat.zero_le _, rfl, rfl, HB2.out⟩
                case round =>
                  obtain ⟨r, hr, rfl, rfl, hb3⟩ := hrel
                  have HB3 := Lib.hid hb3
                  have bs := upN_bd (fun i => countN L (nmW i) []) 20000 (fun i => by have := countN_bd HLS.out (nmW i) []; omega) r
                  clear HB2
                  by_cases hrl : r < 8
                  · have x1 := (hb3.cell (p := ⟨N, r, none⟩) hNl).trans (worksO_at HN8.out hrl)
                    have y1 := Nat.lt_of_lt_of_le hNl hb3.size
                    have hr0 : (0 : Int) ≤ (r : Int) := by omega
                    have hr8 : (r : Int) < 8 := by omega
                    have HSN : Hid (upN (fun i => countN L (nmW i) []) (r + 1) = upN (fun i => countN L (nmW i) []) r + countN L (nmW r) []) := Lib.hid rfl
                    have bc := countN_bd HLS.out (nmW r) []
                    obtain ⟨c, hc⟩ : ∃ c, countN L (nmW r) [] = c := ⟨_, rfl⟩
                    obtain ⟨s, hs⟩ : ∃ c, upN (fun i => countN L (nmW i) []) r = c := ⟨_, rfl⟩
                    rw [hc] at bc HSN
                    rw [hs] at bs HSN ⊢
                    have HC := Lib.hid hc
                    obtain ⟨kn, hkn⟩ : ∃ k, nmW r = k := ⟨_, rfl⟩
                    rw [hkn] at x1 HC
                    have X1 := Lib.hid x1
                    have w1 : IntKind.i64.wrap (s + c) = s + c := IntWalk.i64_in _ ⟨by omega, by omega⟩
                    have W1' := Lib.hid w1
                    clear hc hs hkn bs bc hb3
                    go_wp2_with (go_at_call 20; (have hc := count_any xa L.length xc L kn [] wr (binds_up HLK.out HB3.out) (by omega) HLS.out; rw [HC.out, show S [] = ({ data := #[] } : ByteArray) from rfl] at hc; with_reducible refine hc.mono ?_); rintro e w12 ⟨rfl, hb12⟩; have HB12 := Lib.hid (bt HB3.out hb12); clear hb12 hc)
                    go_roundw
                    case rel => exact ⟨r + 1, by omega, by go_num, by rw [HSN.out], HB12.out⟩
                    case measure => simp [intOf]; omega
                  · obtain rfl : r = 8 := by omega
                    rw [HST.out]
                    have e1 : (st == st) = true := by simp
                    clear hrl bs hb3
                    go_wp2
                    go_ret
                    exact ⟨rfl, bt HW8.out HB3.out⟩
theorem own : ownKnob Try.prog.godebug = none := by kernel_rfl
theorem laidOut : laidOutB Try.prog = true := by kernel_rfl

set_option maxRecDepth 100000 in
theorem lifted (os : Os) (started : os.Started) (H : Type) (enc : TypeId × Value → H) :
    ReturnsInHanded {} Try.checked os 6 .any (Rows.shareTrimsSpec.pre6 enc Try.prog Try.f6 Rows.shareTrimsRow.domain false) (Rows.shareTrimsSpec.post enc Try.prog Try.f6 false true false false) := by
  refine returnsInHanded_of_change_sized (C := Try.checked) own started (by kernel_rfl) Try.func6
    (ChangeSpec.witness6 (enc := enc) (C := Try.checked) false ⟨#[], #[.slice none 0 0, .slice none 0 0, .slice none 0 0], []⟩ 8 (by kernel_rfl) (by kernel_rfl) (by kernel_rfl) (by kernel_rfl)) ?_
  intro W base args ds gs before hval0 hW _ hsz0 _
  have hsz : (DataW.weightsEach Try.prog (Try.f6.params.toList ++ Rows.shareTrimsSpec.plain.varTypes Try.prog) (ds ++ gs)).all (· ≤ reachBytes) = true := hsz0
  have hval : ∀ (j : Nat) t v, Try.f6.params[j]? = some t → args[j]? = some v → Value.okWide Try.prog W .any base t v := hval0
  have hW' := hW
  obtain ⟨p, q, hA0, hV, rfl, hfz, hnd⟩ := hW
  have hA : DataW.TrodAll enc Try.prog W 0 (fun _ => true) true Try.f6.params.toList args.toList ds p := hA0
  rw [Try.params6] at hA hval hsz
  obtain ⟨v0, vs0, d0, ds0, p0, q0, hargs, rfl, rfl, h0, r0⟩ := trodAll_cons hA
  obtain ⟨v1, vs1, d1, ds1, p1, q1, rfl, rfl, rfl, h1, r1⟩ := trodAll_cons r0
  obtain ⟨v2, vs2, d2, ds2, p2, q2, rfl, rfl, rfl, h2, r2⟩ := trodAll_cons r1
  obtain ⟨rfl, rfl, rfl⟩ := trodAll_nil r2
  obtain rfl : args = #[v0, v1, v2] := by cases args; simp_all
  obtain ⟨rfl, rfl⟩ := trodVars_none hV
  have k0 := h0
  have lt0 : ∀ x ∈ p0, x.block < W.heap.size := by obtain ⟨m, hm⟩ := k0; exact DataW.trod_lt m _ _ _ hm
  have k1 := h1
  have lt1 : ∀ x ∈ p1, x.block < W.heap.size := by obtain ⟨m, hm⟩ := k1; exact DataW.trod_lt m _ _ _ hm
  have k2 := h2
  have lt2 : ∀ x ∈ p2, x.block < W.heap.size := by obtain ⟨m, hm⟩ := k2; exact DataW.trod_lt m _ _ _ hm
  obtain ⟨a0, len0, cap0, rfl⟩ := okWide_slice Try.underlying22 (hval 0 22 v0 rfl rfl)
  obtain ⟨z0, b0⟩ := keep_of k0
  obtain ⟨a1, len1, cap1, rfl⟩ := okWide_slice Try.underlying22 (hval 1 22 v1 rfl rfl)
  obtain ⟨z1, b1⟩ := keep_of k1
  obtain ⟨a2, len2, cap2, rfl⟩ := okWide_slice Try.underlying22 (hval 2 22 v2 rfl rfl)
  obtain ⟨z2, b2⟩ := keep_of k2
  clear hA0 hval0 hsz0 hsz
  refine (walk a0 len0 cap0 z0 a1 len1 cap1 z1 a2 len2 cap2 z2 W b0 b1 b2).mono fun e W' ⟨he, bel⟩ => ?_
  subst he
  exact ⟨_, rfl, _, _, _, [], _, [], hW', trodAll_mk1 (shut_bool Try.underlying4 _), (trodAll_cons_mk (Below.trod laidOut (by kernel_rfl) (of_decide_eq_true (by kernel_rfl)) k0 bel lt0) (trodAll_cons_mk (Below.trod laidOut (by kernel_rfl) (of_decide_eq_true (by kernel_rfl)) k1 bel lt1) (trodAll_cons_mk (Below.trod laidOut (by kernel_rfl) (of_decide_eq_true (by kernel_rfl)) k2 bel lt2) trodAll_mk0))), rfl, bel.frame _, fun h => by cases h⟩

theorem over : Rows.shareTrimsRow.holds Try.pinned (OpenSpec.ofChange Rows.shareTrimsSpec) :=
  OpenClaim.holds_of_wide 6 Try.f6 rfl rfl rfl rfl rfl rfl rfl ⟨rfl, rfl, rfl, rfl, rfl⟩ rfl rfl rfl rfl rfl (by kernel_rfl) Try.func6 (by kernel_rfl)
    (of_decide_eq_true (by kernel_rfl)) (by unfold Func.isWrapper; first | (rw [if_pos (by decide +kernel)]; kernel_rfl) | (rw [if_neg (by decide +kernel)]; exact ⟨rfl, rfl⟩))
    (fun os started H enc _ => lifted os started H enc)

theorem proved : Rows.ShareTrimsSaid := over
end Go.Proofs.Ytjkfiilnogacnaa.lawSTrims
