/-
  The statement ShareRoom is proved for all numbers: with more wanted nobody is granted less; with more held no more is granted beyond it. No condition.
-/
import Derived.Deep.QuietTactic
import Derived.Deep.AppendLies
import Derived.Deep.DeepCutAuto
import Derived.Test.YtjkfiilnogacnaaSrow
import Derived.Test.YtjkfiilnogacnaaSawake
import Derived.Test.YtjkfiilnogacnaaOpen14
import Derived.Test.YtjkfiilnogacnaaRows
namespace Go.Proofs.Ytjkfiilnogacnaa.lawSRoom
open Go.ChangeShapes Go.WideShapes Go.ChangeAt Go.RowKit Gm

theorem heldsN_len (z : List Int) : (heldsN z).length = 3 := rfl
theorem targsN_len (z : List Int) : (targsN z).length = 3 := rfl
theorem of_3 {l : List Int} (h : l.length = 3) : l = [atN l 0, atN l 1, atN l 2] := by
  match l, h with
  | [a, b, c], _ => rfl
theorem nums {wn pm : Int} {H T N : List Int} (hw : 0 ≤ wn ∧ wn < 20) (hp : 0 ≤ pm ∧ pm < 9) (hH : H.length = 3) (hT : T.length = 3) (hN : N.length = 3) (h1 : ∀ i, -1 ≤ atN H i ∧ atN H i ≤ 7) (h2 : ∀ i, 0 ≤ atN T i ∧ atN T i ≤ 8)
    (h3 : ∀ i, atN H i ≤ atN N i ∧ atN N i ≤ 15 ∧ (atN H i < 0 → atN N i < 0)) :
    ∃ A B C : List Int, shareN wn H T = A ∧ shareN (wn + pm) H T = B ∧ shareN wn N T = C ∧ (A.length = 3 ∧ B.length = 3 ∧ C.length = 3) ∧ (∀ i, i < 3 → atN A i ≤ atN B i) ∧
      upN (fun j => max 0 (atN C j - max 0 (atN N j))) 3 ≤ upN (fun j => max 0 (atN A j - max 0 (atN H j))) 3 := by
  have a0 := h1 0
  have a1 := h1 1
  have a2 := h1 2
  have b0 := h2 0
  have b1 := h2 1
  have b2 := h2 2
  have c0 := h3 0
  have c1 := h3 1
  have c2 := h3 2
  rw [of_3 hH, of_3 hT, of_3 hN]
  generalize atN H 0 = p0 at *
  generalize atN H 1 = p1 at *
  generalize atN H 2 = p2 at *
  generalize atN T 0 = t0 at *
  generalize atN T 1 = t1 at *
  generalize atN T 2 = t2 at *
  generalize atN N 0 = n0 at *
  generalize atN N 1 = n1 at *
  generalize atN N 2 = n2 at *
  clear h1 h2 h3 hH hT hN
  obtain ⟨g0, g1, g2, f0, f1, f2, e1, e2, l0, l1, l2⟩ := share_want (want := wn) (more := pm) (a := p0) (b := p1) (c := p2) (x := t0) (y := t1) (z := t2) (by omega) (by omega) a0 a1 a2 b0 b1 b2
  obtain ⟨g0', g1', g2', r, e1', r1, r2, _, _, _, s1⟩ := share_beyond (want := wn) (a := p0) (b := p1) (c := p2) (x := t0) (y := t1) (z := t2) (by omega) (by omega) (by omega) (by omega) b0 b1 b2
  obtain ⟨k0, k1, k2, q, e3, q1, q2, _, _, _, s2⟩ := share_beyond (want := wn) (a := n0) (b := n1) (c := n2) (x := t0) (y := t1) (z := t2) (by omega) (by omega) (by omega) (by omega) b0 b1 b2
  rw [e1] at e1'
  injection e1' with i0 i'
  injection i' with i1 i''
  injection i'' with i2 _
  subst i0 i1 i2
  refine ⟨_, _, _, e1, e2, e3, ⟨rfl, rfl, rfl⟩, fun i hi => ?_, ?_⟩
  · have : i = 0 ∨ i = 1 ∨ i = 2 := by omega
    rcases this with rfl | rfl | rfl
    · exact l0
    · exact l1
    · exact l2
  · rw [upN_3, upN_3]
    show max 0 (k0 - max 0 n0) + max 0 (k1 - max 0 n1) + max 0 (k2 - max 0 n2) ≤ max 0 (g0 - max 0 p0) + max 0 (g1 - max 0 p1) + max 0 (g2 - max 0 p2)
    rw [s1, s2]
    have hq : q ≤ r := by
      clear s1 s2 e1 e2 e3 l0 l1 l2
      by_cases hk : p0 < 0 ∨ p1 < 0 ∨ p2 < 0
      · have := q1 (by omega)
        have := r1 hk
        omega
      · have := r2 (by omega) (by omega) (by omega)
        have := q2 (by omega) (by omega) (by omega)
        clear r1 r2 q1 q2
        omega
    have h0 : max 0 (t0 - max 0 n0) ≤ max 0 (t0 - max 0 p0) := by clear s1 s2 e1 e2 e3 l0 l1 l2 r1 r2 q1 q2; omega
    have h1 : max 0 (t1 - max 0 n1) ≤ max 0 (t1 - max 0 p1) := by clear s1 s2 e1 e2 e3 l0 l1 l2 r1 r2 q1 q2; omega
    have h2 : max 0 (t2 - max 0 n2) ≤ max 0 (t2 - max 0 p2) := by clear s1 s2 e1 e2 e3 l0 l1 l2 r1 r2 q1 q2; omega
    clear s1 s2 e1 e2 e3 l0 l1 l2 r1 r2 q1 q2
    generalize max 0 (t0 - max 0 n0) = y0 at *
    generalize max 0 (t1 - max 0 n1) = y1 at *
    generalize max 0 (t2 - max 0 n2) = y2 at *
    generalize max 0 (t0 - max 0 p0) = x0 at *
    generalize max 0 (t1 - max 0 p1) = x1 at *
    generalize max 0 (t2 - max 0 p2) = x2 at *
    omega
theorem i64_small {l : List Int} {a b : Int} (h : ∀ x ∈ l, a ≤ x ∧ x ≤ b) (ha : -1000000 ≤ a) (hb : b ≤ 1000000) : ∀ x ∈ l, I64 x := fun x hx => by have := h x hx; unfold I64; omega
theorem helds_bd (z : List Int) : ∀ x ∈ heldsN z, -1 ≤ x ∧ x ≤ 7 := fun x hx => by
  rw [heldsN_eq] at hx
  simp only [List.mem_cons, List.not_mem_nil, or_false] at hx
  rcases hx with rfl | rfl | rfl <;> exact heldR_bd z _
theorem targs_bd (z : List Int) : ∀ x ∈ targsN z, 0 ≤ x ∧ x ≤ 8 := fun x hx => by
  rw [targsN_eq] at hx
  simp only [List.mem_cons, List.not_mem_nil, or_false] at hx
  rcases hx with rfl | rfl | rfl <;> exact targR_bd z _
theorem atN_set (l : List Int) (i j : Nat) (v : Int) : atN (l.set i v) j = if i = j ∧ j < l.length then v else atN l j := by
  unfold atN
  rw [List.getElem?_set]
  by_cases h : i = j
  · subst h
    by_cases h2 : i < l.length
    · simp [h2]
    · simp [h2]
  · simp [h]
set_option maxRecDepth 100000 in
set_option maxHeartbeats 8000000 in
theorem walk (want : Int) (a : Option Addr) (len cap : Nat) (raw : List Int) (more who : Int) (w : World) (hw : I64 want) (h : KeepB w.heap.size w a len raw) (hm : I64 more) (ho : I64 who) :
    Calls Try.prog 8 #[.int .i64 want, .slice a len cap, .int .i64 more, .int .i64 who] w fun e w' => e = .returned (.bool true) ∧ Below w.heap.size w w' := by
  have HZ := Lib.hid h
  have HW := Lib.hid hw
  have HM := Lib.hid hm
  have HO := Lib.hid ho
  have hwb := pk_bd want 20 (by omega)
  have hmb := pk_bd more 9 (by omega)
  have hob := pk_bd who 3 (by omega)
  have hHl := heldsN_len raw
  have hTl := targsN_len raw
  have hHb := helds_bd raw
  have hTb := targs_bd raw
  obtain ⟨H, hH⟩ : ∃ H, heldsN raw = H := ⟨_, rfl⟩
  obtain ⟨T, hT⟩ : ∃ T, targsN raw = T := ⟨_, rfl⟩
  obtain ⟨wn, hwn⟩ : ∃ x, pk want 20 = x := ⟨_, rfl⟩
  obtain ⟨pm, hpm⟩ : ∃ x, pk more 9 = x := ⟨_, rfl⟩
  obtain ⟨k, hk⟩ : ∃ k : Nat, pk who 3 = (k : Int) := ⟨(pk who 3).toNat, by omega⟩
  rw [hH] at hHl hHb
  rw [hT] at hTl hTb
  rw [hwn] at hwb
  rw [hpm] at hmb
  rw [hk] at hob
  have hk3 : k < 3 := by omega
  have HH := Lib.hid hH
  have HT := Lib.hid hT
  have HWN := Lib.hid hwn
  have HPM := Lib.hid hpm
  have HK := Lib.hid hk
  have HHl := Lib.hid hHl
  have HTl := Lib.hid hTl
  have HHb := Lib.hid hHb
  have HTb := Lib.hid hTb
  obtain ⟨j0, hj0, hq0, hq1, hq2⟩ := info_parts infoInt
  have HI : Hid (I64 wn) := Lib.hid (by unfold I64; omega)
  have HI2 : Hid (I64 (wn + pm)) := Lib.hid (by unfold I64; omega)
  have WS : IntKind.i64.wrap (wn + pm) = wn + pm := IntWalk.i64_in _ ⟨by omega, by omega⟩
  have HAB : Hid (∀ i, -1 ≤ atN H i ∧ atN H i ≤ 7) := Lib.hid (atN_bd (by omega) hHb)
  have HTB : Hid (∀ i, 0 ≤ atN T i ∧ atN T i ≤ 8) := Lib.hid (atN_bd (by omega) hTb)
  have HWB := Lib.hid hwb
  have HMB := Lib.hid hmb
  clear h hw hm ho hH hT hwn hpm hk hHl hTl hHb hTb
  go_enter Try.func8, Try.ntmps8
  go_upto_region 4 with (first
    | (go_at_call 9; with_reducible refine (awake_any w).mono ?_; rintro e w1 ⟨rfl, hb1⟩; have HB1 := Lib.hid hb1; clear hb1)
    | (go_at_call 16; (have hc := lists_any w.heap.size a len cap raw w1 (HZ.out.below HB1.out) HB1.out.size; rw [HH.out, HT.out] at hc; with_reducible refine hc.mono ?_); rintro e w2 ⟨g1, c1, g2, c2, rfl, htwo⟩; have HTWO := Lib.hid htwo; clear htwo hc)
    | (go_at_call 17; (have hc := pick_any want 20 w2 HW.out (by omega) (by omega); rw [HWN.out] at hc; with_reducible refine hc.mono ?_); rintro e w3 ⟨rfl, rfl⟩))
  have HBw2 := Lib.hid (HB1.out.trans (HTWO.out.bw.mono HB1.out.size))
  have HR1 := Lib.hid (RowC.of_row HTWO.out.a)
  have HR2 := Lib.hid (RowC.of_row HTWO.out.b)
  have HK1 := Lib.hid (HR1.out.keep HHl.out (i64_small HHb.out (by omega) (by omega)))
  have HK2 := Lib.hid (HR2.out.keep HTl.out (i64_small HTb.out (by omega) (by omega)))
  clear HB1 HTWO
  obtain ⟨A, hA⟩ : ∃ A, shareN wn H T = A := ⟨_, rfl⟩
  obtain ⟨B, hB⟩ : ∃ A, shareN (wn + pm) H T = A := ⟨_, rfl⟩
  have HA := Lib.hid hA
  have HB := Lib.hid hB
  clear hA hB
  go_upto_region 6 with (first
    | (go_at_call 10; (have hc := share_any wn _ 3 c1 H _ 3 c2 T w2 HI.out HK1.out HK2.out; rw [HA.out] at hc; with_reducible refine hc.mono ?_); rintro e w4 ⟨av, rfl, hrow, hb4⟩; have HROWA := Lib.hid hrow; have HB4 := Lib.hid hb4; clear hrow hb4 hc)
    | (go_at_call 17; (have hc := pick_any more 9 w4 HM.out (by omega) (by omega); rw [HPM.out] at hc; with_reducible refine hc.mono ?_); rintro e w5 ⟨rfl, rfl⟩)
    | (go_at_call 10; (have hc := share_any (wn + pm) _ 3 c1 H _ 3 c2 T w4 HI2.out (keep_to HK1.out HB4.out (Nat.le_refl _)) (keep_to HK2.out HB4.out (Nat.le_refl _)); rw [HB.out] at hc; with_reducible refine hc.mono ?_); rintro e w5 ⟨bv, rfl, hrow, hb5⟩; have HROWB := Lib.hid hrow; have HB5 := Lib.hid hb5; clear hrow hb5 hc))
  have HAl : Hid (A.length = 3) := Lib.hid (by rw [← HA.out, share_len wn (HHl.out.trans HTl.out.symm) (by rw [HHl.out]; omega), HHl.out])
  have HBl : Hid (B.length = 3) := Lib.hid (by rw [← HB.out, share_len (wn + pm) (HHl.out.trans HTl.out.symm) (by rw [HHl.out]; omega), HHl.out])
  have HAb : Hid (∀ x ∈ A, 0 ≤ x ∧ x ≤ 1000) := Lib.hid (HA.out ▸ share_bd _ _ _)
  have HBb : Hid (∀ x ∈ B, 0 ≤ x ∧ x ≤ 1000) := Lib.hid (HB.out ▸ share_bd _ _ _)
  obtain ⟨aa, ac, hav, _, hak⟩ := keep_row HROWA.out (i64_small HAb.out (by omega) (by omega))
  rw [HAl.out] at hav hak
  subst hav
  have HAK := Lib.hid hak
  clear hak
  obtain ⟨ba, bc, hbv, _, hbk⟩ := keep_row HROWB.out (i64_small HBb.out (by omega) (by omega))
  rw [HBl.out] at hbv hbk
  subst hbv
  have HBK := Lib.hid hbk
  clear hbk
  have HB25 : Hid (Below w2.heap.size w2 w5) := Lib.hid (bt HB4.out HB5.out)
  have HN5 : Hid (RowC w5 g1 H) := Lib.hid (HR1.out.up HB25.out)
  have hnews : ∀ j u, (numV H)[j]? = some u → w5.cell? ((⟨g1, 0, none⟩ : Addr).add j) = some u := by
    intro j u hj
    have hadd : (⟨g1, 0, none⟩ : Addr).add j = ⟨g1, j, none⟩ := by unfold Addr.add; split <;> simp_all
    have hjl : j < H.length := by
      rcases Nat.lt_or_ge j H.length with h | h
      · exact h
      · rw [List.getElem?_eq_none (by rw [numV_len]; exact h)] at hj; cases hj
    rw [hadd, HN5.out.cell hjl, ← atN_of hjl, ← numV_at H j hjl, hj]
  have HNEWS := Lib.hid hnews
  have HEMP : Hid (w5.ownsRow w5.heap.size 3 1 (.slice none 0 0) 0 ([] : List Value)) := Lib.hid (World.ownsRow_nil _ _ _ _)
  clear hnews
  go_upto_region 7 with (at_builtin; refine wpList_append_lies _ (by rfl) (.const (.slice none 0 0)) (.tmp 38) 22 (by rfl) w5.heap.size 3 j0 _ 1 8 Try.underlying22 hj0 hq0 hq1 hq2 rfl (by decide) (.slice none 0 0) 0 [] (by rfl) HEMP.out ⟨g1, 0, none⟩ 3 c1 (numV H) (by rfl) (by rw [numV_len, HHl.out]) HNEWS.out (by simp [Value.oneCell']) (by omega) (by unfold maxLen; omega) (by omega) (Nat.le_refl _) _ rfl ?_; intro gn cn w6 ho6 hg6 hat6 hl6; have HO6 := Lib.hid ho6; have HG6 := Lib.hid hg6; have HAT6 := Lib.hid hat6; clear ho6 hg6 hat6 hl6)
  have HB56 : Hid (Below w5.heap.size w5 w6) := Lib.hid ((Below.refl w5.heap.size w5).grown HG6.out (Nat.le_refl _) (fun j e => by cases e))
  have HGN : Hid (gn = w5.heap.size) := Lib.hid (by
    rcases HAT6.out with e | e
    · cases e
    · exact e)
  have HR6 : Hid (RowC w6 gn H) := Lib.hid (RowC.of_row (c := cn) (n := 3) (base := w5.heap.size) HO6.out)
  clear HO6 HG6 HAT6 HNEWS HEMP
  have hRl := HR6.out.lt
  have x1 := HR6.out.cell (i := k) (by rw [HHl.out]; exact hk3)
  have fz := HR6.out.frozen k
  have hk0 : (0 : Int) ≤ (k : Int) := by omega
  have hk3' : (k : Int) < 3 := by omega
  go_upto_region 8 with (go_at_call 17; (have hc := pick_any who 3 w6 HO.out (by omega) (by omega); rw [HK.out] at hc; with_reducible refine hc.mono ?_); rintro e w7 ⟨rfl, rfl⟩)
  have HX1 := Lib.hid x1
  have hab := HAB.out k
  obtain ⟨hx, hhx⟩ : ∃ x, atN H k = x := ⟨_, rfl⟩
  have HHX := Lib.hid hhx
  rw [hhx] at x1 hab
  clear hhx
  by_cases hpos : 0 ≤ hx
  · have d1 : decide (0 ≤ hx) = true := decide_eq_true hpos
    have HN3 : Hid (∀ i, atN H i ≤ atN (H.set k (hx + pm)) i ∧ atN (H.set k (hx + pm)) i ≤ 15 ∧ (atN H i < 0 → atN (H.set k (hx + pm)) i < 0)) := Lib.hid (fun i => by
      have := HAB.out i
      have := HMB.out
      rw [atN_set]
      split
      · rename_i h; obtain ⟨rfl, _⟩ := h; rw [HHX.out]; omega
      · omega)
    have hwr : IntKind.i64.wrap (hx + pm) = hx + pm := IntWalk.i64_in _ ⟨by omega, by omega⟩
    obtain ⟨hv, hhv⟩ : ∃ x, hx + pm = x := ⟨_, rfl⟩
    rw [hhv] at hwr HN3
    have HHV := Lib.hid hhv
    go_wp2
    have q1 : w6.drew.cell? ⟨gn, k, none⟩ = some (.int .i64 hx) := x1
    refine region_mix (fun W => W.cell? ⟨gn, k, none⟩ = some (.int .i64 hx)) (9) (.reads [0, 1, 2, 3, 4, 5, 6] (.only 7 (.reads [8] (.only 9 (.only 10 (.stop)))))) (by kernel_rfl) (by kernel_rfl) (q1) ?_
    repeat (
      refine plan_read rfl (fun K hK => ?_)
      first
        | (refine plan_neg ?_ ?_
           focus (go_simp; done)
           go_simp
           refine hK _ ?_
           clear hK K)
        | (apply plan_pos
           focus (go_simp; done)
           focus (
             intro W hW
             (have x1 := hW)
             go_simp
             first
               | done
               | exact rfl)
           go_simp
           refine hK _ ?_
           clear hK K))
    refine plan_only rfl (fun Q hQ => ?_)
    go_wp2_with (go_at_call 17; (have hc := pick_any more 9 w6.drew HM.out (by omega) (by omega); rw [HPM.out] at hc; with_reducible refine hc.mono ?_); rintro e w8 ⟨rfl, rfl⟩)
    refine hQ _ _ (fun _ => q1) ?_
    clear hQ Q
    repeat (
      refine plan_read rfl (fun K hK => ?_)
      first
        | (refine plan_neg ?_ ?_
           focus (go_simp; done)
           go_simp
           refine hK _ ?_
           clear hK K)
        | (apply plan_pos
           focus (go_simp; done)
           focus (
             intro W hW
             (have hwr := hwr)
             go_simp
             first
               | done
               | exact rfl)
           go_simp
           refine hK _ ?_
           clear hK K))
    refine plan_only rfl (fun Q hQ => ?_)
    go_wp2
    refine hQ _ _ (fun h => absurd h (by omega)) ?_
    clear hQ Q
    have fz' : w6.drew.frozen? ⟨gn, k, none⟩ = false := fz
    refine plan_only rfl (fun Q hQ => ?_)
    go_wp2
    refine hQ _ _ (fun h => absurd h (by omega)) ?_
    clear hQ Q
    unfold Plan.wp
    have HRN : Hid (RowC (w6.setCell ⟨gn, k, none⟩ (.int .i64 hv)).drew gn (H.set k hv)) := Lib.hid ((HR6.out.set k hv).up (Below.refl _ _).drew)
    have HB58 : Hid (Below w5.heap.size w5 (w6.setCell ⟨gn, k, none⟩ (.int .i64 hv)).drew) := Lib.hid ((HB56.out.setCell (p := ⟨gn, k, none⟩) (by have := HGN.out; dsimp only; omega) _).drew)
    have HNl : Hid ((H.set k hv).length = 3) := Lib.hid (by rw [List.length_set]; exact HHl.out)
    clear q1 fz fz' x1 hRl hwr d1 hpos hab HX1 HHX HHV
    generalize (w6.setCell ⟨gn, k, none⟩ (.int .i64 hv)).drew = w8 at *
    generalize H.set k hv = N at *

    obtain ⟨C, hC⟩ : ∃ A, shareN wn N T = A := ⟨_, rfl⟩
    have HC := Lib.hid hC
    clear hC
    have HNb : Hid (∀ x ∈ N, I64 x) := Lib.hid (fun x hx => by
      obtain ⟨i, hi, rfl⟩ := List.getElem_of_mem hx
      have := HN3.out i
      have := HAB.out i
      rw [atN_of hi]
      unfold I64
      omega)
    have HKN := Lib.hid (HRN.out.keep HNl.out HNb.out)
    have HKT := Lib.hid (keep_to HK2.out (bt HB25.out HB58.out) (Nat.le_refl _))
    have HCl : Hid (C.length = 3) := Lib.hid (by rw [← HC.out, share_len wn (HNl.out.trans HTl.out.symm) (by rw [HNl.out]; omega), HNl.out])
    have HCb : Hid (∀ x ∈ C, 0 ≤ x ∧ x ≤ 1000) := Lib.hid (HC.out ▸ share_bd _ _ _)
    go_upto_region 11 with (go_at_call 10; (have hc := share_any wn _ 3 cn N _ 3 c2 T w8 HI.out HKN.out HKT.out; rw [HC.out] at hc; with_reducible refine hc.mono ?_); rintro e w9 ⟨cv, rfl, hrow, hb9⟩; have HROWC := Lib.hid hrow; have HB9 := Lib.hid hb9; clear hrow hb9 hc)
    obtain ⟨ca, cc, hcv, _, hck⟩ := keep_row HROWC.out (i64_small HCb.out (by omega) (by omega))
    rw [HCl.out] at hcv hck
    subst hcv
    obtain ⟨A', B', C', eA, eB, eC, _, hge, hle⟩ := nums HWB.out HMB.out HHl.out HTl.out HNl.out HAB.out HTB.out HN3.out
    obtain rfl : A' = A := eA.symm.trans HA.out
    obtain rfl : B' = B := eB.symm.trans HB.out
    obtain rfl : C' = C := eC.symm.trans HC.out
    clear eA eB eC
    have HGE := Lib.hid hge
    have HLE := Lib.hid hle
    have hb59 : Below w5.heap.size w5 w9 := bt HB58.out HB9.out
    obtain ⟨qa, oa, e1, hla, ka⟩ := keep_at (keep_to HAK.out (bt HB5.out hb59) (Nat.le_refl _)) (by omega)
    obtain ⟨qb, ob, e2, hlb, kb⟩ := keep_at (keep_to HBK.out hb59 (Nat.le_refl _)) (by omega)
    obtain ⟨qc, oc, e3, hlc, kc⟩ := keep_at hck (by omega)
    subst e1 e2 e3
    have hr5 := HN5.out.up hb59
    have hr8 := HRN.out.up HB9.out
    have hlh := hr5.lt
    have hln := hr8.lt
    have HKA := Lib.hid ka
    have HKB := Lib.hid kb
    have HKC := Lib.hid kc
    have HR5 := Lib.hid hr5
    have HR8 := Lib.hid hr8
    have HBw9 : Hid (Below w.heap.size w w9) := Lib.hid (by
      have h1 := HBw2.out
      have h2 := bt HB25.out hb59
      exact bt h1 h2)
    have HAX : Hid (∀ j, 0 ≤ atN A' j ∧ atN A' j ≤ 1000) := Lib.hid (atN_bd (by omega) HAb.out)
    have HCX : Hid (∀ j, 0 ≤ atN C' j ∧ atN C' j ≤ 1000) := Lib.hid (atN_bd (by omega) HCb.out)
    have HBX : Hid (∀ j, 0 ≤ atN B' j ∧ atN B' j ≤ 1000) := Lib.hid (atN_bd (by omega) HBb.out)
    clear ka kb kc hck hge hle hb59 hr5 hr8
    go_wp2
    go_loopw [16, 17, 18] (fun xv yv iv wr => ∃ i : Nat, i ≤ 3 ∧ iv = .int .i64 (i : Int) ∧ xv = .int .i64 (upN (fun j => max 0 (atN A' j - max 0 (atN H j))) i) ∧ yv = .int .i64 (upN (fun j => max 0 (atN C' j - max 0 (atN N j))) i) ∧ Below w9.heap.size w9 wr) (fun _ _ iv _ => 3 - (intOf iv).toNat)
    case atStart => exact ⟨0, Nat.zero_le _, rfl, rfl, rfl, Below.refl _ _⟩
    case round =>
      obtain ⟨i, hi, rfl, rfl, rfl, hb⟩ := hrel
      have HBI := Lib.hid hb
      have bs := upN_bd (fun j => max 0 (atN A' j - max 0 (atN H j))) 1000 (fun j => by
        have := HAX.out j
        omega) i
      have bw := upN_bd (fun j => max 0 (atN C' j - max 0 (atN N j))) 1000 (fun j => by
        have := HCX.out j
        omega) i
      by_cases hlt : i < 3
      · have x1 := (hb.cell (p := ⟨qa, oa + i, none⟩) hla).trans (HKA.out i hlt)
        have x2 := (hb.cell (p := ⟨qb, ob + i, none⟩) hlb).trans (HKB.out i hlt)
        have x3 := (hb.cell (p := ⟨qc, oc + i, none⟩) hlc).trans (HKC.out i hlt)
        have x4 := (hb.cell (p := ⟨g1, i, none⟩) hlh).trans (HR5.out.cell (by rw [HHl.out]; exact hlt))
        have x5 := (hb.cell (p := ⟨gn, i, none⟩) hln).trans (HR8.out.cell (by rw [HNl.out]; exact hlt))
        have hi0 : (0 : Int) ≤ (i : Int) := by omega
        have hi3 : (i : Int) < 3 := by omega
        have y1 := Nat.lt_of_lt_of_le hla hb.size
        have y2 := Nat.lt_of_lt_of_le hlb hb.size
        have y3 := Nat.lt_of_lt_of_le hlc hb.size
        have y4 := Nat.lt_of_lt_of_le hlh hb.size
        have y5 := Nat.lt_of_lt_of_le hln hb.size
        have z0 := HGE.out i hlt
        have z1 := HAX.out i
        have z2 := HCX.out i
        have z3 := HAB.out i
        have z4 := HN3.out i
        have HS1 : Hid (upN (fun j => max 0 (atN A' j - max 0 (atN H j))) (i + 1) = upN (fun j => max 0 (atN A' j - max 0 (atN H j))) i + max 0 (atN A' i - max 0 (atN H i))) := Lib.hid rfl
        have HS2 : Hid (upN (fun j => max 0 (atN C' j - max 0 (atN N j))) (i + 1) = upN (fun j => max 0 (atN C' j - max 0 (atN N j))) i + max 0 (atN C' i - max 0 (atN N i))) := Lib.hid rfl
        obtain ⟨s, hs⟩ : ∃ s, upN (fun j => max 0 (atN A' j - max 0 (atN H j))) i = s := ⟨_, rfl⟩
        obtain ⟨v, hv⟩ : ∃ s, upN (fun j => max 0 (atN C' j - max 0 (atN N j))) i = s := ⟨_, rfl⟩
        rw [hs] at bs HS1 ⊢
        rw [hv] at bw HS2 ⊢
        obtain ⟨ea, h1⟩ : ∃ x, atN A' i = x := ⟨_, rfl⟩
        obtain ⟨eb, h2⟩ : ∃ x, atN B' i = x := ⟨_, rfl⟩
        obtain ⟨ec, h3⟩ : ∃ x, atN C' i = x := ⟨_, rfl⟩
        obtain ⟨eh, h4⟩ : ∃ x, atN H i = x := ⟨_, rfl⟩
        obtain ⟨en, h5⟩ : ∃ x, atN N i = x := ⟨_, rfl⟩
        rw [h1] at x1 z0 z1 HS1
        rw [h2] at x2 z0
        rw [h3] at x3 z2 HS2
        rw [h4] at x4 z3 z4 HS1
        rw [h5] at x5 z4 HS2
        have m1 := max2 0 eh
        obtain ⟨m, hm⟩ : ∃ m, max 0 eh = m := ⟨_, rfl⟩
        rw [hm] at m1 HS1
        have w1 : IntKind.i64.wrap (ea - m) = ea - m := IntWalk.i64_in _ ⟨by omega, by omega⟩
        obtain ⟨d, hd⟩ : ∃ d, ea - m = d := ⟨_, rfl⟩
        rw [hd] at w1 HS1
        have m2 := max2 0 d
        obtain ⟨n, hn⟩ : ∃ n, max 0 d = n := ⟨_, rfl⟩
        rw [hn] at m2 HS1
        have w2 : IntKind.i64.wrap (s + n) = s + n := IntWalk.i64_in _ ⟨by omega, by omega⟩
        have m3 := max2 0 en
        obtain ⟨o, ho⟩ : ∃ m, max 0 en = m := ⟨_, rfl⟩
        rw [ho] at m3 HS2
        have w3 : IntKind.i64.wrap (ec - o) = ec - o := IntWalk.i64_in _ ⟨by omega, by omega⟩
        obtain ⟨f, hf⟩ : ∃ d, ec - o = d := ⟨_, rfl⟩
        rw [hf] at w3 HS2
        have m4 := max2 0 f
        obtain ⟨r, hr⟩ : ∃ n, max 0 f = n := ⟨_, rfl⟩
        rw [hr] at m4 HS2
        have w4 : IntKind.i64.wrap (v + r) = v + r := IntWalk.i64_in _ ⟨by omega, by omega⟩
        have d1 : decide (eb < ea) = false := decide_eq_false (by omega)
        clear hs hv h1 h2 h3 h4 h5 hm hn ho hr bs bw z0 z1 z2 z3 z4 hb
        go_wp2
        go_quiet (fail)
        go_wp2
        go_quiet (fail)
        go_wp2
        go_quiet (fail)
        go_wp2
        go_roundw
        case rel => exact ⟨i + 1, by omega, by go_num, by rw [HS1.out], by rw [HS2.out], below_drewN HBI.out _⟩
        case measure => simp [intOf]; omega
      · obtain rfl : i = 3 := by omega
        have h1 := HLE.out
        obtain ⟨s, hs⟩ : ∃ s, upN (fun j => max 0 (atN A' j - max 0 (atN H j))) 3 = s := ⟨_, rfl⟩
        obtain ⟨v, hv⟩ : ∃ s, upN (fun j => max 0 (atN C' j - max 0 (atN N j))) 3 = s := ⟨_, rfl⟩
        rw [hs, hv] at h1
        rw [hs, hv]
        have d1 : decide (v ≤ s) = true := decide_eq_true h1
        clear hs hv h1 hb bs bw
        go_wp2
        go_ret
        exact ⟨rfl, HBw9.out.trans (HBI.out.mono HBw9.out.size)⟩
  · obtain ⟨N, hN⟩ : ∃ N, N = H := ⟨_, rfl⟩
    have HN3 : Hid (∀ i, atN H i ≤ atN N i ∧ atN N i ≤ 15 ∧ (atN H i < 0 → atN N i < 0)) := Lib.hid (fun i => by have := HAB.out i; rw [hN]; omega)
    have d1 : decide (0 ≤ hx) = false := decide_eq_false hpos
    have HRN : Hid (RowC w6 gn N) := Lib.hid (by rw [hN]; exact HR6.out)
    have HB58 := HB56
    have HNl : Hid (N.length = 3) := Lib.hid (by rw [hN]; exact HHl.out)
    clear fz hpos hab HX1 HHX hN

    obtain ⟨C, hC⟩ : ∃ A, shareN wn N T = A := ⟨_, rfl⟩
    have HC := Lib.hid hC
    clear hC
    have HNb : Hid (∀ x ∈ N, I64 x) := Lib.hid (fun x hx => by
      obtain ⟨i, hi, rfl⟩ := List.getElem_of_mem hx
      have := HN3.out i
      have := HAB.out i
      rw [atN_of hi]
      unfold I64
      omega)
    have HKN := Lib.hid (HRN.out.keep HNl.out HNb.out)
    have HKT := Lib.hid (keep_to HK2.out (bt HB25.out HB58.out) (Nat.le_refl _))
    have HCl : Hid (C.length = 3) := Lib.hid (by rw [← HC.out, share_len wn (HNl.out.trans HTl.out.symm) (by rw [HNl.out]; omega), HNl.out])
    have HCb : Hid (∀ x ∈ C, 0 ≤ x ∧ x ≤ 1000) := Lib.hid (HC.out ▸ share_bd _ _ _)
    go_upto_region 11 with (go_at_call 10; (have hc := share_any wn _ 3 cn N _ 3 c2 T w6 HI.out HKN.out HKT.out; rw [HC.out] at hc; with_reducible refine hc.mono ?_); rintro e w9 ⟨cv, rfl, hrow, hb9⟩; have HROWC := Lib.hid hrow; have HB9 := Lib.hid hb9; clear hrow hb9 hc)
    obtain ⟨ca, cc, hcv, _, hck⟩ := keep_row HROWC.out (i64_small HCb.out (by omega) (by omega))
    rw [HCl.out] at hcv hck
    subst hcv
    obtain ⟨A', B', C', eA, eB, eC, _, hge, hle⟩ := nums HWB.out HMB.out HHl.out HTl.out HNl.out HAB.out HTB.out HN3.out
    obtain rfl : A' = A := eA.symm.trans HA.out
    obtain rfl : B' = B := eB.symm.trans HB.out
    obtain rfl : C' = C := eC.symm.trans HC.out
    clear eA eB eC
    have HGE := Lib.hid hge
    have HLE := Lib.hid hle
    have hb59 : Below w5.heap.size w5 w9 := bt HB58.out HB9.out
    obtain ⟨qa, oa, e1, hla, ka⟩ := keep_at (keep_to HAK.out (bt HB5.out hb59) (Nat.le_refl _)) (by omega)
    obtain ⟨qb, ob, e2, hlb, kb⟩ := keep_at (keep_to HBK.out hb59 (Nat.le_refl _)) (by omega)
    obtain ⟨qc, oc, e3, hlc, kc⟩ := keep_at hck (by omega)
    subst e1 e2 e3
    have hr5 := HN5.out.up hb59
    have hr8 := HRN.out.up HB9.out
    have hlh := hr5.lt
    have hln := hr8.lt
    have HKA := Lib.hid ka
    have HKB := Lib.hid kb
    have HKC := Lib.hid kc
    have HR5 := Lib.hid hr5
    have HR8 := Lib.hid hr8
    have HBw9 : Hid (Below w.heap.size w w9) := Lib.hid (by
      have h1 := HBw2.out
      have h2 := bt HB25.out hb59
      exact bt h1 h2)
    have HAX : Hid (∀ j, 0 ≤ atN A' j ∧ atN A' j ≤ 1000) := Lib.hid (atN_bd (by omega) HAb.out)
    have HCX : Hid (∀ j, 0 ≤ atN C' j ∧ atN C' j ≤ 1000) := Lib.hid (atN_bd (by omega) HCb.out)
    have HBX : Hid (∀ j, 0 ≤ atN B' j ∧ atN B' j ≤ 1000) := Lib.hid (atN_bd (by omega) HBb.out)
    clear ka kb kc hck hge hle hb59 hr5 hr8
    go_wp2
    go_loopw [16, 17, 18] (fun xv yv iv wr => ∃ i : Nat, i ≤ 3 ∧ iv = .int .i64 (i : Int) ∧ xv = .int .i64 (upN (fun j => max 0 (atN A' j - max 0 (atN H j))) i) ∧ yv = .int .i64 (upN (fun j => max 0 (atN C' j - max 0 (atN N j))) i) ∧ Below w9.heap.size w9 wr) (fun _ _ iv _ => 3 - (intOf iv).toNat)
    case atStart => exact ⟨0, Nat.zero_le _, rfl, rfl, rfl, Below.refl _ _⟩
    case round =>
      obtain ⟨i, hi, rfl, rfl, rfl, hb⟩ := hrel
      have HBI := Lib.hid hb
      have bs := upN_bd (fun j => max 0 (atN A' j - max 0 (atN H j))) 1000 (fun j => by
        have := HAX.out j
        omega) i
      have bw := upN_bd (fun j => max 0 (atN C' j - max 0 (atN N j))) 1000 (fun j => by
        have := HCX.out j
        omega) i
      by_cases hlt : i < 3
      · have x1 := (hb.cell (p := ⟨qa, oa + i, none⟩) hla).trans (HKA.out i hlt)
        have x2 := (hb.cell (p := ⟨qb, ob + i, none⟩) hlb).trans (HKB.out i hlt)
        have x3 := (hb.cell (p := ⟨qc, oc + i, none⟩) hlc).trans (HKC.out i hlt)
        have x4 := (hb.cell (p := ⟨g1, i, none⟩) hlh).trans (HR5.out.cell (by rw [HHl.out]; exact hlt))
        have x5 := (hb.cell (p := ⟨gn, i, none⟩) hln).trans (HR8.out.cell (by rw [HNl.out]; exact hlt))
        have hi0 : (0 : Int) ≤ (i : Int) := by omega
        have hi3 : (i : Int) < 3 := by omega
        have y1 := Nat.lt_of_lt_of_le hla hb.size
        have y2 := Nat.lt_of_lt_of_le hlb hb.size
        have y3 := Nat.lt_of_lt_of_le hlc hb.size
        have y4 := Nat.lt_of_lt_of_le hlh hb.size
        have y5 := Nat.lt_of_lt_of_le hln hb.size
        have z0 := HGE.out i hlt
        have z1 := HAX.out i
        have z2 := HCX.out i
        have z3 := HAB.out i
        have z4 := HN3.out i
        have HS1 : Hid (upN (fun j => max 0 (atN A' j - max 0 (atN H j))) (i + 1) = upN (fun j => max 0 (atN A' j - max 0 (atN H j))) i + max 0 (atN A' i - max 0 (atN H i))) := Lib.hid rfl
        have HS2 : Hid (upN (fun j => max 0 (atN C' j - max 0 (atN N j))) (i + 1) = upN (fun j => max 0 (atN C' j - max 0 (atN N j))) i + max 0 (atN C' i - max 0 (atN N i))) := Lib.hid rfl
        obtain ⟨s, hs⟩ : ∃ s, upN (fun j => max 0 (atN A' j - max 0 (atN H j))) i = s := ⟨_, rfl⟩
        obtain ⟨v, hv⟩ : ∃ s, upN (fun j => max 0 (atN C' j - max 0 (atN N j))) i = s := ⟨_, rfl⟩
        rw [hs] at bs HS1 ⊢
        rw [hv] at bw HS2 ⊢
        obtain ⟨ea, h1⟩ : ∃ x, atN A' i = x := ⟨_, rfl⟩
        obtain ⟨eb, h2⟩ : ∃ x, atN B' i = x := ⟨_, rfl⟩
        obtain ⟨ec, h3⟩ : ∃ x, atN C' i = x := ⟨_, rfl⟩
        obtain ⟨eh, h4⟩ : ∃ x, atN H i = x := ⟨_, rfl⟩
        obtain ⟨en, h5⟩ : ∃ x, atN N i = x := ⟨_, rfl⟩
        rw [h1] at x1 z0 z1 HS1
        rw [h2] at x2 z0
        rw [h3] at x3 z2 HS2
        rw [h4] at x4 z3 z4 HS1
        rw [h5] at x5 z4 HS2
        have m1 := max2 0 eh
        obtain ⟨m, hm⟩ : ∃ m, max 0 eh = m := ⟨_, rfl⟩
        rw [hm] at m1 HS1
        have w1 : IntKind.i64.wrap (ea - m) = ea - m := IntWalk.i64_in _ ⟨by omega, by omega⟩
        obtain ⟨d, hd⟩ : ∃ d, ea - m = d := ⟨_, rfl⟩
        rw [hd] at w1 HS1
        have m2 := max2 0 d
        obtain ⟨n, hn⟩ : ∃ n, max 0 d = n := ⟨_, rfl⟩
        rw [hn] at m2 HS1
        have w2 : IntKind.i64.wrap (s + n) = s + n := IntWalk.i64_in _ ⟨by omega, by omega⟩
        have m3 := max2 0 en
        obtain ⟨o, ho⟩ : ∃ m, max 0 en = m := ⟨_, rfl⟩
        rw [ho] at m3 HS2
        have w3 : IntKind.i64.wrap (ec - o) = ec - o := IntWalk.i64_in _ ⟨by omega, by omega⟩
        obtain ⟨f, hf⟩ : ∃ d, ec - o = d := ⟨_, rfl⟩
        rw [hf] at w3 HS2
        have m4 := max2 0 f
        obtain ⟨r, hr⟩ : ∃ n, max 0 f = n := ⟨_, rfl⟩
        rw [hr] at m4 HS2
        have w4 : IntKind.i64.wrap (v + r) = v + r := IntWalk.i64_in _ ⟨by omega, by omega⟩
        have d1 : decide (eb < ea) = false := decide_eq_false (by omega)
        clear hs hv h1 h2 h3 h4 h5 hm hn ho hr bs bw z0 z1 z2 z3 z4 hb
        go_wp2
        go_quiet (fail)
        go_wp2
        go_quiet (fail)
        go_wp2
        go_quiet (fail)
        go_wp2
        go_roundw
        case rel => exact ⟨i + 1, by omega, by go_num, by rw [HS1.out], by rw [HS2.out], below_drewN HBI.out _⟩
        case measure => simp [intOf]; omega
      · obtain rfl : i = 3 := by omega
        have h1 := HLE.out
        obtain ⟨s, hs⟩ : ∃ s, upN (fun j => max 0 (atN A' j - max 0 (atN H j))) 3 = s := ⟨_, rfl⟩
        obtain ⟨v, hv⟩ : ∃ s, upN (fun j => max 0 (atN C' j - max 0 (atN N j))) 3 = s := ⟨_, rfl⟩
        rw [hs, hv] at h1
        rw [hs, hv]
        have d1 : decide (v ≤ s) = true := decide_eq_true h1
        clear hs hv h1 hb bs bw
        go_wp2
        go_ret
        exact ⟨rfl, HBw9.out.trans (HBI.out.mono HBw9.out.size)⟩
theorem own : ownKnob Try.prog.godebug = none := by kernel_rfl
theorem laidOut : laidOutB Try.prog = true := by kernel_rfl

set_option maxRecDepth 100000 in
theorem lifted (os : Os) (started : os.Started) (H : Type) (enc : TypeId × Value → H) :
    ReturnsInHanded {} Try.checked os 8 .any (Rows.shareRoomSpec.pre6 enc Try.prog Try.f8 Rows.shareRoomRow.domain false) (Rows.shareRoomSpec.post enc Try.prog Try.f8 false true false false) := by
  refine returnsInHanded_of_change_sized (C := Try.checked) own started (by kernel_rfl) Try.func8
    (ChangeSpec.witness6 (enc := enc) (C := Try.checked) false ⟨#[], #[.int .i64 0, .slice none 0 0, .int .i64 0, .int .i64 0], []⟩ 8 (by kernel_rfl) (by kernel_rfl) (by kernel_rfl) (by kernel_rfl)) ?_
  intro W base args ds gs before hval0 hW _ hsz0 _
  have hsz : (DataW.weightsEach Try.prog (Try.f8.params.toList ++ Rows.shareRoomSpec.plain.varTypes Try.prog) (ds ++ gs)).all (· ≤ reachBytes) = true := hsz0
  have hval : ∀ (j : Nat) t v, Try.f8.params[j]? = some t → args[j]? = some v → Value.okWide Try.prog W .any base t v := hval0
  have hW' := hW
  obtain ⟨p, q, hA0, hV, rfl, hfz, hnd⟩ := hW
  have hA : DataW.TrodAll enc Try.prog W 0 (fun _ => true) true Try.f8.params.toList args.toList ds p := hA0
  rw [Try.params8] at hA hval hsz
  obtain ⟨v0, vs0, d0, ds0, p0, q0, hargs, rfl, rfl, h0, r0⟩ := trodAll_cons hA
  obtain ⟨v1, vs1, d1, ds1, p1, q1, rfl, rfl, rfl, h1, r1⟩ := trodAll_cons r0
  obtain ⟨v2, vs2, d2, ds2, p2, q2, rfl, rfl, rfl, h2, r2⟩ := trodAll_cons r1
  obtain ⟨v3, vs3, d3, ds3, p3, q3, rfl, rfl, rfl, h3, r3⟩ := trodAll_cons r2
  obtain ⟨rfl, rfl, rfl⟩ := trodAll_nil r3
  obtain rfl : args = #[v0, v1, v2, v3] := by cases args; simp_all
  obtain ⟨rfl, rfl⟩ := trodVars_none hV
  have k0 := h0
  have lt0 : ∀ x ∈ p0, x.block < W.heap.size := by obtain ⟨m, hm⟩ := k0; exact DataW.trod_lt m _ _ _ hm
  have k1 := h1
  have lt1 : ∀ x ∈ p1, x.block < W.heap.size := by obtain ⟨m, hm⟩ := k1; exact DataW.trod_lt m _ _ _ hm
  have k2 := h2
  have lt2 : ∀ x ∈ p2, x.block < W.heap.size := by obtain ⟨m, hm⟩ := k2; exact DataW.trod_lt m _ _ _ hm
  have k3 := h3
  have lt3 : ∀ x ∈ p3, x.block < W.heap.size := by obtain ⟨m, hm⟩ := k3; exact DataW.trod_lt m _ _ _ hm
  obtain ⟨a0, rfl, rfl, rfl, w0⟩ := open_int Try.underlying3 (hval 0 3 v0 rfl rfl) h0
  have b0 := in_of_wf w0
  obtain ⟨a1, len1, cap1, rfl⟩ := okWide_slice Try.underlying22 (hval 1 22 v1 rfl rfl)
  obtain ⟨z1, b1⟩ := keep_of k1
  obtain ⟨a2, rfl, rfl, rfl, w2⟩ := open_int Try.underlying3 (hval 2 3 v2 rfl rfl) h2
  have b2 := in_of_wf w2
  obtain ⟨a3, rfl, rfl, rfl, w3⟩ := open_int Try.underlying3 (hval 3 3 v3 rfl rfl) h3
  have b3 := in_of_wf w3
  clear hA0 hval0 hsz0 hsz
  refine (walk a0 a1 len1 cap1 z1 a2 a3 W b0 b1 b2 b3).mono fun e W' ⟨he, bel⟩ => ?_
  subst he
  exact ⟨_, rfl, _, _, _, [], _, [], hW', trodAll_mk1 (shut_bool Try.underlying4 _), (trodAll_cons_mk (Below.trod laidOut (by kernel_rfl) (of_decide_eq_true (by kernel_rfl)) k0 bel lt0) (trodAll_cons_mk (Below.trod laidOut (by kernel_rfl) (of_decide_eq_true (by kernel_rfl)) k1 bel lt1) (trodAll_cons_mk (Below.trod laidOut (by kernel_rfl) (of_decide_eq_true (by kernel_rfl)) k2 bel lt2) (trodAll_cons_mk (Below.trod laidOut (by kernel_rfl) (of_decide_eq_true (by kernel_rfl)) k3 bel lt3) trodAll_mk0)))), rfl, bel.frame _, fun h => by cases h⟩

theorem over : Rows.shareRoomRow.holds Try.pinned (OpenSpec.ofChange Rows.shareRoomSpec) :=
  OpenClaim.holds_of_wide 8 Try.f8 rfl rfl rfl rfl rfl rfl rfl ⟨rfl, rfl, rfl, rfl, rfl⟩ rfl rfl rfl rfl rfl (by kernel_rfl) Try.func8 (by kernel_rfl)
    (of_decide_eq_true (by kernel_rfl)) (by unfold Func.isWrapper; first | (rw [if_pos (by decide +kernel)]; kernel_rfl) | (rw [if_neg (by decide +kernel)]; exact ⟨rfl, rfl⟩))
    (fun os started H enc _ => lifted os started H enc)

theorem proved : Rows.ShareRoomSaid := over
end Go.Proofs.Ytjkfiilnogacnaa.lawSRoom
