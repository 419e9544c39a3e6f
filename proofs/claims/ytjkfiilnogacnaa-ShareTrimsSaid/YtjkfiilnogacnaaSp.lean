/-
  The program's Trim.
-/
import Derived.Test.YtjkfiilnogacnaaSpshare
import Derived.Test.YtjkfiilnogacnaaSptrim3
namespace Go.Proofs.Ytjkfiilnogacnaa
open Go.RowKit Gm

/-- BLOCK b TELLS OF EACH NAME WHAT r SAYS. -/
def LeftIs (r : Bs → Int) (w : World) (b n : Nat) : Prop := ∃ f, LeftM w b n f ∧ ∀ k, (f k).getD 0 = r k
theorem LeftIs.lt {r : Bs → Int} {w : World} {b n : Nat} (h : LeftIs r w b n) : b < w.heap.size := by
  obtain ⟨_, h, _⟩ := h
  exact h.lt
theorem LeftIs.moved {r : Bs → Int} {w w' : World} {b n : Nat} (h : LeftIs r w b n) (hb : w'.heap[b]? = w.heap[b]?) : LeftIs r w' b n := by
  obtain ⟨f, h, e⟩ := h
  exact ⟨f, h.moved hb, e⟩
theorem take_is (r : Bs → Int) (b n : Nat) (k : Bs) (most v m : Int) (w : World) (h : LeftIs r w b n) (hn : n ≤ 1099511627776) (hk : okName k) (hv : r k = v) (hm : min most v = m) (hb : I64 (v - m)) :
    Calls Try.prog 26 #[.map (some b), .string (S k), .int .i64 most] w fun e w' => e = .returned (.int .i64 m) ∧ LeftIs (upd r k (v - m)) w' b (n + 1) ∧ w.grownBy w' (some b) := by
  obtain ⟨f, h, e⟩ := h
  refine (take_any b n f k most v m w h hn hk ((e k).trans hv) hm hb).mono ?_
  rintro e1 w1 ⟨rfl, h1, h2⟩
  refine ⟨rfl, ⟨_, h1, fun j => ?_⟩, h2⟩
  unfold upd
  by_cases hj : j = k
  · rw [if_pos hj, if_pos hj]; rfl
  · rw [if_neg hj, if_neg hj]; exact e j
theorem was_look {last : List Bd} {w : World} {g ll : Nat} (h : WasIs last w g ll) (hl : last.length = ll) (x : Bd) (hk : okSpot (x.work, x.node)) :
    (Instr.lookup 48 (.map (some g)) (spotV (x.work, x.node)) false).run Try.prog w = .ok (.int .i64 (wasN last x)) w := by
  obtain ⟨f, h, e⟩ := h
  have := h.look spot_keys Try.underlying48 (x.work, x.node) hk
  rw [e, ← hl, wasF_all] at this
  exact this
theorem bup {W W' : World} {a : Option Addr} {len : Nat} {l : List Bd} (h : BindsAt W (· < W.heap.size) a len l) (hb : Below W.heap.size W W') : BindsAt W' (· < W'.heap.size) a len l :=
  (h.keep fun b hb' => hb.block b hb').imp fun _ hb' => Nat.lt_of_lt_of_le hb' hb.size
/-- What stands between the passes: what is assigned, what is left, what was. -/
structure TrimAt (w W : World) (gL gW g2 : Nat) (last : List Bd) (ll n : Nat) (A : List Int) (r : Bs → Int) : Prop where
  row : RowC W g2 A
  left : LeftIs r W gL n
  was : WasIs last W gW ll
  below : Below w.heap.size w W
set_option maxRecDepth 100000 in
set_option maxHeartbeats 8000000 in
theorem trim_any (ta : Option Addr) (tl tc : Nat) (t : List Bd) (la : Option Addr) (ll lc : Nat) (last : List Bd) (wa : Option Addr) (wl wc : Nat) (works : List Bs) (aa : Option Addr) (al ac : Nat) (allowed : List Int) (w : World)
    (ht : BindsAt w (· < w.heap.size) ta tl t) (hl : BindsAt w (· < w.heap.size) la ll last) (hw : NamesAt w (· < w.heap.size) wa wl works) (ha : KeepB w.heap.size w aa al allowed) (okt : OkL t) (okl : OkL last) (okw : OkW works) :
    Calls Try.prog 12 #[.slice ta tl tc, .slice la ll lc, .slice wa wl wc, .slice aa al ac] w fun e w' => ∃ v, e = .returned v ∧ w'.ownsRow w.heap.size 40 3 v (trimN t last works allowed).length (bdsV (trimN t last works allowed)) ∧ Below w.heap.size w w' := by
  have HT := Lib.hid ht
  have HL := Lib.hid hl
  have HW := Lib.hid hw
  have HA := Lib.hid ha
  have HTl : Hid (t.length = tl) := Lib.hid ht.1
  have HLl : Hid (last.length = ll) := Lib.hid hl.1
  have HWl : Hid (works.length = wl) := Lib.hid hw.1
  have HAl : Hid (allowed.length = al) := Lib.hid ha.1
  have tl20 : tl ≤ 1048576 := by have := okt.1; rw [ht.1] at this; exact this
  have wl20 : wl ≤ 1048576 := by have := okw.1; rw [hw.1] at this; exact this
  have HOKT := Lib.hid okt
  have HOKL := Lib.hid okl
  have HOKW := Lib.hid okw
  clear ht hl hw ha okt okl okw
  by_cases hgood : wl = al
  · subst hgood
    have HEQ : Hid (works.length = allowed.length) := Lib.hid (HWl.out.trans HAl.out.symm)
    have HR0 : Hid (∀ k, 0 ≤ allowN works allowed k ∧ allowN works allowed k ≤ 1000) := Lib.hid (fun k => allow_bd works allowed k)
    have HLF : Hid (∀ k, (leftF works allowed wl k).getD 0 = allowN works allowed k) := Lib.hid (fun k => by rw [← HWl.out]; exact leftF_all works allowed k)
    have HTRIM : Hid (trimN t last works allowed = outN t (partE (allowN works allowed) t last 2)) := Lib.hid (by
      unfold trimN
      rw [if_pos HEQ.out]
      rfl)
    obtain ⟨r0, hr0⟩ : ∃ r, allowN works allowed = r := ⟨_, rfl⟩
    rw [hr0] at HR0 HLF HTRIM
    have hne : ((wl : Int) != (wl : Int)) = false := by simp
    have hmk := make_ints tl (by omega)
    clear hr0
    go_enter Try.func12, Try.ntmps12
    go_upto_region 6 with (first
      | (go_at_call 24; (with_reducible refine (leftOf_any wa wl wc works aa ac allowed w HW.out HA.out HOKW.out).mono ?_); rintro e w1 ⟨rfl, h1, h2⟩
         have H1 := Lib.hid h1
         have H2 := Lib.hid h2
         clear h1 h2)
      | (go_at_call 25; (with_reducible refine (countsOf_any la ll lc last w1 (bup HL.out H2.out) HOKL.out).mono ?_); rintro e w2 ⟨rfl, h3, h4⟩
         have H3 := Lib.hid h3
         have H4 := Lib.hid h4
         clear h3 h4))
    have HGW : Hid (w.heap.size < w1.heap.size) := Lib.hid H1.out.lt
    have HB2 : Hid (Below w.heap.size w w2) := Lib.hid (H2.out.trans (H4.out.mono H2.out.size))
    have HLEFT2 : Hid (LeftIs r0 w2 w.heap.size wl) := Lib.hid ⟨_, H1.out.moved (H4.out.block _ H1.out.lt), HLF.out⟩
    have HB3 : Below w2.heap.size w2 (w2.alloc (.cells (Array.replicate tl (.int .i64 0)) 3)) := (Below.refl _ w2).alloc (Nat.le_refl _) _
    have H0 : Hid (TrimAt w (w2.alloc (.cells (Array.replicate tl (.int .i64 0)) 3)) w.heap.size w1.heap.size w2.heap.size last ll wl (partE r0 t last 0) r0) := Lib.hid ⟨(by
      have := rep_row w2 tl
      show RowC _ _ (List.replicate t.length 0)
      rw [HTl.out]
      exact this), HLEFT2.out.moved (HB3.block _ HLEFT2.out.lt), H3.out.moved (HB3.block _ H3.out.lt), HB2.out.trans (HB3.mono HB2.out.size)⟩
    have hne12 : w.heap.size ≠ w1.heap.size := by have := HGW.out; omega
    have hne23 : w1.heap.size ≠ w2.heap.size := by have := H3.out.lt; omega
    have hne13 : w.heap.size ≠ w2.heap.size := by have := HLEFT2.out.lt; omega
    have hle2 : w.heap.size ≤ w2.heap.size := HB2.out.size
    obtain ⟨gL, hgL⟩ : ∃ g, w.heap.size = g := ⟨_, rfl⟩
    obtain ⟨gW, hgW⟩ : ∃ g, w1.heap.size = g := ⟨_, rfl⟩
    obtain ⟨g2, hg2⟩ : ∃ g, w2.heap.size = g := ⟨_, rfl⟩
    have HGL := Lib.hid hgL
    have HN12 : Hid (gL ≠ gW) := Lib.hid (by rw [← hgL, ← hgW]; exact hne12)
    have HN23 : Hid (gW ≠ g2) := Lib.hid (by rw [← hgW, ← hg2]; exact hne23)
    have HN13 : Hid (gL ≠ g2) := Lib.hid (by rw [← hgL, ← hg2]; exact hne13)
    have HLE2 : Hid (w.heap.size ≤ g2) := Lib.hid (by rw [← hg2]; exact hle2)
    have H0' : Hid (TrimAt w (w2.alloc (.cells (Array.replicate tl (.int .i64 0)) 3)) gL gW g2 last ll wl (partE r0 t last 0) r0) := Lib.hid (by rw [← hgL, ← hgW, ← hg2]; exact H0.out)
    rw [hgL, hgW, hg2]
    clear H0 HLEFT2 HB3 hne12 hne23 hne13 hle2 HB2 H1 H2 H3 H4 hgL hgW hg2 HGW hmk hne
    generalize w2.alloc (.cells (Array.replicate tl (.int .i64 0)) 3) = w3 at *
    go_wp2
    go_loopw [31] (fun iv wr => ∃ i : Nat, i ≤ tl ∧ iv = .int .i64 (i : Int) ∧ TrimAt w wr gL gW g2 last ll (wl + i) (addL (partE r0 t last 0) (passU (restE r0 t last 0) t (msE r0 t last 0) i)) (restU (restE r0 t last 0) t (msE r0 t last 0) i)) (fun iv _ => tl - (intOf iv).toNat)
    case atStart => exact ⟨0, Nat.zero_le _, rfl, by unfold passU restU; rw [List.take_zero, List.take_zero]; simp only [passL, restL, addL_nil]; exact H0'.out⟩
    case round =>
      obtain ⟨i, hi, rfl, hat⟩ := hrel
      have HAT := Lib.hid hat
      clear H0'
      by_cases hlt : i < tl
      · have hil : i < t.length := by rw [HTl.out]; exact hlt
        obtain ⟨b, off, hta, hbl, hcell⟩ := cells_b HT.out hlt
        subst hta
        obtain ⟨c0, c1, c2⟩ := hcell hil
        replace c0 := (hat.below.cell (p := ⟨b, off + i * 3, none⟩) hbl).trans c0
        replace c1 := (hat.below.cell (p := ⟨b, off + i * 3 + 1, none⟩) hbl).trans c1
        replace c2 := (hat.below.cell (p := ⟨b, off + i * 3 + 2, none⟩) hbl).trans c2
        have y1 := Nat.lt_of_lt_of_le hbl hat.below.size
        have hxo := HOKT.out.2 _ (List.getElem_mem hil)
        have hpl := passU_len (restE r0 t last 0) (msE_len 0 (r := r0) (t := t) (last := last)) (Nat.le_of_lt hil)
        have hpn := passU_snoc (restE r0 t last 0) (msE_len 0 (r := r0) (t := t) (last := last)) hil
        have hrn := restU_snoc (restE r0 t last 0) (msE_len 0 (r := r0) (t := t) (last := last)) hil
        have hadd := fun x => addL_snoc x (passU (restE r0 t last 0) t (msE r0 t last 0) i) (partE r0 t last 0) (by rw [hpl, partE_len]; exact hil)
        have hal : (addL (partE r0 t last 0) (passU (restE r0 t last 0) t (msE r0 t last 0) i)).length = tl := by rw [addL_len _ _ (by rw [hpl, partE_len]; omega), partE_len, HTl.out]
        have hrb := restU_bd (t := t) (last := last) HR0.out 0 i (by omega)
        have hms := msE_at0 (r := r0) (last := last) hil
        have hz : atN (partE r0 t last 0) i = 0 := at_rep _ _
        simp only [hpl] at hadd
        rw [hz] at hadd
        have wb := was_bd last t[i]
        have HLOOK := Lib.hid (fun W (h : WasIs last W gW ll) => was_look h HLl.out t[i] ⟨hxo.2.1, hxo.2.2⟩)
        obtain ⟨x, hx⟩ : ∃ x, t[i] = x := ⟨_, rfl⟩
        rw [hx] at c0 c1 c2 hxo hpn hrn hms wb HLOOK
        have nb := numC_bd x.cnt
        obtain ⟨nx, hnx⟩ : ∃ m, numC x.cnt = m := ⟨_, rfl⟩
        obtain ⟨q, hq⟩ : ∃ m, wasN last x = m := ⟨_, rfl⟩
        have m1 := min2 nx q
        obtain ⟨mo, hmo⟩ : ∃ m, min nx q = m := ⟨_, rfl⟩
        rw [hnx] at nb hms
        rw [hq] at hms wb HLOOK
        have kmo : 0 ≤ mo ∧ mo ≤ 1000 := by omega
        rw [hmo] at hms m1
        rw [hms] at hpn hrn
        have HNX := Lib.hid hnx
        have hv := hrb x.work
        obtain ⟨v, hv0⟩ : ∃ v, restU (restE r0 t last 0) t (msE r0 t last 0) i x.work = v := ⟨_, rfl⟩
        rw [hv0] at hv hpn hrn
        obtain ⟨m, hm⟩ : ∃ m, min mo v = m := ⟨_, rfl⟩
        rw [hm] at hpn hrn
        have hmb : I64 (v - m) := by unfold I64; omega
        have HM := Lib.hid hm
        have HV := Lib.hid hv0
        have HMB := Lib.hid hmb
        have HOKK : Hid (okName x.work) := Lib.hid hxo.2.1
        have HADD : Hid (addL (partE r0 t last 0) (passU (restE r0 t last 0) t (msE r0 t last 0) (i + 1)) = (addL (partE r0 t last 0) (passU (restE r0 t last 0) t (msE r0 t last 0) i)).set i m) := Lib.hid (by rw [hpn, hadd, Int.zero_add])
        have HRN := Lib.hid hrn
        have HLEN := Lib.hid hal
        have x2 := hat.row.cell (i := i) (by rw [hal]; exact hlt)
        have hg2l := hat.row.lt
        have hgLl := hat.left.lt
        have hgWl := hat.was.lt
        have hi0 : (0 : Int) ≤ (i : Int) := by omega
        have hi1 : (i : Int) < (tl : Int) := by omega
        clear hx hnx hq hmo hv0 hm hmb hpn hrn hadd hms hz hal hpl hrb wb nb hv kmo hcell hxo hat hil
        have hb1 : Below wr.heap.size wr (wr.alloc (bdO x)) := (Below.refl _ wr).alloc (Nat.le_refl _) _
        have HAT1 : Hid (TrimAt w (wr.alloc (bdO x)) gL gW g2 last ll (wl + i) (addL (partE r0 t last 0) (passU (restE r0 t last 0) t (msE r0 t last 0) i)) (restU (restE r0 t last 0) t (msE r0 t last 0) i)) := Lib.hid ⟨HAT.out.row.up hb1, HAT.out.left.moved (hb1.block _ hgLl), HAT.out.was.moved (hb1.block _ hgWl), HAT.out.below.trans (hb1.mono HAT.out.below.size)⟩
        have hpL : wr.heap.size ≠ gL := by omega
        have hpW : wr.heap.size ≠ gW := by omega
        have hp2 : wr.heap.size ≠ g2 := by omega
        have hsz1 : wr.heap.size < (wr.alloc (bdO x)).heap.size := by simp
        obtain ⟨k0, k1, k2⟩ := bd_cells wr x
        clear hb1 hgLl hgWl hg2l x2
        go_wp2
        generalize hWg : wr.alloc (bdO x) = W1 at *
        have HD : Hid (TrimAt w W1.drew gL gW g2 last ll (wl + i) (addL (partE r0 t last 0) (passU (restE r0 t last 0) t (msE r0 t last 0) i)) (restU (restE r0 t last 0) t (msE r0 t last 0) i)) := Lib.hid ⟨HAT1.out.row.block rfl, HAT1.out.left.moved rfl, HAT1.out.was.moved rfl, HAT1.out.below.drew⟩
        have hC0 : W1.drew.cell? ⟨wr.heap.size, 0, none⟩ = some (.string (S x.work)) ∧ W1.drew.cell? ⟨wr.heap.size, 1, none⟩ = some (.string (S x.node)) ∧ W1.drew.cell? ⟨wr.heap.size, 2, none⟩ = some (.int .i64 x.cnt) ∧ (Instr.lookup 48 (.map (some gW)) (spotV (x.work, x.node)) false).run Try.prog W1.drew = .ok (.int .i64 q) W1.drew := ⟨k0, k1, k2, HLOOK.out _ HD.out.was⟩
        have hpl : wr.heap.size < W1.drew.heap.size := hsz1
        clear hWg k0 k1 k2 HAT1 hsz1
        refine region_mix (fun W => W.cell? ⟨wr.heap.size, 0, none⟩ = some (.string (S x.work)) ∧ W.cell? ⟨wr.heap.size, 1, none⟩ = some (.string (S x.node)) ∧ W.cell? ⟨wr.heap.size, 2, none⟩ = some (.int .i64 x.cnt) ∧ (Instr.lookup 48 (.map (some gW)) (spotV (x.work, x.node)) false).run Try.prog W = .ok (.int .i64 q) W) (14) (.reads [0, 1, 2, 3, 4, 5, 6, 8, 9] (.only 7 (.only 10 (.reads [11, 12] (.only 13 (.only 14 (.only 15 (.stop)))))))) (by kernel_rfl) (by kernel_rfl) (hC0) ?_
        repeat (
          refine plan_read rfl (fun K hK => ?_)
          first
            | (refine plan_neg ?_ ?_
               focus (go_simp; done)
               go_simp
               refine hK _ ?_
               clear hK K)
            | (apply plan_pos
               focus (go_simp; done)
               focus (
                 intro W hW
                 (obtain ⟨k0, k1, k2, k3⟩ := hW)
                 go_simp
                 first
                   | done
                   | exact rfl)
               go_simp
               refine hK _ ?_
               clear hK K))
        refine plan_only rfl (fun Q hQ => ?_)
        go_wp2_with (go_at_call 22; (have hc' := limit_any x.cnt W1.drew; rw [HNX.out] at hc'; with_reducible refine hc'.mono ?_); rintro e w6 ⟨rfl, rfl⟩)
        refine hQ _ _ (fun _ => hC0) ?_
        clear hQ Q
        refine plan_only rfl (fun Q hQ => ?_)
        go_wp2_with (go_at_call 27; (with_reducible refine (spot_any x.work x.node x.cnt _).mono ?_); rintro e w5 ⟨rfl, hb5⟩)
        have HD5 : Hid (TrimAt w w5 gL gW g2 last ll (wl + i) (addL (partE r0 t last 0) (passU (restE r0 t last 0) t (msE r0 t last 0) i)) (restU (restE r0 t last 0) t (msE r0 t last 0) i)) := Lib.hid ⟨HD.out.row.up hb5, HD.out.left.moved (hb5.block _ HD.out.left.lt), HD.out.was.moved (hb5.block _ HD.out.was.lt), HD.out.below.trans (hb5.mono HD.out.below.size)⟩
        have hC5 : w5.cell? ⟨wr.heap.size, 0, none⟩ = some (.string (S x.work)) ∧ w5.cell? ⟨wr.heap.size, 1, none⟩ = some (.string (S x.node)) ∧ w5.cell? ⟨wr.heap.size, 2, none⟩ = some (.int .i64 x.cnt) ∧ (Instr.lookup 48 (.map (some gW)) (spotV (x.work, x.node)) false).run Try.prog w5 = .ok (.int .i64 q) w5 :=
          ⟨(hb5.cell (p := ⟨wr.heap.size, 0, none⟩) hpl).trans hC0.1, (hb5.cell (p := ⟨wr.heap.size, 1, none⟩) hpl).trans hC0.2.1, (hb5.cell (p := ⟨wr.heap.size, 2, none⟩) hpl).trans hC0.2.2.1, HLOOK.out _ HD5.out.was⟩
        have hpl5 := Nat.lt_of_lt_of_le hpl hb5.size
        clear hb5 hC0 hpl HD
        refine hQ _ _ (fun _ => hC5) ?_
        clear hQ Q
        repeat (
          refine plan_read rfl (fun K hK => ?_)
          first
            | (refine plan_neg ?_ ?_
               focus (go_simp; done)
               go_simp
               refine hK _ ?_
               clear hK K)
            | (apply plan_pos
               focus (go_simp; done)
               focus (
                 intro W hW
                 (obtain ⟨k0, k1, k2, k3⟩ := hW)
                 go_simp
                 first
                   | done
                   | exact rfl)
               go_simp
               refine hK _ ?_
               clear hK K))
        refine plan_only rfl (fun Q hQ => ?_)
        go_wp2_with (go_at_call 26; (with_reducible refine (take_is (restU (restE r0 t last 0) t (msE r0 t last 0) i) gL (wl + i) x.work mo v m w5 HD5.out.left (by omega) HOKK.out HV.out HM.out HMB.out).mono ?_); rintro e w7 ⟨rfl, h7, hg7⟩)
        have HD7 : Hid (TrimAt w w7 gL gW g2 last ll (wl + (i + 1)) (addL (partE r0 t last 0) (passU (restE r0 t last 0) t (msE r0 t last 0) i)) (restU (restE r0 t last 0) t (msE r0 t last 0) (i + 1))) := Lib.hid ⟨HD5.out.row.block (hg7.block _ HD5.out.row.lt (fun e => HN13.out (by injection e with e; exact e.symm))), (by rw [HRN.out]; exact h7), HD5.out.was.moved (hg7.block _ HD5.out.was.lt (fun e => HN12.out (by injection e with e; exact e.symm))), HD5.out.below.grown hg7 HD5.out.below.size (fun j e => by injection e with e; rw [HGL.out, ← e]; exact Nat.le_refl _)⟩
        have hC7 : w7.cell? ⟨wr.heap.size, 0, none⟩ = some (.string (S x.work)) ∧ w7.cell? ⟨wr.heap.size, 1, none⟩ = some (.string (S x.node)) ∧ w7.cell? ⟨wr.heap.size, 2, none⟩ = some (.int .i64 x.cnt) ∧ (Instr.lookup 48 (.map (some gW)) (spotV (x.work, x.node)) false).run Try.prog w7 = .ok (.int .i64 q) w7 :=
          ⟨(hg7.cell hC5.1 (fun e => hpL (by injection e))), (hg7.cell hC5.2.1 (fun e => hpL (by injection e))), (hg7.cell hC5.2.2.1 (fun e => hpL (by injection e))), HLOOK.out _ HD7.out.was⟩
        have x2 := HD7.out.row.cell (i := i) (by rw [HLEN.out]; exact hlt)
        have fz := HD7.out.row.frozen i
        have hg2l := HD7.out.row.lt
        clear h7 hg7 hC5
        refine hQ _ _ (fun _ => hC7) ?_
        clear hQ Q
        refine plan_only rfl (fun Q hQ => ?_)
        go_wp2
        refine hQ _ _ (fun h => absurd h (by omega)) ?_
        clear hQ Q
        refine plan_only rfl (fun Q hQ => ?_)
        go_wp2
        refine hQ _ _ (fun h => absurd h (by omega)) ?_
        clear hQ Q
        unfold Plan.wp
        go_wp2
        go_roundw
        case rel => exact ⟨i + 1, by omega, by go_num, ⟨(by rw [HADD.out]; exact HD7.out.row.set i m), HD7.out.left.moved (Below.heap_setCell _ _ _ _ HN13.out), HD7.out.was.moved (Below.heap_setCell _ _ _ _ HN23.out), HD7.out.below.setCell (p := ⟨g2, i, none⟩) HLE2.out _⟩⟩
        case measure => simp [intOf]; omega
      · have hie : i = tl := by omega
        have hin : ¬ (i : Int) < (tl : Int) := by omega
        have HP1 : Hid (TrimAt w wr gL gW g2 last ll (wl + tl) (partE r0 t last 1) (restE r0 t last 1)) := Lib.hid (by
          have h := HAT.out
          have e1 := turn_end (r := r0) (t := t) (last := last) 0 (by omega)
          have e2 := rest_end (r := r0) (t := t) (last := last) rfl
          rw [HTl.out] at e1 e2
          rw [hie, e1, e2] at h
          exact h)
        clear hie hlt hat HAT
        go_wp2
        go_loopw [54] (fun iv wr => ∃ i : Nat, i ≤ tl ∧ iv = .int .i64 (i : Int) ∧ TrimAt w wr gL gW g2 last ll (wl + tl + i) (addL (partE r0 t last 1) (passU (restE r0 t last 1) t (msE r0 t last 1) i)) (restU (restE r0 t last 1) t (msE r0 t last 1) i)) (fun iv _ => tl - (intOf iv).toNat)
        case atStart => exact ⟨0, Nat.zero_le _, rfl, by unfold passU restU; rw [List.take_zero, List.take_zero]; simp only [passL, restL, addL_nil]; exact HP1.out⟩
        case round =>
          clear hi hin HP1
          obtain ⟨i, hi, rfl, hat⟩ := hrel
          have HAT := Lib.hid hat
          by_cases hlt : i < tl
          · have hil : i < t.length := by rw [HTl.out]; exact hlt
            obtain ⟨b, off, hta, hbl, hcell⟩ := cells_b HT.out hlt
            subst hta
            obtain ⟨c0, c1, c2⟩ := hcell hil
            replace c0 := (hat.below.cell (p := ⟨b, off + i * 3, none⟩) hbl).trans c0
            replace c1 := (hat.below.cell (p := ⟨b, off + i * 3 + 1, none⟩) hbl).trans c1
            replace c2 := (hat.below.cell (p := ⟨b, off + i * 3 + 2, none⟩) hbl).trans c2
            have y1 := Nat.lt_of_lt_of_le hbl hat.below.size
            have hxo := HOKT.out.2 _ (List.getElem_mem hil)
            have hpl := passU_len (restE r0 t last 1) (msE_len 1 (r := r0) (t := t) (last := last)) (Nat.le_of_lt hil)
            have hpn := passU_snoc (restE r0 t last 1) (msE_len 1 (r := r0) (t := t) (last := last)) hil
            have hrn := restU_snoc (restE r0 t last 1) (msE_len 1 (r := r0) (t := t) (last := last)) hil
            have hadd := fun x => addL_snoc x (passU (restE r0 t last 1) t (msE r0 t last 1) i) (partE r0 t last 1) (by rw [hpl, partE_len]; exact hil)
            have hal : (addL (partE r0 t last 1) (passU (restE r0 t last 1) t (msE r0 t last 1) i)).length = tl := by rw [addL_len _ _ (by rw [hpl, partE_len]; omega), partE_len, HTl.out]
            have hrb := restU_bd (t := t) (last := last) HR0.out 1 i (by omega)
            have hms := msE_at1 (r := r0) (last := last) hil
            have hpa := part1_at (last := last) (fun k => (HR0.out k).1) hil
            have hcur := addL_at (passU (restE r0 t last 1) t (msE r0 t last 1) i) (partE r0 t last 1) i (by omega)
            have hpe : atN (partE r0 t last 1) i = atN (part1 r0 t last) i := rfl
            simp only [hpl] at hadd
            obtain ⟨a, ha⟩ : ∃ a, atN (part1 r0 t last) i = a := ⟨_, rfl⟩
            rw [hpe, ha] at hadd hcur
            rw [ha] at hms hpa
            obtain ⟨x, hx⟩ : ∃ x, t[i] = x := ⟨_, rfl⟩
            rw [hx] at c0 c1 c2 hxo hpn hrn hms hpa
            have nb := numC_bd x.cnt
            obtain ⟨nx, hnx⟩ : ∃ m, numC x.cnt = m := ⟨_, rfl⟩
            rw [hnx] at nb hms hpa
            have w1 : IntKind.i64.wrap (nx - a) = nx - a := IntWalk.i64_in _ ⟨by omega, by omega⟩
            rw [hms] at hpn hrn
            have HNX := Lib.hid hnx
            have hv := hrb x.work
            obtain ⟨v, hv0⟩ : ∃ v, restU (restE r0 t last 1) t (msE r0 t last 1) i x.work = v := ⟨_, rfl⟩
            rw [hv0] at hv hpn hrn
            obtain ⟨m, hm⟩ : ∃ m, min (nx - a) v = m := ⟨_, rfl⟩
            rw [hm] at hpn hrn
            have hmb : I64 (v - m) := by unfold I64; omega
            have w2 : IntKind.i64.wrap (a + m) = a + m := IntWalk.i64_in _ ⟨by omega, by omega⟩
            have w3 : wrap64 (a + m) = a + m := IntWalk.wrap64_in _ ⟨by omega, by omega⟩
            have W2 := Lib.hid w2
            have W3 := Lib.hid w3
            have HM := Lib.hid hm
            have HV := Lib.hid hv0
            have HMB := Lib.hid hmb
            have HOKK : Hid (okName x.work) := Lib.hid hxo.2.1
            have HADD : Hid (addL (partE r0 t last 1) (passU (restE r0 t last 1) t (msE r0 t last 1) (i + 1)) = (addL (partE r0 t last 1) (passU (restE r0 t last 1) t (msE r0 t last 1) i)).set i (a + m)) := Lib.hid (by rw [hpn, hadd])
            have HRN := Lib.hid hrn
            have HLEN := Lib.hid hal
            have x2 := hat.row.cell (i := i) (by rw [hal]; exact hlt)
            rw [hcur] at x2
            have HCUR := Lib.hid hcur
            have hg2l := hat.row.lt
            have hgLl := hat.left.lt
            have hgWl := hat.was.lt
            have hi0 : (0 : Int) ≤ (i : Int) := by omega
            have hi1 : (i : Int) < (tl : Int) := by omega
            have hnn : wl + tl + i ≤ 1099511627776 := by omega
            clear hx hnx hv0 hm hmb hpn hrn hadd hms hal hpl hrb nb hv hcell hxo hat hil hpa hcur hpe ha
            have hb1 : Below wr.heap.size wr (wr.alloc (bdO x)) := (Below.refl _ wr).alloc (Nat.le_refl _) _
            have HAT1 : Hid (TrimAt w (wr.alloc (bdO x)) gL gW g2 last ll (wl + tl + i) (addL (partE r0 t last 1) (passU (restE r0 t last 1) t (msE r0 t last 1) i)) (restU (restE r0 t last 1) t (msE r0 t last 1) i)) := Lib.hid ⟨HAT.out.row.up hb1, HAT.out.left.moved (hb1.block _ hgLl), HAT.out.was.moved (hb1.block _ hgWl), HAT.out.below.trans (hb1.mono HAT.out.below.size)⟩
            have hpL : wr.heap.size ≠ gL := by omega
            have hpW : wr.heap.size ≠ gW := by omega
            have hp2 : wr.heap.size ≠ g2 := by omega
            have hsz1 : wr.heap.size < (wr.alloc (bdO x)).heap.size := by simp
            obtain ⟨k0, k1, k2⟩ := bd_cells wr x
            have k4 := (hb1.cell (p := ⟨g2, i, none⟩) hg2l).trans x2
            clear hb1 hgLl hgWl hg2l x2 w2 w3
            go_wp2
            generalize hWg : wr.alloc (bdO x) = W1 at *
            have HD : Hid (TrimAt w W1.drew gL gW g2 last ll (wl + tl + i) (addL (partE r0 t last 1) (passU (restE r0 t last 1) t (msE r0 t last 1) i)) (restU (restE r0 t last 1) t (msE r0 t last 1) i)) := Lib.hid ⟨HAT1.out.row.block rfl, HAT1.out.left.moved rfl, HAT1.out.was.moved rfl, HAT1.out.below.drew⟩
            have hg2d := HD.out.row.lt
            have hC0 : W1.drew.cell? ⟨wr.heap.size, 0, none⟩ = some (.string (S x.work)) ∧ W1.drew.cell? ⟨wr.heap.size, 2, none⟩ = some (.int .i64 x.cnt) ∧ W1.drew.cell? ⟨g2, i, none⟩ = some (.int .i64 a) ∧ g2 < W1.drew.heap.size := ⟨k0, k2, k4, hg2d⟩
            clear hWg k0 k1 k2 k4 HAT1 hsz1
            have hpl : wr.heap.size ≠ g2 := hp2
            refine region_mix (fun W => W.cell? ⟨wr.heap.size, 0, none⟩ = some (.string (S x.work)) ∧ W.cell? ⟨wr.heap.size, 2, none⟩ = some (.int .i64 x.cnt) ∧ W.cell? ⟨g2, i, none⟩ = some (.int .i64 a) ∧ g2 < W.heap.size) (16) (.reads [0, 1, 2, 3, 4, 5, 6, 7, 8, 10, 11, 12, 13] (.only 9 (.reads [14] (.only 15 (.only 16 (.only 17 (.only 18 (.stop)))))))) (by kernel_rfl) (by kernel_rfl) (hC0) ?_
            repeat (
              refine plan_read rfl (fun K hK => ?_)
              first
                | (refine plan_neg ?_ ?_
                   focus (go_simp; done)
                   go_simp
                   refine hK _ ?_
                   clear hK K)
                | (apply plan_pos
                   focus (go_simp; done)
                   focus (
                     intro W hW
                     (obtain ⟨k0, k2, k4, k5⟩ := hW)
                     go_simp
                     first
                       | done
                       | exact rfl)
                   go_simp
                   refine hK _ ?_
                   clear hK K))
            refine plan_only rfl (fun Q hQ => ?_)
            go_wp2_with (go_at_call 22; (have hc' := limit_any x.cnt W1.drew; rw [HNX.out] at hc'; with_reducible refine hc'.mono ?_); rintro e w6 ⟨rfl, rfl⟩)
            refine hQ _ _ (fun _ => hC0) ?_
            clear hQ Q
            repeat (
              refine plan_read rfl (fun K hK => ?_)
              first
                | (refine plan_neg ?_ ?_
                   focus (go_simp; done)
                   go_simp
                   refine hK _ ?_
                   clear hK K)
                | (apply plan_pos
                   focus (go_simp; done)
                   focus (
                     intro W hW
                     (obtain ⟨k0, k2, k4, k5⟩ := hW)
                     go_simp
                     first
                       | done
                       | exact rfl)
                   go_simp
                   refine hK _ ?_
                   clear hK K))
            refine plan_only rfl (fun Q hQ => ?_)
            go_wp2_with (go_at_call 26; (with_reducible refine (take_is (restU (restE r0 t last 1) t (msE r0 t last 1) i) gL (wl + tl + i) x.work (nx - a) v m W1.drew HD.out.left hnn HOKK.out HV.out HM.out HMB.out).mono ?_); rintro e w7 ⟨rfl, h7, hg7⟩)
            have HD7 : Hid (TrimAt w w7 gL gW g2 last ll (wl + tl + (i + 1)) (addL (partE r0 t last 1) (passU (restE r0 t last 1) t (msE r0 t last 1) i)) (restU (restE r0 t last 1) t (msE r0 t last 1) (i + 1))) := Lib.hid ⟨HD.out.row.block (hg7.block _ HD.out.row.lt (fun e => HN13.out (by injection e with e; exact e.symm))), (by rw [HRN.out]; exact h7), HD.out.was.moved (hg7.block _ HD.out.was.lt (fun e => HN12.out (by injection e with e; exact e.symm))), HD.out.below.grown hg7 HD.out.below.size (fun j e => by injection e with e; rw [HGL.out, ← e]; exact Nat.le_refl _)⟩
            have x2 := HD7.out.row.cell (i := i) (by rw [HLEN.out]; exact hlt)
            rw [HCUR.out] at x2
            have hC7 : w7.cell? ⟨wr.heap.size, 0, none⟩ = some (.string (S x.work)) ∧ w7.cell? ⟨wr.heap.size, 2, none⟩ = some (.int .i64 x.cnt) ∧ w7.cell? ⟨g2, i, none⟩ = some (.int .i64 a) ∧ g2 < w7.heap.size := ⟨(hg7.cell hC0.1 (fun e => hpL (by injection e))), (hg7.cell hC0.2.1 (fun e => hpL (by injection e))), x2, HD7.out.row.lt⟩
            have fz := HD7.out.row.frozen i
            have hg2l := HD7.out.row.lt
            clear h7 hg7 hC0
            refine hQ _ _ (fun _ => hC7) ?_
            clear hQ Q
            have w2 := W2.out
            have w3 := W3.out
            refine plan_only rfl (fun Q hQ => ?_)
            go_wp2
            refine hQ _ _ (fun h => absurd h (by omega)) ?_
            clear hQ Q
            refine plan_only rfl (fun Q hQ => ?_)
            go_wp2
            refine hQ _ _ (fun h => absurd h (by omega)) ?_
            clear hQ Q
            refine plan_only rfl (fun Q hQ => ?_)
            go_wp2
            refine hQ _ _ (fun h => absurd h (by omega)) ?_
            clear hQ Q
            unfold Plan.wp
            clear w2 w3
            go_wp2
            go_roundw
            case rel => exact ⟨i + 1, by omega, by go_num, ⟨(by rw [HADD.out]; exact HD7.out.row.set i (a + m)), HD7.out.left.moved (Below.heap_setCell _ _ _ _ HN13.out), HD7.out.was.moved (Below.heap_setCell _ _ _ _ HN23.out), HD7.out.below.setCell (p := ⟨g2, i, none⟩) HLE2.out _⟩⟩
            case measure => simp [intOf]; omega
          · have hie : i = tl := by omega
            have hin : ¬ (i : Int) < (tl : Int) := by omega
            have HR : Hid (RowC wr g2 (partE r0 t last 2)) := Lib.hid (by
              have h := HAT.out.row
              have e1 := turn_end (r := r0) (t := t) (last := last) 1 (by omega)
              rw [HTl.out] at e1
              rw [hie, e1] at h
              exact h)
            have HB := Lib.hid HAT.out.below
            have HPL : Hid ((partE r0 t last 2).length = t.length) := Lib.hid (partE_len 2)
            have HTW := Lib.hid (bup HT.out HB.out)
            clear hie hlt hat HAT
            go_wp2_with (go_at_call 28; (with_reducible refine (bindsOf_any ta tl tc t g2 tl (partE r0 t last 2) wr HTW.out HOKT.out HR.out HPL.out).mono ?_); rintro e w9 ⟨v, rfl, hrow, hb9⟩
                         have HROW := Lib.hid hrow
                         have HB9 := Lib.hid hb9
                         clear hrow hb9)
            go_ret
            refine ⟨_, rfl, ?_, HB.out.trans (HB9.out.mono HB.out.size)⟩
            rw [HTRIM.out]
            have := HROW.out
            obtain ⟨k1, k2⟩ := this
            refine ⟨k1, ?_⟩
            rcases k2 with k2 | ⟨g, cp, cur, kv, kg, kr⟩
            · exact .inl k2
            · exact .inr ⟨g, cp, cur, kv, Nat.le_trans HB.out.size kg, kr⟩
  · have HS : Hid (trimN t last works allowed = []) := Lib.hid (by
      unfold trimN
      rw [if_neg (by rw [HWl.out, HAl.out]; exact hgood)])
    rw [HS.out]
    have e1 : ((wl : Int) != (al : Int)) = true := by rw [bne_iff_ne]; omega
    have e2 : ((wl : Int) == (al : Int)) = false := by rw [beq_eq_false_iff_ne]; omega
    have e3 : ¬ (wl : Int) = (al : Int) := by omega
    clear hgood
    go_enter Try.func12, Try.ntmps12
    go_wp2
    go_ret
    exact ⟨_, rfl, World.ownsRow_nil _ _ _ _, Below.refl _ _⟩
end Go.Proofs.Ytjkfiilnogacnaa
