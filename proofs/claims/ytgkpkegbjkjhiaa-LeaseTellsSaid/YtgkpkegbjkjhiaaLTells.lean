/-
  The statement LeaseTells is proved for every two numbers, script and binds: leases and a book answer as the document's do. No condition.
-/
import Derived.Deep.AppendLies
import Derived.Deep.DeepCutAuto
import Derived.Deep.CutBlock
import Derived.Test.YtgkpkegbjkjhiaaLawake
import Derived.Test.YtgkpkegbjkjhiaaLqheld
import Derived.Test.YtgkpkegbjkjhiaaOpen14
import Derived.Test.YtgkpkegbjkjhiaaCalm
import Derived.Test.YtgkpkegbjkjhiaaRows
namespace Go.Proofs.Ytgkpkegbjkjhiaa.lawLTells
open Go.ChangeShapes Go.WideShapes Go.ChangeAt Go.RowKit Gm

abbrev names4 : Obj := .cells #[.string { data := #[119, 97] }, .string { data := #[119, 98] }, .string { data := #[119, 99] }, .string { data := #[120] }] 9 (0, 0)
def nm4 (j : Nat) : Bs := ([[119, 97], [119, 98], [119, 99], [120]] : List Bs)[j]?.getD []
theorem nm4_len (j : Nat) : (nm4 j).length ≤ 2 := by
  unfold nm4
  rcases (show j = 0 ∨ j = 1 ∨ j = 2 ∨ j = 3 ∨ 4 ≤ j by omega) with h | h | h | h | h
  all_goals first
    | (subst h; decide)
    | (rw [List.getElem?_eq_none (by simpa using h)]; decide)
theorem names4_at {W : World} {g : Nat} (h : W.heap[g]? = some names4) {i : Nat} (hi : i < 4) : W.cell? ⟨g, i, none⟩ = some (.string (S (nm4 i))) := by
  rw [cell_of_row _ _ _ _ _ _ h]
  have : i = 0 ∨ i = 1 ∨ i = 2 ∨ i = 3 := by omega
  rcases this with rfl | rfl | rfl | rfl <;> rfl
abbrev M (w wr : World) (p q : Nat) (D : Bk) (bs : List (Nat × Obj)) : Prop := Held PBook QBook w wr p D q D bs
theorem on_below {w4 W W' : World} (h : Below w4.heap.size w4 W) (h' : Below W.heap.size W W') : Below w4.heap.size w4 W' := h.trans (h'.mono h.size)
/-- A row of n binds, whatever they are. -/
def Room (g : Nat) (o : Obj) (a : Option Addr) (n : Nat) : Prop := n = 0 ∨ (a = some ⟨g, 0, none⟩ ∧ ∃ cur : Array Value, o = .cells cur 39 (0, 0) ∧ n * 3 ≤ cur.size)
theorem rowg_room {g : Nat} {o : Obj} {a : Option Addr} {n c : Nat} {l : List Bd} (h : RowG g o (.slice a n c) l) : n = l.length ∧ Room g o a l.length := by
  obtain ⟨a', cap, hv, h1⟩ := h
  injection hv with e1 e2 e3
  subst e1 e2
  refine ⟨rfl, ?_⟩
  rcases h1 with rfl | ⟨ha, cur, hc, ht⟩
  · exact .inl rfl
  · refine .inr ⟨ha, cur, hc, ?_⟩
    have h := congrArg List.length ht
    have e : cur.toList.length = cur.size := Array.length_toList
    rw [bdsV_len, List.length_take, e] at h
    omega
/-- A row of the call's own is a block with it. -/
theorem row_g {w' : World} {n0 : Nat} {v : Value} {l : List Bd} (h : w'.ownsRow n0 39 3 v l.length (bdsV l)) : (v = .slice none 0 0 ∧ l = []) ∨ ∃ g o, RowG g o v l ∧ n0 ≤ g ∧ w'.heap[g]? = some o := by
  rcases h.2 with ⟨hv, h0⟩ | ⟨g, cap', cur, hv, hb, hh, hle, hm, hs, ht⟩
  · exact .inl ⟨hv, List.eq_nil_of_length_eq_zero h0⟩
  · exact .inr ⟨g, _, ⟨_, _, hv, .inr ⟨rfl, cur, rfl, ht⟩⟩, hb, hh⟩
/-- What a book is behind i rounds. -/
structure TlSt (D : Bk) (i : Nat) : Prop where
  ok : OkB D
  len : D.g.length ≤ i
theorem TlSt.sent {D : Bk} {i : Nat} (h : TlSt D i) (hi : i < 60) {v u : Int} {l : List Bd} (hv : I64 v) (hu : I64 u) (hl : OkL l) : TlSt (sentB D v u l) (i + 1) :=
  ⟨h.ok.sent (by have := h.len; omega) hv hu hl, by have := h.len; unfold sentB; simp; omega⟩
theorem TlSt.learn {D : Bk} {i : Nat} (h : TlSt D i) {v u : Int} {l : List Bd} (hv : I64 v) (hu : I64 u) (hl : OkL l) : TlSt (learnB D v u l) (i + 1) := ⟨h.ok.learn hv hu hl, by simp [learnB]⟩
theorem TlSt.acked {D : Bk} {i : Nat} (h : TlSt D i) (v : Int) : TlSt (ackedB D v) (i + 1) := ⟨h.ok.acked v, Nat.le_trans (List.length_filter_le _ _) (Nat.le_succ_of_le h.len)⟩
theorem TlSt.pass {D : Bk} {i : Nat} (h : TlSt D i) (t : Int) : TlSt (passB D t) (i + 1) := ⟨h.ok.pass t, Nat.le_trans (List.length_filter_le _ _) (Nat.le_succ_of_le h.len)⟩
theorem TlSt.more {D : Bk} {i : Nat} (h : TlSt D i) : TlSt D (i + 1) := ⟨h.ok, Nat.le_succ_of_le h.len⟩
theorem bindsN_ok (z : List Int) : OkL (bindsN z) := ⟨by have := bindsN_len z; omega, fun y hy => by
  obtain ⟨x, _, rfl⟩ := List.mem_map.1 hy
  have h1 := (bdN_ok x).1
  have h2 := (bdN_ok x).2.1
  have h3 := (bdN_ok x).2.2.1
  omega⟩
theorem binds_okL {B : Nat} {W : World} {a : Option Addr} {len : Nat} {l : List Bd} (h : BindsB B W a len l) (hl : len ≤ 1048576) : OkL l := by
  obtain ⟨h0, _, b, off, _, h2⟩ := h
  refine ⟨by omega, fun y hy => ?_⟩
  obtain ⟨i, hi, rfl⟩ := List.getElem_of_mem hy
  exact ⟨(h2 i hi).2.1.1, (h2 i hi).2.1.2.1⟩
theorem binds_to {B : Nat} {W : World} {a : Option Addr} {len : Nat} {l : List Bd} (h : BindsB B W a len l) : BindsAt W (fun _ => True) a len l := by
  obtain ⟨h0, _, b, off, h1, h2⟩ := h
  exact ⟨h0, b, off, h1.imp id fun h => ⟨h, trivial⟩, fun i hi => (h2 i hi).2.2⟩
theorem gb_none {A B : World} (h : A.grownBy B none) : Below A.heap.size A B := ⟨h.os, h.tape, h.output, h.size, fun j hj => h.block j hj (fun e => by cases e)⟩
/-- The binds are none of either book's. -/
theorem row_far {w wr : World} {p q : Nat} {D E : Bk} {g : Nat} {o : Obj} {bs : List (Nat × Obj)} {a : Option Addr} {n c : Nat} {l : List Bd} (h : RowG g o (.slice a n c) l) {R Q : Nat → Prop} (f : HeldR PBook QBook w wr p D q E ((g, o) :: bs) R Q) :
    BindsAt wr (fun b => b < wr.heap.size ∧ ¬ R b) a n l ∧ BindsAt wr (fun b => b < wr.heap.size ∧ ¬ Q b) a n l := by
  obtain ⟨f1, f2, f3, _⟩ := f.own _ (List.mem_cons_self ..)
  obtain ⟨la', lc', hve, hb'⟩ := h.at f1
  injection hve with hv1 hv2 hv3
  subst hv1 hv2
  have hl := (Array.getElem?_eq_some_iff.1 f1).1
  exact ⟨hb'.imp fun b hb => by subst hb; exact ⟨hl, f2⟩, hb'.imp fun b hb => by subst hb; exact ⟨hl, f3⟩⟩

set_option maxRecDepth 100000 in
set_option maxHeartbeats 8000000 in
theorem walk (now unt : Int) (a : Option Addr) (len cap : Nat) (l : List ActE) (xa : Option Addr) (xlen xcap : Nat) (xs : List Bd) (w : World) (n0 : I64 now) (n1 : I64 unt) (h0 : ActsAt w.heap.size w a len l) (hX : BindsB w.heap.size w xa xlen xs) :
    Calls Try.prog 3 #[.int .i64 now, .int .i64 unt, .slice a len cap, .slice xa xlen xcap] w fun e w' => e = .returned (.bool true) ∧ Below w.heap.size w w' := by
  have HT := Lib.hid h0
  have hlen := h0.2.1
  have HL := Lib.hid h0.1
  have HXS := Lib.hid hX
  have hxlen := hX.2.1
  have H0 := Lib.hid (Held.start w (default : Bk) (default : Bk))
  have N0 := Lib.hid n0
  have N1 := Lib.hid n1
  obtain ⟨u0, hu0⟩ : ∃ x, untilN now = x := ⟨_, rfl⟩
  obtain ⟨x1, hx1⟩ : ∃ x, holdsN now unt = x := ⟨_, rfl⟩
  obtain ⟨x2, hx2⟩ : ∃ x, overN now unt = x := ⟨_, rfl⟩
  have U0 := Lib.hid hu0
  have X1 := Lib.hid hx1
  have X2 := Lib.hid hx2
  clear h0 hX n0 n1 hu0 hx1 hx2
  go_enter Try.func3, Try.ntmps3
  go_wp2_with (go_at_call 9; refine (awake_any _).mono ?_; rintro e w1 ⟨rfl, hb1⟩; have h1 := H0.out.below nobody_law nobody_law hb1)
  go_wp2_with (go_at_call 10; refine (h1.pNew nobody_law now N0.out).mono ?_; rintro e w2 ⟨p, rfl, h2⟩)
  go_wp2_with (go_at_call 11; refine (h2.qNew pbook_law now N0.out).mono ?_; rintro e w3 ⟨q, rfl, h3⟩)
  have H3 := Lib.hid h3
  clear h1 h2 h3 hb1
  go_wp2_with (first
    | (go_at_call 12; (have hc := H3.out.pUntil pbook_law qbook_law now N0.out; rw [U0.out] at hc; with_reducible refine hc.mono ?_); rintro e w4 ⟨rfl, _, h4⟩)
    | (go_at_call 13; (have hc := quntil_any now w4 N0.out; rw [U0.out] at hc; with_reducible refine hc.mono ?_); rintro e w5 ⟨rfl, rfl⟩)
    | (go_at_call 14; (have hc := h4.pHolds pbook_law qbook_law now unt N0.out N1.out; rw [X1.out] at hc; with_reducible refine hc.mono ?_); rintro e w6 ⟨rfl, _, h6⟩)
    | (go_at_call 15; (have hc := qholds_any now unt w6 N0.out N1.out; rw [X1.out] at hc; with_reducible refine hc.mono ?_); rintro e w7 ⟨rfl, rfl⟩)
    | (go_at_call 16; (have hc := h6.pOver pbook_law qbook_law now unt N0.out N1.out; rw [X2.out] at hc; with_reducible refine hc.mono ?_); rintro e w8 ⟨rfl, _, h8⟩)
    | (go_at_call 17; (have hc := qover_any now unt w8 N0.out N1.out; rw [X2.out] at hc; with_reducible refine hc.mono ?_); rintro e w9 ⟨rfl, rfl⟩
       have HH : Hid (∃ D, TlSt D 0 ∧ M w w8 p q D []) := Lib.hid ⟨_, ⟨OkB.new now, by simp [newB]⟩, h8⟩
       clear h4 h6 h8))
  go_loopw [12] (fun iv wr => ∃ i, i ≤ len ∧ i ≤ 60 ∧ iv = .int .i64 (i : Int) ∧ ∃ D, TlSt D i ∧ M w wr p q D []) (fun iv _ => len - (intOf iv).toNat)
  case atStart => exact ⟨0, Nat.zero_le _, by omega, rfl, HH.out⟩
  case round =>
    obtain ⟨i, hi, hi60, rfl, hh⟩ := hrel
    clear HH
    by_cases hlt : i < len ∧ i < 60
    · obtain ⟨hl1, hl2⟩ := hlt
      obtain ⟨D, hst, hh⟩ := hh
      obtain ⟨_, _, b, off, ha, hc⟩ := HT.out
      have hil : i < l.length := by rw [HL.out]; exact hl1
      obtain ⟨hb, hx⟩ := hc i hil
      obtain rfl : a = some ⟨b, off, none⟩ := by
        rcases ha with h | h
        · omega
        · exact h
      obtain ⟨x, hxe⟩ : ∃ x, l[i] = x := ⟨_, rfl⟩
      rw [hxe] at hx
      obtain ⟨⟨b0, b1, b2⟩, c0, c1, c2, ka, kl, kc, c3, hk⟩ := hx
      replace c0 := (hh.to.cell (p := ⟨b, off + i * 4, none⟩) hb).trans c0
      replace c1 := (hh.to.cell (p := ⟨b, off + i * 4 + 1, none⟩) hb).trans c1
      replace c2 := (hh.to.cell (p := ⟨b, off + i * 4 + 2, none⟩) hb).trans c2
      replace c3 := (hh.to.cell (p := ⟨b, off + i * 4 + 3, none⟩) hb).trans c3
      have HB0 := Lib.hid b0
      have HB1 := Lib.hid b1
      have HB2 := Lib.hid b2
      have HKB := Lib.hid hk
      have hi0 : (0 : Int) ≤ (i : Int) := by omega
      have hi1 : (i : Int) < (len : Int) := by omega
      have hi2 : (i : Int) < 60 := by omega
      have hb' : b < wr.heap.size := Nat.lt_of_lt_of_le hb hh.size
      have h7 := hh.push pbook_law qbook_law (.cells #[.int .i64 x.what, .int .i64 x.ver, .int .i64 x.at_, .slice ka kl kc] 33)
      have H7 := Lib.hid h7
      have hblk := h7.own (List.mem_cons_self ..)
      have HST := Lib.hid hst
      clear ha hc hxe hil hh hst b0 b1 b2 hk h7
      obtain ⟨bl, hbl⟩ : ∃ y, bindsN x.l = y := ⟨_, rfl⟩
      have HBL := Lib.hid hbl
      have HOK : Hid (OkL bl) := Lib.hid (hbl ▸ bindsN_ok x.l)
      clear hbl
      obtain ⟨X, hX⟩ : ∃ X, wr.heap.size = X := ⟨_, rfl⟩
      rw [hX] at H7 hblk
      have HX := Lib.hid hX
      clear hX
      go_upto_region 11 with (go_at_call 18; (have hc := binds_g w.heap.size ka kl kc x.l _ (HKB.out.below H7.out.to) H7.out.size; rw [HBL.out] at hc; with_reducible refine hc.mono ?_); rintro e w5 ⟨lv, g, o, rfl, hrow, hg, ho, hb5⟩
                              obtain ⟨la, lc, rfl, hba⟩ := hrow.at ho
                              have h8 := H7.out.adopt pbook_law qbook_law hb5 hg ho
                              have H8 := Lib.hid h8
                              have HROW := Lib.hid hrow
                              have hHX := HX.out
                              clear h8 hba hc hrow hg ho hb5)
      obtain ⟨cc, hcc⟩ : ∃ c, decide (i = 3 ∧ xlen < 100) = c := ⟨_, rfl⟩
      have HC0 : Hid (i = 3 → xlen < 100 → cc = true) := Lib.hid (fun h k => by rw [← hcc]; exact decide_eq_true ⟨h, k⟩)
      have HC1 : Hid (cc = true → i = 3 ∧ xlen < 100) := Lib.hid (fun h => of_decide_eq_true (hcc.trans h))
      have HC2 : Hid (¬ (i = 3 ∧ xlen < 100) → cc = false) := Lib.hid (fun h => by rw [← hcc]; exact decide_eq_false h)
      clear hcc
      go_cut [77] from 71 to 76 (fun s77 wx => s77 = .bool cc ∧ w5 = wx)
      case first =>
        by_cases hi3 : i = 3
        · subst hi3
          by_cases hap : xlen < 100
          · have hap3 : (xlen : Int) < 100 := by omega
            have E1 := Lib.hid (HC0.out rfl hap)
            go_wp2
            go_meet
            rw [E1.out]
            exact ⟨rfl, rfl⟩
          · have hap3 : ¬ (xlen : Int) < 100 := by omega
            have E1 := Lib.hid (HC2.out fun h => hap h.2)
            go_wp2
            go_meet
            rw [E1.out]
            exact ⟨rfl, rfl⟩
        · have hap3 : ¬ (i : Int) = 3 := by omega
          have E1 := Lib.hid (HC2.out fun h => hi3 h.1)
          go_wp2
          go_meet
          rw [E1.out]
          exact ⟨rfl, rfl⟩
      case rest =>
      obtain ⟨rfl, rfl⟩ := hcut
      clear HC0 HC2
      go_upto_if 77 with fail
      go_cut [14] from 78 to 79 (fun s14 wx => ∃ g o bl la lc, s14 = .slice la bl.length lc ∧ RowG g o (.slice la bl.length lc) bl ∧ OkL bl ∧ M w wx p q D [(g, o), (X, .cells #[.int .i64 x.what, .int .i64 x.ver, .int .i64 x.at_, .slice ka kl kc] 33)])
      case first =>
        rcases Bool.eq_false_or_eq_true cc with rfl | rfl
        · have hap2 := (HC1.out rfl).2
          have hxat := HXS.out.below H8.out.to
          obtain ⟨v', wn, hr1, hr2, hr3⟩ := append_binds (cap := xcap) (binds_to hxat) (by omega)
          have HNB := Lib.hid (gb_none hr3)
          have HR2 := Lib.hid hr2
          have HAP := Lib.hid hr1
          clear hr1 hr2 hr3
          go_wp2_with (at_builtin; refine wpList_append_any rfl _ _ _ _ rfl _ _ _ _ rfl rfl HAP.out ?_)
          go_meet
          have hgo := H8.out.below pbook_law qbook_law HNB.out
          rcases row_g HR2.out with ⟨e1, e2⟩ | ⟨g', o', e1, e2, e3⟩
          · exact ⟨g, o, [], none, 0, e1, ⟨none, 0, rfl, .inl rfl⟩, ⟨by simp, by simp⟩, hgo⟩
          · obtain ⟨la', lc', hv', _⟩ := e1.at e3
            have h9 := (H8.out.adopt pbook_law qbook_law HNB.out e2 e3).less (cs := [(g', o'), (X, .cells #[.int .i64 x.what, .int .i64 x.ver, .int .i64 x.at_, .slice ka kl kc] 33)]) (by simp)
            exact ⟨g', o', xs, la', lc', hv', hv' ▸ e1, binds_okL HXS.out (by omega), h9⟩
        · go_wp2
          go_meet
          exact ⟨g, o, bl, la, lc, rfl, HROW.out, HOK.out, H8.out⟩
      case rest =>
      clear HROW HBL HOK H8 HC1 HKB
      obtain ⟨g, o, bl, la, lc, rfl, hrow, hok, h9⟩ := hcut
      have HROW := Lib.hid hrow
      have HOK := Lib.hid hok
      have H9 := Lib.hid h9
      have hX9 := h9.own (g := X) (o := .cells #[.int .i64 x.what, .int .i64 x.ver, .int .i64 x.at_, .slice ka kl kc] 33) (by simp)
      have y0 : wc.cell? ⟨X, 0, none⟩ = some (.int .i64 x.what) := cell_of_row _ _ _ _ _ _ hX9
      have y1 : wc.cell? ⟨X, 1, none⟩ = some (.int .i64 x.ver) := cell_of_row _ _ _ _ _ _ hX9
      have y2 : wc.cell? ⟨X, 2, none⟩ = some (.int .i64 x.at_) := cell_of_row _ _ _ _ _ _ hX9
      have hXl := (Array.getElem?_eq_some_iff.1 hX9).1
      have hp0 := pk_bd x.what 6 (by omega)
      obtain ⟨k, hk⟩ : ∃ k, pk x.what 6 = k := ⟨_, rfl⟩
      rw [hk] at hp0
      have HW := Lib.hid hk
      have hk6 : k = 0 ∨ k = 1 ∨ k = 2 ∨ k = 3 ∨ k = 4 ∨ k = 5 := by omega
      clear hrow hok h9 hX9 hk hp0 c0 c1 c2 c3 hblk
      go_upto_block 2 with (go_at_call 19; (have hc := pick_any x.what 6 wc HB0.out (by omega) (by omega); rw [HW.out] at hc; with_reducible refine hc.mono ?_); rintro e w6 ⟨rfl, rfl⟩)
      go_cut [83] from 84 to 135 (fun _ wx => ∃ D', TlSt D' (i + 1) ∧ M w wx p q D' [(g, o)])
      case first =>
        rcases hk6 with rfl | rfl | rfl | rfl | rfl | rfl
        · go_wp2_with (first
            | (go_at_call 20; (with_reducible refine (H9.out.pLearn qbook_law HST.out.ok x.ver x.at_ lc HB1.out HB2.out (fun _ _ f => (row_far HROW.out f).1) HOK.out).mono ?_); rintro e w7 ⟨rfl, h11⟩
               have hX9 := h11.own (g := X) (o := .cells #[.int .i64 x.what, .int .i64 x.ver, .int .i64 x.at_, .slice ka kl kc] 33) (by simp)
               have y0 : w7.cell? ⟨X, 0, none⟩ = some (.int .i64 x.what) := cell_of_row _ _ _ _ _ _ hX9
               have y1 : w7.cell? ⟨X, 1, none⟩ = some (.int .i64 x.ver) := cell_of_row _ _ _ _ _ _ hX9
               have y2 : w7.cell? ⟨X, 2, none⟩ = some (.int .i64 x.at_) := cell_of_row _ _ _ _ _ _ hX9
               have hXl7 := (Array.getElem?_eq_some_iff.1 hX9).1
               clear hX9)
            | (go_at_call 21; (with_reducible refine (h11.qLearn pbook_law x.ver x.at_ lc HB1.out HB2.out (fun _ _ f => (row_far HROW.out f).2) HOK.out).mono ?_); rintro e w8 ⟨rfl, h12⟩
               have H12 := Lib.hid (h12.less (cs := [(g, o)]) (by simp))
               clear h12))
          go_meet
          exact ⟨_, HST.out.learn HB1.out HB2.out HOK.out, H12.out⟩
        · go_wp2_with (first
            | (go_at_call 22; (with_reducible refine (H9.out.pSent qbook_law HST.out.ok (by have := HST.out.len; omega) x.ver x.at_ lc HB1.out HB2.out (fun _ _ f => (row_far HROW.out f).1) HOK.out).mono ?_); rintro e w7 ⟨rfl, h11⟩
               have hX9 := h11.own (g := X) (o := .cells #[.int .i64 x.what, .int .i64 x.ver, .int .i64 x.at_, .slice ka kl kc] 33) (by simp)
               have y0 : w7.cell? ⟨X, 0, none⟩ = some (.int .i64 x.what) := cell_of_row _ _ _ _ _ _ hX9
               have y1 : w7.cell? ⟨X, 1, none⟩ = some (.int .i64 x.ver) := cell_of_row _ _ _ _ _ _ hX9
               have y2 : w7.cell? ⟨X, 2, none⟩ = some (.int .i64 x.at_) := cell_of_row _ _ _ _ _ _ hX9
               have hXl7 := (Array.getElem?_eq_some_iff.1 hX9).1
               clear hX9)
            | (go_at_call 23; (with_reducible refine (h11.qSent pbook_law (by have := HST.out.len; omega) x.ver x.at_ lc HB1.out HB2.out (fun _ _ f => (row_far HROW.out f).2) HOK.out).mono ?_); rintro e w8 ⟨rfl, h12⟩
               have H12 := Lib.hid (h12.less (cs := [(g, o)]) (by simp))
               clear h12))
          go_meet
          exact ⟨_, HST.out.sent hl2 HB1.out HB2.out HOK.out, H12.out⟩
        · go_wp2_with (first
            | (go_at_call 22; (with_reducible refine (H9.out.pSent qbook_law HST.out.ok (by have := HST.out.len; omega) x.ver x.at_ lc HB1.out HB2.out (fun _ _ f => (row_far HROW.out f).1) HOK.out).mono ?_); rintro e w7 ⟨rfl, h11⟩
               have hX9 := h11.own (g := X) (o := .cells #[.int .i64 x.what, .int .i64 x.ver, .int .i64 x.at_, .slice ka kl kc] 33) (by simp)
               have y0 : w7.cell? ⟨X, 0, none⟩ = some (.int .i64 x.what) := cell_of_row _ _ _ _ _ _ hX9
               have y1 : w7.cell? ⟨X, 1, none⟩ = some (.int .i64 x.ver) := cell_of_row _ _ _ _ _ _ hX9
               have y2 : w7.cell? ⟨X, 2, none⟩ = some (.int .i64 x.at_) := cell_of_row _ _ _ _ _ _ hX9
               have hXl7 := (Array.getElem?_eq_some_iff.1 hX9).1
               clear hX9)
            | (go_at_call 23; (with_reducible refine (h11.qSent pbook_law (by have := HST.out.len; omega) x.ver x.at_ lc HB1.out HB2.out (fun _ _ f => (row_far HROW.out f).2) HOK.out).mono ?_); rintro e w8 ⟨rfl, h12⟩
               have H12 := Lib.hid (h12.less (cs := [(g, o)]) (by simp))
               clear h12))
          go_meet
          exact ⟨_, HST.out.sent hl2 HB1.out HB2.out HOK.out, H12.out⟩
        · go_wp2_with (first
            | (go_at_call 24; (with_reducible refine (H9.out.pAcked qbook_law HST.out.ok x.ver HB1.out).mono ?_); rintro e w7 ⟨rfl, h11⟩
               have hX9 := h11.own (g := X) (o := .cells #[.int .i64 x.what, .int .i64 x.ver, .int .i64 x.at_, .slice ka kl kc] 33) (by simp)
               have y0 : w7.cell? ⟨X, 0, none⟩ = some (.int .i64 x.what) := cell_of_row _ _ _ _ _ _ hX9
               have y1 : w7.cell? ⟨X, 1, none⟩ = some (.int .i64 x.ver) := cell_of_row _ _ _ _ _ _ hX9
               have y2 : w7.cell? ⟨X, 2, none⟩ = some (.int .i64 x.at_) := cell_of_row _ _ _ _ _ _ hX9
               have hXl7 := (Array.getElem?_eq_some_iff.1 hX9).1
               clear hX9)
            | (go_at_call 25; (with_reducible refine (h11.qAcked pbook_law HST.out.ok x.ver HB1.out).mono ?_); rintro e w8 ⟨rfl, h12⟩
               have H12 := Lib.hid (h12.less (cs := [(g, o)]) (by simp))
               clear h12))
          go_meet
          exact ⟨_, HST.out.acked x.ver, H12.out⟩
        · go_wp2_with (first
            | (go_at_call 26; (with_reducible refine (H9.out.pPass qbook_law HST.out.ok x.at_ HB2.out).mono ?_); rintro e w7 ⟨rfl, h11⟩
               have hX9 := h11.own (g := X) (o := .cells #[.int .i64 x.what, .int .i64 x.ver, .int .i64 x.at_, .slice ka kl kc] 33) (by simp)
               have y0 : w7.cell? ⟨X, 0, none⟩ = some (.int .i64 x.what) := cell_of_row _ _ _ _ _ _ hX9
               have y1 : w7.cell? ⟨X, 1, none⟩ = some (.int .i64 x.ver) := cell_of_row _ _ _ _ _ _ hX9
               have y2 : w7.cell? ⟨X, 2, none⟩ = some (.int .i64 x.at_) := cell_of_row _ _ _ _ _ _ hX9
               have hXl7 := (Array.getElem?_eq_some_iff.1 hX9).1
               clear hX9)
            | (go_at_call 27; (with_reducible refine (h11.qPass pbook_law HST.out.ok x.at_ HB2.out).mono ?_); rintro e w8 ⟨rfl, h12⟩
               have H12 := Lib.hid (h12.less (cs := [(g, o)]) (by simp))
               clear h12))
          go_meet
          exact ⟨_, HST.out.pass x.at_, H12.out⟩
        · go_wp2
          go_meet
          exact ⟨D, HST.out.more, H9.out.less (cs := [(g, o)]) (by simp)⟩
      case rest =>
      obtain ⟨D', hst', h10⟩ := hcut
      have HST' := Lib.hid hst'
      have H10 := Lib.hid h10
      clear hst' h10 y0 y1 y2 hXl H9 HST HB0 HB1 HB2 hk6 HW
      have HRM := Lib.hid (rowg_room HROW.out).2
      have hbl0 := HOK.out.1
      go_wp2
      go_loopw [15] (fun jv wj => ∃ j : Nat, j ≤ bl.length ∧ jv = .int .i64 (j : Int) ∧ ∃ o', Room g o' la bl.length ∧ M w wj p q D' [(g, o')]) (fun jv _ => bl.length - (intOf jv).toNat)
      case atStart => exact ⟨0, Nat.zero_le _, rfl, o, HRM.out, H10.out⟩
      case round =>
        obtain ⟨j, hj, rfl, o', hro, hm⟩ := hrel
        clear HRM H10 HROW HOK
        by_cases hjb : j < bl.length
        · have hro' : la = some ⟨g, 0, none⟩ ∧ ∃ cur : Array Value, o' = .cells cur 39 (0, 0) ∧ bl.length * 3 ≤ cur.size := by
            rcases hro with h | h
            · omega
            · exact h
          obtain ⟨rfl, cur, rfl, hcz⟩ := hro'
          have hgo := hm.own (List.mem_cons_self ..)
          have hgl := (Array.getElem?_eq_some_iff.1 hgo).1
          obtain ⟨v0, hv0⟩ : ∃ v, cur[j * 3 + 2]? = some v := ⟨_, Array.getElem?_eq_getElem (by omega)⟩
          have hgc : wr.cell? ⟨g, j * 3 + 2, none⟩ = some v0 := by rw [cell_of_row _ _ _ _ _ _ hgo]; exact hv0
          have hgf : wr.frozen? ⟨g, j * 3 + 2, none⟩ = false := by simp [World.frozen?, hgo]
          have HN := Lib.hid (Held.set pbook_law qbook_law hm (j * 3 + 2) (.int .i64 (-7)))
          have hj0 : (0 : Int) ≤ (j : Int) := by omega
          have hj1 : (j : Int) < (bl.length : Int) := by omega
          clear hro hm hgo hv0
          go_wp2
          go_roundw
          case rel => exact ⟨j + 1, by omega, by go_num, _, .inr ⟨rfl, _, rfl, by simpa using hcz⟩, HN.out⟩
          case measure => simp [intOf]; omega
        · obtain rfl : j = bl.length := by omega
          have HE := Lib.hid hm.pop
          obtain ⟨ku, hku⟩ : ∃ y, D'.unknown = y := ⟨_, rfl⟩
          have HKU := Lib.hid hku
          clear hm hro hku
          go_wp2_with (first
            | (go_at_call 28; (have hc := HE.out.pKnown qbook_law; rw [HKU.out] at hc; with_reducible refine hc.mono ?_); rintro e w9 ⟨rfl, _, h13⟩)
            | (go_at_call 29; (have hc := h13.qKnown pbook_law; rw [HKU.out] at hc; with_reducible refine hc.mono ?_); rintro e w10 ⟨rfl, _, h14⟩
               have H15 := Lib.hid (h14.push pbook_law qbook_law names4)
               clear h13 h14))
          obtain ⟨N, hN⟩ : ∃ N, w10.heap.size = N := ⟨_, rfl⟩
          obtain ⟨w11, hw11⟩ : ∃ W, w10.alloc names4 = W := ⟨_, rfl⟩
          have HN4 : Hid (M w w11 p q D' [(N, names4)]) := Lib.hid (by have h := H15.out; rw [hN, hw11] at h; exact h)
          rw [hN, hw11]
          clear hN hw11 H15 HE
          go_loopw [17] (fun jv wj => ∃ j : Nat, j ≤ 4 ∧ jv = .int .i64 (j : Int) ∧ M w wj p q D' [(N, names4)]) (fun jv _ => 4 - (intOf jv).toNat)
          case atStart => exact ⟨0, by omega, rfl, HN4.out⟩
          case round =>
            obtain ⟨j, hj, rfl, hm⟩ := hrel
            clear HN4
            by_cases hj4 : j < 4
            · have hNo := hm.own (g := N) (o := names4) (by simp)
              have hnm := names4_at hNo hj4
              have hNl := (Array.getElem?_eq_some_iff.1 hNo).1
              have HM := Lib.hid hm
              have hj0 : (0 : Int) ≤ (j : Int) := by omega
              have hj1 : (j : Int) < 4 := by omega
              clear hm hNo
              obtain ⟨kj, hkj⟩ : ∃ k, nm4 j = k := ⟨_, rfl⟩
              have hkl : kj.length ≤ 1048576 := by have := nm4_len j; rw [hkj] at this; omega
              rw [hkj] at hnm
              obtain ⟨hv, hhv⟩ : ∃ v, heldB D' kj = v := ⟨_, rfl⟩
              have HV := Lib.hid hhv
              have HNM : Hid (wr.cell? ⟨N, j, none⟩ = some (.string (S kj))) := Lib.hid hnm
              have bv := held_bd HST'.out.ok kj
              rw [hhv] at bv
              clear hkj hhv
              go_wp2
              have hbd := (Below.refl wr.heap.size wr).drew
              (refine region_calm (fun W => Below wr.heap.size wr W) (by kernel_rfl) (by kernel_rfl) (hbd) ?_
               repeat (
                 refine wpQuiet_step (fun K hK => ?_)
                 first
                   | (refine calm_neg ?_ ?_
                      focus (go_simp; done)
                      go_simp
                      refine hK _ ?_
                      clear hK K)
                   | (apply calm_pos
                      focus (go_simp; done)
                      focus (
                        intro W hW
                        (have d0 := (hW.cell (p := ⟨N, j, none⟩) hNl).trans HNM.out)
                        go_simp
                        first
                          | done
                          | exact rfl
                          | (first
                              | (go_at_call 30; (have hc := (HM.out.below pbook_law qbook_law hW).pHeld qbook_law HST'.out.ok kj hkl; rw [HV.out] at hc; with_reducible refine hc.mono ?_); rintro e w12 ⟨rfl, hb12, _⟩; exact ⟨rfl, on_below hW hb12⟩)
                              | (go_at_call 31; (have hc := (HM.out.below pbook_law qbook_law hW).qHeld pbook_law HST'.out.ok kj; rw [HV.out] at hc; with_reducible refine hc.mono ?_); rintro e w12 ⟨rfl, hb12, _⟩; exact ⟨rfl, on_below hW hb12⟩)))
                      go_simp
                      refine hK _ ?_
                      clear hK K))
               refine wpQuiet_nil ?_)
              intro w13 hb13
              have H13 := Lib.hid (HM.out.below pbook_law qbook_law hb13)
              clear hb13 hbd
              go_wp2
              go_roundw
              case rel => exact ⟨j + 1, by omega, by go_num, H13.out⟩
              case measure => simp [intOf]; omega
            · obtain rfl : j = 4 := by omega
              have HF := Lib.hid hm.pop
              clear hm hj4
              go_wp2
              go_roundw
              case rel => exact ⟨i + 1, by omega, by omega, by go_num, D', HST'.out, HF.out⟩
              case measure => simp [intOf]; omega
    · obtain ⟨D, hst, hh⟩ := hh
      have HB := Lib.hid hh.to
      by_cases hl1 : i < len
      · obtain rfl : i = 60 := by omega
        have h1 : ((60 : Nat) : Int) < (len : Int) := by omega
        clear hlt hst hh
        go_wp2
        go_ret
        exact ⟨rfl, HB.out⟩
      · obtain rfl : i = len := by omega
        clear hlt hst hh
        go_wp2
        go_ret
        exact ⟨rfl, HB.out⟩
theorem own : ownKnob Try.prog.godebug = none := by kernel_rfl
theorem laidOut : laidOutB Try.prog = true := by kernel_rfl

set_option maxRecDepth 100000 in
theorem lifted (os : Os) (started : os.Started) (H : Type) (enc : TypeId × Value → H) :
    ReturnsInHanded {} Try.checked os 3 .any (Rows.leaseTellsSpec.pre6 enc Try.prog Try.f3 Rows.leaseTellsRow.domain false) (Rows.leaseTellsSpec.post enc Try.prog Try.f3 false true false false) := by
  refine returnsInHanded_of_change_sized (C := Try.checked) own started (by kernel_rfl) Try.func3
    (ChangeSpec.witness6 (enc := enc) (C := Try.checked) false ⟨#[], #[.int .i64 0, .int .i64 0, .slice none 0 0, .slice none 0 0], []⟩ 8 (by kernel_rfl) (by kernel_rfl) (by kernel_rfl) (by kernel_rfl)) ?_
  intro W base args ds gs before hval0 hW _ hsz0 _
  have hsz : (DataW.weightsEach Try.prog (Try.f3.params.toList ++ Rows.leaseTellsSpec.plain.varTypes Try.prog) (ds ++ gs)).all (· ≤ reachBytes) = true := hsz0
  have hval : ∀ (j : Nat) t v, Try.f3.params[j]? = some t → args[j]? = some v → Value.okWide Try.prog W .any base t v := hval0
  have hW' := hW
  obtain ⟨p, q, hA0, hV, rfl, hfz, hnd⟩ := hW
  have hA : DataW.TrodAll enc Try.prog W 0 (fun _ => true) true Try.f3.params.toList args.toList ds p := hA0
  rw [Try.params3] at hA hval hsz
  obtain ⟨v0, vs0, d0, ds0, p0, q0, hargs, rfl, rfl, h0, r0⟩ := trodAll_cons hA
  obtain ⟨v1, vs1, d1, ds1, p1, q1, rfl, rfl, rfl, h1, r1⟩ := trodAll_cons r0
  obtain ⟨v2, vs2, d2, ds2, p2, q2, rfl, rfl, rfl, h2, r2⟩ := trodAll_cons r1
  obtain ⟨v3, vs3, d3, ds3, p3, q3, rfl, rfl, rfl, h3, r3⟩ := trodAll_cons r2
  obtain ⟨rfl, rfl, rfl⟩ := trodAll_nil r3
  obtain rfl : args = #[v0, v1, v2, v3] := by cases args; simp_all
  obtain ⟨rfl, rfl⟩ := trodVars_none hV
  have k0 := h0
  have lt0 : ∀ x ∈ p0, x.block < W.heap.size := by obtain ⟨m, hm⟩ := k0; exact DataW.trod_lt m _ _ _ hm
  have k1 := h1
  have lt1 : ∀ x ∈ p1, x.block < W.heap.size := by obtain ⟨m, hm⟩ := k1; exact DataW.trod_lt m _ _ _ hm
  have k2 := h2
  have lt2 : ∀ x ∈ p2, x.block < W.heap.size := by obtain ⟨m, hm⟩ := k2; exact DataW.trod_lt m _ _ _ hm
  have k3 := h3
  have lt3 : ∀ x ∈ p3, x.block < W.heap.size := by obtain ⟨m, hm⟩ := k3; exact DataW.trod_lt m _ _ _ hm
  obtain ⟨a0, rfl, rfl, rfl, w0⟩ := open_int Try.underlying3 (hval 0 3 v0 rfl rfl) h0
  have b0 := in_of_wf w0
  obtain ⟨a1, rfl, rfl, rfl, w1⟩ := open_int Try.underlying3 (hval 1 3 v1 rfl rfl) h1
  have b1 := in_of_wf w1
  obtain ⟨a2, len2, cap2, rfl⟩ := okWide_slice Try.underlying22 (hval 2 22 v2 rfl rfl)
  obtain ⟨z2, b2⟩ := acts_of k2 (weights_at hsz (j := 2) (t := 22) rfl rfl)
  obtain ⟨a3, len3, cap3, rfl⟩ := okWide_slice Try.underlying23 (hval 3 23 v3 rfl rfl)
  obtain ⟨z3, b3⟩ := binds_of k3 (weights_at hsz (j := 3) (t := 23) rfl rfl)
  clear hA0 hval0 hsz0 hsz
  refine (walk a0 a1 a2 len2 cap2 z2 a3 len3 cap3 z3 W b0 b1 b2 b3).mono fun e W' ⟨he, bel⟩ => ?_
  subst he
  exact ⟨_, rfl, _, _, _, [], _, [], hW', trodAll_mk1 (shut_bool Try.underlying4 _), (trodAll_cons_mk (Below.trod laidOut (by kernel_rfl) (of_decide_eq_true (by kernel_rfl)) k0 bel lt0) (trodAll_cons_mk (Below.trod laidOut (by kernel_rfl) (of_decide_eq_true (by kernel_rfl)) k1 bel lt1) (trodAll_cons_mk (Below.trod laidOut (by kernel_rfl) (of_decide_eq_true (by kernel_rfl)) k2 bel lt2) (trodAll_cons_mk (Below.trod laidOut (by kernel_rfl) (of_decide_eq_true (by kernel_rfl)) k3 bel lt3) trodAll_mk0)))), rfl, bel.frame _, fun h => by cases h⟩

theorem over : Rows.leaseTellsRow.holds Try.pinned (OpenSpec.ofChange Rows.leaseTellsSpec) :=
  OpenClaim.holds_of_wide 3 Try.f3 rfl rfl rfl rfl rfl rfl rfl ⟨rfl, rfl, rfl, rfl, rfl⟩ rfl rfl rfl rfl rfl (by kernel_rfl) Try.func3 (by kernel_rfl)
    (of_decide_eq_true (by kernel_rfl)) (by unfold Func.isWrapper; first | (rw [if_pos (by decide +kernel)]; kernel_rfl) | (rw [if_neg (by decide +kernel)]; exact ⟨rfl, rfl⟩))
    (fun os started H enc _ => lifted os started H enc)

theorem proved : Rows.LeaseTellsSaid := over
end Go.Proofs.Ytgkpkegbjkjhiaa.lawLTells
