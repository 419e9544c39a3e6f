/-
  The statement LeaseHeld is proved for every script: what a cell runs by grants that it was sent is never more than is held. No condition.
-/
import Derived.Deep.AppendLies
import Derived.Deep.DeepCutAuto
import Derived.Deep.CutBlock
import Derived.Test.YtgkpkegbjkjhiaaLcalls
import Derived.Test.YtgkpkegbjkjhiaaLheldn
import Derived.Test.YtgkpkegbjkjhiaaLsents
import Derived.Test.YtgkpkegbjkjhiaaLskew
import Derived.Test.YtgkpkegbjkjhiaaOpen14
import Derived.Test.YtgkpkegbjkjhiaaRows
namespace Go.Proofs.Ytgkpkegbjkjhiaa.lawLHeldL
open Go.ChangeShapes Go.WideShapes Go.ChangeAt Go.RowKit Gm

abbrev names3 : Obj := .cells #[.string { data := #[119, 97] }, .string { data := #[119, 98] }, .string { data := #[119, 99] }] 9 (0, 0)
theorem names3_at {W : World} {g : Nat} (h : W.heap[g]? = some names3) {i : Nat} (hi : i < 3) : W.cell? ⟨g, i, none⟩ = some (.string (S (nm3 i))) := by
  rw [cell_of_row _ _ _ _ _ _ h]
  have : i = 0 ∨ i = 1 ∨ i = 2 := by omega
  rcases this with rfl | rfl | rfl <;> rfl
abbrev BX (sa : Option Addr) (sl sc : Nat) : Obj := .cells #[.slice sa sl sc] 31
abbrev M (w wr : World) (p : Nat) (D : Bk) (X : SX) (bs : List (Nat × Obj)) : Prop := Held PBook Sents w wr p D 0 X bs

theorem clock {w W : World} {p : Nat} {D : Bk} {X : SX} {bs : List (Nat × Obj)} (h : M w W p D X bs) {sa : Option Addr} {sl sc : Nat} (hm : (w.heap.size, BX sa sl sc) ∈ bs) {sk : List Int} (hs : KeepB w.heap.size w sa sl sk) {i : Nat} (hi : i ≤ 1000) {s : Int} (hx : skN sk i = s) :
    Calls Try.prog 34 #[.int .i64 (i : Int), .pointer (some ⟨w.heap.size, 0, none⟩)] W fun e w' => e = .returned (.int .i64 s) ∧ Below W.heap.size W w' ∧ M w w' p D X bs := by
  have hc := skewc_any w.heap.size w.heap.size sa sl sc sk i W (hs.below h.to) h.size (cell_of_row _ _ _ _ _ _ (h.own hm)) (Array.getElem?_eq_some_iff.1 (h.own hm)).1 hi
  rw [hx] at hc
  exact hc.mono fun _ _ ⟨h1, h2⟩ => ⟨h1, h2, h.below pbook_law sents_law h2⟩
theorem clock' {w W : World} {p : Nat} {D : Bk} {X : SX} {bs : List (Nat × Obj)} (h : M w W p D X bs) {sa : Option Addr} {sl sc : Nat} (hm : (w.heap.size, BX sa sl sc) ∈ bs) {sk : List Int} (hs : KeepB w.heap.size w sa sl sk) {i : Nat} (hi : i ≤ 1000) {s : Int} (hx : skN sk i = s) {iv : Int} (he : (i : Int) = iv) :
    Calls Try.prog 34 #[.int .i64 iv, .pointer (some ⟨w.heap.size, 0, none⟩)] W fun e w' => e = .returned (.int .i64 s) ∧ Below W.heap.size W w' ∧ M w w' p D X bs := he ▸ clock h hm hs hi hx
theorem on_below {w4 W W' : World} (h : Below w4.heap.size w4 W) (h' : Below W.heap.size W W') : Below w4.heap.size w4 W' := h.trans (h'.mono h.size)
theorem sent_last {w0 w : World} {p : Nat} {D : Bk} {X : SX} {bs : List (Nat × Obj)} {R Q : Nat → Prop} (f : HeldR PBook Sents w0 w p D 0 X bs R Q) {r0 : List (List Bd × Value)} {bl : List Bd} {a : Option Addr} {c : Nat} (hr : X.rows = r0 ++ [(bl, .slice a bl.length c)]) : BindsAt w (fun b => b < w.heap.size ∧ ¬ R b) a bl.length bl := by
  obtain ⟨hQ, hs⟩ := f.b
  have hm : (bl, Value.slice a bl.length c) ∈ X.rows := by rw [hr]; simp
  obtain ⟨a', c', hv', _, hb⟩ := binds_own (hs.each _ hm)
  injection hv' with e1 e2 e3
  subst e1
  exact hb.imp fun b hb => by
    have hB : SBlk X b := .inr (.inr ⟨_, hm, hb⟩)
    exact ⟨hs.lt hB, fun hr => f.ne b hr ((hQ b).2 hB)⟩
theorem turn2 {w W W' : World} {p : Nat} {D : Bk} {X X' : SX} {bs : List (Nat × Obj)} (h : M w W p D X bs) (hc : ∀ Q : Nat → Prop, (∀ b, Q b ↔ SBlk X b) → SAt W X → Turn Sents W W' 0 X' Q) : M w W' p D X' bs := by
  obtain ⟨Q, R, f⟩ := Held.swap h
  exact (f.turn pbook_law (hc Q f.a.1 f.a.2)).swap
theorem sat_of {w W : World} {p : Nat} {D : Bk} {X : SX} {bs : List (Nat × Obj)} (h : M w W p D X bs) : SAt W X := by obtain ⟨R, Q, f⟩ := h; exact f.b.2
theorem news_one {W : World} {g : Nat} {v : Value} {t : TypeId} (h : W.heap[g]? = some (.cells #[v] t (0, 0))) : ∀ j u, [v][j]? = some u → W.cell? ((⟨g, 0, none⟩ : Addr).add j) = some u := by
  intro j u hj
  have hadd : (⟨g, 0, none⟩ : Addr).add j = ⟨g, j, none⟩ := by unfold Addr.add; split <;> simp_all
  rw [hadd, cell_of_row _ _ _ _ _ _ h]
  rw [← hj]
  cases j <;> rfl
theorem infoBds : (Try.prog.info? 23).map (fun i => (i.zero, i.size, i.bytes)) = some (some (.slice none 0 0), 1, 24) := by kernel_rfl
theorem infoIn : (Try.prog.info? 3).map (fun i => (i.zero, i.size, i.bytes)) = some (some (.int .i64 0), 1, 8) := by kernel_rfl
theorem sent_far {w0 w : World} {p : Nat} {D : Bk} {X : SX} {bs : List (Nat × Obj)} {R Q : Nat → Prop} (f : HeldR PBook Sents w0 w p D 0 X bs R Q) {i : Nat} (hi : i < X.rows.length) {a : Option Addr} {n c : Nat} (hv : X.rows[i].2 = .slice a n c) : BindsAt w (fun b => b < w.heap.size ∧ ¬ R b) a n X.rows[i].1 := by
  obtain ⟨hQ, hs⟩ := f.b
  obtain ⟨g, cp, _, _, _, a', c', hv', hb⟩ := hs.row hi
  rw [hv] at hv'
  injection hv' with e1 e2 e3
  subst e1 e2
  exact hb.imp fun b hb => ⟨hs.lt hb, fun hr => f.ne b hr ((hQ b).2 hb)⟩
set_option maxRecDepth 100000 in
set_option maxHeartbeats 8000000 in
theorem walk (fa : Option Addr) (fl fc : Nat) (first : List Int) (a : Option Addr) (len cap : Nat) (l : List ActE) (sa : Option Addr) (sl sc : Nat) (sk : List Int) (w : World) (hf : KeepB w.heap.size w fa fl first) (h0 : ActsAt w.heap.size w a len l) (hs : KeepB w.heap.size w sa sl sk) :
    Calls Try.prog 6 #[.slice fa fl fc, .slice a len cap, .slice sa sl sc] w fun e w' => e = .returned (.bool true) ∧ Below w.heap.size w w' := by
  have HT := Lib.hid h0
  have hlen := h0.2.1
  have HL := Lib.hid h0.1
  have HF := Lib.hid hf
  have HS := Lib.hid hs
  have H0 := Lib.hid ((Held.start w (default : Bk) (default : SX)).push nobody_law nobody_law (BX sa sl sc))
  have hmf : ∀ (fn : Fn) (first cap : Array Value) (w : World), (Instr.makeFunc fn first cap).run Try.prog w = .ok (.func fn first cap) w := fun _ _ _ _ => rfl
  clear h0 hf hs
  go_enter Try.func6, Try.ntmps6
  go_wp2_with (go_at_call 9; refine (awake_any _).mono ?_; rintro e w1 ⟨rfl, hb1⟩; have h1 := H0.out.below nobody_law nobody_law hb1)
  go_upto_region 7 with (go_at_call 10; refine (h1.pNew nobody_law 0 (by unfold I64; omega)).mono ?_; rintro e w2 ⟨p, rfl, h2⟩)
  have HW2 := Lib.hid h2
  clear h1 h2 hb1
  obtain ⟨bl, hbl⟩ : ∃ y, bindsN first = y := ⟨_, rfl⟩
  have HBL := Lib.hid hbl
  have HSM : Hid (Small bl) := Lib.hid (hbl ▸ bindsN_small first)
  clear hbl
  go_upto_region 8 with (go_at_call 18; (have hc := binds_any w.heap.size fa fl fc first _ (HF.out.below HW2.out.to) HW2.out.size; rw [HBL.out] at hc; with_reducible refine hc.mono ?_); rintro e w3 ⟨lv, rfl, hrow, _, hb3⟩; obtain ⟨la, lc, rfl⟩ := row_form hrow; have HROW := Lib.hid hrow; have HB3 := Lib.hid hb3; clear hrow hb3 hc)
  obtain ⟨N1, hN1⟩ : ∃ N, w3.heap.size = N := ⟨_, rfl⟩
  have hn4 : (w3.alloc (.cells #[.slice la bl.length lc] 23)).heap[N1]? = some (.cells #[.slice la bl.length lc] 23) := hN1 ▸ new_at w3 _
  have hb4 : Below w2.heap.size w2 (w3.alloc (.cells #[.slice la bl.length lc] 23)) := HB3.out.alloc HB3.out.size _
  have hr4 := HROW.out.alloc (.cells #[.slice la bl.length lc] 23)
  have hN1' : w2.heap.size ≤ N1 := by rw [← hN1]; exact HB3.out.size
  rw [hN1]
  obtain ⟨w4, hw4⟩ : ∃ W, w3.alloc (.cells #[.slice la bl.length lc] 23) = W := ⟨_, rfl⟩
  rw [hw4] at hn4 hb4 hr4 ⊢
  have H4 := Lib.hid (HW2.out.below pbook_law nobody_law hb4)
  have HN4 := Lib.hid hn4
  have HB4 := Lib.hid hb4
  have HR4 := Lib.hid hr4
  clear hn4 hb4 hr4 hw4 hN1 HROW HB3
  have bs0 := skN_bd sk 0
  obtain ⟨s0, hs0⟩ : ∃ y, skN sk 0 = y := ⟨_, rfl⟩
  rw [hs0] at bs0
  have HS0 := Lib.hid hs0
  clear hs0
  go_wp2_with (go_at_call 34; (have hc := skewc_any w.heap.size w.heap.size sa sl sc sk 0 _ (HS.out.below H4.out.to) H4.out.size (cell_of_row _ _ _ _ _ _ (H4.out.own (List.mem_cons_self ..))) (Array.getElem?_eq_some_iff.1 (H4.out.own (List.mem_cons_self ..))).1 (by omega); simp only [Int.natCast_zero, HS0.out] at hc; with_reducible refine hc.mono ?_); rintro e w5 ⟨rfl, hb5⟩)
  have HB5 := Lib.hid hb5
  clear hb5
  have eu := until_id (t := s0) (by omega)
  obtain ⟨u0, hu0⟩ : ∃ y, untilN s0 = y := ⟨_, rfl⟩
  rw [hu0] at eu
  have HU0 := Lib.hid hu0
  have hub : -1000 ≤ u0 ∧ u0 ≤ 1000 := by omega
  clear hu0 eu
  go_upto_region 9 with (go_at_call 12; (have hc := until_any s0 w5 (by unfold I64; omega); rw [HU0.out] at hc; with_reducible refine hc.mono ?_); rintro e w6 ⟨rfl, hb6⟩; have HB6 := Lib.hid hb6; clear hb6 hc)
  obtain ⟨N2, hN2⟩ : ∃ N, w6.heap.size = N := ⟨_, rfl⟩
  have hn7 : (w6.alloc (.cells #[.int .i64 u0] 3)).heap[N2]? = some (.cells #[.int .i64 u0] 3) := hN2 ▸ new_at w6 _
  have hb7 : Below w4.heap.size w4 (w6.alloc (.cells #[.int .i64 u0] 3)) := (HB5.out.trans (HB6.out.mono HB5.out.size)).alloc (Nat.le_trans HB5.out.size HB6.out.size) _
  have hN2' : w2.heap.size ≤ N2 := by rw [← hN2]; exact Nat.le_trans HB4.out.size (Nat.le_trans HB5.out.size HB6.out.size)
  rw [hN2]
  obtain ⟨w7, hw7⟩ : ∃ W, w6.alloc (.cells #[.int .i64 u0] 3) = W := ⟨_, rfl⟩
  rw [hw7] at hn7 hb7 ⊢
  have hn7' : w7.heap[N1]? = some (.cells #[.slice la bl.length lc] 23) := (hb7.block N1 (Array.getElem?_eq_some_iff.1 HN4.out).1).trans HN4.out
  have hr7 : w7.ownsRow w2.heap.size 39 3 (.slice la bl.length lc) bl.length (bdsV bl) := row_moved HR4.out fun b e => hb7.block b (HR4.out.lt b e).2
  have hsat : SAt w7 ⟨[(bl, .slice la bl.length lc)], [u0], .slice (some ⟨N1, 0, none⟩) 1 1, .slice (some ⟨N2, 0, none⟩) 1 1⟩ :=
    ⟨row_one hn7', row_one hn7, fun y hy => by rw [List.mem_singleton.1 hy]; exact row_base hr7⟩
  have H7 : Hid (M w w7 p (newB 0) ⟨[(bl, .slice la bl.length lc)], [u0], .slice (some ⟨N1, 0, none⟩) 1 1, .slice (some ⟨N2, 0, none⟩) 1 1⟩ [(w.heap.size, BX sa sl sc)]) := Lib.hid (HW2.out.swap.made pbook_law (A := Sents) ⟨fun _ => Iff.rfl, hsat⟩ (fun b hb => by
    rcases hb with e | e | ⟨y, hy, e⟩
    · have e' : N1 = b := by simpa [Value.ownBlock] using e
      omega
    · have e' : N2 = b := by simpa [Value.ownBlock] using e
      omega
    · rw [List.mem_singleton.1 hy] at e
      exact (hr7.lt b e).1) (HB4.out.trans (hb7.mono HB4.out.size))).swap
  have c1 : w7.cell? ⟨N1, 0, none⟩ = some (.slice la bl.length lc) := cell_of_row _ _ _ _ _ _ hn7'
  have c2 : w7.cell? ⟨N2, 0, none⟩ = some (.int .i64 u0) := cell_of_row _ _ _ _ _ _ hn7
  have HST : Hid (HdSt (learnB (newB 0) 0 u0 bl) [bl] [u0] 0 0 0) := Lib.hid (HdSt.first HSM.out hub (OkB.new 0))
  have hl1 := (Array.getElem?_eq_some_iff.1 hn7').1
  have hl2 := (Array.getElem?_eq_some_iff.1 hn7).1
  clear hn7 hb7 hw7 hN2 hn7' hr7 hsat HB4 HB5 HB6 HN4 HR4 H4 HW2 hN1' hN2' HF HBL HS0 HU0
  go_wp2
  have m1 : w7.drew.cell? ⟨N1, 0, none⟩ = some (.slice la bl.length lc) := c1
  have m2 : w7.drew.cell? ⟨N2, 0, none⟩ = some (.int .i64 u0) := c2
  refine region_mix (fun W => W.cell? ⟨N1, 0, none⟩ = some (.slice la bl.length lc) ∧ W.cell? ⟨N2, 0, none⟩ = some (.int .i64 u0)) (7) (.reads [0, 1, 2, 3, 4, 5, 6] (.only 7 (.stop))) (by kernel_rfl) (by kernel_rfl) (⟨m1, m2⟩) ?_
  clear m1 m2
  repeat (
    refine plan_read rfl (fun K hK => ?_)
    first
      | (refine plan_neg ?_ ?_
         focus (go_simp; done)
         go_simp
         refine hK _ ?_
         clear hK K)
      | (apply plan_pos
         focus (go_simp; done)
         focus (
           intro W hW
           (obtain ⟨m1, m2⟩ := hW)
           go_simp
           first
             | done
             | exact rfl)
         go_simp
         refine hK _ ?_
         clear hK K))
  refine plan_only rfl (fun Q hQ => ?_)
  go_wp2_with (go_at_call 20; (with_reducible refine ((H7.out.drew pbook_law sents_law).pLearn sents_law (OkB.new 0) 0 u0 lc (by unfold I64; omega) (by unfold I64; omega) (fun _ _ f => sent_far f (i := 0) (by simp) rfl) HSM.out.ok).mono ?_); rintro e w8 ⟨rfl, h8⟩; have H8 := Lib.hid h8; clear h8)
  refine hQ _ _ (fun h => absurd h (by omega)) ?_
  clear hQ Q
  unfold Plan.wp
  have HH : Hid (∃ D X, HdSt D (X.rows.map (·.1)) X.us 0 0 0 ∧ X.vs = .slice (some ⟨N1, 0, none⟩) 1 1 ∧ X.vu = .slice (some ⟨N2, 0, none⟩) 1 1 ∧ M w w8 p D X [(w.heap.size, BX sa sl sc)]) := Lib.hid ⟨_, _, HST.out, rfl, rfl, H8.out⟩
  clear HST H8 H7 c1 c2 hl1 hl2 HSM bs0 hub
  go_wp2
  go_loopw [8, 11, 12, 13, 14] (fun s8 s11 s12 s13 iv wr => ∃ (i : Nat) (D : Bk) (X : SX) (has : Nat) (now : Int), i ≤ len ∧ i ≤ 80 ∧ iv = .int .i64 (i : Int) ∧ s8 = .int .i64 now ∧ s11 = X.vs ∧ s12 = X.vu ∧ s13 = .int .i64 (has : Int) ∧ HdSt D (X.rows.map (·.1)) X.us has now i ∧ M w wr p D X [(w.heap.size, BX sa sl sc)]) (fun _ _ _ _ iv _ => len - (intOf iv).toNat)
  case atStart =>
    obtain ⟨D, X, h1, h2, h3, h4⟩ := HH.out
    exact ⟨0, D, X, 0, 0, Nat.zero_le _, by omega, rfl, rfl, h2.symm, h3.symm, rfl, h1, h4⟩
  case round =>
    obtain ⟨i, D, X, has, now, hi, hi80, rfl, rfl, rfl, rfl, rfl, hst, hh⟩ := hrel
    clear HH
    by_cases hlt : i < len ∧ i < 80
    · obtain ⟨hl1, hl2⟩ := hlt
      obtain ⟨_, _, b, off, ha, hc⟩ := HT.out
      have hil : i < l.length := by rw [HL.out]; exact hl1
      obtain ⟨hb, hx⟩ := hc i hil
      obtain rfl : a = some ⟨b, off, none⟩ := by
        rcases ha with h | h
        · omega
        · exact h
      obtain ⟨x, hxe⟩ : ∃ x, l[i] = x := ⟨_, rfl⟩
      rw [hxe] at hx
      obtain ⟨⟨b0, b1, b2⟩, c0, c1, c2, ka, kl, kc, c3, hk⟩ := hx
      replace c0 := (hh.to.cell (p := ⟨b, off + i * 4, none⟩) hb).trans c0
      replace c1 := (hh.to.cell (p := ⟨b, off + i * 4 + 1, none⟩) hb).trans c1
      replace c2 := (hh.to.cell (p := ⟨b, off + i * 4 + 2, none⟩) hb).trans c2
      replace c3 := (hh.to.cell (p := ⟨b, off + i * 4 + 3, none⟩) hb).trans c3
      have HB0 := Lib.hid b0
      have HB1 := Lib.hid b1
      have HB2 := Lib.hid b2
      have HKB := Lib.hid hk
      have hi0 : (0 : Int) ≤ (i : Int) := by omega
      have hi1 : (i : Int) < (len : Int) := by omega
      have hi2 : (i : Int) < 80 := by omega
      have hb' : b < wr.heap.size := Nat.lt_of_lt_of_le hb hh.size
      have HST := Lib.hid hst
      -- the rows' slices
      have hn0 : 0 < X.rows.length := by have := hst.lt; rw [List.length_map] at this; omega
      have hn2 : 0 < X.us.length := by have := hst.n; rw [List.length_map] at this; omega
      obtain ⟨R, Q, f⟩ := hh
      obtain ⟨gs, cs, hvs, hz1⟩ := f.b.2.row hn0
      obtain ⟨gu, cu, hvu, hz2⟩ := f.b.2.end_ hn2
      clear hz1 hz2
      have hh : M w wr p D X [(w.heap.size, BX sa sl sc)] := ⟨R, Q, f⟩
      have HVS := Lib.hid hvs
      have HVU := Lib.hid hvu
      rw [hvs, hvu]
      obtain ⟨n, hn⟩ : ∃ n, X.rows.length = n := ⟨_, rfl⟩
      have hnu : X.us.length = n := by have := hst.n; rw [List.length_map] at this; omega
      rw [hn] at hn0 HVS ⊢
      rw [hnu] at HVU ⊢
      have HN := Lib.hid hn
      have HNU := Lib.hid hnu
      have hn81 : n ≤ 81 := by have := hst.n1; rw [List.length_map, hn] at this; omega
      have hasn : has < n := by have := hst.lt; rw [List.length_map, hn] at this; omega
      have hnow0 := hst.now0
      have hnow1 : now ≤ 640 := by have := hst.now1; omega
      have h7 := hh.push pbook_law sents_law (.cells #[.int .i64 x.what, .int .i64 x.ver, .int .i64 x.at_, .slice ka kl kc] 33)
      have H7 := Lib.hid h7
      have hblk := h7.own (List.mem_cons_self ..)
      clear ha hc hxe hil hh hst b0 b1 b2 hk h7 hvs hvu hn hnu f hn2
      have hp0 := pk_bd x.what 7 (by omega)
      obtain ⟨k, hk⟩ : ∃ k, pk x.what 7 = k := ⟨_, rfl⟩
      rw [hk] at hp0
      have HW := Lib.hid hk
      have hk7 : k = 0 ∨ k = 1 ∨ k = 2 ∨ k = 3 ∨ k = 4 ∨ k = 5 ∨ k = 6 := by omega
      clear hk hp0
      obtain ⟨A0, hA0⟩ : ∃ y, wr.heap.size = y := ⟨_, rfl⟩
      obtain ⟨W0, hW0⟩ : ∃ W, wr.alloc (.cells #[.int .i64 x.what, .int .i64 x.ver, .int .i64 x.at_, .slice ka kl kc] 33) = W := ⟨_, rfl⟩
      rw [hA0, hW0] at H7 hblk
      have HAW : Hid (wr.heap.size = A0 ∧ wr.alloc (.cells #[.int .i64 x.what, .int .i64 x.ver, .int .i64 x.at_, .slice ka kl kc] 33) = W0) := Lib.hid ⟨hA0, hW0⟩
      clear hA0 hW0
      go_upto_region 15 with fail
      rw [HAW.out.1, HAW.out.2]
      have y0 : W0.cell? ⟨A0, 0, none⟩ = some (.int .i64 x.what) := cell_of_row _ _ _ _ _ _ hblk
      have y1 : W0.cell? ⟨A0, 1, none⟩ = some (.int .i64 x.ver) := cell_of_row _ _ _ _ _ _ hblk
      have y2 : W0.cell? ⟨A0, 2, none⟩ = some (.int .i64 x.at_) := cell_of_row _ _ _ _ _ _ hblk
      have y3 : W0.cell? ⟨A0, 3, none⟩ = some (.slice ka kl kc) := cell_of_row _ _ _ _ _ _ hblk
      have hAl := (Array.getElem?_eq_some_iff.1 hblk).1
      clear c0 c1 c2 c3 hblk HAW hb'
      go_upto_block 2 with (go_at_call 19; (have hc := pick_any x.what 7 W0 HB0.out (by omega) (by omega); rw [HW.out] at hc; with_reducible refine hc.mono ?_); rintro e w6 ⟨rfl, rfl⟩)
      go_cut [8, 11, 12, 13, 16] from 65 to 127 (fun s8 s11 s12 s13 _ wx => ∃ (D' : Bk) (X' : SX) (has' : Nat) (now' : Int), s8 = .int .i64 now' ∧ s11 = X'.vs ∧ s12 = X'.vu ∧ s13 = .int .i64 (has' : Int) ∧ HdSt D' (X'.rows.map (·.1)) X'.us has' now' (i + 1) ∧ M w wx p D' X' [(w.heap.size, BX sa sl sc)])
      case first =>
        rcases hk7 with rfl | rfl | rfl | rfl | rfl | rfl | rfl
        · have bsi := skN_bd sk i
          obtain ⟨s, hsi⟩ : ∃ y, skN sk i = y := ⟨_, rfl⟩
          rw [hsi] at bsi
          have HSI := Lib.hid hsi
          have eu := until_id (t := now + s) (by omega)
          obtain ⟨u, hu⟩ : ∃ y, untilN (now + s) = y := ⟨_, rfl⟩
          have HU := Lib.hid hu
          rw [hu] at eu
          have hub : -1000 ≤ u ∧ u ≤ 1000 := by omega
          obtain ⟨bl, hbl⟩ : ∃ y, bindsN x.l = y := ⟨_, rfl⟩
          have HBL := Lib.hid hbl
          have HSM : Hid (Small bl) := Lib.hid (hbl ▸ bindsN_small x.l)
          have HNXT : Hid (HdSt (sentB D (n : Int) u bl) (X.rows.map (·.1) ++ [bl]) (X.us ++ [u]) has now (i + 1)) := Lib.hid (by
            have h := HST.out.sent hl2 bsi HSM.out hu
            rw [List.length_map, HN.out] at h
            exact h)
          obtain ⟨i0, hi0, hz0, hz1, hz2⟩ := info_parts infoBds
          obtain ⟨j0, hj0, hq0, hq1, hq2⟩ := info_parts infoIn
          clear hsi hu hbl eu
          go_upto_region 22 with (go_at_call 18; (have hc := binds_any w.heap.size ka kl kc x.l W0 (HKB.out.below H7.out.to) H7.out.size; rw [HBL.out] at hc; with_reducible refine hc.mono ?_); rintro e w3 ⟨lv, rfl, hrow, _, hb3⟩; obtain ⟨la, lc, rfl⟩ := row_form hrow; have HROW := Lib.hid hrow; have HB3 := Lib.hid hb3; clear hrow hb3 hc)
          have HN4 : Hid ((w3.alloc (.cells #[.slice la bl.length lc] 23)).heap[w3.heap.size]? = some (.cells #[.slice la bl.length lc] 23)) := Lib.hid (new_at w3 _)
          have HB4 : Hid (Below W0.heap.size W0 (w3.alloc (.cells #[.slice la bl.length lc] 23))) := Lib.hid (HB3.out.alloc HB3.out.size _)
          have HR4 := Lib.hid (HROW.out.alloc (.cells #[.slice la bl.length lc] 23))
          have HO4 : Hid ((w3.alloc (.cells #[.slice la bl.length lc] 23)).ownsRow 0 23 1 (.slice (some ⟨gs, 0, none⟩) n cs) n (X.rows.map (·.2))) := Lib.hid (by
            have h := ((sat_of H7.out).below HB4.out).s
            rw [HVS.out, HN.out] at h
            exact h)
          go_upto_region 23 with (at_builtin; refine wpList_append_lies _ (by rfl) (.tmp 84) (.tmp 86) 45 (by rfl) 0 23 i0 _ 1 24 Try.underlying45 hi0 hz0 hz1 hz2 rfl (by decide) (.slice (some ⟨gs, 0, none⟩) n cs) n (X.rows.map (·.2)) (by rfl) HO4.out ⟨w3.heap.size, 0, none⟩ 1 1 [.slice la bl.length lc] (by rfl) (by rfl) (news_one HN4.out) (by simp [Value.oneCell']) (by omega) (by unfold maxLen; omega) (by omega) (Nat.zero_le _) _ rfl ?_; intro g1 cp1 w5 ho5 hg5 hat5 hl5; have HO5 := Lib.hid ho5; have HG5 := Lib.hid hg5; have HAT5 := Lib.hid hat5; clear ho5 hg5 hat5)
          have H5 : Hid (M w w5 p D { X with rows := X.rows ++ [(bl, .slice la bl.length lc)], vs := .slice (some ⟨g1, 0, none⟩) (n + 1) cp1 } [(A0, .cells #[.int .i64 x.what, .int .i64 x.ver, .int .i64 x.at_, .slice ka kl kc] 33), (w.heap.size, BX sa sl sc)]) := Lib.hid (turn2 H7.out fun Q hQ hs => by
            have e := HN.out
            have ho := HO5.out
            have hg := HG5.out
            have ha := HAT5.out
            rw [← HVS.out] at hg ha
            subst e
            exact hs.sent hQ HB4.out HR4.out ho hg ha)
          clear HO5 HG5 HAT5 HN4 HB4 HR4 HO4 HROW HB3 y0 y1 y2 y3 hAl hl5
          have HCL := Lib.hid (clock (i := i) H5.out (List.mem_cons_of_mem _ (List.mem_cons_self ..)) HS.out (by omega) HSI.out)
          go_upto_region 24 with (first
            | (go_at_call 34; (with_reducible refine HCL.out.mono ?_); rintro e w6 ⟨rfl, _, h6⟩)
            | (go_at_call 12; (have hc := h6.pUntil pbook_law sents_law (now + s) (by unfold I64; omega); rw [HU.out] at hc; with_reducible refine hc.mono ?_); rintro e w7 ⟨rfl, _, h7⟩; have HH7 := Lib.hid h7; have HN8 : Hid ((w7.alloc (.cells #[.int .i64 u] 3)).heap[w7.heap.size]? = some (.cells #[.int .i64 u] 3)) := Lib.hid (new_at w7 _); have HO8 : Hid ((w7.alloc (.cells #[.int .i64 u] 3)).ownsRow 0 3 1 (.slice (some ⟨gu, 0, none⟩) n cu) n (numV X.us)) := Lib.hid (by have h := (sat_of HH7.out).u.alloc (.cells #[.int .i64 u] 3); dsimp only at h; rw [HVU.out, HNU.out] at h; exact h); clear h6 h7 hc)
            | (at_builtin; refine wpList_append_lies _ (by rfl) (.tmp 88) (.tmp 95) 31 (by rfl) 0 3 j0 _ 1 8 Try.underlying31 hj0 hq0 hq1 hq2 rfl (by decide) (.slice (some ⟨gu, 0, none⟩) n cu) n (numV X.us) (by rfl) HO8.out ⟨w7.heap.size, 0, none⟩ 1 1 [.int .i64 u] (by rfl) (by rfl) (news_one HN8.out) (by simp [Value.oneCell']) (by omega) (by unfold maxLen; omega) (by omega) (Nat.zero_le _) _ rfl ?_; intro g2 cp2 w9 ho9 hg9 hat9 hl9; have HO9 := Lib.hid ho9; have HG9 := Lib.hid hg9; have HAT9 := Lib.hid hat9; clear ho9 hg9 hat9 hl9))
          have H9 : Hid (M w w9 p D ⟨X.rows ++ [(bl, .slice la bl.length lc)], X.us ++ [u], .slice (some ⟨g1, 0, none⟩) (n + 1) cp1, .slice (some ⟨g2, 0, none⟩) (n + 1) cp2⟩ [(A0, .cells #[.int .i64 x.what, .int .i64 x.ver, .int .i64 x.at_, .slice ka kl kc] 33), (w.heap.size, BX sa sl sc)]) := Lib.hid (turn2 HH7.out fun Q hQ hs => by
            have e := HNU.out
            have ho := HO9.out
            have hg := HG9.out
            have ha := HAT9.out
            rw [← HVU.out] at hg ha
            have hb8 : Below w7.heap.size w7 (w7.alloc (.cells #[.int .i64 u] 3)) := (Below.refl _ w7).alloc (Nat.le_refl _) _
            rw [← e] at ho
            have h := hs.ended hQ hb8 ho hg ha
            dsimp only at h
            rw [e] at h
            exact h)
          clear HO9 HG9 HAT9 HN8 HO8 HH7 HCL H5
          have hc9 : w9.cell? ⟨g2, n, none⟩ = some (.int .i64 u) := by
            have hlt : n < (X.us ++ [u]).length := by rw [List.length_append, HNU.out]; simp
            obtain ⟨g', c', hv, _, hcell⟩ := (sat_of H9.out).end_ (i := n) hlt
            injection hv with e1 e2 e3
            injection e1 with e1
            injection e1 with e1 _ _
            subst e1
            have e4 : (X.us ++ [u])[n]? = some u := by rw [← HNU.out]; simp
            rw [List.getElem?_eq_getElem hlt] at e4
            injection e4 with e4
            rw [hcell]
            exact congrArg (fun z => some (Value.int .i64 z)) e4
          have hg2 : g2 < w9.heap.size := by
            rcases Nat.lt_or_ge g2 w9.heap.size with h | h
            · exact h
            · exfalso; simp [World.cell?, Array.getElem?_eq_none h] at hc9
          have hn1 : (0 : Int) ≤ (n : Int) := by omega
          go_wp2_with (go_at_call 22; (with_reducible refine (H9.out.pSent sents_law HST.out.ok (by have := HST.out.len; omega) (n : Int) u lc (by unfold I64; omega) (by unfold I64; omega) (fun _ _ f => sent_last f rfl) HSM.out.ok).mono ?_); rintro e w10 ⟨rfl, h10⟩; have H10 := Lib.hid h10.pop; clear h10)
          go_meet
          refine ⟨_, _, has, now, rfl, rfl, rfl, rfl, ?_, H10.out⟩
          have e : (X.rows ++ [(bl, Value.slice la bl.length lc)]).map (·.1) = X.rows.map (·.1) ++ [bl] := by simp
          rw [e]
          exact HNXT.out
        · have bsi := skN_bd sk i
          obtain ⟨s, hsi⟩ : ∃ y, skN sk i = y := ⟨_, rfl⟩
          rw [hsi] at bsi
          have HSI := Lib.hid hsi
          have eu := until_id (t := now + s) (by omega)
          obtain ⟨u, hu⟩ : ∃ y, untilN (now + s) = y := ⟨_, rfl⟩
          have HU := Lib.hid hu
          rw [hu] at eu
          have hub : -1000 ≤ u ∧ u ≤ 1000 := by omega
          obtain ⟨bl, hbl⟩ : ∃ y, bindsN x.l = y := ⟨_, rfl⟩
          have HBL := Lib.hid hbl
          have HSM : Hid (Small bl) := Lib.hid (hbl ▸ bindsN_small x.l)
          have HNXT : Hid (HdSt (sentB D (n : Int) u bl) (X.rows.map (·.1) ++ [bl]) (X.us ++ [u]) has now (i + 1)) := Lib.hid (by
            have h := HST.out.sent hl2 bsi HSM.out hu
            rw [List.length_map, HN.out] at h
            exact h)
          obtain ⟨i0, hi0, hz0, hz1, hz2⟩ := info_parts infoBds
          obtain ⟨j0, hj0, hq0, hq1, hq2⟩ := info_parts infoIn
          clear hsi hu hbl eu
          go_upto_region 22 with (go_at_call 18; (have hc := binds_any w.heap.size ka kl kc x.l W0 (HKB.out.below H7.out.to) H7.out.size; rw [HBL.out] at hc; with_reducible refine hc.mono ?_); rintro e w3 ⟨lv, rfl, hrow, _, hb3⟩; obtain ⟨la, lc, rfl⟩ := row_form hrow; have HROW := Lib.hid hrow; have HB3 := Lib.hid hb3; clear hrow hb3 hc)
          have HN4 : Hid ((w3.alloc (.cells #[.slice la bl.length lc] 23)).heap[w3.heap.size]? = some (.cells #[.slice la bl.length lc] 23)) := Lib.hid (new_at w3 _)
          have HB4 : Hid (Below W0.heap.size W0 (w3.alloc (.cells #[.slice la bl.length lc] 23))) := Lib.hid (HB3.out.alloc HB3.out.size _)
          have HR4 := Lib.hid (HROW.out.alloc (.cells #[.slice la bl.length lc] 23))
          have HO4 : Hid ((w3.alloc (.cells #[.slice la bl.length lc] 23)).ownsRow 0 23 1 (.slice (some ⟨gs, 0, none⟩) n cs) n (X.rows.map (·.2))) := Lib.hid (by
            have h := ((sat_of H7.out).below HB4.out).s
            rw [HVS.out, HN.out] at h
            exact h)
          go_upto_region 23 with (at_builtin; refine wpList_append_lies _ (by rfl) (.tmp 84) (.tmp 86) 45 (by rfl) 0 23 i0 _ 1 24 Try.underlying45 hi0 hz0 hz1 hz2 rfl (by decide) (.slice (some ⟨gs, 0, none⟩) n cs) n (X.rows.map (·.2)) (by rfl) HO4.out ⟨w3.heap.size, 0, none⟩ 1 1 [.slice la bl.length lc] (by rfl) (by rfl) (news_one HN4.out) (by simp [Value.oneCell']) (by omega) (by unfold maxLen; omega) (by omega) (Nat.zero_le _) _ rfl ?_; intro g1 cp1 w5 ho5 hg5 hat5 hl5; have HO5 := Lib.hid ho5; have HG5 := Lib.hid hg5; have HAT5 := Lib.hid hat5; clear ho5 hg5 hat5)
          have H5 : Hid (M w w5 p D { X with rows := X.rows ++ [(bl, .slice la bl.length lc)], vs := .slice (some ⟨g1, 0, none⟩) (n + 1) cp1 } [(A0, .cells #[.int .i64 x.what, .int .i64 x.ver, .int .i64 x.at_, .slice ka kl kc] 33), (w.heap.size, BX sa sl sc)]) := Lib.hid (turn2 H7.out fun Q hQ hs => by
            have e := HN.out
            have ho := HO5.out
            have hg := HG5.out
            have ha := HAT5.out
            rw [← HVS.out] at hg ha
            subst e
            exact hs.sent hQ HB4.out HR4.out ho hg ha)
          clear HO5 HG5 HAT5 HN4 HB4 HR4 HO4 HROW HB3 y0 y1 y2 y3 hAl hl5
          have HCL := Lib.hid (clock (i := i) H5.out (List.mem_cons_of_mem _ (List.mem_cons_self ..)) HS.out (by omega) HSI.out)
          go_upto_region 24 with (first
            | (go_at_call 34; (with_reducible refine HCL.out.mono ?_); rintro e w6 ⟨rfl, _, h6⟩)
            | (go_at_call 12; (have hc := h6.pUntil pbook_law sents_law (now + s) (by unfold I64; omega); rw [HU.out] at hc; with_reducible refine hc.mono ?_); rintro e w7 ⟨rfl, _, h7⟩; have HH7 := Lib.hid h7; have HN8 : Hid ((w7.alloc (.cells #[.int .i64 u] 3)).heap[w7.heap.size]? = some (.cells #[.int .i64 u] 3)) := Lib.hid (new_at w7 _); have HO8 : Hid ((w7.alloc (.cells #[.int .i64 u] 3)).ownsRow 0 3 1 (.slice (some ⟨gu, 0, none⟩) n cu) n (numV X.us)) := Lib.hid (by have h := (sat_of HH7.out).u.alloc (.cells #[.int .i64 u] 3); dsimp only at h; rw [HVU.out, HNU.out] at h; exact h); clear h6 h7 hc)
            | (at_builtin; refine wpList_append_lies _ (by rfl) (.tmp 88) (.tmp 95) 31 (by rfl) 0 3 j0 _ 1 8 Try.underlying31 hj0 hq0 hq1 hq2 rfl (by decide) (.slice (some ⟨gu, 0, none⟩) n cu) n (numV X.us) (by rfl) HO8.out ⟨w7.heap.size, 0, none⟩ 1 1 [.int .i64 u] (by rfl) (by rfl) (news_one HN8.out) (by simp [Value.oneCell']) (by omega) (by unfold maxLen; omega) (by omega) (Nat.zero_le _) _ rfl ?_; intro g2 cp2 w9 ho9 hg9 hat9 hl9; have HO9 := Lib.hid ho9; have HG9 := Lib.hid hg9; have HAT9 := Lib.hid hat9; clear ho9 hg9 hat9 hl9))
          have H9 : Hid (M w w9 p D ⟨X.rows ++ [(bl, .slice la bl.length lc)], X.us ++ [u], .slice (some ⟨g1, 0, none⟩) (n + 1) cp1, .slice (some ⟨g2, 0, none⟩) (n + 1) cp2⟩ [(A0, .cells #[.int .i64 x.what, .int .i64 x.ver, .int .i64 x.at_, .slice ka kl kc] 33), (w.heap.size, BX sa sl sc)]) := Lib.hid (turn2 HH7.out fun Q hQ hs => by
            have e := HNU.out
            have ho := HO9.out
            have hg := HG9.out
            have ha := HAT9.out
            rw [← HVU.out] at hg ha
            have hb8 : Below w7.heap.size w7 (w7.alloc (.cells #[.int .i64 u] 3)) := (Below.refl _ w7).alloc (Nat.le_refl _) _
            rw [← e] at ho
            have h := hs.ended hQ hb8 ho hg ha
            dsimp only at h
            rw [e] at h
            exact h)
          clear HO9 HG9 HAT9 HN8 HO8 HH7 HCL H5
          have hc9 : w9.cell? ⟨g2, n, none⟩ = some (.int .i64 u) := by
            have hlt : n < (X.us ++ [u]).length := by rw [List.length_append, HNU.out]; simp
            obtain ⟨g', c', hv, _, hcell⟩ := (sat_of H9.out).end_ (i := n) hlt
            injection hv with e1 e2 e3
            injection e1 with e1
            injection e1 with e1 _ _
            subst e1
            have e4 : (X.us ++ [u])[n]? = some u := by rw [← HNU.out]; simp
            rw [List.getElem?_eq_getElem hlt] at e4
            injection e4 with e4
            rw [hcell]
            exact congrArg (fun z => some (Value.int .i64 z)) e4
          have hg2 : g2 < w9.heap.size := by
            rcases Nat.lt_or_ge g2 w9.heap.size with h | h
            · exact h
            · exfalso; simp [World.cell?, Array.getElem?_eq_none h] at hc9
          have hn1 : (0 : Int) ≤ (n : Int) := by omega
          go_wp2_with (go_at_call 22; (with_reducible refine (H9.out.pSent sents_law HST.out.ok (by have := HST.out.len; omega) (n : Int) u lc (by unfold I64; omega) (by unfold I64; omega) (fun _ _ f => sent_last f rfl) HSM.out.ok).mono ?_); rintro e w10 ⟨rfl, h10⟩; have H10 := Lib.hid h10.pop; clear h10)
          go_meet
          refine ⟨_, _, has, now, rfl, rfl, rfl, rfl, ?_, H10.out⟩
          have e : (X.rows ++ [(bl, Value.slice la bl.length lc)]).map (·.1) = X.rows.map (·.1) ++ [bl] := by simp
          rw [e]
          exact HNXT.out
        · have bsi := skN_bd sk i
          obtain ⟨s, hsi⟩ : ∃ y, skN sk i = y := ⟨_, rfl⟩
          rw [hsi] at bsi
          have HSI := Lib.hid hsi
          have eu := until_id (t := now + s) (by omega)
          obtain ⟨u, hu⟩ : ∃ y, untilN (now + s) = y := ⟨_, rfl⟩
          have HU := Lib.hid hu
          rw [hu] at eu
          have hub : -1000 ≤ u ∧ u ≤ 1000 := by omega
          obtain ⟨bl, hbl⟩ : ∃ y, bindsN x.l = y := ⟨_, rfl⟩
          have HBL := Lib.hid hbl
          have HSM : Hid (Small bl) := Lib.hid (hbl ▸ bindsN_small x.l)
          have HNXT : Hid (HdSt (sentB D (n : Int) u bl) (X.rows.map (·.1) ++ [bl]) (X.us ++ [u]) has now (i + 1)) := Lib.hid (by
            have h := HST.out.sent hl2 bsi HSM.out hu
            rw [List.length_map, HN.out] at h
            exact h)
          obtain ⟨i0, hi0, hz0, hz1, hz2⟩ := info_parts infoBds
          obtain ⟨j0, hj0, hq0, hq1, hq2⟩ := info_parts infoIn
          clear hsi hu hbl eu
          go_upto_region 22 with (go_at_call 18; (have hc := binds_any w.heap.size ka kl kc x.l W0 (HKB.out.below H7.out.to) H7.out.size; rw [HBL.out] at hc; with_reducible refine hc.mono ?_); rintro e w3 ⟨lv, rfl, hrow, _, hb3⟩; obtain ⟨la, lc, rfl⟩ := row_form hrow; have HROW := Lib.hid hrow; have HB3 := Lib.hid hb3; clear hrow hb3 hc)
          have HN4 : Hid ((w3.alloc (.cells #[.slice la bl.length lc] 23)).heap[w3.heap.size]? = some (.cells #[.slice la bl.length lc] 23)) := Lib.hid (new_at w3 _)
          have HB4 : Hid (Below W0.heap.size W0 (w3.alloc (.cells #[.slice la bl.length lc] 23))) := Lib.hid (HB3.out.alloc HB3.out.size _)
          have HR4 := Lib.hid (HROW.out.alloc (.cells #[.slice la bl.length lc] 23))
          have HO4 : Hid ((w3.alloc (.cells #[.slice la bl.length lc] 23)).ownsRow 0 23 1 (.slice (some ⟨gs, 0, none⟩) n cs) n (X.rows.map (·.2))) := Lib.hid (by
            have h := ((sat_of H7.out).below HB4.out).s
            rw [HVS.out, HN.out] at h
            exact h)
          go_upto_region 23 with (at_builtin; refine wpList_append_lies _ (by rfl) (.tmp 84) (.tmp 86) 45 (by rfl) 0 23 i0 _ 1 24 Try.underlying45 hi0 hz0 hz1 hz2 rfl (by decide) (.slice (some ⟨gs, 0, none⟩) n cs) n (X.rows.map (·.2)) (by rfl) HO4.out ⟨w3.heap.size, 0, none⟩ 1 1 [.slice la bl.length lc] (by rfl) (by rfl) (news_one HN4.out) (by simp [Value.oneCell']) (by omega) (by unfold maxLen; omega) (by omega) (Nat.zero_le _) _ rfl ?_; intro g1 cp1 w5 ho5 hg5 hat5 hl5; have HO5 := Lib.hid ho5; have HG5 := Lib.hid hg5; have HAT5 := Lib.hid hat5; clear ho5 hg5 hat5)
          have H5 : Hid (M w w5 p D { X with rows := X.rows ++ [(bl, .slice la bl.length lc)], vs := .slice (some ⟨g1, 0, none⟩) (n + 1) cp1 } [(A0, .cells #[.int .i64 x.what, .int .i64 x.ver, .int .i64 x.at_, .slice ka kl kc] 33), (w.heap.size, BX sa sl sc)]) := Lib.hid (turn2 H7.out fun Q hQ hs => by
            have e := HN.out
            have ho := HO5.out
            have hg := HG5.out
            have ha := HAT5.out
            rw [← HVS.out] at hg ha
            subst e
            exact hs.sent hQ HB4.out HR4.out ho hg ha)
          clear HO5 HG5 HAT5 HN4 HB4 HR4 HO4 HROW HB3 y0 y1 y2 y3 hAl hl5
          have HCL := Lib.hid (clock (i := i) H5.out (List.mem_cons_of_mem _ (List.mem_cons_self ..)) HS.out (by omega) HSI.out)
          go_upto_region 24 with (first
            | (go_at_call 34; (with_reducible refine HCL.out.mono ?_); rintro e w6 ⟨rfl, _, h6⟩)
            | (go_at_call 12; (have hc := h6.pUntil pbook_law sents_law (now + s) (by unfold I64; omega); rw [HU.out] at hc; with_reducible refine hc.mono ?_); rintro e w7 ⟨rfl, _, h7⟩; have HH7 := Lib.hid h7; have HN8 : Hid ((w7.alloc (.cells #[.int .i64 u] 3)).heap[w7.heap.size]? = some (.cells #[.int .i64 u] 3)) := Lib.hid (new_at w7 _); have HO8 : Hid ((w7.alloc (.cells #[.int .i64 u] 3)).ownsRow 0 3 1 (.slice (some ⟨gu, 0, none⟩) n cu) n (numV X.us)) := Lib.hid (by have h := (sat_of HH7.out).u.alloc (.cells #[.int .i64 u] 3); dsimp only at h; rw [HVU.out, HNU.out] at h; exact h); clear h6 h7 hc)
            | (at_builtin; refine wpList_append_lies _ (by rfl) (.tmp 88) (.tmp 95) 31 (by rfl) 0 3 j0 _ 1 8 Try.underlying31 hj0 hq0 hq1 hq2 rfl (by decide) (.slice (some ⟨gu, 0, none⟩) n cu) n (numV X.us) (by rfl) HO8.out ⟨w7.heap.size, 0, none⟩ 1 1 [.int .i64 u] (by rfl) (by rfl) (news_one HN8.out) (by simp [Value.oneCell']) (by omega) (by unfold maxLen; omega) (by omega) (Nat.zero_le _) _ rfl ?_; intro g2 cp2 w9 ho9 hg9 hat9 hl9; have HO9 := Lib.hid ho9; have HG9 := Lib.hid hg9; have HAT9 := Lib.hid hat9; clear ho9 hg9 hat9 hl9))
          have H9 : Hid (M w w9 p D ⟨X.rows ++ [(bl, .slice la bl.length lc)], X.us ++ [u], .slice (some ⟨g1, 0, none⟩) (n + 1) cp1, .slice (some ⟨g2, 0, none⟩) (n + 1) cp2⟩ [(A0, .cells #[.int .i64 x.what, .int .i64 x.ver, .int .i64 x.at_, .slice ka kl kc] 33), (w.heap.size, BX sa sl sc)]) := Lib.hid (turn2 HH7.out fun Q hQ hs => by
            have e := HNU.out
            have ho := HO9.out
            have hg := HG9.out
            have ha := HAT9.out
            rw [← HVU.out] at hg ha
            have hb8 : Below w7.heap.size w7 (w7.alloc (.cells #[.int .i64 u] 3)) := (Below.refl _ w7).alloc (Nat.le_refl _) _
            rw [← e] at ho
            have h := hs.ended hQ hb8 ho hg ha
            dsimp only at h
            rw [e] at h
            exact h)
          clear HO9 HG9 HAT9 HN8 HO8 HH7 HCL H5
          have hc9 : w9.cell? ⟨g2, n, none⟩ = some (.int .i64 u) := by
            have hlt : n < (X.us ++ [u]).length := by rw [List.length_append, HNU.out]; simp
            obtain ⟨g', c', hv, _, hcell⟩ := (sat_of H9.out).end_ (i := n) hlt
            injection hv with e1 e2 e3
            injection e1 with e1
            injection e1 with e1 _ _
            subst e1
            have e4 : (X.us ++ [u])[n]? = some u := by rw [← HNU.out]; simp
            rw [List.getElem?_eq_getElem hlt] at e4
            injection e4 with e4
            rw [hcell]
            exact congrArg (fun z => some (Value.int .i64 z)) e4
          have hg2 : g2 < w9.heap.size := by
            rcases Nat.lt_or_ge g2 w9.heap.size with h | h
            · exact h
            · exfalso; simp [World.cell?, Array.getElem?_eq_none h] at hc9
          have hn1 : (0 : Int) ≤ (n : Int) := by omega
          go_wp2_with (go_at_call 22; (with_reducible refine (H9.out.pSent sents_law HST.out.ok (by have := HST.out.len; omega) (n : Int) u lc (by unfold I64; omega) (by unfold I64; omega) (fun _ _ f => sent_last f rfl) HSM.out.ok).mono ?_); rintro e w10 ⟨rfl, h10⟩; have H10 := Lib.hid h10.pop; clear h10)
          go_meet
          refine ⟨_, _, has, now, rfl, rfl, rfl, rfl, ?_, H10.out⟩
          have e : (X.rows ++ [(bl, Value.slice la bl.length lc)]).map (·.1) = X.rows.map (·.1) ++ [bl] := by simp
          rw [e]
          exact HNXT.out
        · obtain ⟨pn, hpn⟩ : ∃ pn : Nat, pk x.ver n = pn := ⟨(pk x.ver n).toNat, by have := pk_bd x.ver n (by omega); omega⟩
          have hpl : pn < n := by have := pk_bd x.ver n (by omega); omega
          have HPN := Lib.hid hpn
          have hmx := max2 (has : Int) (pn : Int)
          rw [show max (has : Int) (pn : Int) = ((max has pn : Nat) : Int) from by omega] at hmx
          have HNXT : Hid (HdSt D (X.rows.map (·.1)) X.us (max has pn) now (i + 1)) := Lib.hid (HST.out.had (by rw [List.length_map, HN.out]; exact hpl))
          clear hpn
          go_wp2_with (go_at_call 19; (have hc := pick_any x.ver n W0 HB1.out (by omega) (by omega); rw [HPN.out] at hc; with_reducible refine hc.mono ?_); rintro e w7 ⟨rfl, rfl⟩)
          go_meet
          exact ⟨D, X, max has pn, now, rfl, HVS.out.symm, HVU.out.symm, rfl, HNXT.out, H7.out.pop⟩
        · obtain ⟨pn, hpn⟩ : ∃ pn : Nat, pk x.ver n = pn := ⟨(pk x.ver n).toNat, by have := pk_bd x.ver n (by omega); omega⟩
          have hpl : pn < n := by have := pk_bd x.ver n (by omega); omega
          have HPN := Lib.hid hpn
          have hmx := max2 (has : Int) (pn : Int)
          rw [show max (has : Int) (pn : Int) = ((max has pn : Nat) : Int) from by omega] at hmx
          have HNXT : Hid (HdSt D (X.rows.map (·.1)) X.us (max has pn) now (i + 1)) := Lib.hid (HST.out.had (by rw [List.length_map, HN.out]; exact hpl))
          clear hpn
          go_wp2_with (go_at_call 19; (have hc := pick_any x.ver n W0 HB1.out (by omega) (by omega); rw [HPN.out] at hc; with_reducible refine hc.mono ?_); rintro e w7 ⟨rfl, rfl⟩)
          go_meet
          exact ⟨D, X, max has pn, now, rfl, HVS.out.symm, HVU.out.symm, rfl, HNXT.out, H7.out.pop⟩
        · obtain ⟨pa, hpa⟩ : ∃ pa : Int, pk x.ver (has + 1) = pa := ⟨_, rfl⟩
          have hpl : 0 ≤ pa ∧ pa ≤ has := by have := pk_bd x.ver (has + 1) (by omega); omega
          have HPA := Lib.hid hpa
          have HNXT : Hid (HdSt (ackedB D pa) (X.rows.map (·.1)) X.us has now (i + 1)) := Lib.hid (HST.out.acked hpl.2)
          clear hpa
          go_wp2_with (first
            | (go_at_call 19; (have hc := pick_any x.ver (has + 1) W0 HB1.out (by omega) (by omega); rw [HPA.out] at hc; with_reducible refine hc.mono ?_); rintro e w7 ⟨rfl, rfl⟩)
            | (go_at_call 24; (with_reducible refine (H7.out.pAcked sents_law HST.out.ok pa (by unfold I64; omega)).mono ?_); rintro e w9 ⟨rfl, h9⟩; have H9 := Lib.hid h9.pop; clear h9))
          go_meet
          exact ⟨_, X, has, now, rfl, HVS.out.symm, HVU.out.symm, rfl, HNXT.out, H9.out⟩
        · obtain ⟨k9, hk9⟩ : ∃ y, pk x.at_ 9 = y := ⟨_, rfl⟩
          have b9 : 0 ≤ k9 ∧ k9 ≤ 8 := by have := pk_bd x.at_ 9 (by omega); omega
          have bsi := skN_bd sk i
          obtain ⟨s, hsi⟩ : ∃ y, skN sk i = y := ⟨_, rfl⟩
          rw [hsi] at bsi
          have HSI := Lib.hid hsi
          have HP9 := Lib.hid hk9
          have HNXT : Hid (HdSt (passB D (now + k9 + s)) (X.rows.map (·.1)) X.us has (now + k9) (i + 1)) := Lib.hid (HST.out.pass hl2 b9 bsi)
          have HCL := Lib.hid (clock (i := i) H7.out (List.mem_cons_of_mem _ (List.mem_cons_self ..)) HS.out (by omega) HSI.out)
          clear hk9 hsi
          go_wp2_with (first
            | (go_at_call 19; (have hc := pick_any x.at_ 9 W0 HB2.out (by omega) (by omega); rw [HP9.out] at hc; with_reducible refine hc.mono ?_); rintro e w7 ⟨rfl, rfl⟩)
            | (go_at_call 34; (with_reducible refine HCL.out.mono ?_); rintro e w8 ⟨rfl, _, h8⟩)
            | (go_at_call 26; (with_reducible refine (h8.pPass sents_law HST.out.ok (now + k9 + s) (by unfold I64; omega)).mono ?_); rintro e w9 ⟨rfl, h9⟩; have H9 := Lib.hid h9.pop; clear h9))
          go_meet
          exact ⟨_, X, has, now + k9, rfl, HVS.out.symm, HVU.out.symm, rfl, HNXT.out, H9.out⟩
      case rest =>
      obtain ⟨D', X', has', now', rfl, rfl, rfl, rfl, hst', h10⟩ := hcut
      have hsl : has' < X'.rows.length := by have := hst'.lt; rwa [List.length_map] at this
      have hul : has' < X'.us.length := by rw [hst'.n, List.length_map]; exact hsl
      obtain ⟨gs', cs', hvs, hz1, hcs, la, lc, hrv, hbat⟩ := (sat_of h10).row hsl
      obtain ⟨gu', cu', hvu, hz2, hcu⟩ := (sat_of h10).end_ hul
      rw [hvs, hvu]
      rw [hrv] at hcs
      have hsmall : Small X'.rows[has'].1 := hst'.small _ (List.mem_map_of_mem (List.getElem_mem hsl))
      have hruns : ∀ s : Int, -2 ≤ s ∧ s ≤ 2 → holdsN (now' + s) X'.us[has'] = true → ∀ k, sumC X'.rows[has'].1 k ≤ heldB D' k := fun s hs ho k => by
        have h := hst'.runs (by omega) hs hul ho k
        rwa [List.getElem_map] at h
      have hbu := hst'.bd _ (List.getElem_mem hul)
      obtain ⟨bl, hbl⟩ : ∃ y, X'.rows[has'].1 = y := ⟨_, rfl⟩
      obtain ⟨ue, hue⟩ : ∃ y, X'.us[has'] = y := ⟨_, rfl⟩
      rw [hbl] at hcs hbat hsmall hruns
      rw [hue] at hcu hbu hruns
      obtain ⟨nr, hnr⟩ : ∃ y, X'.rows.length = y := ⟨_, rfl⟩
      have hnu : X'.us.length = nr := by rw [hst'.n, List.length_map, hnr]
      rw [hnr, hnu]
      rw [hnr] at hsl
      have hnow0 := hst'.now0
      have hnow1 : now' ≤ 648 := by have := hst'.now1; omega
      have hnr0 : nr ≤ 82 := by have := hst'.n1; rw [List.length_map, hnr] at this; omega
      have HOKD := Lib.hid hst'.ok
      have HST' := Lib.hid hst'
      have HRUN := Lib.hid hruns
      have HSM := Lib.hid hsmall
      have HBAT := Lib.hid hbat
      have hbl20 := hsmall.1
      have hh0 : (0 : Int) ≤ (has' : Int) := by omega
      have hh1 : (has' : Int) < (nr : Int) := by omega
      have hpre : Below wc.heap.size wc (wc.alloc names3) := (Below.refl _ wc).alloc (Nat.le_refl _) _
      have h11 := h10.push pbook_law sents_law names3
      have hN11 := new_at wc names3
      have e1 := (hpre.cell (p := ⟨gs', has', none⟩) hz1).trans hcs
      have e2 := (hpre.cell (p := ⟨gu', has', none⟩) hz2).trans hcu
      have hbat11 := hbat.keep fun b hb => hpre.block b ((sat_of h10).lt hb)
      have hbatl : ∀ b, SBlk X' b → b < (wc.alloc names3).heap.size := fun b hb => Nat.lt_of_lt_of_le ((sat_of h10).lt hb) hpre.size
      have hz1' := Nat.lt_of_lt_of_le hz1 hpre.size
      have hz2' := Nat.lt_of_lt_of_le hz2 hpre.size
      have bsi := skN_bd sk (i + 1)
      obtain ⟨s, hsi⟩ : ∃ y, skN sk (i + 1) = y := ⟨_, rfl⟩
      rw [hsi] at bsi
      have HSI := Lib.hid hsi
      obtain ⟨xb, hxb⟩ : ∃ y, holdsN (now' + s) ue = y := ⟨_, rfl⟩
      have HXB := Lib.hid hxb
      obtain ⟨N, hN⟩ : ∃ N, wc.heap.size = N := ⟨_, rfl⟩
      obtain ⟨w11, hw11⟩ : ∃ W, wc.alloc names3 = W := ⟨_, rfl⟩
      rw [hN] at h11 hN11
      rw [hw11] at h11 hN11 e1 e2 hbat11 hbatl hz1' hz2'
      have HM11 := Lib.hid h11
      have HN11 := Lib.hid hN11
      have HE1 := Lib.hid e1
      have HE2 := Lib.hid e2
      have HB11 := Lib.hid hbat11
      have HBL11 := Lib.hid hbatl
      have HAW : Hid (wc.heap.size = N ∧ wc.alloc names3 = w11) := Lib.hid ⟨hN, hw11⟩
      rw [hnr] at hvs
      rw [hnu] at hvu
      have HFV := Lib.hid (And.intro hvs hvu)
      clear hst' h10 hvs hvu hcs hcu hrv hbat hsmall hruns hbl hue hnr hnu hpre h11 hN11 e1 e2 hbat11 hbatl hsi hxb hN hw11 hz1 hz2 hul HST HVS HVU HN HNU hn0 hn81 hasn H7 HW hk7 HB0 HB1 HB2 HKB y0 y1 y2 y3 hAl HBAT
      go_wp2
      rw [HAW.out.1, HAW.out.2]
      clear HAW
      go_loopw [18] (fun jv wj => ∃ j : Nat, j ≤ 3 ∧ jv = .int .i64 (j : Int) ∧ Below w11.heap.size w11 wj) (fun jv _ => 3 - (intOf jv).toNat)
      case atStart => exact ⟨0, by omega, rfl, Below.refl _ _⟩
      case round =>
        obtain ⟨j, hj, rfl, hbj⟩ := hrel
        by_cases hj3 : j < 3
        · have HBJ := Lib.hid hbj
          clear hbj
          have hj0 : (0 : Int) ≤ (j : Int) := by omega
          have hj1 : (j : Int) < 3 := by omega
          obtain ⟨kj, hkj⟩ : ∃ k, nm3 j = k := ⟨_, rfl⟩
          have hkl : kj.length ≤ 1048576 := by have := nm3_len j; rw [hkj] at this; omega
          have HNM : Hid (w11.cell? ⟨N, j, none⟩ = some (.string (S kj))) := Lib.hid (hkj ▸ names3_at HN11.out hj3)
          have hNl := (Array.getElem?_eq_some_iff.1 HN11.out).1
          clear hkj
          go_wp2
          go_loopw [19, 20] (fun rv kv wk => ∃ k : Nat, k ≤ bl.length ∧ kv = .int .i64 (k : Int) ∧ rv = .int .i64 (ownN bl kj k) ∧ Below w11.heap.size w11 wk) (fun _ kv _ => bl.length - (intOf kv).toNat)
          case atStart => exact ⟨0, Nat.zero_le _, rfl, rfl, HBJ.out⟩
          case round =>
            obtain ⟨k, hk, rfl, rfl, hbk⟩ := hrel
            clear HBJ
            have d1 := (hbk.cell (p := ⟨gs', has', none⟩) hz1').trans HE1.out
            have d2 := (hbk.cell (p := ⟨N, j, none⟩) hNl).trans HNM.out
            have hgsl := Nat.lt_of_lt_of_le hz1' hbk.size
            have HBK := Lib.hid hbk
            have hobd := own_bd HSM.out kj k
            by_cases hkb : k < bl.length
            · obtain ⟨_, bb, boff, hba, hbc⟩ := HB11.out
              obtain ⟨rfl, hbs⟩ : la = some ⟨bb, boff, none⟩ ∧ SBlk X' bb := by
                rcases hba with h | h
                · omega
                · exact h
              have hbbl := HBL11.out bb hbs
              obtain ⟨c0, _, c2⟩ := hbc k hkb
              obtain ⟨y, hy⟩ : ∃ y, bl[k] = y := ⟨_, rfl⟩
              rw [hy] at c0 c2
              replace c0 := (hbk.cell (p := ⟨bb, boff + k * 3, none⟩) hbbl).trans c0
              replace c2 := (hbk.cell (p := ⟨bb, boff + k * 3 + 2, none⟩) hbbl).trans c2
              have hstep := own_step HSM.out kj hkb
              rw [hy] at hstep
              have hycnt := HSM.out.2 y (hy ▸ List.getElem_mem hkb)
              have hk0 : (0 : Int) ≤ (k : Int) := by omega
              have hk1 : (k : Int) < (bl.length : Int) := by omega
              clear hba hbc hy hbk hbs
              obtain ⟨c, hc⟩ : ∃ c, ownN bl kj k = c := ⟨_, rfl⟩
              rw [hc] at hobd hstep ⊢
              by_cases hw : y.work = kj
              · have e1 : ((S y.work).toList == (S kj).toList) = true := by rw [S_beq]; simpa using hw
                rw [if_pos hw] at hstep
                have HSTEP := Lib.hid hstep
                clear hw hstep hc
                go_wp2
                go_quiet (fail)
                go_wp2
                go_roundw
                case rel => exact ⟨k + 1, by omega, by go_num, by rw [HSTEP.out], below_drewN HBK.out _⟩
                case measure => simp [intOf]; omega
              · have e1 : ((S y.work).toList == (S kj).toList) = false := by rw [S_beq]; simpa using hw
                rw [if_neg hw, Int.add_zero] at hstep
                have HSTEP := Lib.hid hstep
                clear hw hstep hc
                go_wp2
                go_quiet (fail)
                go_wp2
                go_roundw
                case rel => exact ⟨k + 1, by omega, by go_num, by rw [HSTEP.out], below_drewN HBK.out _⟩
                case measure => simp [intOf]; omega
            · obtain rfl : k = bl.length := by omega
              have HM := Lib.hid (HM11.out.below pbook_law sents_law hbk)
              have d3 := (hbk.cell (p := ⟨gu', has', none⟩) hz2').trans HE2.out
              have hgul := Nat.lt_of_lt_of_le hz2' hbk.size
              have hNl2 := Nat.lt_of_lt_of_le hNl hbk.size
              have D2 := Lib.hid d2
              have D3 := Lib.hid d3
              obtain ⟨hv, hhv⟩ : ∃ v, heldB D' kj = v := ⟨_, rfl⟩
              obtain ⟨rv, hrv⟩ : ∃ v, sumC bl kj = v := ⟨_, rfl⟩
              have HV := Lib.hid hhv
              have HLE : Hid (xb = true → rv ≤ hv) := Lib.hid (fun h => by
                have := HRUN.out s bsi (HXB.out.trans h) kj
                rwa [hrv, hhv] at this)
              have bv := held_bd HOKD.out kj
              rw [own_all, hrv]
              rw [own_all, hrv] at hobd
              rw [hhv] at bv
              have e3 : ((i + 1 : Nat) : Int) = (i : Int) + 1 := by omega
              have HE3 := Lib.hid e3
              clear hhv hrv hkb hk hbk e3
              have hi1000 : i + 1 ≤ 1000 := by omega
              have WQ1 : Hid (IntKind.i64.wrap ((i : Int) + 1) = (i : Int) + 1) := Lib.hid (IntWalk.i64_in _ (by omega))
              have WQ2 : Hid (IntKind.i64.wrap (now' + s) = now' + s) := Lib.hid (IntWalk.i64_in _ (by omega))
              have HI1 : Hid (I64 (now' + s)) := Lib.hid (by unfold I64; omega)
              have HI2 : Hid (I64 ue) := Lib.hid (by unfold I64; omega)
              have HE4 : Hid (((i + 1 : Nat) : Int) = IntKind.i64.wrap ((i : Int) + 1)) := Lib.hid (by rw [WQ1.out, HE3.out])
              have HHO : Hid (∀ (W : World) (iv : Int), iv = now' + s → Calls Try.prog 14 #[.int .i64 iv, .int .i64 ue] W fun e w' => e = .returned (.bool xb) ∧ Below W.heap.size W w') := Lib.hid (by
                intro W iv he
                subst he
                have hc := holds_any (now' + s) ue W HI1.out HI2.out
                rwa [HXB.out] at hc)
              rcases Bool.eq_false_or_eq_true xb with rfl | rfl
              · have hle : decide (hv < rv) = false := by
                  have := (by first | exact HLE.out trivial | exact HLE.out rfl : rv ≤ hv)
                  exact decide_eq_false (by omega)
                clear HLE
                go_wp2
                have hbd := (Below.refl wr.heap.size wr).drew
                refine region_mix (fun W => Below wr.heap.size wr W) (19) (.reads [0, 1, 2, 3, 6, 7, 8, 9] (.only 4 (.reads [5] (.only 10 (.reads [11, 12, 13, 14, 15, 16, 18] (.only 17 (.only 19 (.only 20 (.stop))))))))) (by kernel_rfl) (by kernel_rfl) (hbd) ?_
                repeat (
                  refine plan_read rfl (fun K hK => ?_)
                  first
                    | (refine plan_neg ?_ ?_
                       focus (go_simp; done)
                       go_simp
                       refine hK _ ?_
                       clear hK K)
                    | (apply plan_pos
                       focus (go_simp; done)
                       focus (
                         intro W hW
                         (have g3 := (hW.cell (p := ⟨gu', has', none⟩) hgul).trans D3.out
                          have wq1 := WQ1.out)
                         go_simp
                         first
                           | done
                           | exact rfl)
                       go_simp
                       refine hK _ ?_
                       clear hK K))
                refine plan_only rfl (fun Q hQ => ?_)
                go_wp2_with (go_at_call 34; (first | with_reducible refine (clock' (HM.out.below pbook_law sents_law hbd) (List.mem_cons_of_mem _ (List.mem_cons_self ..)) HS.out hi1000 HSI.out HE3.out).mono ?_ | with_reducible refine (clock' (HM.out.below pbook_law sents_law hbd) (List.mem_cons_of_mem _ (List.mem_cons_self ..)) HS.out hi1000 HSI.out HE4.out).mono ?_); rintro e w12 ⟨rfl, hb12, _⟩; have HB12 := Lib.hid (on_below hbd hb12); clear hb12)
                refine hQ _ _ (fun _ => HB12.out) ?_
                clear hQ Q
                repeat (
                  refine plan_read rfl (fun K hK => ?_)
                  first
                    | (refine plan_neg ?_ ?_
                       focus (go_simp; done)
                       go_simp
                       refine hK _ ?_
                       clear hK K)
                    | (apply plan_pos
                       focus (go_simp; done)
                       focus (
                         intro W hW
                         (have wq2 := WQ2.out)
                         go_simp
                         first
                           | done
                           | exact rfl)
                       go_simp
                       refine hK _ ?_
                       clear hK K))
                refine plan_only rfl (fun Q hQ => ?_)
                go_wp2_with (go_at_call 14; (first | with_reducible refine (HHO.out w12 _ rfl).mono ?_ | with_reducible refine (HHO.out w12 _ WQ2.out).mono ?_); rintro e w13 ⟨rfl, hb13⟩; have HB13 := Lib.hid (on_below HB12.out hb13); clear hb13)
                refine hQ _ _ (fun _ => HB13.out) ?_
                clear hQ Q
                repeat (
                  refine plan_read rfl (fun K hK => ?_)
                  first
                    | (refine plan_neg ?_ ?_
                       focus (go_simp; done)
                       go_simp
                       refine hK _ ?_
                       clear hK K)
                    | (apply plan_pos
                       focus (go_simp; done)
                       focus (
                         intro W hW
                         (have g2 := (hW.cell (p := ⟨N, j, none⟩) hNl2).trans D2.out)
                         go_simp
                         first
                           | done
                           | exact rfl)
                       go_simp
                       refine hK _ ?_
                       clear hK K))
                refine plan_only rfl (fun Q hQ => ?_)
                go_wp2_with (go_at_call 30; (have hc := (HM.out.below pbook_law sents_law HB13.out).pHeld sents_law HOKD.out kj hkl; rw [HV.out] at hc; with_reducible refine hc.mono ?_); rintro e w14 ⟨rfl, hb14, _⟩; have HB14 := Lib.hid (on_below HB13.out hb14); clear hb14 hc)
                refine hQ _ _ (fun _ => HB14.out) ?_
                clear hQ Q
                refine plan_only rfl (fun Q hQ => ?_)
                go_wp2
                refine hQ _ _ (fun h => absurd h (by omega)) ?_
                clear hQ Q
                refine plan_only rfl (fun Q hQ => ?_)
                go_wp2
                refine hQ _ _ (fun h => absurd h (by omega)) ?_
                clear hQ Q
                unfold Plan.wp
                have HB15 := Lib.hid (on_below HBK.out HB14.out)
                clear hbd
                go_wp2
                go_roundw
                case rel => exact ⟨j + 1, by omega, by go_num, HB15.out⟩
                case measure => simp [intOf]; omega
              · clear HLE
                go_wp2
                have hbd := (Below.refl wr.heap.size wr).drew
                refine region_mix (fun W => Below wr.heap.size wr W) (19) (.reads [0, 1, 2, 3, 6, 7, 8, 9] (.only 4 (.reads [5] (.only 10 (.reads [11, 12, 13, 14, 15, 16, 18] (.only 17 (.only 19 (.only 20 (.stop))))))))) (by kernel_rfl) (by kernel_rfl) (hbd) ?_
                repeat (
                  refine plan_read rfl (fun K hK => ?_)
                  first
                    | (refine plan_neg ?_ ?_
                       focus (go_simp; done)
                       go_simp
                       refine hK _ ?_
                       clear hK K)
                    | (apply plan_pos
                       focus (go_simp; done)
                       focus (
                         intro W hW
                         (have g3 := (hW.cell (p := ⟨gu', has', none⟩) hgul).trans D3.out
                          have wq1 := WQ1.out)
                         go_simp
                         first
                           | done
                           | exact rfl)
                       go_simp
                       refine hK _ ?_
                       clear hK K))
                refine plan_only rfl (fun Q hQ => ?_)
                go_wp2_with (go_at_call 34; (first | with_reducible refine (clock' (HM.out.below pbook_law sents_law hbd) (List.mem_cons_of_mem _ (List.mem_cons_self ..)) HS.out hi1000 HSI.out HE3.out).mono ?_ | with_reducible refine (clock' (HM.out.below pbook_law sents_law hbd) (List.mem_cons_of_mem _ (List.mem_cons_self ..)) HS.out hi1000 HSI.out HE4.out).mono ?_); rintro e w12 ⟨rfl, hb12, _⟩; have HB12 := Lib.hid (on_below hbd hb12); clear hb12)
                refine hQ _ _ (fun _ => HB12.out) ?_
                clear hQ Q
                repeat (
                  refine plan_read rfl (fun K hK => ?_)
                  first
                    | (refine plan_neg ?_ ?_
                       focus (go_simp; done)
                       go_simp
                       refine hK _ ?_
                       clear hK K)
                    | (apply plan_pos
                       focus (go_simp; done)
                       focus (
                         intro W hW
                         (have wq2 := WQ2.out)
                         go_simp
                         first
                           | done
                           | exact rfl)
                       go_simp
                       refine hK _ ?_
                       clear hK K))
                refine plan_only rfl (fun Q hQ => ?_)
                go_wp2_with (go_at_call 14; (first | with_reducible refine (HHO.out w12 _ rfl).mono ?_ | with_reducible refine (HHO.out w12 _ WQ2.out).mono ?_); rintro e w13 ⟨rfl, hb13⟩; have HB13 := Lib.hid (on_below HB12.out hb13); clear hb13)
                refine hQ _ _ (fun _ => HB13.out) ?_
                clear hQ Q
                repeat (
                  refine plan_read rfl (fun K hK => ?_)
                  first
                    | (refine plan_neg ?_ ?_
                       focus (go_simp; done)
                       go_simp
                       refine hK _ ?_
                       clear hK K)
                    | (apply plan_pos
                       focus (go_simp; done)
                       focus (
                         intro W hW
                         (have g2 := (hW.cell (p := ⟨N, j, none⟩) hNl2).trans D2.out)
                         go_simp
                         first
                           | done
                           | exact rfl)
                       go_simp
                       refine hK _ ?_
                       clear hK K))
                refine plan_only rfl (fun Q hQ => ?_)
                have HB14 := HB13
                go_wp2
                refine hQ _ _ (fun _ => HB14.out) ?_
                clear hQ Q
                refine plan_only rfl (fun Q hQ => ?_)
                go_wp2
                refine hQ _ _ (fun h => absurd h (by omega)) ?_
                clear hQ Q
                refine plan_only rfl (fun Q hQ => ?_)
                go_wp2
                refine hQ _ _ (fun h => absurd h (by omega)) ?_
                clear hQ Q
                unfold Plan.wp
                have HB15 := Lib.hid (on_below HBK.out HB14.out)
                clear hbd
                go_wp2
                go_roundw
                case rel => exact ⟨j + 1, by omega, by go_num, HB15.out⟩
                case measure => simp [intOf]; omega
        · obtain rfl : j = 3 := by omega
          have HF := Lib.hid ((HM11.out.below pbook_law sents_law hbj).pop)
          clear hbj hj3
          have hii : i + 1 ≤ 80 := by omega
          have HX3 : Hid (Value.slice (some ⟨gs', 0, none⟩) nr cs' = X'.vs ∧ Value.slice (some ⟨gu', 0, none⟩) nr cu' = X'.vu) := Lib.hid ⟨HFV.out.1.symm, HFV.out.2.symm⟩
          go_wp2
          go_roundw
          case rel => exact ⟨i + 1, D', X', has', now', by omega, hii, by go_num, rfl, HX3.out.1, HX3.out.2, rfl, HST'.out, HF.out⟩
          case measure => simp [intOf]; omega
    · have HKN := Lib.hid hst.known
      by_cases hl1 : i < len
      · obtain rfl : i = 80 := by omega
        have h1 : ((80 : Nat) : Int) < (len : Int) := by omega
        clear hlt hst
        go_wp2_with (go_at_call 28; (have hc := hh.pKnown sents_law; rw [HKN.out] at hc; with_reducible refine hc.mono ?_); rintro e w12 ⟨rfl, _, h22⟩)
        go_ret
        exact ⟨rfl, h22.to⟩
      · obtain rfl : i = len := by omega
        clear hlt hst
        go_wp2_with (go_at_call 28; (have hc := hh.pKnown sents_law; rw [HKN.out] at hc; with_reducible refine hc.mono ?_); rintro e w12 ⟨rfl, _, h22⟩)
        go_ret
        exact ⟨rfl, h22.to⟩
theorem own : ownKnob Try.prog.godebug = none := by kernel_rfl
theorem laidOut : laidOutB Try.prog = true := by kernel_rfl

set_option maxRecDepth 100000 in
theorem lifted (os : Os) (started : os.Started) (H : Type) (enc : TypeId × Value → H) :
    ReturnsInHanded {} Try.checked os 6 .any (Rows.leaseHeldSpec.pre6 enc Try.prog Try.f6 Rows.leaseHeldRow.domain false) (Rows.leaseHeldSpec.post enc Try.prog Try.f6 false true false false) := by
  refine returnsInHanded_of_change_sized (C := Try.checked) own started (by kernel_rfl) Try.func6
    (ChangeSpec.witness6 (enc := enc) (C := Try.checked) false ⟨#[], #[.slice none 0 0, .slice none 0 0, .slice none 0 0], []⟩ 8 (by kernel_rfl) (by kernel_rfl) (by kernel_rfl) (by kernel_rfl)) ?_
  intro W base args ds gs before hval0 hW _ hsz0 _
  have hsz : (DataW.weightsEach Try.prog (Try.f6.params.toList ++ Rows.leaseHeldSpec.plain.varTypes Try.prog) (ds ++ gs)).all (· ≤ reachBytes) = true := hsz0
  have hval : ∀ (j : Nat) t v, Try.f6.params[j]? = some t → args[j]? = some v → Value.okWide Try.prog W .any base t v := hval0
  have hW' := hW
  obtain ⟨p, q, hA0, hV, rfl, hfz, hnd⟩ := hW
  have hA : DataW.TrodAll enc Try.prog W 0 (fun _ => true) true Try.f6.params.toList args.toList ds p := hA0
  rw [Try.params6] at hA hval hsz
  obtain ⟨v0, vs0, d0, ds0, p0, q0, hargs, rfl, rfl, h0, r0⟩ := trodAll_cons hA
  obtain ⟨v1, vs1, d1, ds1, p1, q1, rfl, rfl, rfl, h1, r1⟩ := trodAll_cons r0
  obtain ⟨v2, vs2, d2, ds2, p2, q2, rfl, rfl, rfl, h2, r2⟩ := trodAll_cons r1
  obtain ⟨rfl, rfl, rfl⟩ := trodAll_nil r2
  obtain rfl : args = #[v0, v1, v2] := by cases args; simp_all
  obtain ⟨rfl, rfl⟩ := trodVars_none hV
  have k0 := h0
  have lt0 : ∀ x ∈ p0, x.block < W.heap.size := by obtain ⟨m, hm⟩ := k0; exact DataW.trod_lt m _ _ _ hm
  have k1 := h1
  have lt1 : ∀ x ∈ p1, x.block < W.heap.size := by obtain ⟨m, hm⟩ := k1; exact DataW.trod_lt m _ _ _ hm
  have k2 := h2
  have lt2 : ∀ x ∈ p2, x.block < W.heap.size := by obtain ⟨m, hm⟩ := k2; exact DataW.trod_lt m _ _ _ hm
  obtain ⟨a0, len0, cap0, rfl⟩ := okWide_slice Try.underlying31 (hval 0 31 v0 rfl rfl)
  obtain ⟨z0, b0⟩ := keep_of k0
  obtain ⟨a1, len1, cap1, rfl⟩ := okWide_slice Try.underlying22 (hval 1 22 v1 rfl rfl)
  obtain ⟨z1, b1⟩ := acts_of k1 (weights_at hsz (j := 1) (t := 22) rfl rfl)
  obtain ⟨a2, len2, cap2, rfl⟩ := okWide_slice Try.underlying31 (hval 2 31 v2 rfl rfl)
  obtain ⟨z2, b2⟩ := keep_of k2
  clear hA0 hval0 hsz0 hsz
  refine (walk a0 len0 cap0 z0 a1 len1 cap1 z1 a2 len2 cap2 z2 W b0 b1 b2).mono fun e W' ⟨he, bel⟩ => ?_
  subst he
  exact ⟨_, rfl, _, _, _, [], _, [], hW', trodAll_mk1 (shut_bool Try.underlying4 _), (trodAll_cons_mk (Below.trod laidOut (by kernel_rfl) (of_decide_eq_true (by kernel_rfl)) k0 bel lt0) (trodAll_cons_mk (Below.trod laidOut (by kernel_rfl) (of_decide_eq_true (by kernel_rfl)) k1 bel lt1) (trodAll_cons_mk (Below.trod laidOut (by kernel_rfl) (of_decide_eq_true (by kernel_rfl)) k2 bel lt2) trodAll_mk0))), rfl, bel.frame _, fun h => by cases h⟩

theorem over : Rows.leaseHeldRow.holds Try.pinned (OpenSpec.ofChange Rows.leaseHeldSpec) :=
  OpenClaim.holds_of_wide 6 Try.f6 rfl rfl rfl rfl rfl rfl rfl ⟨rfl, rfl, rfl, rfl, rfl⟩ rfl rfl rfl rfl rfl (by kernel_rfl) Try.func6 (by kernel_rfl)
    (of_decide_eq_true (by kernel_rfl)) (by unfold Func.isWrapper; first | (rw [if_pos (by decide +kernel)]; kernel_rfl) | (rw [if_neg (by decide +kernel)]; exact ⟨rfl, rfl⟩))
    (fun os started H enc _ => lifted os started H enc)

theorem proved : Rows.LeaseHeldSaid := over
end Go.Proofs.Ytgkpkegbjkjhiaa.lawLHeldL
