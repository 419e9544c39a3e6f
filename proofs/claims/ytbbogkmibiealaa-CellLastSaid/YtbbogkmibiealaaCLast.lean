/-
  The statement CellLast is proved for whatever raw grants and orders: in whatever order grants of one epoch come, and however often, in the end the cell has the one of the highest version. No condition.
-/
import Derived.Deep.DeepCutAuto
import Derived.Test.YtbbogkmibiealaaCcalls
import Derived.Test.YtbbogkmibiealaaClastn
import Derived.Test.YtbbogkmibiealaaOpen18
import Derived.Test.YtbbogkmibiealaaRows
namespace Go.Proofs.Ytbbogkmibiealaa.lawCLast
open Go.ChangeShapes Go.WideShapes Go.ChangeAt Go.RowKit Gm

abbrev M (w wr : World) (p : Nat) (D : Ce) (v : Value) (E : List (Ms × Value)) (bs : List (Nat × Obj)) : Prop := Held PCell RowsK w wr p D 0 (v, E) bs
/-- The row has the first i of the raw grants, as messages. -/
structure AllAt (z : List GrE) (i : Nat) (E : List (Ms × Value)) (bs : List (Nat × Obj)) : Prop where
  len : E.length = i
  is : ∀ j (h : j < E.length) (h' : j < z.length), E[j].1 = lastM j z[j]
  row : ∀ j (h : j < E.length), RowK bs E[j].2 E[j].1.l
theorem AllAt.more {z : List GrE} {i : Nat} {E : List (Ms × Value)} {bs cs : List (Nat × Obj)} (h : AllAt z i E bs) (hs : ∀ y ∈ bs, y ∈ cs) : AllAt z i E cs := ⟨h.len, h.is, fun j hj => (h.row j hj).more hs⟩
theorem AllAt.snoc {z : List GrE} {i : Nat} {E : List (Ms × Value)} {bs : List (Nat × Obj)} (h : AllAt z i E bs) {m : Ms} {v : Value} (hm : ∀ h' : i < z.length, m = lastM i z[i]) (hr : RowK bs v m.l) : AllAt z (i + 1) (E ++ [(m, v)]) bs := by
  have hl := h.len
  refine ⟨by rw [List.length_append, hl]; rfl, fun j hj h' => ?_, fun j hj => ?_⟩
  · rw [List.length_append, hl] at hj
    by_cases hji : j < i
    · rw [List.getElem_append_left (by omega)]
      exact h.is j (by omega) h'
    · have hje : j = i := by simp at hj; omega
      subst hje
      rw [List.getElem_append_right (by omega)]
      simp
      exact hm h'
  · rw [List.length_append, hl] at hj
    by_cases hji : j < i
    · rw [List.getElem_append_left (by omega)]
      exact h.row j (by omega)
    · have hje : j = i := by simp at hj; omega
      subst hje
      rw [List.getElem_append_right (by omega)]
      simp
      exact hr
/-- Message j of the row comes to the cell. -/
theorem recvAll {w W : World} {p : Nat} {z : List GrE} {m t : Nat} {v : Value} {E : List (Ms × Value)} {bs : List (Nat × Obj)} (h : M w W p (cellL z t) v E bs) (hE : AllAt z m E bs) (hm : m ≤ 20) (hz : m ≤ z.length) (ht : t ≤ m) {j : Nat} (hj : j < m) :
    ∃ g cap k c b e ver u a n c2, v = .slice (some ⟨g, 0, none⟩) m cap ∧ g < W.heap.size ∧ W.cell? ⟨g, j * 7, none⟩ = some (.int .i64 k) ∧ W.cell? ⟨g, j * 7 + 1, none⟩ = some (.int .i64 c) ∧ W.cell? ⟨g, j * 7 + 2, none⟩ = some (.int .i64 b) ∧ W.cell? ⟨g, j * 7 + 3, none⟩ = some (.int .i64 e) ∧ W.cell? ⟨g, j * 7 + 4, none⟩ = some (.int .i64 ver) ∧ W.cell? ⟨g, j * 7 + 5, none⟩ = some (.int .i64 u) ∧ W.cell? ⟨g, j * 7 + 6, none⟩ = some (.slice a n c2) ∧
      Calls Try.prog 11 #[.pointer (some ⟨p, 0, none⟩), msgV k c b e ver u a n c2] W fun x w' => ∃ y, x = .returned (.bool y) ∧ M w w' p (cellL z (max t (j + 1))) v E bs := by
  have hjl : j < E.length := by rw [hE.len]; exact hj
  have hjz : j < z.length := by omega
  obtain ⟨g, cap, hv, hg, c0, c1, c2, c3, c4, c5, c6⟩ := h.rowAt hjl
  have hr := hE.row j hjl
  have hi := hE.is j hjl hjz
  obtain ⟨a, c2', hs⟩ := hr.form
  rw [hs] at c6 hr
  rw [hE.len] at hv
  have hok := cellL_ok z (t := t) (by omega)
  have hmo := lastM_ok j z[j] (by omega)
  refine ⟨g, cap, _, _, _, _, _, _, a, _, c2', hv, hg, c0, c1, c2, c3, c4, c5, c6, ?_⟩
  rw [hi] at hr ⊢
  have hc := h.pR1 rows_law hok (lastM j z[j]).kind (lastM j z[j]).cell (lastM j z[j]).boot (lastM j z[j]).epoch (lastM j z[j]).ver (lastM j z[j]).unt (l := (lastM j z[j]).l) hmo hr
  refine hc.mono fun x w' ⟨h1, h2⟩ => ⟨_, h1, ?_⟩
  rw [show (⟨(lastM j z[j]).kind, (lastM j z[j]).cell, (lastM j z[j]).boot, (lastM j z[j]).epoch, (lastM j z[j]).ver, (lastM j z[j]).unt, (lastM j z[j]).l⟩ : Ms) = lastM j z[j] from rfl, recv_last hjz (by omega)] at h2
  exact h2
set_option maxRecDepth 100000 in
set_option maxHeartbeats 8000000 in
theorem walk (a : Option Addr) (len cap : Nat) (z : List GrE) (oa : Option Addr) (ol oc : Nat) (os : List Int) (w : World) (h0 : GrantsAt w.heap.size w a len z) (h1 : KeepB w.heap.size w oa ol os) (hol : ol ≤ 281474976710656) :
    Calls Try.prog 5 #[.slice a len cap, .slice oa ol oc] w fun e w' => e = .returned (.bool true) ∧ Below w.heap.size w w' := by
  have HZ := Lib.hid h0
  have HO := Lib.hid h1
  have hzl : z.length = len := h0.1
  have HZL := Lib.hid hzl
  have i0 : I64 0 := by unfold I64; omega
  have i1 : I64 1 := by unfold I64; omega
  have I0 := Lib.hid i0
  have I1 := Lib.hid i1
  have hlen : len ≤ 140737488351232 := h0.2.1
  have H0 := Lib.hid (Held.start (X := Ce) (Y := Value × List (Ms × Value)) w (newC 0 0) (.slice none 0 0, []))
  obtain ⟨ms, hms⟩ : ∃ ms, z.map fitM = ms := ⟨_, rfl⟩
  have HMS := Lib.hid hms
  clear h0 h1 hzl i0 i1 hms
  go_enter Try.func5, Try.ntmps5
  go_upto_region 2 with (go_at_call 8; with_reducible refine (awake_any w).mono ?_; rintro e w1 ⟨rfl, hb1⟩; have H1 := Lib.hid (H0.out.below nobody_law nobody_law hb1); clear hb1)
  go_upto_region 3 with (go_at_call 9; refine (H1.out.pNew1 nobody_law 0 1 I0.out I1.out).mono ?_; rintro e w2 ⟨p, rfl, h2⟩
                         have h3 : M w w2 p (newC 0 1) (.slice none 0 0) [] [] := (h2.swap.made pcell_law (A := RowsK) (w' := w2) (p := 0) (D := (.slice none 0 0, [])) (R' := fun b => (Value.slice none 0 0).ownBlock = some b) ⟨fun _ => Iff.rfl, World.ownsRow_nil _ _ _ _⟩ (fun b e => by simp [Value.ownBlock] at e) (Below.refl _ _)).swap
                         have H3 := Lib.hid h3
                         clear h2 h3)
  clear H0 H1
  go_wp2
  go_loopw [7, 8] (fun av iv wr => ∃ i bs E, i ≤ len ∧ i ≤ 20 ∧ iv = .int .i64 ((i : Nat) : Int) ∧ AllAt z i E bs ∧ M w wr p (newC 0 1) av E bs) (fun _ iv _ => 21 - (intOf iv).toNat)
  case atStart => exact ⟨0, [], [], Nat.zero_le _, Nat.zero_le _, rfl, ⟨rfl, fun j h => by simp at h, fun j h => by simp at h⟩, H3.out⟩
  case round =>
    obtain ⟨i, bs, E, hi, hi20, rfl, hall, hh⟩ := hrel
    clear H3
    have HH := Lib.hid hh
    have HALL := Lib.hid hall
    clear hh hall
    by_cases hlt : i < len
    · by_cases h20 : i < 20
      · have hii : (i : Int) < (len : Int) := by omega
        have hii20 : (i : Int) < 20 := by omega
        have hi0 : (0 : Int) ≤ (i : Int) := by omega
        have HU : Hid (i + 1 ≤ len ∧ i + 1 ≤ 20) := Lib.hid ⟨hlt, h20⟩
        have HLAST : Hid (∀ h : i < z.length, lastM i z[i] = ⟨1, 0, 1, 3, (i : Int) + 1, (fitM z[i]).unt, (fitM z[i]).l⟩) := Lib.hid fun h => rfl
        obtain ⟨b, off, rfl, hb, hil, hx, c0, c1, c2, c3, c4, c5, ka, kl, kc, c6, hk⟩ := (HZ.out.below HH.out.to).get hlt
        have hbw : b < wr.heap.size := Nat.lt_of_lt_of_le hb HH.out.to.size
        obtain ⟨x, hxe⟩ : ∃ x, z[i] = x := ⟨_, rfl⟩
        rw [hxe] at hx c0 c1 c2 c3 c4 c5 hk
        obtain ⟨⟨k, c, bb, e, v, u, l⟩, hm⟩ : ∃ m, fitM x = m := ⟨_, rfl⟩
        have hmo := fitM_ok x
        rw [hm] at hmo
        have hml : l.length ≤ 64 := by
          have h1 := (fitL_few x.l).1
          unfold fitM at hm
          injection hm with _ _ _ _ _ _ e7
          rw [e7] at h1
          omega
        have hms1 : ms[i]? = some ⟨k, c, bb, e, v, u, l⟩ := by rw [← HMS.out, List.getElem?_map, List.getElem?_eq_getElem hil, hxe, ← hm]; rfl
        have HMI := Lib.hid hms1
        have HFIT := Lib.hid (HH.out.fit pcell_law rows_law x (kc := kc) hx hk hm)
        have HMO := Lib.hid hmo
        obtain ⟨n, hn⟩ : ∃ n, l.length = n := ⟨_, rfl⟩
        rw [hn] at HFIT hml
        have HLN := Lib.hid hn
        obtain ⟨x1, hx1⟩ : ∃ n, x.kind = n := ⟨_, rfl⟩
        rw [hx1] at c0 HFIT
        obtain ⟨x2, hx2⟩ : ∃ n, x.cell = n := ⟨_, rfl⟩
        rw [hx2] at c1 HFIT
        obtain ⟨x3, hx3⟩ : ∃ n, x.boot = n := ⟨_, rfl⟩
        rw [hx3] at c2 HFIT
        obtain ⟨x4, hx4⟩ : ∃ n, x.epoch = n := ⟨_, rfl⟩
        rw [hx4] at c3 HFIT
        obtain ⟨x5, hx5⟩ : ∃ n, x.ver = n := ⟨_, rfl⟩
        rw [hx5] at c4 HFIT
        obtain ⟨x6, hx6⟩ : ∃ n, x.unt = n := ⟨_, rfl⟩
        rw [hx6] at c5 HFIT
        have HLM : Hid (∀ h' : i < z.length, (⟨1, 0, 1, 3, (i : Int) + 1, u, l⟩ : Ms) = lastM i z[i]) := Lib.hid fun h' => by rw [HLAST.out h', hxe, hm]
        clear hx hk hxe hm hmo hms1 hil hb hn hx1 hx2 hx3 hx4 hx5 hx6
        clear hlt h20 hi hi20 HLAST
        go_upto_region 8 with (go_at_call 19; (with_reducible refine HFIT.out.mono ?_); rintro e' w4 ⟨fa, fc, cs, rfl, h4, hs4, hr4⟩; have H4 := Lib.hid h4; have HS4 := Lib.hid hs4; have HR4 := Lib.hid hr4; clear h4 hs4 hr4)
        clear HFIT
        go_upto_region 13 with fail
        have h5 := H4.out.below pcell_law rows_law ((Below.refl _ w4).alloc (Nat.le_refl _) (msgO 1 0 1 3 ((i : Int) + 1) u fa n fc))
        have hne := new_at w4 (msgO 1 0 1 3 ((i : Int) + 1) u fa n fc)
        obtain ⟨g0, g1, g2, g3, g4, g5, g6, _, gl⟩ := msg_cells hne
        have hEl : E.length = i := HALL.out.len
        obtain ⟨a5, c5, w5, hr5, h6⟩ := h5.more pcell_law 1 0 1 3 ((i : Int) + 1) u l fa n fc (by have := HU.out.2; omega)
        rw [hEl] at hr5 h6
        have hsz : (w4.alloc (msgO 1 0 1 3 ((i : Int) + 1) u fa n fc)).heap.size = w4.heap.size + 1 := by simp
        rw [hsz] at hr5
        have HAP := Lib.hid hr5
        have H6 := Lib.hid h6
        have HA6 : Hid (AllAt z (i + 1) (E ++ [(⟨1, 0, 1, 3, (i : Int) + 1, u, l⟩, .slice fa n fc)]) cs) := Lib.hid ((HALL.out.more HS4.out).snoc HLM.out HR4.out)
        clear h5 hne hEl hr5 h6 hsz
        go_wp2_with (at_builtin; refine wpList_append_any rfl _ _ _ _ rfl _ _ _ _ rfl rfl HAP.out ?_)
        go_roundw
        case rel => exact ⟨i + 1, cs, _, HU.out.1, HU.out.2, by go_num, HA6.out, H6.out⟩
        case measure => simp [intOf]; omega
      · have h20' : ¬ (i : Int) < 20 := by omega
        have hii : (i : Int) < (len : Int) := by omega
        obtain ⟨ra, rc, hv7⟩ := row_form (by obtain ⟨_, _, f⟩ := HH.out; exact f.b.2)
        dsimp only at hv7
        rw [HALL.out.len] at hv7
        subst hv7
        have HM20 : Hid (i ≤ 20) := Lib.hid hi20
        have HMZ : Hid (i ≤ z.length) := Lib.hid (by rw [HZL.out]; exact hi)
        obtain ⟨m, hm⟩ : ∃ m, i = m := ⟨_, rfl⟩
        subst hm
        clear hlt h20
        go_wp2
        go_loopw [10] (fun jv wx => ∃ j t, j ≤ ol ∧ j ≤ 100 ∧ (i = 0 → j = 0) ∧ jv = .int .i64 ((j : Nat) : Int) ∧ t ≤ i ∧ M w wx p (cellL z t) (.slice ra i rc) E bs) (fun jv _ => 101 - (intOf jv).toNat)
        case atStart => exact ⟨0, 0, Nat.zero_le _, Nat.zero_le _, fun _ => rfl, rfl, Nat.zero_le _, HH.out⟩
        case round =>
          clear HH
          obtain ⟨j, t, hj, hj100, hj0, rfl, htm, hh⟩ := hrel
          have HH := Lib.hid hh
          clear hh
          have HT := Lib.hid htm
          by_cases hgo : j < ol ∧ j < 100 ∧ 0 < i
          · obtain ⟨hjl, hj1, him⟩ := hgo
            have f1 : (j : Int) < (ol : Int) := by omega
            have f2 : (j : Int) < 100 := by omega
            have f3 : (0 : Int) < (i : Int) := by omega
            have f3n : decide (0 < i) = true := decide_eq_true him
            have f4 : (0 : Int) ≤ (j : Int) := by omega
            obtain ⟨hosl, ob, oo, hoa, hoc⟩ := HO.out
            obtain rfl : oa = some ⟨ob, oo, none⟩ := by
              rcases hoa with h | h
              · omega
              · exact h
            obtain ⟨hob, q0, hx64⟩ := hoc j (by omega)
            replace q0 := (HH.out.to.cell (p := ⟨ob, oo + j, none⟩) hob).trans q0
            have hobw := Nat.lt_of_lt_of_le hob HH.out.to.size
            obtain ⟨x, hx⟩ : ∃ x, os[j]'(by omega) = x := ⟨_, rfl⟩
            rw [hx] at q0 hx64
            have hpb := pk_bd x (i : Int) f3
            have HPK := Lib.hid (fun W => pick_any x (i : Int) W hx64 f3 (by have := HM20.out; omega))
            obtain ⟨kk, hkk⟩ : ∃ kk : Nat, pk x (i : Int) = (kk : Int) := ⟨(pk x (i : Int)).toNat, by omega⟩
            rw [hkk] at HPK hpb
            have hkm : kk < i := by omega
            have f5 : (0 : Int) ≤ (kk : Int) := by omega
            have f6 : (kk : Int) < (i : Int) := by omega
            obtain ⟨g, cap', mk, mc, mb, me, mv, mu, ma, mn, mc2, hvv, hgl, s0, s1, s2, s3, s4, s5, s6, hcall⟩ := recvAll HH.out HALL.out HM20.out HMZ.out htm hkm
            injection hvv with e1 e2 e3
            subst e1 e3
            have HCALL := Lib.hid hcall
            have HU : Hid (j + 1 ≤ ol ∧ j + 1 ≤ 100 ∧ (i = 0 → j + 1 = 0) ∧ max t (kk + 1) ≤ i) := Lib.hid ⟨hjl, hj1, fun h => by omega, by omega⟩
            have hm20 := HM20.out
            clear hosl hoa hoc hob hx hx64 hkk hcall hpb hjl hj1 him hj hj100 hj0 htm hkm
            go_wp2_with (first
              | (go_at_call 20; (with_reducible refine (HPK.out _).mono ?_); rintro e' w5 ⟨rfl, rfl⟩)
              | (go_at_call 11; (with_reducible refine HCALL.out.mono ?_); rintro e' w6 ⟨yy, rfl, h6⟩; have H6 := Lib.hid h6; clear h6))
            go_roundw
            case rel => exact ⟨j + 1, _, HU.out.1, HU.out.2.1, HU.out.2.2.1, by go_num, HU.out.2.2.2, H6.out⟩
            case measure => simp [intOf]; omega
          · have hcase : ¬ j < ol ∨ (j < ol ∧ ¬ j < 100) ∨ (j < ol ∧ j < 100 ∧ i = 0) := by omega
            clear hgo
            rcases hcase with hc | ⟨hc, hc'⟩ | ⟨hc, hc', hc''⟩
            · have f1 : ¬ (j : Int) < (ol : Int) := by omega
              clear hc hj hj100 hj0 htm
              go_wp2
              go_loopw [11] (fun kv wx => ∃ k t, k ≤ i ∧ kv = .int .i64 ((k : Nat) : Int) ∧ t ≤ i ∧ (∀ k', k' < k → (k' + ol) % i + 1 ≤ t) ∧ M w wx p (cellL z t) (.slice ra i rc) E bs) (fun kv _ => 21 - (intOf kv).toNat)
              case atStart => exact ⟨0, t, Nat.zero_le _, rfl, HT.out, fun k' h => by omega, HH.out⟩
              case round =>
                clear HH HT
                obtain ⟨k, t, hk, rfl, htm, hmet, hh⟩ := hrel
                have HH := Lib.hid hh
                have HMET := Lib.hid hmet
                have HT := Lib.hid htm
                clear hh hmet
                by_cases hki : k < i
                · have f1 : (k : Int) < (i : Int) := by omega
                  have f4 : (0 : Int) ≤ (k : Int) := by omega
                  have hm20 := HM20.out
                  have him : 0 < i := by omega
                  have him2 : ¬ (i : Int) = 0 := by omega
                  have him3 : ¬ i = 0 := by omega
                  have him4 : (0 : Int) < (i : Int) := by omega
                  obtain ⟨kk, hkk⟩ : ∃ kk, (k + ol) % i = kk := ⟨_, rfl⟩
                  have hkm : kk < i := by rw [← hkk]; exact Nat.mod_lt _ him
                  obtain ⟨sm, hsm⟩ : ∃ s : Int, (k : Int) + (ol : Int) = s := ⟨_, rfl⟩
                  have hsb : 0 ≤ sm ∧ sm ≤ 281474976710676 := by omega
                  have r1 : sm % (i : Int) = (kk : Int) := by rw [← hsm, ← hkk]; exact (Int.natCast_emod (k + ol) i).symm
                  have r2 : sm.tmod (i : Int) = (kk : Int) := by rw [Int.tmod_eq_emod_of_nonneg hsb.1]; exact r1
                  have r3 : ((k : Int) + (ol : Int)) % (i : Int) = (kk : Int) := by rw [hsm]; exact r1
                  have r4 : ((k : Int) + (ol : Int)).tmod (i : Int) = (kk : Int) := by rw [hsm]; exact r2
                  have r5 : IntKind.i64.wrap (kk : Int) = (kk : Int) := IntWalk.i64_in _ ⟨by omega, by omega⟩
                  have f5 : (0 : Int) ≤ (kk : Int) := by omega
                  have f6 : (kk : Int) < (i : Int) := by omega
                  obtain ⟨g, cap', mk, mc, mb, me, mv, mu, ma, mn, mc2, hvv, hgl, s0, s1, s2, s3, s4, s5, s6, hcall⟩ := recvAll HH.out HALL.out HM20.out HMZ.out htm hkm
                  injection hvv with e1 e2 e3
                  subst e1 e3
                  have HCALL := Lib.hid hcall
                  have HU : Hid (k + 1 ≤ i ∧ max t (kk + 1) ≤ i ∧ ∀ k', k' < k + 1 → (k' + ol) % i + 1 ≤ max t (kk + 1)) := Lib.hid ⟨hki, by omega, fun k' h => by
                    rcases Nat.lt_or_ge k' k with h' | h'
                    · have := HMET.out k' h'
                      omega
                    · obtain rfl : k' = k := by omega
                      rw [hkk]
                      omega⟩
                  clear hcall hkk hk htm hkm hki hsm hsb r1 r2
                  go_wp2_with (go_at_call 11; (with_reducible refine HCALL.out.mono ?_); rintro e' w6 ⟨yy, rfl, h6⟩; have H6 := Lib.hid h6; clear h6)
                  go_roundw
                  case rel => exact ⟨k + 1, _, HU.out.1, by go_num, HU.out.2.1, HU.out.2.2, H6.out⟩
                  case measure => simp [intOf]; omega
                · have hke : k = i := by omega
                  have f1 : ¬ (k : Int) < (i : Int) := by omega
                  have hok := cellL_ok z (t := t) (by have := HM20.out; omega)
                  have HC9 := Lib.hid (HH.out.pP1 rows_law hok)
                  by_cases him : i = 0
                  · exfalso
                    omega
                  · have hti : t = i := by
                      obtain ⟨k', h1, h2⟩ := meet_last (m := i) (no := ol) (by omega)
                      have := HMET.out k' (by omega)
                      omega
                    subst hti
                    have hiz : t - 1 < z.length := by have := HMZ.out; omega
                    have hD : cellL z t = ⟨0, 1, 3, (t : Int), (lastM (t - 1) z[t - 1]).unt, (lastM (t - 1) z[t - 1]).l⟩ := by
                      unfold cellL
                      rw [if_neg him]
                      simp [hiz]
                      exact ⟨rfl, rfl⟩
                    have hjl : t - 1 < E.length := by rw [HALL.out.len]; omega
                    have hEi := HALL.out.is (t - 1) hjl hiz
                    obtain ⟨xx, hxx⟩ : ∃ x, lastM (t - 1) z[t - 1] = x := ⟨_, rfl⟩
                    have hxf : xx.kind = 1 ∧ xx.cell = 0 ∧ xx.boot = 1 ∧ xx.epoch = 3 ∧ xx.ver = (t : Int) := by
                      rw [← hxx]
                      unfold lastM
                      dsimp only
                      omega
                    rw [hxx] at hD hEi
                    have hl64 : xx.l.length ≤ 64 := by
                      rw [hD] at hok
                      exact hok.few.1
                    rw [hD] at HC9
                    dsimp only at HC9
                    obtain ⟨n, hn⟩ : ∃ n, xx.l.length = n := ⟨_, rfl⟩
                    rw [hn] at HC9 hl64
                    obtain ⟨U, hU⟩ : ∃ u, xx.unt = u := ⟨_, rfl⟩
                    rw [hU] at HC9
                    have HHD := HH.out
                    have e1 : ((t : Int) == 0) = false := by simp; omega
                    have e2 : (t == 0) = false := by simp; omega
                    obtain ⟨t1, ht1⟩ : ∃ t1 : Nat, t - 1 = t1 := ⟨_, rfl⟩
                    have e3 : (t : Int) - 1 = (t1 : Int) := by omega
                    have e4 : (0 : Int) ≤ (t1 : Int) := by omega
                    have e5 : (t1 : Int) < (t : Int) := by omega
                    have e6 : IntKind.i64.wrap ((t : Int) - 1) = (t1 : Int) := by rw [e3]; exact IntWalk.i64_in _ ⟨by omega, by have := HM20.out; omega⟩
                    have hrk := HALL.out.row (t - 1) hjl
                    obtain ⟨ga, gn, hgs⟩ := hrk.form
                    have HRK : Hid (RowK bs (.slice ga n gn) xx.l) := Lib.hid (by
                      rw [hgs, hEi, hn] at hrk
                      exact hrk)
                    have HAT : Hid (∀ W, M w W p ⟨0, 1, 3, (t : Int), U, xx.l⟩ (.slice ra t rc) E bs → ∃ g, ra = some ⟨g, 0, none⟩ ∧ g < W.heap.size ∧ W.cell? ⟨g, t1 * 7, none⟩ = some (.int .i64 1) ∧ W.cell? ⟨g, t1 * 7 + 1, none⟩ = some (.int .i64 0) ∧ W.cell? ⟨g, t1 * 7 + 2, none⟩ = some (.int .i64 1) ∧ W.cell? ⟨g, t1 * 7 + 3, none⟩ = some (.int .i64 3) ∧ W.cell? ⟨g, t1 * 7 + 4, none⟩ = some (.int .i64 (t : Int)) ∧ W.cell? ⟨g, t1 * 7 + 5, none⟩ = some (.int .i64 U) ∧ W.cell? ⟨g, t1 * 7 + 6, none⟩ = some (.slice ga n gn)) := Lib.hid fun W hW => by
                      obtain ⟨g, cap', hv, hg, c0, c1, c2, c3, c4, c5, c6⟩ := hW.rowAt hjl
                      injection hv with e1 _ _
                      rw [hEi, hxf.1] at c0
                      rw [hEi, hxf.2.1] at c1
                      rw [hEi, hxf.2.2.1] at c2
                      rw [hEi, hxf.2.2.2.1] at c3
                      rw [hEi, hxf.2.2.2.2] at c4
                      rw [hEi, hU] at c5
                      rw [hgs, hEi, hn] at c6
                      rw [ht1] at c0 c1 c2 c3 c4 c5 c6
                      exact ⟨g, e1, hg, c0, c1, c2, c3, c4, c5, c6⟩
                    clear hok hD him hke hki hk htm hiz hjl hEi hxx hxf hn hU HHD hrk hgs ht1
                    go_upto_region 26 with (go_at_call 15; (with_reducible refine HC9.out.mono ?_); rintro e' w9 ⟨sa, sc, rfl, ho9, hb9, h9⟩; have H9 := Lib.hid h9; have HO9 := Lib.hid ho9; clear ho9 hb9 h9)
                    have hb10 : Below w9.heap.size w9 (w9.alloc (msgO 2 0 1 3 (t : Int) U sa n sc)) := (Below.refl _ w9).alloc (Nat.le_refl _) _
                    have h10 := H9.out.below pcell_law rows_law hb10
                    have hn10 := new_at w9 (msgO 2 0 1 3 (t : Int) U sa n sc)
                    obtain ⟨W10, hW10⟩ : ∃ W, w9.alloc (msgO 2 0 1 3 (t : Int) U sa n sc) = W := ⟨_, rfl⟩
                    rw [hW10] at h10 hn10 hb10 ⊢
                    obtain ⟨G, hG⟩ : ∃ g, w9.heap.size = g := ⟨_, rfl⟩
                    rw [hG] at hn10 ⊢
                    obtain ⟨g, rfl, hgl, s0, s1, s2, s3, s4, s5, s6⟩ := HAT.out W10 h10
                    have H10 := Lib.hid h10
                    have hb12 : Below W10.heap.size W10 (W10.alloc (msgO 2 0 1 3 (t : Int) U ga n gn)) := (Below.refl _ W10).alloc (Nat.le_refl _) _
                    have hG2 := (hb12.block G (Array.getElem?_eq_some_iff.1 hn10).1).trans hn10
                    obtain ⟨y0, y1, y2, y3, y4, y5, y6, _, yl⟩ := msg_cells hG2
                    obtain ⟨z0, z1, z2, z3, z4, z5, z6, _, zl⟩ := msg_cells (new_at W10 (msgO 2 0 1 3 (t : Int) U ga n gn))
                    have HC11 : Hid (Calls Try.prog 14 #[msgV 2 0 1 3 (t : Int) U sa n sc, msgV 2 0 1 3 (t : Int) U ga n gn] (W10.alloc (msgO 2 0 1 3 (t : Int) U ga n gn)) fun x w' => x = .returned (.bool true) ∧ Below w.heap.size w w') := Lib.hid ((same16_any 2 0 1 3 (t : Int) U 2 0 1 3 (t : Int) U sa ga n sc n gn xx.l xx.l _ (by omega) (later_binds HO9.out (hG ▸ hb10.trans (hb12.mono hb10.size))) ((((HRK.out.now h10).keep fun _ h => hb12.block _ h).imp fun _ h => Nat.lt_of_lt_of_le h hb12.size))).mono fun x w' ⟨h1, h2⟩ => ⟨h1.trans (by simp), ((h10.to.alloc h10.to.size _).trans (h2.mono (h10.to.alloc h10.to.size _).size))⟩)
                    clear hb10 h10 hn10 hW10 hG hb12 hG2
                    go_wp2_with (go_at_call 14; (with_reducible refine HC11.out.mono ?_); rintro e' w11 ⟨rfl, hb11⟩; have HF := Lib.hid hb11; clear hb11)
                    go_ret
                    exact ⟨rfl, HF.out⟩
            · have f1 : (j : Int) < (ol : Int) := by omega
              have f2 : ¬ (j : Int) < 100 := by omega
              clear hc hc' hj hj100 hj0 htm
              go_wp2
              go_loopw [11] (fun kv wx => ∃ k t, k ≤ i ∧ kv = .int .i64 ((k : Nat) : Int) ∧ t ≤ i ∧ (∀ k', k' < k → (k' + ol) % i + 1 ≤ t) ∧ M w wx p (cellL z t) (.slice ra i rc) E bs) (fun kv _ => 21 - (intOf kv).toNat)
              case atStart => exact ⟨0, t, Nat.zero_le _, rfl, HT.out, fun k' h => by omega, HH.out⟩
              case round =>
                clear HH HT
                obtain ⟨k, t, hk, rfl, htm, hmet, hh⟩ := hrel
                have HH := Lib.hid hh
                have HMET := Lib.hid hmet
                have HT := Lib.hid htm
                clear hh hmet
                by_cases hki : k < i
                · have f1 : (k : Int) < (i : Int) := by omega
                  have f4 : (0 : Int) ≤ (k : Int) := by omega
                  have hm20 := HM20.out
                  have him : 0 < i := by omega
                  have him2 : ¬ (i : Int) = 0 := by omega
                  have him3 : ¬ i = 0 := by omega
                  have him4 : (0 : Int) < (i : Int) := by omega
                  obtain ⟨kk, hkk⟩ : ∃ kk, (k + ol) % i = kk := ⟨_, rfl⟩
                  have hkm : kk < i := by rw [← hkk]; exact Nat.mod_lt _ him
                  obtain ⟨sm, hsm⟩ : ∃ s : Int, (k : Int) + (ol : Int) = s := ⟨_, rfl⟩
                  have hsb : 0 ≤ sm ∧ sm ≤ 281474976710676 := by omega
                  have r1 : sm % (i : Int) = (kk : Int) := by rw [← hsm, ← hkk]; exact (Int.natCast_emod (k + ol) i).symm
                  have r2 : sm.tmod (i : Int) = (kk : Int) := by rw [Int.tmod_eq_emod_of_nonneg hsb.1]; exact r1
                  have r3 : ((k : Int) + (ol : Int)) % (i : Int) = (kk : Int) := by rw [hsm]; exact r1
                  have r4 : ((k : Int) + (ol : Int)).tmod (i : Int) = (kk : Int) := by rw [hsm]; exact r2
                  have r5 : IntKind.i64.wrap (kk : Int) = (kk : Int) := IntWalk.i64_in _ ⟨by omega, by omega⟩
                  have f5 : (0 : Int) ≤ (kk : Int) := by omega
                  have f6 : (kk : Int) < (i : Int) := by omega
                  obtain ⟨g, cap', mk, mc, mb, me, mv, mu, ma, mn, mc2, hvv, hgl, s0, s1, s2, s3, s4, s5, s6, hcall⟩ := recvAll HH.out HALL.out HM20.out HMZ.out htm hkm
                  injection hvv with e1 e2 e3
                  subst e1 e3
                  have HCALL := Lib.hid hcall
                  have HU : Hid (k + 1 ≤ i ∧ max t (kk + 1) ≤ i ∧ ∀ k', k' < k + 1 → (k' + ol) % i + 1 ≤ max t (kk + 1)) := Lib.hid ⟨hki, by omega, fun k' h => by
                    rcases Nat.lt_or_ge k' k with h' | h'
                    · have := HMET.out k' h'
                      omega
                    · obtain rfl : k' = k := by omega
                      rw [hkk]
                      omega⟩
                  clear hcall hkk hk htm hkm hki hsm hsb r1 r2
                  go_wp2_with (go_at_call 11; (with_reducible refine HCALL.out.mono ?_); rintro e' w6 ⟨yy, rfl, h6⟩; have H6 := Lib.hid h6; clear h6)
                  go_roundw
                  case rel => exact ⟨k + 1, _, HU.out.1, by go_num, HU.out.2.1, HU.out.2.2, H6.out⟩
                  case measure => simp [intOf]; omega
                · have hke : k = i := by omega
                  have f1 : ¬ (k : Int) < (i : Int) := by omega
                  have hok := cellL_ok z (t := t) (by have := HM20.out; omega)
                  have HC9 := Lib.hid (HH.out.pP1 rows_law hok)
                  by_cases him : i = 0
                  · exfalso
                    omega
                  · have hti : t = i := by
                      obtain ⟨k', h1, h2⟩ := meet_last (m := i) (no := ol) (by omega)
                      have := HMET.out k' (by omega)
                      omega
                    subst hti
                    have hiz : t - 1 < z.length := by have := HMZ.out; omega
                    have hD : cellL z t = ⟨0, 1, 3, (t : Int), (lastM (t - 1) z[t - 1]).unt, (lastM (t - 1) z[t - 1]).l⟩ := by
                      unfold cellL
                      rw [if_neg him]
                      simp [hiz]
                      exact ⟨rfl, rfl⟩
                    have hjl : t - 1 < E.length := by rw [HALL.out.len]; omega
                    have hEi := HALL.out.is (t - 1) hjl hiz
                    obtain ⟨xx, hxx⟩ : ∃ x, lastM (t - 1) z[t - 1] = x := ⟨_, rfl⟩
                    have hxf : xx.kind = 1 ∧ xx.cell = 0 ∧ xx.boot = 1 ∧ xx.epoch = 3 ∧ xx.ver = (t : Int) := by
                      rw [← hxx]
                      unfold lastM
                      dsimp only
                      omega
                    rw [hxx] at hD hEi
                    have hl64 : xx.l.length ≤ 64 := by
                      rw [hD] at hok
                      exact hok.few.1
                    rw [hD] at HC9
                    dsimp only at HC9
                    obtain ⟨n, hn⟩ : ∃ n, xx.l.length = n := ⟨_, rfl⟩
                    rw [hn] at HC9 hl64
                    obtain ⟨U, hU⟩ : ∃ u, xx.unt = u := ⟨_, rfl⟩
                    rw [hU] at HC9
                    have HHD := HH.out
                    have e1 : ((t : Int) == 0) = false := by simp; omega
                    have e2 : (t == 0) = false := by simp; omega
                    obtain ⟨t1, ht1⟩ : ∃ t1 : Nat, t - 1 = t1 := ⟨_, rfl⟩
                    have e3 : (t : Int) - 1 = (t1 : Int) := by omega
                    have e4 : (0 : Int) ≤ (t1 : Int) := by omega
                    have e5 : (t1 : Int) < (t : Int) := by omega
                    have e6 : IntKind.i64.wrap ((t : Int) - 1) = (t1 : Int) := by rw [e3]; exact IntWalk.i64_in _ ⟨by omega, by have := HM20.out; omega⟩
                    have hrk := HALL.out.row (t - 1) hjl
                    obtain ⟨ga, gn, hgs⟩ := hrk.form
                    have HRK : Hid (RowK bs (.slice ga n gn) xx.l) := Lib.hid (by
                      rw [hgs, hEi, hn] at hrk
                      exact hrk)
                    have HAT : Hid (∀ W, M w W p ⟨0, 1, 3, (t : Int), U, xx.l⟩ (.slice ra t rc) E bs → ∃ g, ra = some ⟨g, 0, none⟩ ∧ g < W.heap.size ∧ W.cell? ⟨g, t1 * 7, none⟩ = some (.int .i64 1) ∧ W.cell? ⟨g, t1 * 7 + 1, none⟩ = some (.int .i64 0) ∧ W.cell? ⟨g, t1 * 7 + 2, none⟩ = some (.int .i64 1) ∧ W.cell? ⟨g, t1 * 7 + 3, none⟩ = some (.int .i64 3) ∧ W.cell? ⟨g, t1 * 7 + 4, none⟩ = some (.int .i64 (t : Int)) ∧ W.cell? ⟨g, t1 * 7 + 5, none⟩ = some (.int .i64 U) ∧ W.cell? ⟨g, t1 * 7 + 6, none⟩ = some (.slice ga n gn)) := Lib.hid fun W hW => by
                      obtain ⟨g, cap', hv, hg, c0, c1, c2, c3, c4, c5, c6⟩ := hW.rowAt hjl
                      injection hv with e1 _ _
                      rw [hEi, hxf.1] at c0
                      rw [hEi, hxf.2.1] at c1
                      rw [hEi, hxf.2.2.1] at c2
                      rw [hEi, hxf.2.2.2.1] at c3
                      rw [hEi, hxf.2.2.2.2] at c4
                      rw [hEi, hU] at c5
                      rw [hgs, hEi, hn] at c6
                      rw [ht1] at c0 c1 c2 c3 c4 c5 c6
                      exact ⟨g, e1, hg, c0, c1, c2, c3, c4, c5, c6⟩
                    clear hok hD him hke hki hk htm hiz hjl hEi hxx hxf hn hU HHD hrk hgs ht1
                    go_upto_region 26 with (go_at_call 15; (with_reducible refine HC9.out.mono ?_); rintro e' w9 ⟨sa, sc, rfl, ho9, hb9, h9⟩; have H9 := Lib.hid h9; have HO9 := Lib.hid ho9; clear ho9 hb9 h9)
                    have hb10 : Below w9.heap.size w9 (w9.alloc (msgO 2 0 1 3 (t : Int) U sa n sc)) := (Below.refl _ w9).alloc (Nat.le_refl _) _
                    have h10 := H9.out.below pcell_law rows_law hb10
                    have hn10 := new_at w9 (msgO 2 0 1 3 (t : Int) U sa n sc)
                    obtain ⟨W10, hW10⟩ : ∃ W, w9.alloc (msgO 2 0 1 3 (t : Int) U sa n sc) = W := ⟨_, rfl⟩
                    rw [hW10] at h10 hn10 hb10 ⊢
                    obtain ⟨G, hG⟩ : ∃ g, w9.heap.size = g := ⟨_, rfl⟩
                    rw [hG] at hn10 ⊢
                    obtain ⟨g, rfl, hgl, s0, s1, s2, s3, s4, s5, s6⟩ := HAT.out W10 h10
                    have H10 := Lib.hid h10
                    have hb12 : Below W10.heap.size W10 (W10.alloc (msgO 2 0 1 3 (t : Int) U ga n gn)) := (Below.refl _ W10).alloc (Nat.le_refl _) _
                    have hG2 := (hb12.block G (Array.getElem?_eq_some_iff.1 hn10).1).trans hn10
                    obtain ⟨y0, y1, y2, y3, y4, y5, y6, _, yl⟩ := msg_cells hG2
                    obtain ⟨z0, z1, z2, z3, z4, z5, z6, _, zl⟩ := msg_cells (new_at W10 (msgO 2 0 1 3 (t : Int) U ga n gn))
                    have HC11 : Hid (Calls Try.prog 14 #[msgV 2 0 1 3 (t : Int) U sa n sc, msgV 2 0 1 3 (t : Int) U ga n gn] (W10.alloc (msgO 2 0 1 3 (t : Int) U ga n gn)) fun x w' => x = .returned (.bool true) ∧ Below w.heap.size w w') := Lib.hid ((same16_any 2 0 1 3 (t : Int) U 2 0 1 3 (t : Int) U sa ga n sc n gn xx.l xx.l _ (by omega) (later_binds HO9.out (hG ▸ hb10.trans (hb12.mono hb10.size))) ((((HRK.out.now h10).keep fun _ h => hb12.block _ h).imp fun _ h => Nat.lt_of_lt_of_le h hb12.size))).mono fun x w' ⟨h1, h2⟩ => ⟨h1.trans (by simp), ((h10.to.alloc h10.to.size _).trans (h2.mono (h10.to.alloc h10.to.size _).size))⟩)
                    clear hb10 h10 hn10 hW10 hG hb12 hG2
                    go_wp2_with (go_at_call 14; (with_reducible refine HC11.out.mono ?_); rintro e' w11 ⟨rfl, hb11⟩; have HF := Lib.hid hb11; clear hb11)
                    go_ret
                    exact ⟨rfl, HF.out⟩
            · exfalso
              omega
    · have hii : ¬ (i : Int) < (len : Int) := by omega
      obtain ⟨ra, rc, hv7⟩ := row_form (by obtain ⟨_, _, f⟩ := HH.out; exact f.b.2)
      dsimp only at hv7
      rw [HALL.out.len] at hv7
      subst hv7
      have HM20 : Hid (i ≤ 20) := Lib.hid hi20
      have HMZ : Hid (i ≤ z.length) := Lib.hid (by rw [HZL.out]; exact hi)
      obtain ⟨m, hm⟩ : ∃ m, i = m := ⟨_, rfl⟩
      subst hm
      clear hlt 
      go_wp2
      go_loopw [10] (fun jv wx => ∃ j t, j ≤ ol ∧ j ≤ 100 ∧ (i = 0 → j = 0) ∧ jv = .int .i64 ((j : Nat) : Int) ∧ t ≤ i ∧ M w wx p (cellL z t) (.slice ra i rc) E bs) (fun jv _ => 101 - (intOf jv).toNat)
      case atStart => exact ⟨0, 0, Nat.zero_le _, Nat.zero_le _, fun _ => rfl, rfl, Nat.zero_le _, HH.out⟩
      case round =>
        clear HH
        obtain ⟨j, t, hj, hj100, hj0, rfl, htm, hh⟩ := hrel
        have HH := Lib.hid hh
        clear hh
        have HT := Lib.hid htm
        by_cases hgo : j < ol ∧ j < 100 ∧ 0 < i
        · obtain ⟨hjl, hj1, him⟩ := hgo
          have f1 : (j : Int) < (ol : Int) := by omega
          have f2 : (j : Int) < 100 := by omega
          have f3 : (0 : Int) < (i : Int) := by omega
          have f3n : decide (0 < i) = true := decide_eq_true him
          have f4 : (0 : Int) ≤ (j : Int) := by omega
          obtain ⟨hosl, ob, oo, hoa, hoc⟩ := HO.out
          obtain rfl : oa = some ⟨ob, oo, none⟩ := by
            rcases hoa with h | h
            · omega
            · exact h
          obtain ⟨hob, q0, hx64⟩ := hoc j (by omega)
          replace q0 := (HH.out.to.cell (p := ⟨ob, oo + j, none⟩) hob).trans q0
          have hobw := Nat.lt_of_lt_of_le hob HH.out.to.size
          obtain ⟨x, hx⟩ : ∃ x, os[j]'(by omega) = x := ⟨_, rfl⟩
          rw [hx] at q0 hx64
          have hpb := pk_bd x (i : Int) f3
          have HPK := Lib.hid (fun W => pick_any x (i : Int) W hx64 f3 (by have := HM20.out; omega))
          obtain ⟨kk, hkk⟩ : ∃ kk : Nat, pk x (i : Int) = (kk : Int) := ⟨(pk x (i : Int)).toNat, by omega⟩
          rw [hkk] at HPK hpb
          have hkm : kk < i := by omega
          have f5 : (0 : Int) ≤ (kk : Int) := by omega
          have f6 : (kk : Int) < (i : Int) := by omega
          obtain ⟨g, cap', mk, mc, mb, me, mv, mu, ma, mn, mc2, hvv, hgl, s0, s1, s2, s3, s4, s5, s6, hcall⟩ := recvAll HH.out HALL.out HM20.out HMZ.out htm hkm
          injection hvv with e1 e2 e3
          subst e1 e3
          have HCALL := Lib.hid hcall
          have HU : Hid (j + 1 ≤ ol ∧ j + 1 ≤ 100 ∧ (i = 0 → j + 1 = 0) ∧ max t (kk + 1) ≤ i) := Lib.hid ⟨hjl, hj1, fun h => by omega, by omega⟩
          have hm20 := HM20.out
          clear hosl hoa hoc hob hx hx64 hkk hcall hpb hjl hj1 him hj hj100 hj0 htm hkm
          go_wp2_with (first
            | (go_at_call 20; (with_reducible refine (HPK.out _).mono ?_); rintro e' w5 ⟨rfl, rfl⟩)
            | (go_at_call 11; (with_reducible refine HCALL.out.mono ?_); rintro e' w6 ⟨yy, rfl, h6⟩; have H6 := Lib.hid h6; clear h6))
          go_roundw
          case rel => exact ⟨j + 1, _, HU.out.1, HU.out.2.1, HU.out.2.2.1, by go_num, HU.out.2.2.2, H6.out⟩
          case measure => simp [intOf]; omega
        · have hcase : ¬ j < ol ∨ (j < ol ∧ ¬ j < 100) ∨ (j < ol ∧ j < 100 ∧ i = 0) := by omega
          clear hgo
          rcases hcase with hc | ⟨hc, hc'⟩ | ⟨hc, hc', hc''⟩
          · have f1 : ¬ (j : Int) < (ol : Int) := by omega
            clear hc hj hj100 hj0 htm
            go_wp2
            go_loopw [11] (fun kv wx => ∃ k t, k ≤ i ∧ kv = .int .i64 ((k : Nat) : Int) ∧ t ≤ i ∧ (∀ k', k' < k → (k' + ol) % i + 1 ≤ t) ∧ M w wx p (cellL z t) (.slice ra i rc) E bs) (fun kv _ => 21 - (intOf kv).toNat)
            case atStart => exact ⟨0, t, Nat.zero_le _, rfl, HT.out, fun k' h => by omega, HH.out⟩
            case round =>
              clear HH HT
              obtain ⟨k, t, hk, rfl, htm, hmet, hh⟩ := hrel
              have HH := Lib.hid hh
              have HMET := Lib.hid hmet
              have HT := Lib.hid htm
              clear hh hmet
              by_cases hki : k < i
              · have f1 : (k : Int) < (i : Int) := by omega
                have f4 : (0 : Int) ≤ (k : Int) := by omega
                have hm20 := HM20.out
                have him : 0 < i := by omega
                have him2 : ¬ (i : Int) = 0 := by omega
                have him3 : ¬ i = 0 := by omega
                have him4 : (0 : Int) < (i : Int) := by omega
                obtain ⟨kk, hkk⟩ : ∃ kk, (k + ol) % i = kk := ⟨_, rfl⟩
                have hkm : kk < i := by rw [← hkk]; exact Nat.mod_lt _ him
                obtain ⟨sm, hsm⟩ : ∃ s : Int, (k : Int) + (ol : Int) = s := ⟨_, rfl⟩
                have hsb : 0 ≤ sm ∧ sm ≤ 281474976710676 := by omega
                have r1 : sm % (i : Int) = (kk : Int) := by rw [← hsm, ← hkk]; exact (Int.natCast_emod (k + ol) i).symm
                have r2 : sm.tmod (i : Int) = (kk : Int) := by rw [Int.tmod_eq_emod_of_nonneg hsb.1]; exact r1
                have r3 : ((k : Int) + (ol : Int)) % (i : Int) = (kk : Int) := by rw [hsm]; exact r1
                have r4 : ((k : Int) + (ol : Int)).tmod (i : Int) = (kk : Int) := by rw [hsm]; exact r2
                have r5 : IntKind.i64.wrap (kk : Int) = (kk : Int) := IntWalk.i64_in _ ⟨by omega, by omega⟩
                have f5 : (0 : Int) ≤ (kk : Int) := by omega
                have f6 : (kk : Int) < (i : Int) := by omega
                obtain ⟨g, cap', mk, mc, mb, me, mv, mu, ma, mn, mc2, hvv, hgl, s0, s1, s2, s3, s4, s5, s6, hcall⟩ := recvAll HH.out HALL.out HM20.out HMZ.out htm hkm
                injection hvv with e1 e2 e3
                subst e1 e3
                have HCALL := Lib.hid hcall
                have HU : Hid (k + 1 ≤ i ∧ max t (kk + 1) ≤ i ∧ ∀ k', k' < k + 1 → (k' + ol) % i + 1 ≤ max t (kk + 1)) := Lib.hid ⟨hki, by omega, fun k' h => by
                  rcases Nat.lt_or_ge k' k with h' | h'
                  · have := HMET.out k' h'
                    omega
                  · obtain rfl : k' = k := by omega
                    rw [hkk]
                    omega⟩
                clear hcall hkk hk htm hkm hki hsm hsb r1 r2
                go_wp2_with (go_at_call 11; (with_reducible refine HCALL.out.mono ?_); rintro e' w6 ⟨yy, rfl, h6⟩; have H6 := Lib.hid h6; clear h6)
                go_roundw
                case rel => exact ⟨k + 1, _, HU.out.1, by go_num, HU.out.2.1, HU.out.2.2, H6.out⟩
                case measure => simp [intOf]; omega
              · have hke : k = i := by omega
                have f1 : ¬ (k : Int) < (i : Int) := by omega
                have hok := cellL_ok z (t := t) (by have := HM20.out; omega)
                have HC9 := Lib.hid (HH.out.pP1 rows_law hok)
                by_cases him : i = 0
                · have ht0 : t = 0 := by omega
                  have hD : cellL z t = newC 0 1 := by unfold cellL; rw [if_pos ht0]
                  rw [hD] at HC9
                  simp only [newC, List.length_nil] at HC9
                  have e1 : ((i : Int) == 0) = true := by simp [him]
                  have e2 : (i == 0) = true := by simp [him]
                  clear hok hD ht0 him hke hki hk htm
                  go_wp2_with (go_at_call 15; (with_reducible refine HC9.out.mono ?_); rintro e' w9 ⟨sa, sc, rfl, _, hb9, h9⟩; have H9 := Lib.hid h9; have hl9 := new_at w9 (msgO 2 0 1 0 0 0 sa 0 sc); obtain ⟨g0, g1, g2, g3, g4, g5, g6, _, gl⟩ := msg_cells hl9; clear hb9 h9 hl9)
                  go_ret
                  exact ⟨rfl, H9.out.to.alloc H9.out.to.size _⟩
                · have hti : t = i := by
                    obtain ⟨k', h1, h2⟩ := meet_last (m := i) (no := ol) (by omega)
                    have := HMET.out k' (by omega)
                    omega
                  subst hti
                  have hiz : t - 1 < z.length := by have := HMZ.out; omega
                  have hD : cellL z t = ⟨0, 1, 3, (t : Int), (lastM (t - 1) z[t - 1]).unt, (lastM (t - 1) z[t - 1]).l⟩ := by
                    unfold cellL
                    rw [if_neg him]
                    simp [hiz]
                    exact ⟨rfl, rfl⟩
                  have hjl : t - 1 < E.length := by rw [HALL.out.len]; omega
                  have hEi := HALL.out.is (t - 1) hjl hiz
                  obtain ⟨xx, hxx⟩ : ∃ x, lastM (t - 1) z[t - 1] = x := ⟨_, rfl⟩
                  have hxf : xx.kind = 1 ∧ xx.cell = 0 ∧ xx.boot = 1 ∧ xx.epoch = 3 ∧ xx.ver = (t : Int) := by
                    rw [← hxx]
                    unfold lastM
                    dsimp only
                    omega
                  rw [hxx] at hD hEi
                  have hl64 : xx.l.length ≤ 64 := by
                    rw [hD] at hok
                    exact hok.few.1
                  rw [hD] at HC9
                  dsimp only at HC9
                  obtain ⟨n, hn⟩ : ∃ n, xx.l.length = n := ⟨_, rfl⟩
                  rw [hn] at HC9 hl64
                  obtain ⟨U, hU⟩ : ∃ u, xx.unt = u := ⟨_, rfl⟩
                  rw [hU] at HC9
                  have HHD := HH.out
                  have e1 : ((t : Int) == 0) = false := by simp; omega
                  have e2 : (t == 0) = false := by simp; omega
                  obtain ⟨t1, ht1⟩ : ∃ t1 : Nat, t - 1 = t1 := ⟨_, rfl⟩
                  have e3 : (t : Int) - 1 = (t1 : Int) := by omega
                  have e4 : (0 : Int) ≤ (t1 : Int) := by omega
                  have e5 : (t1 : Int) < (t : Int) := by omega
                  have e6 : IntKind.i64.wrap ((t : Int) - 1) = (t1 : Int) := by rw [e3]; exact IntWalk.i64_in _ ⟨by omega, by have := HM20.out; omega⟩
                  have hrk := HALL.out.row (t - 1) hjl
                  obtain ⟨ga, gn, hgs⟩ := hrk.form
                  have HRK : Hid (RowK bs (.slice ga n gn) xx.l) := Lib.hid (by
                    rw [hgs, hEi, hn] at hrk
                    exact hrk)
                  have HAT : Hid (∀ W, M w W p ⟨0, 1, 3, (t : Int), U, xx.l⟩ (.slice ra t rc) E bs → ∃ g, ra = some ⟨g, 0, none⟩ ∧ g < W.heap.size ∧ W.cell? ⟨g, t1 * 7, none⟩ = some (.int .i64 1) ∧ W.cell? ⟨g, t1 * 7 + 1, none⟩ = some (.int .i64 0) ∧ W.cell? ⟨g, t1 * 7 + 2, none⟩ = some (.int .i64 1) ∧ W.cell? ⟨g, t1 * 7 + 3, none⟩ = some (.int .i64 3) ∧ W.cell? ⟨g, t1 * 7 + 4, none⟩ = some (.int .i64 (t : Int)) ∧ W.cell? ⟨g, t1 * 7 + 5, none⟩ = some (.int .i64 U) ∧ W.cell? ⟨g, t1 * 7 + 6, none⟩ = some (.slice ga n gn)) := Lib.hid fun W hW => by
                    obtain ⟨g, cap', hv, hg, c0, c1, c2, c3, c4, c5, c6⟩ := hW.rowAt hjl
                    injection hv with e1 _ _
                    rw [hEi, hxf.1] at c0
                    rw [hEi, hxf.2.1] at c1
                    rw [hEi, hxf.2.2.1] at c2
                    rw [hEi, hxf.2.2.2.1] at c3
                    rw [hEi, hxf.2.2.2.2] at c4
                    rw [hEi, hU] at c5
                    rw [hgs, hEi, hn] at c6
                    rw [ht1] at c0 c1 c2 c3 c4 c5 c6
                    exact ⟨g, e1, hg, c0, c1, c2, c3, c4, c5, c6⟩
                  clear hok hD him hke hki hk htm hiz hjl hEi hxx hxf hn hU HHD hrk hgs ht1
                  go_upto_region 26 with (go_at_call 15; (with_reducible refine HC9.out.mono ?_); rintro e' w9 ⟨sa, sc, rfl, ho9, hb9, h9⟩; have H9 := Lib.hid h9; have HO9 := Lib.hid ho9; clear ho9 hb9 h9)
                  have hb10 : Below w9.heap.size w9 (w9.alloc (msgO 2 0 1 3 (t : Int) U sa n sc)) := (Below.refl _ w9).alloc (Nat.le_refl _) _
                  have h10 := H9.out.below pcell_law rows_law hb10
                  have hn10 := new_at w9 (msgO 2 0 1 3 (t : Int) U sa n sc)
                  obtain ⟨W10, hW10⟩ : ∃ W, w9.alloc (msgO 2 0 1 3 (t : Int) U sa n sc) = W := ⟨_, rfl⟩
                  rw [hW10] at h10 hn10 hb10 ⊢
                  obtain ⟨G, hG⟩ : ∃ g, w9.heap.size = g := ⟨_, rfl⟩
                  rw [hG] at hn10 ⊢
                  obtain ⟨g, rfl, hgl, s0, s1, s2, s3, s4, s5, s6⟩ := HAT.out W10 h10
                  have H10 := Lib.hid h10
                  have hb12 : Below W10.heap.size W10 (W10.alloc (msgO 2 0 1 3 (t : Int) U ga n gn)) := (Below.refl _ W10).alloc (Nat.le_refl _) _
                  have hG2 := (hb12.block G (Array.getElem?_eq_some_iff.1 hn10).1).trans hn10
                  obtain ⟨y0, y1, y2, y3, y4, y5, y6, _, yl⟩ := msg_cells hG2
                  obtain ⟨z0, z1, z2, z3, z4, z5, z6, _, zl⟩ := msg_cells (new_at W10 (msgO 2 0 1 3 (t : Int) U ga n gn))
                  have HC11 : Hid (Calls Try.prog 14 #[msgV 2 0 1 3 (t : Int) U sa n sc, msgV 2 0 1 3 (t : Int) U ga n gn] (W10.alloc (msgO 2 0 1 3 (t : Int) U ga n gn)) fun x w' => x = .returned (.bool true) ∧ Below w.heap.size w w') := Lib.hid ((same16_any 2 0 1 3 (t : Int) U 2 0 1 3 (t : Int) U sa ga n sc n gn xx.l xx.l _ (by omega) (later_binds HO9.out (hG ▸ hb10.trans (hb12.mono hb10.size))) ((((HRK.out.now h10).keep fun _ h => hb12.block _ h).imp fun _ h => Nat.lt_of_lt_of_le h hb12.size))).mono fun x w' ⟨h1, h2⟩ => ⟨h1.trans (by simp), ((h10.to.alloc h10.to.size _).trans (h2.mono (h10.to.alloc h10.to.size _).size))⟩)
                  clear hb10 h10 hn10 hW10 hG hb12 hG2
                  go_wp2_with (go_at_call 14; (with_reducible refine HC11.out.mono ?_); rintro e' w11 ⟨rfl, hb11⟩; have HF := Lib.hid hb11; clear hb11)
                  go_ret
                  exact ⟨rfl, HF.out⟩
          · have f1 : (j : Int) < (ol : Int) := by omega
            have f2 : ¬ (j : Int) < 100 := by omega
            clear hc hc' hj hj100 hj0 htm
            go_wp2
            go_loopw [11] (fun kv wx => ∃ k t, k ≤ i ∧ kv = .int .i64 ((k : Nat) : Int) ∧ t ≤ i ∧ (∀ k', k' < k → (k' + ol) % i + 1 ≤ t) ∧ M w wx p (cellL z t) (.slice ra i rc) E bs) (fun kv _ => 21 - (intOf kv).toNat)
            case atStart => exact ⟨0, t, Nat.zero_le _, rfl, HT.out, fun k' h => by omega, HH.out⟩
            case round =>
              clear HH HT
              obtain ⟨k, t, hk, rfl, htm, hmet, hh⟩ := hrel
              have HH := Lib.hid hh
              have HMET := Lib.hid hmet
              have HT := Lib.hid htm
              clear hh hmet
              by_cases hki : k < i
              · have f1 : (k : Int) < (i : Int) := by omega
                have f4 : (0 : Int) ≤ (k : Int) := by omega
                have hm20 := HM20.out
                have him : 0 < i := by omega
                have him2 : ¬ (i : Int) = 0 := by omega
                have him3 : ¬ i = 0 := by omega
                have him4 : (0 : Int) < (i : Int) := by omega
                obtain ⟨kk, hkk⟩ : ∃ kk, (k + ol) % i = kk := ⟨_, rfl⟩
                have hkm : kk < i := by rw [← hkk]; exact Nat.mod_lt _ him
                obtain ⟨sm, hsm⟩ : ∃ s : Int, (k : Int) + (ol : Int) = s := ⟨_, rfl⟩
                have hsb : 0 ≤ sm ∧ sm ≤ 281474976710676 := by omega
                have r1 : sm % (i : Int) = (kk : Int) := by rw [← hsm, ← hkk]; exact (Int.natCast_emod (k + ol) i).symm
                have r2 : sm.tmod (i : Int) = (kk : Int) := by rw [Int.tmod_eq_emod_of_nonneg hsb.1]; exact r1
                have r3 : ((k : Int) + (ol : Int)) % (i : Int) = (kk : Int) := by rw [hsm]; exact r1
                have r4 : ((k : Int) + (ol : Int)).tmod (i : Int) = (kk : Int) := by rw [hsm]; exact r2
                have r5 : IntKind.i64.wrap (kk : Int) = (kk : Int) := IntWalk.i64_in _ ⟨by omega, by omega⟩
                have f5 : (0 : Int) ≤ (kk : Int) := by omega
                have f6 : (kk : Int) < (i : Int) := by omega
                obtain ⟨g, cap', mk, mc, mb, me, mv, mu, ma, mn, mc2, hvv, hgl, s0, s1, s2, s3, s4, s5, s6, hcall⟩ := recvAll HH.out HALL.out HM20.out HMZ.out htm hkm
                injection hvv with e1 e2 e3
                subst e1 e3
                have HCALL := Lib.hid hcall
                have HU : Hid (k + 1 ≤ i ∧ max t (kk + 1) ≤ i ∧ ∀ k', k' < k + 1 → (k' + ol) % i + 1 ≤ max t (kk + 1)) := Lib.hid ⟨hki, by omega, fun k' h => by
                  rcases Nat.lt_or_ge k' k with h' | h'
                  · have := HMET.out k' h'
                    omega
                  · obtain rfl : k' = k := by omega
                    rw [hkk]
                    omega⟩
                clear hcall hkk hk htm hkm hki hsm hsb r1 r2
                go_wp2_with (go_at_call 11; (with_reducible refine HCALL.out.mono ?_); rintro e' w6 ⟨yy, rfl, h6⟩; have H6 := Lib.hid h6; clear h6)
                go_roundw
                case rel => exact ⟨k + 1, _, HU.out.1, by go_num, HU.out.2.1, HU.out.2.2, H6.out⟩
                case measure => simp [intOf]; omega
              · have hke : k = i := by omega
                have f1 : ¬ (k : Int) < (i : Int) := by omega
                have hok := cellL_ok z (t := t) (by have := HM20.out; omega)
                have HC9 := Lib.hid (HH.out.pP1 rows_law hok)
                by_cases him : i = 0
                · have ht0 : t = 0 := by omega
                  have hD : cellL z t = newC 0 1 := by unfold cellL; rw [if_pos ht0]
                  rw [hD] at HC9
                  simp only [newC, List.length_nil] at HC9
                  have e1 : ((i : Int) == 0) = true := by simp [him]
                  have e2 : (i == 0) = true := by simp [him]
                  clear hok hD ht0 him hke hki hk htm
                  go_wp2_with (go_at_call 15; (with_reducible refine HC9.out.mono ?_); rintro e' w9 ⟨sa, sc, rfl, _, hb9, h9⟩; have H9 := Lib.hid h9; have hl9 := new_at w9 (msgO 2 0 1 0 0 0 sa 0 sc); obtain ⟨g0, g1, g2, g3, g4, g5, g6, _, gl⟩ := msg_cells hl9; clear hb9 h9 hl9)
                  go_ret
                  exact ⟨rfl, H9.out.to.alloc H9.out.to.size _⟩
                · have hti : t = i := by
                    obtain ⟨k', h1, h2⟩ := meet_last (m := i) (no := ol) (by omega)
                    have := HMET.out k' (by omega)
                    omega
                  subst hti
                  have hiz : t - 1 < z.length := by have := HMZ.out; omega
                  have hD : cellL z t = ⟨0, 1, 3, (t : Int), (lastM (t - 1) z[t - 1]).unt, (lastM (t - 1) z[t - 1]).l⟩ := by
                    unfold cellL
                    rw [if_neg him]
                    simp [hiz]
                    exact ⟨rfl, rfl⟩
                  have hjl : t - 1 < E.length := by rw [HALL.out.len]; omega
                  have hEi := HALL.out.is (t - 1) hjl hiz
                  obtain ⟨xx, hxx⟩ : ∃ x, lastM (t - 1) z[t - 1] = x := ⟨_, rfl⟩
                  have hxf : xx.kind = 1 ∧ xx.cell = 0 ∧ xx.boot = 1 ∧ xx.epoch = 3 ∧ xx.ver = (t : Int) := by
                    rw [← hxx]
                    unfold lastM
                    dsimp only
                    omega
                  rw [hxx] at hD hEi
                  have hl64 : xx.l.length ≤ 64 := by
                    rw [hD] at hok
                    exact hok.few.1
                  rw [hD] at HC9
                  dsimp only at HC9
                  obtain ⟨n, hn⟩ : ∃ n, xx.l.length = n := ⟨_, rfl⟩
                  rw [hn] at HC9 hl64
                  obtain ⟨U, hU⟩ : ∃ u, xx.unt = u := ⟨_, rfl⟩
                  rw [hU] at HC9
                  have HHD := HH.out
                  have e1 : ((t : Int) == 0) = false := by simp; omega
                  have e2 : (t == 0) = false := by simp; omega
                  obtain ⟨t1, ht1⟩ : ∃ t1 : Nat, t - 1 = t1 := ⟨_, rfl⟩
                  have e3 : (t : Int) - 1 = (t1 : Int) := by omega
                  have e4 : (0 : Int) ≤ (t1 : Int) := by omega
                  have e5 : (t1 : Int) < (t : Int) := by omega
                  have e6 : IntKind.i64.wrap ((t : Int) - 1) = (t1 : Int) := by rw [e3]; exact IntWalk.i64_in _ ⟨by omega, by have := HM20.out; omega⟩
                  have hrk := HALL.out.row (t - 1) hjl
                  obtain ⟨ga, gn, hgs⟩ := hrk.form
                  have HRK : Hid (RowK bs (.slice ga n gn) xx.l) := Lib.hid (by
                    rw [hgs, hEi, hn] at hrk
                    exact hrk)
                  have HAT : Hid (∀ W, M w W p ⟨0, 1, 3, (t : Int), U, xx.l⟩ (.slice ra t rc) E bs → ∃ g, ra = some ⟨g, 0, none⟩ ∧ g < W.heap.size ∧ W.cell? ⟨g, t1 * 7, none⟩ = some (.int .i64 1) ∧ W.cell? ⟨g, t1 * 7 + 1, none⟩ = some (.int .i64 0) ∧ W.cell? ⟨g, t1 * 7 + 2, none⟩ = some (.int .i64 1) ∧ W.cell? ⟨g, t1 * 7 + 3, none⟩ = some (.int .i64 3) ∧ W.cell? ⟨g, t1 * 7 + 4, none⟩ = some (.int .i64 (t : Int)) ∧ W.cell? ⟨g, t1 * 7 + 5, none⟩ = some (.int .i64 U) ∧ W.cell? ⟨g, t1 * 7 + 6, none⟩ = some (.slice ga n gn)) := Lib.hid fun W hW => by
                    obtain ⟨g, cap', hv, hg, c0, c1, c2, c3, c4, c5, c6⟩ := hW.rowAt hjl
                    injection hv with e1 _ _
                    rw [hEi, hxf.1] at c0
                    rw [hEi, hxf.2.1] at c1
                    rw [hEi, hxf.2.2.1] at c2
                    rw [hEi, hxf.2.2.2.1] at c3
                    rw [hEi, hxf.2.2.2.2] at c4
                    rw [hEi, hU] at c5
                    rw [hgs, hEi, hn] at c6
                    rw [ht1] at c0 c1 c2 c3 c4 c5 c6
                    exact ⟨g, e1, hg, c0, c1, c2, c3, c4, c5, c6⟩
                  clear hok hD him hke hki hk htm hiz hjl hEi hxx hxf hn hU HHD hrk hgs ht1
                  go_upto_region 26 with (go_at_call 15; (with_reducible refine HC9.out.mono ?_); rintro e' w9 ⟨sa, sc, rfl, ho9, hb9, h9⟩; have H9 := Lib.hid h9; have HO9 := Lib.hid ho9; clear ho9 hb9 h9)
                  have hb10 : Below w9.heap.size w9 (w9.alloc (msgO 2 0 1 3 (t : Int) U sa n sc)) := (Below.refl _ w9).alloc (Nat.le_refl _) _
                  have h10 := H9.out.below pcell_law rows_law hb10
                  have hn10 := new_at w9 (msgO 2 0 1 3 (t : Int) U sa n sc)
                  obtain ⟨W10, hW10⟩ : ∃ W, w9.alloc (msgO 2 0 1 3 (t : Int) U sa n sc) = W := ⟨_, rfl⟩
                  rw [hW10] at h10 hn10 hb10 ⊢
                  obtain ⟨G, hG⟩ : ∃ g, w9.heap.size = g := ⟨_, rfl⟩
                  rw [hG] at hn10 ⊢
                  obtain ⟨g, rfl, hgl, s0, s1, s2, s3, s4, s5, s6⟩ := HAT.out W10 h10
                  have H10 := Lib.hid h10
                  have hb12 : Below W10.heap.size W10 (W10.alloc (msgO 2 0 1 3 (t : Int) U ga n gn)) := (Below.refl _ W10).alloc (Nat.le_refl _) _
                  have hG2 := (hb12.block G (Array.getElem?_eq_some_iff.1 hn10).1).trans hn10
                  obtain ⟨y0, y1, y2, y3, y4, y5, y6, _, yl⟩ := msg_cells hG2
                  obtain ⟨z0, z1, z2, z3, z4, z5, z6, _, zl⟩ := msg_cells (new_at W10 (msgO 2 0 1 3 (t : Int) U ga n gn))
                  have HC11 : Hid (Calls Try.prog 14 #[msgV 2 0 1 3 (t : Int) U sa n sc, msgV 2 0 1 3 (t : Int) U ga n gn] (W10.alloc (msgO 2 0 1 3 (t : Int) U ga n gn)) fun x w' => x = .returned (.bool true) ∧ Below w.heap.size w w') := Lib.hid ((same16_any 2 0 1 3 (t : Int) U 2 0 1 3 (t : Int) U sa ga n sc n gn xx.l xx.l _ (by omega) (later_binds HO9.out (hG ▸ hb10.trans (hb12.mono hb10.size))) ((((HRK.out.now h10).keep fun _ h => hb12.block _ h).imp fun _ h => Nat.lt_of_lt_of_le h hb12.size))).mono fun x w' ⟨h1, h2⟩ => ⟨h1.trans (by simp), ((h10.to.alloc h10.to.size _).trans (h2.mono (h10.to.alloc h10.to.size _).size))⟩)
                  clear hb10 h10 hn10 hW10 hG hb12 hG2
                  go_wp2_with (go_at_call 14; (with_reducible refine HC11.out.mono ?_); rintro e' w11 ⟨rfl, hb11⟩; have HF := Lib.hid hb11; clear hb11)
                  go_ret
                  exact ⟨rfl, HF.out⟩
          · have f1 : (j : Int) < (ol : Int) := by omega
            have f2 : (j : Int) < 100 := by omega
            have f3 : ¬ (0 : Int) < (i : Int) := by omega
            have f3n : decide (0 < i) = false := decide_eq_false (by omega)
            have HC0 := Lib.hid hc''
            clear hc hc' hc'' hj hj100 hj0 htm
            go_wp2
            go_loopw [11] (fun kv wx => ∃ k t, k ≤ i ∧ kv = .int .i64 ((k : Nat) : Int) ∧ t ≤ i ∧ (∀ k', k' < k → (k' + ol) % i + 1 ≤ t) ∧ M w wx p (cellL z t) (.slice ra i rc) E bs) (fun kv _ => 21 - (intOf kv).toNat)
            case atStart => exact ⟨0, t, Nat.zero_le _, rfl, HT.out, fun k' h => by omega, HH.out⟩
            case round =>
              clear HH HT
              obtain ⟨k, t, hk, rfl, htm, hmet, hh⟩ := hrel
              have HH := Lib.hid hh
              have HMET := Lib.hid hmet
              have HT := Lib.hid htm
              clear hh hmet
              by_cases hki : k < i
              · exfalso
                have := HC0.out
                omega
              · have hke : k = i := by omega
                have f1 : ¬ (k : Int) < (i : Int) := by omega
                have hok := cellL_ok z (t := t) (by have := HM20.out; omega)
                have HC9 := Lib.hid (HH.out.pP1 rows_law hok)
                by_cases him : i = 0
                · have ht0 : t = 0 := by omega
                  have hD : cellL z t = newC 0 1 := by unfold cellL; rw [if_pos ht0]
                  rw [hD] at HC9
                  simp only [newC, List.length_nil] at HC9
                  have e1 : ((i : Int) == 0) = true := by simp [him]
                  have e2 : (i == 0) = true := by simp [him]
                  clear hok hD ht0 him hke hki hk htm
                  go_wp2_with (go_at_call 15; (with_reducible refine HC9.out.mono ?_); rintro e' w9 ⟨sa, sc, rfl, _, hb9, h9⟩; have H9 := Lib.hid h9; have hl9 := new_at w9 (msgO 2 0 1 0 0 0 sa 0 sc); obtain ⟨g0, g1, g2, g3, g4, g5, g6, _, gl⟩ := msg_cells hl9; clear hb9 h9 hl9)
                  go_ret
                  exact ⟨rfl, H9.out.to.alloc H9.out.to.size _⟩
                · exact absurd HC0.out him
theorem own : ownKnob Try.prog.godebug = none := by kernel_rfl
theorem laidOut : laidOutB Try.prog = true := by kernel_rfl

set_option maxRecDepth 100000 in
theorem lifted (os : Os) (started : os.Started) (H : Type) (enc : TypeId × Value → H) :
    ReturnsInHanded {} Try.checked os 5 .any (Rows.cellLastSpec.pre6 enc Try.prog Try.f5 Rows.cellLastRow.domain false) (Rows.cellLastSpec.post enc Try.prog Try.f5 false true false false) := by
  refine returnsInHanded_of_change_sized (C := Try.checked) own started (by kernel_rfl) Try.func5
    (ChangeSpec.witness6 (enc := enc) (C := Try.checked) false ⟨#[], #[.slice none 0 0, .slice none 0 0], []⟩ 8 (by kernel_rfl) (by kernel_rfl) (by kernel_rfl) (by kernel_rfl)) ?_
  intro W base args ds gs before hval0 hW _ hsz0 _
  have hsz : (DataW.weightsEach Try.prog (Try.f5.params.toList ++ Rows.cellLastSpec.plain.varTypes Try.prog) (ds ++ gs)).all (· ≤ reachBytes) = true := hsz0
  have hval : ∀ (j : Nat) t v, Try.f5.params[j]? = some t → args[j]? = some v → Value.okWide Try.prog W .any base t v := hval0
  have hW' := hW
  obtain ⟨p, q, hA0, hV, rfl, hfz, hnd⟩ := hW
  have hA : DataW.TrodAll enc Try.prog W 0 (fun _ => true) true Try.f5.params.toList args.toList ds p := hA0
  rw [Try.params5] at hA hval hsz
  obtain ⟨v0, vs0, d0, ds0, p0, q0, hargs, rfl, rfl, h0, r0⟩ := trodAll_cons hA
  obtain ⟨v1, vs1, d1, ds1, p1, q1, rfl, rfl, rfl, h1, r1⟩ := trodAll_cons r0
  obtain ⟨rfl, rfl, rfl⟩ := trodAll_nil r1
  obtain rfl : args = #[v0, v1] := by cases args; simp_all
  obtain ⟨rfl, rfl⟩ := trodVars_none hV
  have k0 := h0
  have lt0 : ∀ x ∈ p0, x.block < W.heap.size := by obtain ⟨m, hm⟩ := k0; exact DataW.trod_lt m _ _ _ hm
  have k1 := h1
  have lt1 : ∀ x ∈ p1, x.block < W.heap.size := by obtain ⟨m, hm⟩ := k1; exact DataW.trod_lt m _ _ _ hm
  obtain ⟨a0, len0, cap0, rfl⟩ := okWide_slice Try.underlying23 (hval 0 23 v0 rfl rfl)
  obtain ⟨z0, b0⟩ := grants_of k0 (weights_at hsz (j := 0) (t := 23) rfl rfl)
  obtain ⟨a1, len1, cap1, rfl⟩ := okWide_slice Try.underlying40 (hval 1 40 v1 rfl rfl)
  obtain ⟨z1, b1⟩ := keep_of k1
  have m1 := keep_len k1 (weights_at hsz (j := 1) (t := 40) rfl rfl)
  clear hA0 hval0 hsz0 hsz
  refine (walk a0 len0 cap0 z0 a1 len1 cap1 z1 W b0 b1 m1).mono fun e W' ⟨he, bel⟩ => ?_
  subst he
  exact ⟨_, rfl, _, _, _, [], _, [], hW', trodAll_mk1 (shut_bool Try.underlying4 _), (trodAll_cons_mk (Below.trod laidOut (by kernel_rfl) (of_decide_eq_true (by kernel_rfl)) k0 bel lt0) (trodAll_cons_mk (Below.trod laidOut (by kernel_rfl) (of_decide_eq_true (by kernel_rfl)) k1 bel lt1) trodAll_mk0)), rfl, bel.frame _, fun h => by cases h⟩

theorem over : Rows.cellLastRow.holds Try.pinned (OpenSpec.ofChange Rows.cellLastSpec) :=
  OpenClaim.holds_of_wide 5 Try.f5 rfl rfl rfl rfl rfl rfl rfl ⟨rfl, rfl, rfl, rfl, rfl⟩ rfl rfl rfl rfl rfl (by kernel_rfl) Try.func5 (by kernel_rfl)
    (of_decide_eq_true (by kernel_rfl)) (by unfold Func.isWrapper; first | (rw [if_pos (by decide +kernel)]; kernel_rfl) | (rw [if_neg (by decide +kernel)]; exact ⟨rfl, rfl⟩))
    (fun os started H enc _ => lifted os started H enc)

theorem proved : Rows.CellLastSaid := over
end Go.Proofs.Ytbbogkmibiealaa.lawCLast
