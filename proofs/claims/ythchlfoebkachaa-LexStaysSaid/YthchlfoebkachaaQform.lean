/-
  The document's own form, walked.
-/
import Derived.Deep.DeepCutAuto
import Derived.Test.YthchlfoebkachaaRef
import Derived.Test.YthchlfoebkachaaCalm
import Derived.Test.YthchlfoebkachaaQisway
import Derived.Test.YthchlfoebkachaaWaysm
import Derived.Test.YthchlfoebkachaaNumbers7
namespace Go.Proofs.Ythchlfoebkachaa
open Go.RowKit Gm

theorem form_len {n : Nat} {es : List E} {s t : Int} {order : List Int} {ways : List (List WayE)} (h : Gm.Form n es s t order ways) : order.length ≤ es.length := by
  have := List.Nodup.length_le_of_subset h.nodup (l₂ := (List.range es.length).map Int.ofNat) (fun x hx => by
    obtain ⟨h0, h1, _⟩ := isSrc_iff.1 (h.src x hx)
    exact List.mem_map.2 ⟨x.toNat, by simp; omega, by show ((x.toNat : Nat) : Int) = x; omega⟩)
  simpa using this
/-- The first k of an order may be. -/
def OrdOk (es : List E) (s : Int) (order : List Int) (k : Nat) : Prop := (∀ x ∈ order.take k, isSrc es s x = true) ∧ (order.take k).Nodup
theorem OrdOk.succ {es : List E} {s : Int} {order : List Int} {k : Nat} (h : OrdOk es s order k) (hk : k < order.length) (h1 : isSrc es s (order[k]?.getD 0) = true) (h2 : ∀ j, j < k → order[j]?.getD 0 ≠ order[k]?.getD 0) : OrdOk es s order (k + 1) := by
  have e : order[k]?.getD 0 = order[k] := by rw [List.getElem?_eq_getElem hk]; rfl
  rw [e] at h1 h2
  unfold OrdOk
  rw [List.take_succ_eq_append_getElem hk]
  refine ⟨fun x hx => ?_, List.nodup_append.2 ⟨h.2, by simp, fun a ha b hb e2 => ?_⟩⟩
  · rcases List.mem_append.1 hx with hx | hx
    · exact h.1 x hx
    · rw [List.mem_singleton.1 hx]; exact h1
  · obtain ⟨j, hj, ej⟩ := List.getElem_of_mem ha
    rw [List.length_take] at hj
    rw [List.getElem_take] at ej
    refine h2 j (by omega) ?_
    rw [List.getElem?_eq_getElem (by omega)]
    simp only [Option.getD_some]
    rw [ej, e2, List.mem_singleton.1 hb]
def WaysOkK (n : Nat) (es : List E) (s t : Int) (order : List Int) (ways : List (List WayE)) (k : Nat) : Prop := ∀ i, i < k → ∀ w ∈ ways[i]?.getD [], isWayF n es s t (order[i]?.getD 0) w = true

set_option maxRecDepth 100000 in
set_option maxHeartbeats 16000000 in
theorem qform_any (v : Int) (a : Option Addr) (len cap : Nat) (es : List E) (s t : Int) (oa : Option Addr) (ol oc : Nat) (order : List Int) (wa : Option Addr) (wl wc : Nat) (wss : List (List WayE)) (w : World) (hE : NetAt w.heap.size w a len es) (hO : FlowAt w.heap.size w oa ol order) (hW : WayssAt w.heap.size w wa wl wss) :
    Calls Try.prog 26 #[netV v a len cap, .int .i64 s, .int .i64 t, .slice oa ol oc, .slice wa wl wc] w fun e w' => e = .returned (.bool (formF v es s t order wss)) ∧ Below w.heap.size w w' := by
  obtain ⟨W0, hW0⟩ : ∃ W0, w.alloc (.cells #[.int .i64 v, .slice a len cap] 24) = W0 := ⟨_, rfl⟩
  have hB0 : Below w.heap.size w W0 := by rw [← hW0]; exact (Below.refl _ w).alloc (Nat.le_refl _) _
  have bN : Blk W0 w.heap.size 24 #[.int .i64 v, .slice a len cap] := by rw [← hW0]; exact Blk.new w _ _
  have HW0 := Lib.hid hW0
  have HlE := Lib.hid hE.1
  have HlO := Lib.hid hO.1
  have HlW := Lib.hid hW.1
  have HE := Lib.hid hE
  have HO := Lib.hid hO
  have HWW := Lib.hid hW
  have hz0 := hB0.size
  have HE0 := Lib.hid ((hE.below hB0).more hB0.size)
  have hol := hO.2.1
  clear hW0 hE hO hW
  obtain ⟨g, hg⟩ : ∃ g, right v es = g := ⟨_, rfl⟩
  have HG := Lib.hid hg
  clear hg
  rcases g with _ | _
  · have HR : Hid (formF v es s t order wss = false) := Lib.hid (by unfold formF; rw [HG.out]; simp)
    go_enter Try.func26, Try.ntmps26
    go_wp2_with (go_at_call 42; rw [HW0.out]; (with_reducible refine (qright_any _ _ _ _ es _ HE0.out).mono ?_); rw [HG.out]; rintro e w1 ⟨rfl, hb1⟩)
    go_ret
    exact ⟨ret_bool HR.out.symm, hB0.trans (hb1.mono hz0)⟩
  · have hri := right_iff.1 HG.out
    have hv0 : 2 ≤ v := hri.1
    have hv1 : v ≤ 64 := hri.2.1
    obtain ⟨n, rfl⟩ : ∃ n : Nat, v = n := ⟨v.toNat, by omega⟩
    have hlen : len ≤ 256 := by have := hri.2.2.1; rw [HlE.out] at this; exact this
    have HFI : Hid ((Gm.Form n es s t order wss → False) → formF n es s t order wss = false) := Lib.hid (fun h => by
      rw [Bool.eq_false_iff]; intro h2; exact h (formF_iff.1 h2))
    have HOK : Hid (∀ e ∈ es, okE n e = true) := Lib.hid hri.2.2.2
    clear hri
    by_cases hh : 0 ≤ s ∧ s < n ∧ 0 ≤ t ∧ t < n ∧ s ≠ t ∧ ol ≤ len ∧ wl ≤ ol
    · obtain ⟨s0, s1, t0, t1, hne, hoe, hwo⟩ := hh
      have u1 : ¬ s < 0 := by omega
      have u2 : ¬ (n : Int) ≤ s := by omega
      have u3 : ¬ t < 0 := by omega
      have u4 : ¬ (n : Int) ≤ t := by omega
      have u5 : (s == t) = false := by simp [hne]
      have u6 : ¬ (len : Int) < (ol : Int) := by omega
      have u7 : ¬ (ol : Int) < (wl : Int) := by omega
      have d1 : decide (s < 0) = false := decide_eq_false u1
      have d2 : decide ((n : Int) ≤ s) = false := decide_eq_false u2
      have d3 : decide (t < 0) = false := decide_eq_false u3
      have d4 : decide ((n : Int) ≤ t) = false := decide_eq_false u4
      have d6 : decide ((len : Int) < (ol : Int)) = false := decide_eq_false u6
      have d7 : decide ((ol : Int) < (wl : Int)) = false := decide_eq_false u7
      have d8 : decide (len < ol) = false := decide_eq_false (by omega)
      have d9 : decide (ol < wl) = false := decide_eq_false (by omega)
      go_enter Try.func26, Try.ntmps26
      go_wp2_with (go_at_call 42; rw [HW0.out]; (with_reducible refine (qright_any _ _ _ _ es _ HE0.out).mono ?_); rw [HG.out]; rintro e w1 ⟨rfl, hb1⟩
                   have bN1 := bN.below hb1 bN.lt
                   have hB1 := hB0.trans (hb1.mono hz0)
                   have hz1 := hB1.size
                   obtain ⟨lN1, n10, n11⟩ := bN1.two
                   clear hb1)
      clear d1 d2 d3 d4 d6 d7 d8 d9 u1 u2 u3 u4 u5 u6 u7
      go_loopw [12] (fun iv wr => ∃ k : Nat, k ≤ ol ∧ iv = .int .i64 k ∧ Hid (OrdOk es s order k) ∧ Blk wr w.heap.size 24 #[.int .i64 (n : Int), .slice a len cap] ∧ Below w.heap.size w wr) (fun iv _ => ol - (intOf iv).toNat)
      case atStart => exact ⟨0, Nat.zero_le _, rfl, Lib.hid ⟨fun x hx => by simp at hx, by simp⟩, bN1, hB1⟩
      case round =>
        clear bN1 hB1 hz1 lN1 n10 n11
        obtain ⟨k, hk, rfl, hok, bN1, hB1⟩ := hrel
        obtain ⟨w2, rfl⟩ : ∃ w', w' = wr := ⟨_, rfl⟩
        obtain ⟨lN1, n10, n11⟩ := bN1.two
        have hz1 := hB1.size
        by_cases hlt : k < ol
        · have hkO : k < order.length := by rw [HlO.out]; exact hlt
          obtain ⟨ob, oo, hoa, hoc⟩ := (HO.out.below hB1).2.2.int
          obtain ⟨hob, c0⟩ := hoc k hkO
          obtain rfl : oa = some ⟨ob, oo, none⟩ := by
            rcases hoa with h | h
            · omega
            · exact h
          have hmem : order[k]?.getD 0 ∈ order := by rw [List.getElem?_eq_getElem hkO]; exact List.getElem_mem hkO
          have HOC := Lib.hid hoc
          obtain ⟨x, hx⟩ : ∃ x, order[k]?.getD 0 = x := ⟨_, rfl⟩
          rw [hx] at c0 hmem
          have HX := Lib.hid hx
          have HMEM := Lib.hid hmem
          have HKO := Lib.hid hkO
          have hki : (k : Int) < (ol : Int) := by omega
          have hob2 : ob < w2.heap.size := by omega
          clear hoa hoc hx hmem hkO
          by_cases q1 : x < 0
          · have HR : Hid (formF n es s t order wss = false) := Lib.hid (HFI.out (fun h => by have := (isSrc_iff.1 (h.src x HMEM.out)).1; omega))
            have dx1 : decide (x < 0) = true := decide_eq_true q1
            go_wp2
            go_quiet (fail)
            go_wp2
            go_ret
            exact ⟨ret_bool HR.out.symm, below_drewN hB1 _⟩
          · by_cases q2 : x < (len : Int)
            · have hil : x.toNat < es.length := by rw [HlE.out]; omega
              obtain ⟨b, off, ha, hc⟩ := (HE.out.below hB1).2.2
              obtain ⟨hb, e0, e1, e2⟩ := hc x.toNat hil
              obtain rfl : a = some ⟨b, off, none⟩ := by
                rcases ha with h | h
                · omega
                · exact h
              have hed : ed es x.toNat = es[x.toNat] := by unfold ed; rw [List.getElem?_eq_getElem hil]; rfl
              rw [← hed] at e0 e1 e2
              obtain ⟨y, hy⟩ : ∃ y, ed es x.toNat = y := ⟨_, rfl⟩
              rw [hy] at e0 e1 e2
              have HY := Lib.hid hy
              have hb2 : b < w2.heap.size := by omega
              have q1' : (0 : Int) ≤ x := by omega
              have q2' : ¬ (len : Int) ≤ x := by omega
              have dx1 : decide (x < 0) = false := decide_eq_false q1
              have dx2 : decide ((len : Int) ≤ x) = false := decide_eq_false q2'
              have HIL := Lib.hid hil
              clear ha hc hed hy hil
              by_cases q3 : y.1 = s
              · have t1 : (y.1 != s) = false := by simp [q3]
                have HSRC : Hid (isSrc es s (order[k]?.getD 0) = true) := Lib.hid (by
                  rw [HX.out]; exact isSrc_iff.2 ⟨q1', by have := HIL.out; omega, by rw [HY.out]; exact q3⟩)
                clear q3
                go_wp2
                go_quiet (fail)
                go_wp2
                go_loopw [13] (fun jv wr => ∃ j : Nat, j ≤ k ∧ jv = .int .i64 j ∧ Hid (∀ m, m < j → order[m]?.getD 0 ≠ order[k]?.getD 0) ∧ ∃ q, wr = w2.drewN q) (fun jv _ => k - (intOf jv).toNat)
                case atStart => exact ⟨0, Nat.zero_le _, rfl, Lib.hid (fun m hm => by omega), ⟨nq, rfl⟩⟩
                case round =>
                  obtain ⟨j, hj, rfl, hnj, ⟨q, rfl⟩⟩ := hrel
                  by_cases hjl : j < k
                  · obtain ⟨_, d0⟩ := HOC.out j (by have := HKO.out; omega)
                    obtain ⟨z, hz⟩ : ∃ z, order[j]?.getD 0 = z := ⟨_, rfl⟩
                    rw [hz] at d0
                    have hji : (j : Int) < (k : Int) := by omega
                    have hjo : (j : Int) < (ol : Int) := by omega
                    by_cases hzx : z = x
                    · have t2 : (z == x) = true := by simp [hzx]
                      have HR : Hid (formF n es s t order wss = false) := Lib.hid (HFI.out (fun h => by
                        have h1 := List.getElem?_eq_getElem (l := order) (i := j) (by have := HKO.out; omega)
                        have h2 := List.getElem?_eq_getElem (l := order) (i := k) HKO.out
                        have h3 := HX.out
                        rw [h1] at hz
                        rw [h2] at h3
                        simp only [Option.getD_some] at hz h3
                        have := (List.getElem_inj h.nodup).1 (hz.trans (hzx.trans h3.symm))
                        omega))
                      clear hz hzx
                      go_wp2
                      go_quiet (fail)
                      go_wp2
                      go_ret
                      exact ⟨ret_bool HR.out.symm, below_drewN (below_drewN hB1 _) _⟩
                    · have t2 : (z == x) = false := by simp [hzx]
                      have HN : Hid (∀ m, m < j + 1 → order[m]?.getD 0 ≠ order[k]?.getD 0) := Lib.hid (fun m hm => by
                        rcases Nat.lt_or_ge m j with h | h
                        · exact hnj.out m h
                        · obtain rfl : m = j := by omega
                          rw [hz, HX.out]; exact hzx)
                      clear hz hzx
                      go_wp2
                      go_quiet (fail)
                      go_wp2
                      go_roundw
                      case rel => exact ⟨j + 1, by omega, by go_num, HN, ⟨q + nq, rfl⟩⟩
                      case measure => simp [intOf]; omega
                  · obtain rfl : j = k := by omega
                    have HNX : Hid (OrdOk es s order (j + 1)) := Lib.hid (hok.out.succ HKO.out HSRC.out hnj.out)
                    go_wp2
                    go_roundw
                    case rel => exact ⟨j + 1, by omega, by go_num, HNX, bN1.drewN q, below_drewN hB1 _⟩
                    case measure => simp [intOf]; omega
              · have t1 : (y.1 != s) = true := by simp [q3]
                have HR : Hid (formF n es s t order wss = false) := Lib.hid (HFI.out (fun h => q3 (by have := (isSrc_iff.1 (h.src x HMEM.out)).2.2; rwa [HY.out] at this)))
                clear q3
                go_wp2
                go_quiet (fail)
                go_wp2
                go_ret
                exact ⟨ret_bool HR.out.symm, below_drewN hB1 _⟩
            · have HR : Hid (formF n es s t order wss = false) := Lib.hid (HFI.out (fun h => by have := (isSrc_iff.1 (h.src x HMEM.out)).2.1; rw [HlE.out] at this; omega))
              have q2' : (len : Int) ≤ x := by omega
              have q1' : (0 : Int) ≤ x := by omega
              have dx1 : decide (x < 0) = false := decide_eq_false q1
              have dx2 : decide ((len : Int) ≤ x) = true := decide_eq_true q2'
              go_wp2
              go_quiet (fail)
              go_wp2
              go_ret
              exact ⟨ret_bool HR.out.symm, below_drewN hB1 _⟩
        · obtain rfl : k = ol := by omega
          clear hlt
          go_wp2
          go_loopw [14] (fun iv wr => ∃ i : Nat, i ≤ wl ∧ iv = .int .i64 i ∧ Hid (WaysOkK n es s t order wss i) ∧ Blk wr w.heap.size 24 #[.int .i64 (n : Int), .slice a len cap] ∧ Below w.heap.size w wr) (fun iv _ => wl - (intOf iv).toNat)
          case atStart => exact ⟨0, Nat.zero_le _, rfl, Lib.hid (fun i hi => by omega), bN1, hB1⟩
          case round =>
            clear bN1 hB1 hz1 lN1 n10 n11
            obtain ⟨i, hi, rfl, hwi, bN1, hB1⟩ := hrel
            obtain ⟨w3, rfl⟩ : ∃ w', w' = wr := ⟨_, rfl⟩
            obtain ⟨lN1, n10, n11⟩ := bN1.two
            have hz1 := hB1.size
            by_cases hil : i < wl
            · have hiW : i < wss.length := by rw [HlW.out]; exact hil
              obtain ⟨_, wb, wo, hwa, hwc⟩ := HWW.out
              obtain ⟨hwb, xa, xl, xc, cw, hxl, hxb, b2, o2, hxa, hxc⟩ := hwc i hiW
              obtain rfl : wa = some ⟨wb, wo, none⟩ := by
                rcases hwa with h | h
                · omega
                · exact h
              have hiO : i < order.length := by rw [HlO.out]; omega
              obtain ⟨ob, oo, hoa, hoc⟩ := HO.out.2.2.int
              obtain ⟨hob, c0⟩ := hoc i hiO
              obtain rfl : oa = some ⟨ob, oo, none⟩ := by
                rcases hoa with h | h
                · omega
                · exact h
              have hws : wss[i]?.getD [] = wss[i] := by rw [List.getElem?_eq_getElem hiW]; rfl
              obtain ⟨ws, hwse⟩ : ∃ ws, wss[i] = ws := ⟨_, rfl⟩
              rw [hwse] at hxl hxa hws
              simp only [hwse] at hxc
              have HWS := Lib.hid hws
              have HXC := Lib.hid hxc
              have HXL := Lib.hid hxl
              obtain ⟨x, hx⟩ : ∃ x, order[i]?.getD 0 = x := ⟨_, rfl⟩
              rw [hx] at c0
              have HX := Lib.hid hx
              have HIW := Lib.hid hiW
              have hii : (i : Int) < (wl : Int) := by omega
              have hio : (i : Int) < (k : Int) := by omega
              have cw3 : w3.cell? ⟨wb, wo + i, none⟩ = some (.slice xa xl xc) := (hB1.cell (p := ⟨wb, wo + i, none⟩) hwb).trans cw
              have hwb3 : wb < w3.heap.size := by omega
              clear hwa hwc hoa hoc hws hxc hxl hx hiO
              go_wp2
              go_loopw [15] (fun jv wr => ∃ j : Nat, j ≤ xl ∧ jv = .int .i64 j ∧ Hid (∀ y ∈ ws.take j, isWayF n es s t x y = true) ∧ Blk wr w.heap.size 24 #[.int .i64 (n : Int), .slice a len cap] ∧ Below w.heap.size w wr) (fun jv _ => xl - (intOf jv).toNat)
              case atStart => exact ⟨0, Nat.zero_le _, rfl, Lib.hid (fun y hy => by simp at hy), bN1, hB1⟩
              case round =>
                clear bN1 hB1 hz1 lN1 n10 n11 cw3 hwb3
                obtain ⟨j, hj, rfl, hwj, bN1, hB1⟩ := hrel
                obtain ⟨w4, rfl⟩ : ∃ w', w' = wr := ⟨_, rfl⟩
                obtain ⟨lN1, n10, n11⟩ := bN1.two
                have hz1 := hB1.size
                have cw4 : w4.cell? ⟨wb, wo + i, none⟩ = some (.slice xa xl xc) := (hB1.cell (p := ⟨wb, wo + i, none⟩) hwb).trans cw
                have hwb4 : wb < w4.heap.size := by omega
                by_cases hjl : j < xl
                · have hjW : j < ws.length := by rw [HXL.out]; exact hjl
                  obtain ⟨hb2, ea, el, ec, v0, hf, v1⟩ := HXC.out j hjW
                  obtain rfl : xa = some ⟨b2, o2, none⟩ := by
                    rcases hxa with h | h
                    · omega
                    · exact h
                  obtain ⟨y, hy⟩ : ∃ y, ws[j] = y := ⟨_, rfl⟩
                  rw [hy] at hf v1
                  have HF := Lib.hid hf
                  have HTK : Hid (ws.take (j + 1) = ws.take j ++ [y]) := Lib.hid (by rw [List.take_succ_eq_append_getElem hjW, hy])
                  have HYM : Hid (y ∈ ws) := Lib.hid (by rw [← hy]; exact List.getElem_mem hjW)
                  obtain ⟨r, hr⟩ : ∃ r, isWayF n es s t x (y.1, y.2) = r := ⟨_, rfl⟩
                  have HR := Lib.hid hr
                  have hji : (j : Int) < (xl : Int) := by omega
                  have hcells : ∀ W, Below w4.heap.size w4 W → W.cell? ⟨w.heap.size, 0, none⟩ = some (.int .i64 (n : Int)) ∧ W.cell? ⟨w.heap.size, 1, none⟩ = some (.slice a len cap) ∧ W.cell? ⟨ob, oo + i, none⟩ = some (.int .i64 x) ∧ W.cell? ⟨wb, wo + i, none⟩ = some (.slice (some ⟨b2, o2, none⟩) xl xc) ∧ W.cell? ⟨b2, o2 + j * 2, none⟩ = some (.slice ea el ec) ∧ W.cell? ⟨b2, o2 + j * 2 + 1, none⟩ = some (.int .i64 y.2) := fun W h => by
                    have hW := hB1.trans (h.mono hz1)
                    exact ⟨(bN1.below h lN1).two.2.1, (bN1.below h lN1).two.2.2, (hW.cell (p := ⟨ob, oo + i, none⟩) hob).trans c0, (hW.cell (p := ⟨wb, wo + i, none⟩) hwb).trans cw, (hW.cell (p := ⟨b2, o2 + j * 2, none⟩) hb2).trans v0, (hW.cell (p := ⟨b2, o2 + j * 2 + 1, none⟩) hb2).trans v1⟩
                  have HCE := Lib.hid hcells
                  have HBW : Hid (∀ W, Below w4.heap.size w4 W → Below w.heap.size w W ∧ w.heap.size ≤ W.heap.size) := Lib.hid (fun W h => ⟨hB1.trans (h.mono hz1), by have := h.size; omega⟩)
                  have hbd := (Below.refl w4.heap.size w4).drew
                  clear hcells hf hy hr hjW v0 v1
                  go_wp2
                  (refine region_calm (fun W => Below w4.heap.size w4 W) (by kernel_rfl) (by kernel_rfl) (hbd) ?_
                   repeat (
                     refine wpQuiet_step (fun K hK => ?_)
                     first
                       | (refine calm_neg ?_ ?_
                          focus (go_simp; done)
                          go_simp
                          refine hK _ ?_
                          clear hK K)
                       | (apply calm_pos
                          focus (go_simp; done)
                          focus (
                            intro W hW
                            (obtain ⟨d0, d1, d2, d3, d4, d5⟩ := HCE.out W hW)
                            go_simp
                            first
                              | done
                              | exact rfl
                              | (go_at_call 43; (with_reducible refine (qisWay_any n _ _ _ es s t x _ _ _ y.1 y.2 _ ((HE.out.below (HBW.out W hW).1).more (HBW.out W hW).2) ((HF.out.below (HBW.out W hW).1).more (HBW.out W hW).2) HG.out s0 s1).mono ?_); rw [HR.out]; rintro e w6 ⟨rfl, hb6⟩; exact ⟨rfl, on_below hW hb6⟩))
                          go_simp
                          refine hK _ ?_
                          clear hK K))
                   refine wpQuiet_nil ?_)
                  intro w5 hb5
                  have hB5 := hB1.trans (hb5.mono hz1)
                  have bN5 := bN1.below hb5 lN1
                  rcases r with _ | _
                  · have HRF : Hid (formF n es s t order wss = false) := Lib.hid (HFI.out (fun h => by
                      have := h.ways i HIW.out y (by rw [HWS.out]; exact HYM.out)
                      rw [HX.out] at this
                      rw [show isWayF n es s t x y = false from HR.out] at this
                      cases this))
                    go_wp2
                    go_ret
                    exact ⟨ret_bool HRF.out.symm, hB5⟩
                  · have HNX : Hid (∀ y ∈ ws.take (j + 1), isWayF n es s t x y = true) := Lib.hid (fun q hq => by
                      rw [HTK.out] at hq
                      rcases List.mem_append.1 hq with hq | hq
                      · exact hwj.out q hq
                      · rw [List.mem_singleton.1 hq]; exact HR.out)
                    go_wp2
                    go_roundw
                    case rel => exact ⟨j + 1, by omega, by go_num, HNX, bN5, hB5⟩
                    case measure => simp [intOf]; omega
                · obtain rfl : j = xl := by omega
                  have HNX : Hid (WaysOkK n es s t order wss (i + 1)) := Lib.hid (fun q hq y hy => by
                    rcases Nat.lt_or_ge q i with h | h
                    · exact hwi.out q h y hy
                    · obtain rfl : q = i := by omega
                      rw [HWS.out] at hy
                      rw [HX.out]
                      exact hwj.out y (by rw [List.take_of_length_le (by rw [HXL.out]; exact Nat.le_refl _)]; exact hy))
                  go_wp2
                  go_roundw
                  case rel => exact ⟨i + 1, by omega, by go_num, HNX, bN1, hB1⟩
                  case measure => simp [intOf]; omega
            · obtain rfl : i = wl := by omega
              have HRT : Hid (formF n es s t order wss = true) := Lib.hid (by
                have h1 := hok.out
                unfold OrdOk at h1
                rw [List.take_of_length_le (by rw [HlO.out]; exact Nat.le_refl _)] at h1
                exact formF_iff.2 ⟨HG.out, s0, s1, t0, t1, hne, h1.1, h1.2, by rw [HlW.out, HlO.out]; exact hwo, fun q hq => hwi.out q (by rw [← HlW.out]; exact hq)⟩)
              go_wp2
              go_ret
              exact ⟨ret_bool HRT.out.symm, hB1⟩
    · have HR : Hid (formF n es s t order wss = false) := Lib.hid (HFI.out (fun h => hh ⟨h.s0, h.s1, h.t0, h.t1, h.ne, by have := form_len h; rw [HlE.out, HlO.out] at this; exact this, by have := h.len; rw [HlW.out, HlO.out] at this; exact this⟩))
      have hw : s < 0 ∨ (¬ s < 0 ∧ (n : Int) ≤ s) ∨ (¬ s < 0 ∧ ¬ (n : Int) ≤ s ∧ t < 0) ∨ (¬ s < 0 ∧ ¬ (n : Int) ≤ s ∧ ¬ t < 0 ∧ (n : Int) ≤ t) ∨ (¬ s < 0 ∧ ¬ (n : Int) ≤ s ∧ ¬ t < 0 ∧ ¬ (n : Int) ≤ t ∧ (s == t) = true) ∨
          (¬ s < 0 ∧ ¬ (n : Int) ≤ s ∧ ¬ t < 0 ∧ ¬ (n : Int) ≤ t ∧ (s == t) = false ∧ (len : Int) < (ol : Int)) ∨ (¬ s < 0 ∧ ¬ (n : Int) ≤ s ∧ ¬ t < 0 ∧ ¬ (n : Int) ≤ t ∧ (s == t) = false ∧ ¬ (len : Int) < (ol : Int) ∧ (ol : Int) < (wl : Int)) := by
        by_cases a1 : s < 0
        · exact .inl a1
        · by_cases a2 : (n : Int) ≤ s
          · exact .inr (.inl ⟨a1, a2⟩)
          · by_cases a3 : t < 0
            · exact .inr (.inr (.inl ⟨a1, a2, a3⟩))
            · by_cases a4 : (n : Int) ≤ t
              · exact .inr (.inr (.inr (.inl ⟨a1, a2, a3, a4⟩)))
              · by_cases a5 : s = t
                · exact .inr (.inr (.inr (.inr (.inl ⟨a1, a2, a3, a4, by simp [a5]⟩))))
                · by_cases a6 : (len : Int) < (ol : Int)
                  · exact .inr (.inr (.inr (.inr (.inr (.inl ⟨a1, a2, a3, a4, by simp [a5], a6⟩)))))
                  · refine .inr (.inr (.inr (.inr (.inr (.inr ⟨a1, a2, a3, a4, by simp [a5], a6, ?_⟩)))))
                    rcases Nat.lt_or_ge ol wl with h | h
                    · omega
                    · exact absurd ⟨by omega, by omega, by omega, by omega, a5, by omega, h⟩ hh
      clear hh
      rcases hw with h1 | ⟨h1, h2⟩ | ⟨h1, h2, h3⟩ | ⟨h1, h2, h3, h4⟩ | ⟨h1, h2, h3, h4, h5⟩ | ⟨h1, h2, h3, h4, h5, h6⟩ | ⟨h1, h2, h3, h4, h5, h6, h7⟩
      all_goals
        go_enter Try.func26, Try.ntmps26
        go_wp2_with (go_at_call 42; rw [HW0.out]; (with_reducible refine (qright_any _ _ _ _ es _ HE0.out).mono ?_); rw [HG.out]; rintro e w1 ⟨rfl, hb1⟩
                     have bN1 := bN.below hb1 bN.lt
                     obtain ⟨lN1, n10, n11⟩ := bN1.two)
        go_ret
        exact ⟨ret_bool HR.out.symm, hB0.trans (hb1.mono hz0)⟩
end Go.Proofs.Ythchlfoebkachaa
