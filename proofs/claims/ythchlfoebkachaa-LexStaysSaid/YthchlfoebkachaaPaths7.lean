/-
  The program's room of a path; what it adds along paths, walked.
-/
import Derived.Deep.AppendLies
import Derived.Deep.DeepCutAuto
import Derived.Test.YthchlfoebkachaaMix
import Derived.Test.YthchlfoebkachaaCalm
import Derived.Test.YthchlfoebkachaaShare
import Derived.Test.YthchlfoebkachaaParts7
import Derived.Test.YthchlfoebkachaaWaysm
import Derived.Test.YthchlfoebkachaaQfill
import Derived.Test.YthchlfoebkachaaSteps
namespace Go.Proofs.Ythchlfoebkachaa
open Go.RowKit Gm

set_option maxRecDepth 100000 in
set_option maxHeartbeats 4000000 in
theorem room7_any (n : Nat) (a : Option Addr) (len cap : Nat) (es : List E) (fa : Option Addr) (flen fcap : Nat) (C : List Int) (ea : Option Addr) (el ec : Nat) (W : List Int) (c : Int) (w : World) (hE : NetAt w.heap.size w a len es) (hF : FlowAt w.heap.size w fa flen C) (hW : FlowAt w.heap.size w ea el W) (hr : right n es = true) (hl : C.length = es.length) (hfit : ∀ i, i < es.length → 0 ≤ Gm.fa C i ∧ Gm.fa C i ≤ (ed es i).2.2) (hi : ∀ i ∈ W, 0 ≤ i ∧ i < es.length) (hel : el ≤ 64) :
    Calls Try.prog 38 #[netV n a len cap, .slice fa flen fcap, wayV ea el ec c] w fun e w' => e = .returned (.int .i64 (roomOf es C (legsW W) 1073741824)) ∧ Below w.heap.size w w' := by
  have HE := Lib.hid hE
  have HlE := Lib.hid hE.1
  have HlF := Lib.hid hF.1
  have HF := Lib.hid hF
  have HW := Lib.hid hW
  have HlW := Lib.hid hW.1
  have HRI := Lib.hid hr
  have HCL := Lib.hid hl
  have HFIT := Lib.hid hfit
  have HIW := Lib.hid hi
  have HLW : Hid ((legsW W).length = el) := Lib.hid (by simp [legsW, hW.1])
  have hlen : len ≤ 256 := by have := (right_iff.1 hr).2.2.1; rw [hE.1] at this; exact this
  have hB0 : Below w.heap.size w ((w.alloc (.cells #[.int .i64 (n : Int), .slice a len cap] 24)).alloc (.cells #[.slice ea el ec, .int .i64 c] 44)) := ((Below.refl _ w).alloc (Nat.le_refl _) _).alloc (by simp) _
  have HB0 := Lib.hid hB0
  clear hE hF hW hr hl hfit hi hB0
  go_enter Try.func38, Try.ntmps38
  go_wp2
  go_loopw [7, 13] (fun rv kv wr => ∃ k : Nat, k ≤ el ∧ kv = .int .i64 k ∧ rv = .int .i64 (roomOf es C ((legsW W).take k) 1073741824) ∧ Blk wr w.heap.size 24 #[.int .i64 (n : Int), .slice a len cap] ∧ Below w.heap.size w wr) (fun _ kv _ => el - (intOf kv).toNat)
  case atStart => exact ⟨0, Nat.zero_le _, rfl, rfl, (Blk.new w _ _).alloc _, HB0.out⟩
  case round =>
    obtain ⟨k, hk, rfl, rfl, bN, hB⟩ := hrel
    obtain ⟨w1, rfl⟩ : ∃ w', w' = wr := ⟨_, rfl⟩
    obtain ⟨lN, n0, n1⟩ := bN.two
    have hz1 := hB.size
    by_cases hlt : k < el
    · have hkW : k < W.length := by rw [HlW.out]; exact hlt
      obtain ⟨eb, eo, hea, hec⟩ := (HW.out.below hB).2.2.int
      obtain ⟨heb, cx⟩ := hec k hkW
      obtain rfl : ea = some ⟨eb, eo, none⟩ := by
        rcases hea with h | h
        · omega
        · exact h
      have hi3 := HIW.out W[k] (List.getElem_mem hkW)
      have hgq : W[k]?.getD 0 = W[k] := by rw [List.getElem?_eq_getElem hkW]; rfl
      have hlq : (legsW W)[k]'(by rw [HLW.out]; exact hlt) = (W[k].toNat, true) := by simp [legsW]
      have hst := room_take (es := es) (fl := C) (d := 1073741824) (k := k) (l := legsW W) (by rw [HLW.out]; exact hlt)
      rw [hlq] at hst
      obtain ⟨m, hm⟩ : ∃ m : Nat, W[k] = m := ⟨W[k].toNat, by omega⟩
      rw [hgq, hm] at cx
      rw [hm] at hi3 hst
      simp only [Int.toNat_natCast] at hi3 hst
      have hml : m < es.length := by omega
      obtain ⟨b, off, ha, hc⟩ := (HE.out.below hB).2.2
      obtain ⟨hb, c0, c1, c2⟩ := hc m hml
      obtain rfl : a = some ⟨b, off, none⟩ := by
        rcases ha with h | h
        · omega
        · exact h
      have hed : ed es m = es[m] := by unfold ed; rw [List.getElem?_eq_getElem hml]; rfl
      rw [← hed] at c2
      obtain ⟨gb, go, hga, hgc⟩ := (HF.out.below hB).2.2.int
      obtain ⟨hgb, cf⟩ := hgc m (by rw [HCL.out]; exact hml)
      obtain rfl : fa = some ⟨gb, go, none⟩ := by
        rcases hga with h | h
        · rw [HCL.out] at h; omega
        · exact h
      have cf' : w1.cell? ⟨gb, go + m, none⟩ = some (.int .i64 (Gm.fa C m)) := cf
      have hat := HFIT.out m hml
      have hok := okE_iff.1 ((right_iff.1 HRI.out).2.2.2 _ (ed_mem hml))
      have hrle := (roomOf_le es C ((legsW W).take k) 1073741824).1
      unfold spare at hst
      obtain ⟨f, hff⟩ : ∃ f, Gm.fa C m = f := ⟨_, rfl⟩
      obtain ⟨x, hx⟩ : ∃ x, (ed es m).2.2 = x := ⟨_, rfl⟩
      obtain ⟨R, hRR⟩ : ∃ R, roomOf es C ((legsW W).take k) 1073741824 = R := ⟨_, rfl⟩
      simp only [hff, hx, hRR] at cf' hst hat hok c2 hrle ⊢
      have hx1 : x ≤ 1000 := hok.2.2.2.2.2.2
      obtain ⟨hf0, hf1⟩ := hat
      have hmlen : m < len := by rw [← HlE.out]; exact hml
      have hmf : m < flen := by rw [← HlF.out, HCL.out]; exact hml
      have hmi : (m : Int) < (len : Int) := by omega
      have hmi2 : (m : Int) < (flen : Int) := by omega
      have hkk : (k : Int) < (el : Int) := by omega
      have hb1 : b < w1.heap.size := by omega
      have heb1 : eb < w1.heap.size := by omega
      have hgb1 : gb < w1.heap.size := by omega
      have HST2 : Hid (roomOf es C ((legsW W).take (k + 1)) 1073741824 = if x - f < R then x - f else R) := Lib.hid (by rw [hst, min_if]; simp)
      have hwr : IntKind.i64.wrap (x - f) = x - f := IntWalk.i64_in _ (by omega)
      clear hst hi3 hgq hlq hm hea hec ha hc c0 c1 hed cf hok hff hx hRR hml hga hgc hkW
      go_wp2
      go_quiet (fail)
      clear hwr
      go_wp2
      go_roundw
      case rel => exact ⟨k + 1, by omega, by go_num, by rw [HST2.out], bN.drewN _, below_drewN hB _⟩
      case measure => simp [intOf]; omega
    · obtain rfl : k = el := by omega
      have HTK : Hid ((legsW W).take k = legsW W) := Lib.hid (List.take_of_length_le (by rw [HLW.out]; exact Nat.le_refl _))
      rw [HTK.out]
      go_wp2
      go_ret
      exact ⟨rfl, hB⟩

theorem roomOf_less {es : List E} {fl : List Int} {l : List Leg} {D : Int} (h : ∃ p ∈ l, spare es fl p ≤ 1073741824) : (if roomOf es fl l 1073741824 < D then roomOf es fl l 1073741824 else D) = roomOf es fl l D := by
  have h1 := roomOf_min (D := D) h
  rw [← h1]
  split <;> split <;> omega

structure PathsAt (w : World) (n : Int) (a : Option Addr) (len cap base : Nat) (fA : Option Addr) (flen oc : Nat) (cur : List Int) (wr : World) : Prop where
  net : Blk wr w.heap.size 24 #[.int .i64 n, .slice a len cap]
  own : wr.ownsRow base 3 1 (.slice fA flen oc) flen (ints cur)
  grow : w.grownBy wr (Value.slice fA flen oc).ownBlock

def AddedPost (base : Nat) (fA : Option Addr) (flen oc : Nat) (C : List Int) (w : World) (e : Ending) (w' : World) : Prop :=
  e = .returned (.tuple #[]) ∧ w'.ownsRow base 3 1 (.slice fA flen oc) flen (ints C) ∧ w.grownBy w' (Value.slice fA flen oc).ownBlock

set_option maxRecDepth 100000 in
set_option maxHeartbeats 8000000 in
theorem addPaths_any (n : Nat) (a : Option Addr) (len cap : Nat) (es : List E) (fA : Option Addr) (flen oc base B : Nat) (C0 : List Int) (s t src : Int) (ma : Option Addr) (ml mc : Nat) (ws : List WayE) (w : World) (hBw : B ≤ w.heap.size) (hE : NetAt B w a len es) (hBb : B ≤ base) (hown : w.ownsRow base 3 1 (.slice fA flen oc) flen (ints C0)) (hW : WaysAt B w ma ml ws) (hr : right n es = true) (hgood : ∀ j, j ≤ ws.length → GoodG n es (goN es C0 ws j) s t) (hway : ∀ p ∈ ws, isWayF n es s t src p = true) :
    Calls Try.prog 24 #[netV n a len cap, .slice fA flen oc, .slice ma ml mc] w (AddedPost base fA flen oc (ws.foldl (goW es) C0) w) := by
  have HE := Lib.hid hE
  have HlE := Lib.hid hE.1
  have HW := Lib.hid hW
  have HML := Lib.hid hW.1
  have hmx := hW.2.1
  have HRI := Lib.hid hr
  have HGOOD := Lib.hid hgood
  have HWAY := Lib.hid hway
  have hlen : len ≤ 256 := by have := (right_iff.1 hr).2.2.1; rw [hE.1] at this; exact this
  have hn64 : n ≤ 64 := by have := (right_iff.1 hr).2.1; omega
  have hg0 := hgood 0 (Nat.zero_le _)
  have hC0l : C0.length = es.length := hg0.len
  have hfl : flen = len := by
    have h := hown.1
    simp only [List.length_map, Nat.mul_one] at h
    rw [← h, hC0l, hE.1]
  have HOWNLT := Lib.hid hown.lt
  have HOWN := Lib.hid hown
  have hP0 : PathsAt w n a len cap base fA flen oc (goN es C0 ws 0) (w.alloc (.cells #[.int .i64 (n : Int), .slice a len cap] 24)) := ⟨Blk.new w _ _, hown.alloc _, World.grownBy_alloc w _ _⟩
  have HP0 := Lib.hid hP0
  clear hE hown hW hr hgood hway hg0 hC0l hP0
  subst hfl
  go_enter Try.func24, Try.ntmps24
  go_wp2
  go_loopw [13] (fun jv wr => ∃ j : Nat, j ≤ ml ∧ jv = .int .i64 j ∧ PathsAt w n a flen cap base fA flen oc (goN es C0 ws j) wr) (fun jv _ => ml - (intOf jv).toNat)
  case atStart => exact ⟨0, Nat.zero_le _, rfl, HP0.out⟩
  case round =>
    obtain ⟨j, hj, rfl, hI⟩ := hrel
    obtain ⟨w1, rfl⟩ : ∃ w', w' = wr := ⟨_, rfl⟩
    have hz1 := hI.grow.size
    have hBb1 : Below B w w1 := (Below.refl B w).grown hI.grow hBw (fun i e => Nat.le_trans hBb (HOWNLT.out i e).1)
    have HI := Lib.hid hI
    clear hI
    by_cases hjl : j < ml
    · have hjm : j < ws.length := by rw [HML.out]; exact hjl
      have hgd := HGOOD.out j (by omega)
      have hwj := HWAY.out ws[j] (List.getElem_mem hjm)
      have hsu := goN_succ es C0 ws hjm
      obtain ⟨_, _, mb, mo, hma, hmc⟩ := HW.out
      obtain ⟨hmb, ea, el, ec, e0, hf0, e1⟩ := hmc j hjm
      replace e0 := (hBb1.cell (p := ⟨mb, mo + j * 2, none⟩) hmb).trans e0
      replace e1 := (hBb1.cell (p := ⟨mb, mo + j * 2 + 1, none⟩) hmb).trans e1
      have hf := hf0.below hBb1
      obtain rfl : ma = some ⟨mb, mo, none⟩ := by
        rcases hma with h | h
        · omega
        · exact h
      obtain ⟨p, hp⟩ : ∃ p, ws[j] = p := ⟨_, rfl⟩
      rw [hp] at hwj hsu hf hf0 e1
      obtain ⟨W, cnt⟩ := p
      dsimp only at hf hf0 e1
      simp only [isWayF, Bool.and_eq_true, decide_eq_true_eq] at hwj
      obtain ⟨⟨⟨⟨⟨q1, q2⟩, q3⟩, q4⟩, q5⟩, q6⟩ := hwj
      obtain ⟨wk1, wk2, _, _, _⟩ := walkW_is (right_iff.1 HRI.out).2.2.2 W s (Gm.start n s) (by simp [Gm.start]) q6
      obtain ⟨C, hC⟩ : ∃ C, goN es C0 ws j = C := ⟨_, rfl⟩
      rw [hC] at hsu HI hgd
      have hCl : C.length = flen := by rw [hgd.len, HlE.out]
      have HSU := Lib.hid hsu
      have HGD := Lib.hid hgd
      have HWK1 := Lib.hid wk1
      have HWK2 : Hid (((legsW W).map (·.1)).Nodup) := Lib.hid (by rw [legsW_map]; exact wk2)
      have HCLc := Lib.hid hCl
      have HLW : Hid ((legsW W).length = el) := Lib.hid (by simp [legsW, hf.1])
      have HFW := Lib.hid hf0
      have HWL := Lib.hid hf.1
      have hel : el ≤ n := by rw [← hf.1]; exact q2
      have hel1 : 1 ≤ el := by rw [← hf.1]; exact q1
      have hSP : ∃ p ∈ legsW W, spare es C p ≤ 1073741824 := by
        have hw0 : 0 < W.length := by omega
        refine ⟨(W[0].toNat, true), ?_, ?_⟩
        · exact List.mem_map.2 ⟨W[0], List.getElem_mem hw0, rfl⟩
        · have h3 := wk1 W[0] (List.getElem_mem hw0)
          have hml : W[0].toNat < es.length := by omega
          have hat := hgd.at hml
          have hok := okE_iff.1 ((right_iff.1 HRI.out).2.2.2 _ (ed_mem hml))
          unfold spare
          simp only [if_true]
          omega
      obtain ⟨r, hrr⟩ : ∃ r, roomOf es C (legsW W) cnt = r := ⟨_, rfl⟩
      obtain ⟨R0, hR0⟩ : ∃ R0, roomOf es C (legsW W) 1073741824 = R0 := ⟨_, rfl⟩
      have hmin := roomOf_less (D := cnt) hSP
      rw [hrr, hR0] at hmin
      have hr1 := roomOf_le es C (legsW W) cnt
      have hrc : r ≤ 1000 := by have := hr1.1; rw [hrr] at this; omega
      have hr0 : 0 ≤ r := by
        rw [← hrr]
        refine roomW_ge es C _ cnt 0 q4 (fun p hp => ?_)
        obtain ⟨i, hi, rfl⟩ := List.mem_map.1 (show p ∈ W.map (fun i => (i.toNat, true)) from hp)
        have h3 := wk1 i hi
        have := hgd.at (i := i.toNat) (by omega)
        unfold spare
        simp only [if_true]
        omega
      have HGO : Hid (goW es C (W, cnt) = puts C (legsW W) r) := Lib.hid (by unfold goW; dsimp only; rw [hrr])
      have HR0 := Lib.hid hR0
      have HMIN := Lib.hid hmin
      have hji : (j : Int) < (ml : Int) := by omega
      have hmb1 : mb < w1.heap.size := by omega
      obtain ⟨w2, hw2⟩ : ∃ W2, w1.alloc (.cells #[.slice ea el ec, .int .i64 cnt] 44) = W2 := ⟨_, rfl⟩
      have HX : Hid (Blk w2 w1.heap.size 44 #[.slice ea el ec, .int .i64 cnt]) := Lib.hid (hw2 ▸ Blk.new w1 _ _)
      have HI2 : Hid (PathsAt w n a flen cap base fA flen oc C w2) := Lib.hid (hw2 ▸ ⟨HI.out.net.alloc _, HI.out.own.alloc _, HI.out.grow.trans (World.grownBy_alloc w1 _ _)⟩)
      have hz2 : w1.heap.size < w2.heap.size := HX.out.lt
      have hBb2 : Below B w w2 := (Below.refl B w).grown HI2.out.grow hBw (fun i e => Nat.le_trans hBb (HOWNLT.out i e).1)
      have HBB2 := Lib.hid hBb2
      have HBB1 := Lib.hid hBb1
      have HN2 := Lib.hid ((HE.out.below hBb2).more (show B ≤ w2.heap.size by omega))
      have HFW2 : Hid (FlowAt w2.heap.size w2 ea el W) := Lib.hid ((by rw [← hw2]; exact (hf.more (show B ≤ w1.heap.size by omega)).below ((Below.refl _ w1).alloc (Nat.le_refl _) _) : FlowAt w1.heap.size w2 ea el W).more (by omega))
      have HF2 : Hid (FlowAt w2.heap.size w2 fA flen C) := Lib.hid (by
        have h := HI2.out.own
        rw [← hCl] at h
        have := (ints_own (a := fA) (len := C.length) (cap := oc) (by rw [hCl] at h ⊢; exact h) (by omega)).2
        rwa [hCl] at this)
      have HW2 := Lib.hid hw2
      have hcells : ∀ W', Below w2.heap.size w2 W' → W'.cell? ⟨w.heap.size, 0, none⟩ = some (.int .i64 (n : Int)) ∧ W'.cell? ⟨w.heap.size, 1, none⟩ = some (.slice a flen cap) ∧ W'.cell? ⟨w1.heap.size, 0, none⟩ = some (.slice ea el ec) ∧ W'.cell? ⟨w1.heap.size, 1, none⟩ = some (.int .i64 cnt) := fun W' h => ⟨(HI2.out.net.below h HI2.out.net.lt).two.2.1, (HI2.out.net.below h HI2.out.net.lt).two.2.2, (HX.out.below h HX.out.lt).two.2.1, (HX.out.below h HX.out.lt).two.2.2⟩
      have HCE := Lib.hid hcells
      have HJM := Lib.hid hjm
      have HEN0 := Lib.hid e0
      have HEN1 := Lib.hid e1
      clear hgd hma hmc hf hf0 hp q1 q2 q3 q6 wk1 wk2 hC hCl hsu hSP hrr hR0 hmin hr1 hw2 hBb2 hcells hBb1 hjm e0 e1
      have e0 := HEN0.out
      have e1 := HEN1.out
      go_upto_region 4 with fail
      rw [HW2.out]
      clear e0 e1
      have hB := below_drew (Below.refl w2.heap.size w2)
      refine region_mix (fun W' => Below w2.heap.size w2 W') (6) (.reads [0, 1, 2, 3, 4] (.only 5 (.only 6 (.only 7 (.stop))))) (by kernel_rfl) (by kernel_rfl) (hB) ?_
      obtain ⟨wc, hwc⟩ : ∃ W', w2.drew = W' := ⟨_, rfl⟩
      rw [hwc] at hB ⊢
      clear hwc
      repeat (
        refine plan_read rfl (fun K hK => ?_)
        first
          | (refine plan_neg ?_ ?_
             focus (go_simp; done)
             go_simp
             refine hK _ ?_
             clear hK K)
          | (apply plan_pos
             focus (go_simp; done)
             focus (
               intro W hW
               (obtain ⟨d0, d1, d2, d3⟩ := HCE.out W hW)
               go_simp
               first
                 | done
                 | exact rfl)
             go_simp
             refine hK _ ?_
             clear hK K))
      refine plan_only rfl (fun Q hQ => ?_)
      go_wp2_with (go_at_call 38; (with_reducible refine (room7_any _ _ _ _ es _ _ _ C _ _ _ W _ _ (net_on HN2.out hB) (flow_on HF2.out hB) (flow_on HFW2.out hB) HRI.out (by rw [HCLc.out, HlE.out]) (fun i hi => HGD.out.at hi) (fun i hi => ⟨(HWK1.out i hi).1, (HWK1.out i hi).2.1⟩) (by omega)).mono ?_); rw [HR0.out]; rintro e wd ⟨rfl, hb⟩)
      replace hB := hB.trans (hb.mono hB.size)
      refine hQ _ _ (fun _ => hB) ?_
      clear hQ Q hb
      have hmn : ∀ (ts : Array TypeId) (ty : TypeId) (w : World), (Builtin.min_ ts ty #[.int .i64 cnt, .int .i64 R0]).run Try.prog w = .ok (.int .i64 r) w := fun ts ty w => by rw [run_min_int2, HMIN.out]
      refine plan_only rfl (fun Q hQ => ?_)
      go_wp2
      refine hQ _ _ (fun h => absurd h (by omega)) ?_
      clear hQ Q hmn
      refine plan_only rfl (fun Q hQ => ?_)
      go_wp2
      refine hQ _ _ (fun h => absurd h (by omega)) ?_
      clear hQ Q
      unfold Plan.wp
      have hI3 : PathsAt w n a flen cap base fA flen oc C wd := ⟨HI2.out.net.below hB HI2.out.net.lt, own_below HI2.out.own hB, HI2.out.grow.trans (by exact ⟨hB.os, hB.tape, hB.output, hB.size, fun k hk _ => hB.block k hk⟩)⟩
      have HI3 := Lib.hid hI3
      obtain ⟨d0, d1, d2, d3⟩ := HCE.out wd hB
      have hz3 := hB.size
      have hx1 : w1.heap.size < wd.heap.size := by omega
      clear hI3 HI2 HN2 HFW2 HF2 HCE HX HW2 d3
      go_wp2
      go_loopw [27] (fun kv wr => ∃ y : Nat, y ≤ el ∧ kv = .int .i64 y ∧ PathsAt w n a flen cap base fA flen oc (puts C ((legsW W).take y) r) wr) (fun kv _ => el - (intOf kv).toNat)
      case atStart => exact ⟨0, Nat.zero_le _, rfl, HI3.out⟩
      case round =>
        clear HI3 HI hB d0 d1 d2 hz3 hx1 HBB2
        obtain ⟨y, hy, rfl, hI⟩ := hrel
        obtain ⟨w6, rfl⟩ : ∃ w', w' = wr := ⟨_, rfl⟩
        have hz6 := hI.grow.size
        have hBb6 : Below B w w6 := (Below.refl B w).grown hI.grow hBw (fun i e => Nat.le_trans hBb (HOWNLT.out i e).1)
        have HI6 := Lib.hid hI
        have HBB6 := Lib.hid hBb6
        clear hI hBb6
        by_cases hye : y < el
        · have hyW : y < W.length := by rw [HWL.out]; exact hye
          obtain ⟨eb, eo, hea, hec⟩ := (HFW.out.below HBB6.out).2.2.int
          obtain ⟨heb, cx⟩ := hec y hyW
          obtain rfl : ea = some ⟨eb, eo, none⟩ := by
            rcases hea with h | h
            · omega
            · exact h
          have hi3 := HWK1.out W[y] (List.getElem_mem hyW)
          have hgq : W[y]?.getD 0 = W[y] := by rw [List.getElem?_eq_getElem hyW]; rfl
          have hyl : y < (legsW W).length := by rw [HLW.out]; exact hye
          have hlq : (legsW W)[y]'hyl = (W[y].toNat, true) := by simp [legsW]
          have hst := puts_take (fl := C) (d := r) (k := y) (l := legsW W) hyl
          rw [hlq] at hst
          unfold put at hst
          obtain ⟨m, hm⟩ : ∃ m : Nat, W[y] = m := ⟨W[y].toNat, by omega⟩
          rw [hgq, hm] at cx
          rw [hm] at hi3 hst hlq
          simp only [Int.toNat_natCast] at hi3 hst hlq
          have hml : m < es.length := by omega
          have hpl : (puts C ((legsW W).take y) r).length = flen := by rw [puts_length, HCLc.out]
          have hold : Gm.fa (puts C ((legsW W).take y) r) m = Gm.fa C m := (puts_at r ((legsW W).take y) C m (fun p hp => by
            obtain ⟨i, hi, rfl⟩ := List.mem_map.1 (show p ∈ W.map (fun i => (i.toNat, true)) from List.mem_of_mem_take hp)
            have h3 := HWK1.out i hi
            rw [HCLc.out, ← HlE.out]; dsimp only; omega) (by rw [List.map_take]; exact HWK2.out.sublist (List.take_sublist _ _))).2 (by
              have h := nodup_take HWK2.out (k := y) (by simpa using hyl)
              rw [List.map_take]
              simpa [hlq] using h)
          have hat := HGD.out.at hml
          have hok := okE_iff.1 ((right_iff.1 HRI.out).2.2.2 _ (ed_mem hml))
          have hown6 := HI6.out.own
          obtain ⟨D, hD⟩ : ∃ D, puts C ((legsW W).take y) r = D := ⟨_, rfl⟩
          rw [hD] at hst hpl hold hown6
          obtain ⟨gf, hgf, hgf0, hgf1, cf⟩ := own_int (by rw [hpl]; exact hown6) (show m < D.length by rw [hpl, ← HlE.out]; exact hml)
          subst hgf
          have cf' : w6.cell? ⟨gf, m, none⟩ = some (.int .i64 (Gm.fa D m)) := cf
          have hfz := hown6.frozenAt m
          rw [hold] at hst cf'
          obtain ⟨f, hff⟩ : ∃ f, Gm.fa C m = f := ⟨_, rfl⟩
          rw [hff] at hst cf' hat
          have hx1 : (ed es m).2.2 ≤ 1000 := hok.2.2.2.2.2.2
          obtain ⟨hf0, hf1⟩ := hat
          have hf2 : f ≤ 1000 := by omega
          have hmlen : m < flen := by rw [← HlE.out]; exact hml
          have hmi : (m : Int) < (flen : Int) := by omega
          have hyi : (y : Int) < (el : Int) := by omega
          have heb6 : eb < w6.heap.size := by omega
          have hne : w.heap.size ≠ gf := by
            rintro rfl
            exact own_blk_ne hown6 HI6.out.net (by decide) rfl
          have HST2 : Hid (puts C ((legsW W).take (y + 1)) r = D.set m (f + r)) := Lib.hid (by rw [hst]; simp [sgn])
          have HOWN6 := Lib.hid hown6
          have HNE := Lib.hid hne
          have hwr : IntKind.i64.wrap (f + r) = f + r := IntWalk.i64_in _ (by omega)
          clear hst hi3 hgq hlq hm hea hec cf hok hff hml hown6 hyW hyl hold hD hpl hf1 hx1 hne
          go_wp2
          clear hwr
          go_roundw
          case rel =>
            have hs := HOWN6.out.stored m (.int .i64 (f + r))
            refine ⟨y + 1, by omega, by go_num, HI6.out.net.far (p := ⟨gf, m, none⟩) HNE.out _, ?_, HI6.out.grow.trans hs.2⟩
            rw [HST2.out, show ints (D.set m (f + r)) = (ints D).set m (.int .i64 (f + r)) by simp [List.map_set]]
            exact hs.1
          case measure => simp [intOf]; omega
        · obtain rfl : y = el := by omega
          have HEND : Hid (goN es C0 ws (j + 1) = puts C ((legsW W).take y) r) := Lib.hid (by
            rw [HSU.out, HGO.out, List.take_of_length_le (by rw [HLW.out]; exact Nat.le_refl _)])
          go_wp2
          go_roundw
          case rel => exact ⟨j + 1, by omega, by go_num, by rw [HEND.out]; exact HI6.out⟩
          case measure => simp [intOf]; omega
    · obtain rfl : j = ml := by omega
      have HEND : Hid (goN es C0 ws j = ws.foldl (goW es) C0) := Lib.hid (goN_all es C0 ws HML.out.symm)
      rw [HEND.out] at HI
      go_wp2
      go_end0
      exact ⟨rfl, HI.out.own, HI.out.grow⟩
end Go.Proofs.Ythchlfoebkachaa
