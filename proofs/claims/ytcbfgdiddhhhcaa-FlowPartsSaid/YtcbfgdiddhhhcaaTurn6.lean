/-
  The program's room of a path, and what it lets go along one, walked.
-/
import Derived.Maps.RangeWalk
import Derived.Test.YtcbfgdiddhhhcaaSteps6
import Derived.Test.YtcbfgdiddhhhcaaQpush
namespace Go.Proofs.Ytcbfgdiddhhhcaa
open Go.RowKit Gm

theorem res_spare {n : Int} {es : List E} {fl : List Int} {p : Leg} (h : okE n (ed es p.1) = true) : resF (ed es p.1) (Gm.fa fl p.1) (fromL es p) = spare es fl p := by
  have hne := (okE_iff.1 h).2.2.2.2.1
  unfold resF fromL spare
  rcases p.2 with _ | _
  · simp only [Bool.false_eq_true, if_false, if_true]
    rw [if_neg (fun e => hne e.symm)]
  · simp

set_option maxRecDepth 100000 in
set_option maxHeartbeats 4000000 in
theorem room_any (n : Nat) (a : Option Addr) (len cap : Nat) (es : List E) (fa : Option Addr) (flen fcap : Nat) (fl : List Int) (pa : Option Addr) (pc A : Nat) (l : List Leg) (w : World) (hE : NetAt w.heap.size w a len es) (hF : FlowAt w.heap.size w fa flen fl) (hft : fits n es fl = true) (hL : StepsAt A w.heap.size w pa es l) (hli : ∀ p ∈ l, p.1 < es.length) (hl64 : l.length ≤ 64) :
    Calls Try.prog 27 #[netV n a len cap, .slice fa flen fcap, .slice pa l.length pc] w fun e w' => e = .returned (.int .i64 (roomOf es fl l 1073741824)) ∧ Below w.heap.size w w' := by
  obtain ⟨hr, hl, hfit⟩ := fits_iff.1 hft
  have hri := right_iff.1 hr
  have hlen : len ≤ 256 := by have := hri.2.2.1; rw [hE.1] at this; omega
  have HlE := Lib.hid hE.1
  have hql : flen = len := by rw [← hF.1, ← hE.1]; exact hl
  have HQ := Lib.hid hl
  have HE := Lib.hid hE
  have HF := Lib.hid hF
  have HFT := Lib.hid hfit
  have HES : Hid (∀ e ∈ es, okE n e = true) := Lib.hid hri.2.2.2
  have HL := Lib.hid hL
  have HLI := Lib.hid hli
  clear hri hE hF hl hr hft hfit hL hli
  subst hql
  go_enter Try.func27, Try.ntmps27
  go_wp2
  go_loopw [7, 12] (fun rv kv wr => ∃ k : Nat, k ≤ l.length ∧ kv = .int .i64 k ∧ rv = .int .i64 (roomOf es fl (l.take k) 1073741824) ∧ Blk wr w.heap.size 24 #[.int .i64 (n : Int), .slice a flen cap] ∧ Below w.heap.size w wr) (fun _ kv _ => l.length - (intOf kv).toNat)
  case atStart => exact ⟨0, Nat.zero_le _, rfl, rfl, Blk.new w _ _, (Below.refl _ w).alloc (Nat.le_refl _) _⟩
  case round =>
    obtain ⟨k, hk, rfl, rfl, bN, hB⟩ := hrel
    obtain ⟨w1, rfl⟩ : ∃ w', w' = wr := ⟨_, rfl⟩
    have hBs := hB.size
    by_cases hlk : k < l.length
    · obtain ⟨p, hp⟩ : ∃ p, l[k] = p := ⟨_, rfl⟩
      have hpe := HLI.out p (by rw [← hp]; exact List.getElem_mem hlk)
      obtain ⟨sb, so, hsa, hsc⟩ := HL.out.below hB
      obtain ⟨_, hsb, s0, s1⟩ := hsc k hlk
      obtain rfl : pa = some ⟨sb, so, none⟩ := by
        rcases hsa with h | h
        · omega
        · exact h
      rw [hp] at s0 s1
      obtain ⟨b, off, ha, hc⟩ := (HE.out.below hB).2.2
      obtain ⟨hb, c0, c1, c2⟩ := hc p.1 hpe
      obtain rfl : a = some ⟨b, off, none⟩ := by
        rcases ha with h | h
        · omega
        · exact h
      obtain ⟨gb, go, hga, hgc⟩ := (HF.out.below hB).2.2.int
      obtain ⟨hgb, cf⟩ := hgc p.1 (by rw [HQ.out]; exact hpe)
      obtain rfl : fa = some ⟨gb, go, none⟩ := by
        rcases hga with h | h
        · rw [HQ.out] at h; omega
        · exact h
      have hed : ed es p.1 = es[p.1] := by unfold ed; rw [List.getElem?_eq_getElem hpe]; rfl
      rw [← hed] at c0 c1 c2
      have ho := HES.out _ (ed_mem hpe)
      have hrs := res_spare (fl := fl) (p := p) ho
      have hfi := HFT.out _ (of_zip HQ.out hpe)
      dsimp only at hfi
      have hst := room_take (es := es) (fl := fl) (d := 1073741824) hlk
      rw [hp, ← hrs] at hst
      have cf' : w1.cell? ⟨gb, go + p.1, none⟩ = some (.int .i64 (Gm.fa fl p.1)) := cf
      have hx1 := (okE_iff.1 ho).2.2.2.2.2.2
      obtain ⟨f, hf⟩ : ∃ f, Gm.fa fl p.1 = f := ⟨_, rfl⟩
      obtain ⟨x, hx⟩ : ∃ x, ed es p.1 = x := ⟨_, rfl⟩
      obtain ⟨u, hu⟩ : ∃ u, fromL es p = u := ⟨_, rfl⟩
      obtain ⟨R, hR⟩ : ∃ R, roomOf es fl (l.take k) 1073741824 = R := ⟨_, rfl⟩
      obtain ⟨i, j⟩ := p
      dsimp only at *
      rw [hu] at s1 hst
      rw [hx] at c0 c1 c2 hst hx1 hfi
      rw [hf] at cf' hst hfi
      rw [hR] at hst ⊢
      obtain ⟨hf0, hf1⟩ := hfi
      obtain ⟨r, hr⟩ : ∃ r, resF x f u = r := ⟨_, rfl⟩
      rw [hr] at hst
      have HR := Lib.hid hr
      have HF0 := Lib.hid hf0
      have HF1 := Lib.hid hf1
      have HX1 := Lib.hid hx1
      have HST : Hid (roomOf es fl (l.take (k + 1)) 1073741824 = if r < R then r else R) := Lib.hid (by rw [hst, min_if])
      have hilen : i < flen := by rw [← HlE.out]; exact hpe
      have hii : (i : Int) < (flen : Int) := by omega
      have hkk : (k : Int) < (l.length : Int) := by omega
      obtain ⟨w2, hw2⟩ : ∃ W, w1.alloc (.cells #[.int .i64 (i : Int), .int .i64 u] 63) = W := ⟨_, rfl⟩
      have bN2 : Blk w2 w.heap.size 24 #[.int .i64 (n : Int), .slice (some ⟨b, off, none⟩) flen cap] := hw2 ▸ bN.alloc _
      have hB2 : Below w.heap.size w w2 := hw2 ▸ hB.alloc hBs _
      have bP2 : Blk w2 w1.heap.size 63 #[.int .i64 (i : Int), .int .i64 u] := hw2 ▸ Blk.new w1 _ _
      have hz2 := hB2.size
      have hcells : ∀ W, Below w2.heap.size w2 W → W.cell? ⟨w.heap.size, 1, none⟩ = some (.slice (some ⟨b, off, none⟩) flen cap) ∧ W.cell? ⟨w1.heap.size, 0, none⟩ = some (.int .i64 (i : Int)) ∧ W.cell? ⟨w1.heap.size, 1, none⟩ = some (.int .i64 u) ∧
          W.cell? ⟨b, off + i * 3, none⟩ = some (.int .i64 x.1) ∧ W.cell? ⟨b, off + i * 3 + 1, none⟩ = some (.int .i64 x.2.1) ∧ W.cell? ⟨b, off + i * 3 + 2, none⟩ = some (.int .i64 x.2.2) ∧ W.cell? ⟨gb, go + i, none⟩ = some (.int .i64 f) := fun W h => by
        have hP := bP2.below h bP2.lt
        have key : ∀ q o v, q < w.heap.size → w1.cell? ⟨q, o, none⟩ = some v → W.cell? ⟨q, o, none⟩ = some v := fun q o v hq hv => by
          have h5 : w2.cell? ⟨q, o, none⟩ = w1.cell? ⟨q, o, none⟩ := by
            rw [← hw2]; exact World.cell?_alloc_lt w1 _ ⟨q, o, none⟩ (by show q < _; omega)
          exact ((h.cell (p := ⟨q, o, none⟩) (by show q < _; omega)).trans h5).trans hv
        exact ⟨(bN2.below h bN2.lt).two.2.2, hP.two.2.1, hP.two.2.2, key _ _ _ hb c0, key _ _ _ hb c1, key _ _ _ hb c2, key _ _ _ hgb cf'⟩
      have HCE := Lib.hid hcells
      have HW2 := Lib.hid hw2
      have hbd := (Below.refl w2.heap.size w2).drew
      have hsb1 : sb < w1.heap.size := by omega
      clear hcells hw2 cf cf' c0 c1 c2 hf hx hu hR hr hst hf0 hf1 hx1 hed ho hrs hga hgc ha hc hsa hsc bN hB hp hpe
      go_wp2
      rw [HW2.out]
      (refine region_calm (fun W => Below w2.heap.size w2 W) (by kernel_rfl) (by kernel_rfl) (hbd) ?_
       repeat (
         refine wpQuiet_step (fun K hK => ?_)
         first
           | (refine calm_neg ?_ ?_
              focus (go_simp; done)
              go_simp
              refine hK _ ?_
              clear hK K)
           | (apply calm_pos
              focus (go_simp; done)
              focus (
                intro W hW
                (obtain ⟨d0, d1, d2, d3, d4, d5, d6⟩ := HCE.out W hW)
                go_simp
                first
                  | done
                  | exact rfl
                  | (go_at_call 41; (with_reducible refine (residual_any x f u _ HF0.out HF1.out HX1.out).mono ?_); rw [HR.out]; rintro e w6 ⟨rfl, hb6⟩; exact ⟨rfl, on_below hW hb6⟩))
              go_simp
              refine hK _ ?_
              clear hK K))
       refine wpQuiet_nil ?_)
      intro w6 hb6
      go_wp2
      go_roundw
      case rel => exact ⟨k + 1, by omega, by go_num, by rw [HST.out], bN2.below hb6 bN2.lt, hB2.trans (hb6.mono hz2)⟩
      case measure => simp [intOf]; omega
    · obtain rfl : k = l.length := by omega
      have HRR : Hid (roomOf es fl (l.take l.length) 1073741824 = roomOf es fl l 1073741824) := Lib.hid (by rw [List.take_length])
      go_wp2
      go_ret
      exact ⟨ret_int HRR.out, hB⟩
set_option maxRecDepth 100000 in
set_option maxHeartbeats 4000000 in
theorem add_any (n : Nat) (a : Option Addr) (len cap : Nat) (es : List E) (g flen oc base B : Nat) (fl : List Int) (pa : Option Addr) (pc A : Nat) (l : List Leg) (d : Int) (w : World) (hE : NetAt B w a len es) (hB0 : B ≤ g) (hown : w.ownsRow base 3 1 (.slice (some ⟨g, 0, none⟩) flen oc) flen (ints fl)) (hft : fits n es fl = true) (hL : StepsAt A w.heap.size w pa es l) (hA : g < A)
    (hli : ∀ p ∈ l, p.1 < es.length) (hnd : (l.map (·.1)).Nodup) (hl64 : l.length ≤ 64) (hd0 : 0 ≤ d) (hd : ∀ p ∈ l, d ≤ spare es fl p) :
    Calls Try.prog 28 #[netV n a len cap, .slice (some ⟨g, 0, none⟩) flen oc, .slice pa l.length pc, .int .i64 d] w fun e w' => e = .returned (.tuple #[]) ∧ w'.ownsRow base 3 1 (.slice (some ⟨g, 0, none⟩) flen oc) flen (ints (puts fl l d)) ∧ w.grownBy w' (some g) := by
  obtain ⟨hr, hl, hfit⟩ := fits_iff.1 hft
  have hri := right_iff.1 hr
  have hlen : len ≤ 256 := by have := hri.2.2.1; rw [hE.1] at this; omega
  have HlE := Lib.hid hE.1
  have hfl : fl.length = flen := by have := hown.1; simpa using this
  have hql : flen = len := by rw [← hfl, hl, hE.1]
  have HQ := Lib.hid hl
  have HFL := Lib.hid hfl
  have HE := Lib.hid hE
  have HFT := Lib.hid hfit
  have HES : Hid (∀ e ∈ es, okE n e = true) := Lib.hid hri.2.2.2
  have HL := Lib.hid hL
  have HLI := Lib.hid hli
  have HND := Lib.hid hnd
  have HD := Lib.hid hd
  have hgw := (hown.lt g rfl).2
  have hgb := (hown.lt g rfl).1
  clear hri hE hl hr hft hfit hL hli hnd hd hfl
  subst hql
  have hg0 : ∀ o, w.grownBy (w.alloc o) (some g) := fun o => (World.grownBy_alloc w o none).but _
  go_enter Try.func28, Try.ntmps28
  go_wp2
  go_loopw [12] (fun kv wr => ∃ k : Nat, k ≤ l.length ∧ kv = .int .i64 k ∧ Blk wr w.heap.size 24 #[.int .i64 (n : Int), .slice a flen cap] ∧ wr.ownsRow base 3 1 (.slice (some ⟨g, 0, none⟩) flen oc) flen (ints (puts fl (l.take k) d)) ∧ w.grownBy wr (some g)) (fun kv _ => l.length - (intOf kv).toNat)
  case atStart => exact ⟨0, Nat.zero_le _, rfl, Blk.new w _ _, hown.alloc _, hg0 _⟩
  case round =>
    clear hown hg0
    obtain ⟨k, hk, rfl, bN, hown, hG⟩ := hrel
    obtain ⟨w1, rfl⟩ : ∃ w', w' = wr := ⟨_, rfl⟩
    have hBs := hG.size
    have lN1 := bN.lt
    by_cases hlk : k < l.length
    · obtain ⟨p, hp⟩ : ∃ p, l[k] = p := ⟨_, rfl⟩
      have hpm : p ∈ l := by rw [← hp]; exact List.getElem_mem hlk
      have hpe := HLI.out p hpm
      obtain ⟨sb, so, hsa, hsc⟩ := HL.out
      obtain ⟨hsA, hsb, s0, s1⟩ := hsc k hlk
      obtain rfl : pa = some ⟨sb, so, none⟩ := by
        rcases hsa with h | h
        · omega
        · exact h
      rw [hp] at s0 s1
      obtain ⟨b, off, ha, hc⟩ := HE.out.2.2
      obtain ⟨hb, c0, c1, c2⟩ := hc p.1 hpe
      obtain rfl : a = some ⟨b, off, none⟩ := by
        rcases ha with h | h
        · omega
        · exact h
      have hed : ed es p.1 = es[p.1] := by unfold ed; rw [List.getElem?_eq_getElem hpe]; rfl
      rw [← hed] at c0 c1 c2
      have ho := HES.out _ (ed_mem hpe)
      have hne := (okE_iff.1 ho).2.2.2.2.1
      have hx1 := (okE_iff.1 ho).2.2.2.2.2.2
      have hfi := HFT.out _ (of_zip HQ.out hpe)
      dsimp only at hfi
      have hsp := HD.out p hpm
      unfold spare at hsp
      have hold : Gm.fa (puts fl (l.take k) d) p.1 = Gm.fa fl p.1 := (puts_at d (l.take k) fl p.1 (fun q hq => by rw [HQ.out]; exact HLI.out q (List.mem_of_mem_take hq)) (by rw [List.map_take]; exact HND.out.sublist (List.take_sublist _ _))).2 (by
        have h := nodup_take HND.out (k := k) (by simpa using hlk)
        rw [List.map_take]
        simpa [hp] using h)
      have hst := puts_take (fl := fl) (d := d) hlk
      rw [hp] at hst
      unfold put at hst
      rw [hold] at hst
      obtain ⟨C, hC⟩ : ∃ C, puts fl (l.take k) d = C := ⟨_, rfl⟩
      rw [hC] at hst hown hold
      have hCl : C.length = flen := by rw [← hC, puts_length, HFL.out]
      have hilen : p.1 < flen := by rw [← HlE.out]; exact hpe
      have cf := hown.cellAt p.1 (by omega)
      have cf0 : (ints C)[p.1]? = some (.int .i64 (Gm.fa C p.1)) := by
        unfold Gm.fa
        rw [List.getElem?_map, List.getElem?_eq_getElem (by omega)]; rfl
      rw [cf0, hold] at cf
      have hu : fromL es p = if p.2 then (ed es p.1).1 else (ed es p.1).2.1 := rfl
      obtain ⟨f, hf⟩ : ∃ f, Gm.fa fl p.1 = f := ⟨_, rfl⟩
      obtain ⟨x, hx⟩ : ∃ x, ed es p.1 = x := ⟨_, rfl⟩
      rw [hf] at cf hst hfi hsp
      rw [hx] at c0 c1 c2 hne hx1 hfi hsp hu
      obtain ⟨hf0, hf1⟩ := hfi
      obtain ⟨i, j⟩ := p
      dsimp only at *
      have hii : (i : Int) < (flen : Int) := by omega
      have hkk : (k : Int) < (l.length : Int) := by omega
      have HCL := Lib.hid hCl
      have HST := Lib.hid hst
      obtain ⟨u, hu'⟩ : ∃ u, fromL es (i, j) = u := ⟨_, rfl⟩
      rw [hu'] at s1 hu
      obtain ⟨w2, hw2⟩ : ∃ W, w1.alloc (.cells #[.int .i64 (i : Int), .int .i64 u] 63) = W := ⟨_, rfl⟩
      have bN2 : Blk w2 w.heap.size 24 #[.int .i64 (n : Int), .slice (some ⟨b, off, none⟩) flen cap] := hw2 ▸ bN.alloc _
      have hG2 : w.grownBy w2 (some g) := hw2 ▸ hG.trans ((World.grownBy_alloc w1 _ none).but _)
      have bP2 : Blk w2 w1.heap.size 63 #[.int .i64 (i : Int), .int .i64 u] := hw2 ▸ Blk.new w1 _ _
      have hown2 : w2.ownsRow base 3 1 (.slice (some ⟨g, 0, none⟩) flen oc) flen (ints C) := hw2 ▸ hown.alloc _
      have key : ∀ q o v, q < w.heap.size → q ≠ g → w.cell? ⟨q, o, none⟩ = some v → w2.cell? ⟨q, o, none⟩ = some v := fun q o v hq hne hv => hG2.cell hv (fun e => hne (by injection e))
      have key1 : ∀ q o v, q < w.heap.size → q ≠ g → w.cell? ⟨q, o, none⟩ = some v → w1.cell? ⟨q, o, none⟩ = some v := fun q o v hq hne hv => hG.cell hv (fun e => hne (by injection e))
      have hbg : b < g := by omega
      have hb2 : b < w2.heap.size := by have := hG2.size; omega
      have hsb2 : sb < w2.heap.size := by have := hG2.size; omega
      have hsb1 : sb < w1.heap.size := by omega
      have e0 := key1 _ _ _ hsb (by omega) s0
      have e1 := key1 _ _ _ hsb (by omega) s1
      have d0 := key _ _ _ (by omega) (by omega) c0
      have cf2 : w2.cell? ⟨g, i, none⟩ = some (.int .i64 f) := by
        rw [← hw2]; exact (World.cell?_alloc_lt w1 _ ⟨g, i, none⟩ (by show g < _; omega)).trans cf
      have ff2 := hown2.frozenAt i
      have hg2 : g < w2.heap.size := by have := hG2.size; omega
      obtain ⟨lN2, n20, n21⟩ := bN2.two
      obtain ⟨lP2, p20, p21⟩ := bP2.two
      have HW2 := Lib.hid hw2
      clear hp hpm hpe cf cf0 ho hold hC hf hx hst hCl hw2 key key1 c0 c1 c2 s0 s1 hsa hsc ha hc hed bN hown hG hu'
      rcases j with _ | _
      · have hsp' : d ≤ f := by simpa using hsp
        have hux : (u == x.1) = false := by
          have : u = x.2.1 := by simpa using hu
          rw [this]; simpa using fun e => hne (Eq.symm e)
        have hwr : IntKind.i64.wrap (f - d) = f - d := IntWalk.i64_in _ (by omega)
        clear hu hsp
        go_wp2
        rw [HW2.out]
        go_quiet (fail)
        go_wp2
        clear hwr
        go_roundw
        case rel =>
          refine ⟨k + 1, by omega, by go_num, ?_, ?_, ?_⟩
          · exact (bN2.drewN nq).far (p := ⟨g, i, none⟩) (by simp; omega) _
          · have h := (hown2.stored i (.int .i64 (f - d))).1
            have e : sgn false d = -d := rfl
            rw [HST.out, e, show f + -d = f - d by omega, show ints (C.set i (f - d)) = (ints C).set i (.int .i64 (f - d)) by simp [List.map_set]]
            exact h
          · exact (show w.grownBy (w2.drewN nq) (some g) from ⟨hG2.os, hG2.tape, hG2.output, hG2.size, hG2.block⟩).trans (World.ownsRow.stored (w := w2.drewN nq) hown2 i (.int .i64 (f - d))).2
        case measure => simp [intOf]; omega
      · have hsp' : d ≤ x.2.2 - f := by simpa using hsp
        have hux : (u == x.1) = true := by simpa using hu
        have hwr : IntKind.i64.wrap (f + d) = f + d := IntWalk.i64_in _ (by omega)
        clear hu hsp
        go_wp2
        rw [HW2.out]
        go_quiet (fail)
        go_wp2
        clear hwr
        go_roundw
        case rel =>
          refine ⟨k + 1, by omega, by go_num, ?_, ?_, ?_⟩
          · exact (bN2.drewN nq).far (p := ⟨g, i, none⟩) (by simp; omega) _
          · have h := (hown2.stored i (.int .i64 (f + d))).1
            have e : sgn true d = d := rfl
            rw [HST.out, e, show ints (C.set i (f + d)) = (ints C).set i (.int .i64 (f + d)) by simp [List.map_set]]
            exact h
          · exact (show w.grownBy (w2.drewN nq) (some g) from ⟨hG2.os, hG2.tape, hG2.output, hG2.size, hG2.block⟩).trans (World.ownsRow.stored (w := w2.drewN nq) hown2 i (.int .i64 (f + d))).2
        case measure => simp [intOf]; omega
    · obtain rfl : k = l.length := by omega
      have HPT : Hid (puts fl (l.take l.length) d = puts fl l d) := Lib.hid (by rw [List.take_length])
      go_wp2
      go_end0
      rw [HPT.out] at hown
      exact ⟨rfl, hown, hG⟩
end Go.Proofs.Ytcbfgdiddhhhcaa
