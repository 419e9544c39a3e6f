/-
  The laws' own taken, walked: a way of one unit out of a flow, or it goes round.
-/
import Derived.Test.YthchlfoebkachaaWays7
import Derived.Test.YthchlfoebkachaaQfill
namespace Go.Proofs.Ythchlfoebkachaa
open Go.RowKit Gm

/-- What is left of a flow when a way of one unit is taken out. -/
def lessF (R : List Int) (l : List Int) : List Int := puts R (legsW l) (-1)
theorem lessF_len (R l : List Int) : (lessF R l).length = R.length := by unfold lessF; rw [puts_length]
/-- Every edge of a trail bears something. -/
def Bears (R l : List Int) : Prop := ∀ x ∈ l, 0 < fa R x.toNat
theorem Bears.one {R : List Int} {m : Nat} (h : 0 < fa R m) : Bears R [(m : Int)] := fun x hx => by
  rw [List.mem_singleton.1 hx, Int.toNat_natCast]; exact h
theorem Bears.snoc {R l : List Int} {e : Nat} (h : Bears R l) (he : 0 < fa R e) : Bears R (l ++ [(e : Int)]) := fun x hx => by
  rcases List.mem_append.1 hx with hx | hx
  · exact h x hx
  · rw [List.mem_singleton.1 hx, Int.toNat_natCast]; exact he
def TakenPost (n : Nat) (es : List E) (m : Nat) (R : List Int) (base : Nat) (ra : Option Addr) (rl rc : Nat) (w : World) (e : Ending) (w' : World) : Prop :=
  (∃ v, e = .returned (.tuple #[v, .bool false]) ∧ (∃ ea el ec, v = wayV ea el ec 1) ∧ w'.ownsRow base 3 1 (.slice ra rl rc) rl (ints R) ∧ w.grownBy w' (Value.slice ra rl rc).ownBlock) ∨
  (∃ l ea ec, e = .returned (.tuple #[wayV ea l.length ec 1, .bool true]) ∧ isWayF n es 0 1 (m : Int) (l, 1) = true ∧ Bears R l ∧ w'.ownsRow w.heap.size 3 1 (.slice ea l.length ec) l.length (ints l) ∧ w'.ownsRow base 3 1 (.slice ra rl rc) rl (ints (lessF R l)) ∧ w.grownBy w' (Value.slice ra rl rc).ownBlock)
/-- What stands while a way is taken. -/
structure TakingAt (w : World) (n : Int) (a : Option Addr) (len cap M S : Nat) (l : List Int) (seen : List Bool) (ev : Value) (base : Nat) (ra : Option Addr) (rl rc : Nat) (R : List Int) (wr : World) : Prop where
  net : Blk wr w.heap.size 24 #[.int .i64 n, .slice a len cap]
  res : Blk wr (w.heap.size + 1) 44 #[.slice none 0 0, .int .i64 0]
  box : Blk wr M 44 #[ev, .int .i64 1]
  row : wr.ownsRow w.heap.size 3 1 ev l.length (ints l)
  marks : Blk wr S 4 (boolsA seen)
  rest : wr.ownsRow base 3 1 (.slice ra rl rc) rl (ints R)
  low : Below w.heap.size w wr

set_option maxRecDepth 100000 in
set_option maxHeartbeats 8000000 in
theorem taken_any (n : Nat) (a : Option Addr) (len cap : Nat) (es : List E) (ra : Option Addr) (rl rc base : Nat) (R : List Int) (m : Nat) (w : World) (hE : NetAt base w a len es) (hbase : base ≤ w.heap.size) (hown : w.ownsRow base 3 1 (.slice ra rl rc) rl (ints R)) (hr : right n es = true) (hl : R.length = es.length) (hm : m < es.length) (hms : (ed es m).1 = 0) (hb0 : ∀ e, e < es.length → 0 ≤ fa R e ∧ fa R e ≤ 1000) (hpos : 0 < fa R m) :
    Calls Try.prog 19 #[netV n a len cap, .slice ra rl rc, .int .i64 (m : Int)] w (TakenPost n es m R base ra rl rc w) := by
  have hrl : rl = len := by
    have h := hown.1
    simp only [List.length_map, Nat.mul_one] at h
    rw [← h, hl, hE.1]
  subst hrl
  have hlen : rl ≤ 256 := by have := (right_iff.1 hr).2.2.1; rw [hE.1] at this; exact this
  have hn64 : n ≤ 64 := by have := (right_iff.1 hr).2.1; omega
  have hn2 : 2 ≤ n := by have := (right_iff.1 hr).1; omega
  have hn0 : 0 < n := by omega
  have HlE := Lib.hid hE.1
  have HE := Lib.hid hE
  have HRT := Lib.hid hr
  have HL := Lib.hid hl
  have HM := Lib.hid hm
  have HMS := Lib.hid hms
  have HB0 := Lib.hid hb0
  have HPOS := Lib.hid hpos
  have HOWN := Lib.hid hown
  have hmb := make_bools n (by omega)
  obtain ⟨i0, hi0, hx0, hx1, hx2⟩ := info_parts infoInt
  obtain ⟨b, off, ha, hec⟩ := hE.2.2
  obtain ⟨hbb, c00, c1, c2⟩ := hec m hm
  obtain rfl : a = some ⟨b, off, none⟩ := by
    rcases ha with h | h
    · omega
    · exact h
  have hed : (ed es m).2.1 = (es[m]'hm).2.1 := by unfold ed; rw [List.getElem?_eq_getElem hm]; rfl
  replace c1 : w.cell? ⟨b, off + m * 3 + 1, none⟩ = some (.int .i64 (ed es m).2.1) := c1.trans (congrArg (fun y => some (Value.int .i64 y)) hed.symm)
  have hokm := okE_iff.1 ((right_iff.1 hr).2.2.2 _ (ed_mem hm))
  have hu0 := hokm.2.2.1
  have hu1 := hokm.2.2.2.1
  have HONE := Lib.hid (Trail.one (s := 0) hr hm hms)
  obtain ⟨u0, hu⟩ : ∃ u, (ed es m).2.1 = u := ⟨_, rfl⟩
  rw [hu] at c1 hu0 hu1 HONE
  have hbw : b < w.heap.size := by omega
  have hmI : (m : Int) < (rl : Int) := by have := hE.1; omega
  have hmlen : m < rl := by have := hE.1; omega
  have HC1 := Lib.hid c1
  clear hE hr hl hms hb0 hpos hown ha hec c00 c1 c2 hed hokm hu
  clear hm
  go_enter Try.func19, Try.ntmps19
  go_upto_region 4 with fail
  obtain ⟨w3, hw3⟩ : ∃ W, ((((w.alloc (.cells #[.int .i64 (n : Int), .slice (some ⟨b, off, none⟩) rl cap] 24)).alloc (.cells #[.slice none 0 0, .int .i64 0] 44)).alloc (.cells #[.int .i64 (m : Int)] 3)).alloc (.cells #[.slice (some ⟨w.heap.size + 1 + 1, 0, none⟩) 1 1, .int .i64 1] 44)).alloc (.cells ((Array.replicate n (.bool false)).setIfInBounds 0 (.bool true)) 4) = W := ⟨_, rfl⟩
  have hT0 : TakingAt w n (some ⟨b, off, none⟩) rl cap (w.heap.size + 1 + 1 + 1) (w.heap.size + 1 + 1 + 1 + 1) [(m : Int)] (Gm.start (n : Int) 0) (.slice (some ⟨w.heap.size + 1 + 1, 0, none⟩) 1 1) base ra rl rc R w3 := by
    rw [← hw3]
    refine ⟨((((Blk.new w _ _).alloc _).alloc _).alloc _).alloc _, ?_, ?_, ?_, ?_, ((((HOWN.out.alloc _).alloc _).alloc _).alloc _).alloc _, ?_⟩
    · have h := Blk.new (w.alloc (.cells #[.int .i64 (n : Int), .slice (some ⟨b, off, none⟩) rl cap] 24)) 44 #[.slice none 0 0, .int .i64 0]
      simp only [World.size_alloc] at h
      exact ((h.alloc _).alloc _).alloc _
    · have h := Blk.new (((w.alloc (.cells #[.int .i64 (n : Int), .slice (some ⟨b, off, none⟩) rl cap] 24)).alloc (.cells #[.slice none 0 0, .int .i64 0] 44)).alloc (.cells #[.int .i64 (m : Int)] 3)) 44 #[.slice (some ⟨w.heap.size + 1 + 1, 0, none⟩) 1 1, .int .i64 1]
      simp only [World.size_alloc] at h
      exact h.alloc _
    · have h := Blk.new ((w.alloc (.cells #[.int .i64 (n : Int), .slice (some ⟨b, off, none⟩) rl cap] 24)).alloc (.cells #[.slice none 0 0, .int .i64 0] 44)) 3 #[.int .i64 (m : Int)]
      simp only [World.size_alloc] at h
      have h2 : (((w.alloc (.cells #[.int .i64 (n : Int), .slice (some ⟨b, off, none⟩) rl cap] 24)).alloc (.cells #[.slice none 0 0, .int .i64 0] 44)).alloc (.cells #[.int .i64 (m : Int)] 3)).ownsRow w.heap.size 3 1 (.slice (some ⟨w.heap.size + 1 + 1, 0, none⟩) 1 1) 1 (ints [(m : Int)]) :=
        ⟨rfl, .inr ⟨w.heap.size + 1 + 1, 1, #[.int .i64 (m : Int)], rfl, by omega, h, Nat.le_refl _, by simp [maxLen], rfl, rfl⟩⟩
      exact (h2.alloc _).alloc _
    · have h := Blk.new ((((w.alloc (.cells #[.int .i64 (n : Int), .slice (some ⟨b, off, none⟩) rl cap] 24)).alloc (.cells #[.slice none 0 0, .int .i64 0] 44)).alloc (.cells #[.int .i64 (m : Int)] 3)).alloc (.cells #[.slice (some ⟨w.heap.size + 1 + 1, 0, none⟩) 1 1, .int .i64 1] 44)) 4 ((Array.replicate n (.bool false)).setIfInBounds 0 (.bool true))
      simp only [World.size_alloc] at h
      rw [← boolsA_rep, boolsA_set] at h ⊢
      exact h
    · exact (((((Below.refl _ w).alloc (Nat.le_refl _) _).alloc (by simp) _).alloc (by simp; omega) _).alloc (by simp; omega) _).alloc (by simp; omega) _
  rw [hw3]
  have hsl : (Gm.start (n : Int) 0).length = n := by simp [Gm.start]
  have bS := hT0.marks
  have cs := bS.cell u0.toNat
  rw [boolsA_at _ _ (by rw [hsl]; omega)] at cs
  obtain ⟨z0, hz0⟩ : ∃ z, (Gm.start (n : Int) 0)[u0.toNat]?.getD false = z := ⟨_, rfl⟩
  rw [hz0] at cs
  have csf := bS.frozen u0.toNat
  have lS := bS.lt
  have hu0n : u0.toNat < n := by omega
  have hI0 : TakingAt w n (some ⟨b, off, none⟩) rl cap (w.heap.size + 1 + 1 + 1) (w.heap.size + 1 + 1 + 1 + 1) [(m : Int)] ((Gm.start (n : Int) 0).set u0.toNat true) (.slice (some ⟨w.heap.size + 1 + 1, 0, none⟩) 1 1) base ra rl rc R (w3.setCell ⟨w.heap.size + 1 + 1 + 1 + 1, u0.toNat, none⟩ (.bool true)) :=
    ⟨hT0.net.far (p := ⟨w.heap.size + 1 + 1 + 1 + 1, u0.toNat, none⟩) (by show w.heap.size ≠ w.heap.size + 1 + 1 + 1 + 1; omega) _, hT0.res.far (p := ⟨w.heap.size + 1 + 1 + 1 + 1, u0.toNat, none⟩) (by show w.heap.size + 1 ≠ w.heap.size + 1 + 1 + 1 + 1; omega) _, hT0.box.far (p := ⟨w.heap.size + 1 + 1 + 1 + 1, u0.toNat, none⟩) (by simp) _, ownsRow_setCell_other hT0.row (a := ⟨w.heap.size + 1 + 1 + 1 + 1, u0.toNat, none⟩) (own_blk_ne hT0.row bS (by decide)) _, by rw [← boolsA_set]; exact bS.set _ _, ownsRow_setCell_other hT0.rest (a := ⟨w.heap.size + 1 + 1 + 1 + 1, u0.toNat, none⟩) (own_blk_ne hT0.rest bS (by decide)) _, hT0.low.setCell (p := ⟨w.heap.size + 1 + 1 + 1 + 1, u0.toNat, none⟩) (by simp; omega) _⟩
  have HI0 := Lib.hid hI0
  have c1 : w3.cell? ⟨b, off + m * 3 + 1, none⟩ = some (.int .i64 u0) := (hT0.low.cell (p := ⟨b, off + m * 3 + 1, none⟩) hbw).trans HC1.out
  obtain ⟨lN3, n30, n31⟩ := hT0.net.two
  have hb3 : b < w3.heap.size := Nat.lt_of_lt_of_le hbw hT0.low.size
  clear hz0 hI0 hT0 hw3 hmb
  go_wp2
  clear c1 n30 n31
  go_loopw [10] (fun uv wr => ∃ (u : Int) (l : List Int) (seen : List Bool) (ea : Option Addr) (ec : Nat), uv = .int .i64 u ∧ Hid (Trail n es 0 (m : Int) l u seen) ∧ Hid (Bears R l) ∧ TakingAt w n (some ⟨b, off, none⟩) rl cap (w.heap.size + 1 + 1 + 1) (w.heap.size + 1 + 1 + 1 + 1) l seen (.slice ea l.length ec) base ra rl rc R wr) (fun _ wr => leftN (w.heap.size + 1 + 1 + 1) n wr)
  case atStart => exact ⟨u0, [(m : Int)], _, _, _, rfl, HONE, Lib.hid (Bears.one HPOS.out), HI0.out⟩
  case round =>
    clear cs csf lS bS HI0
    obtain ⟨u, l, seen, ea, ec, rfl, htr, hbe, hT⟩ := hrel
    obtain ⟨w4, rfl⟩ : ∃ w', w' = wr := ⟨_, rfl⟩
    have hz4 := hT.low.size
    have hsh := htr.out.short
    have HT := Lib.hid hT
    clear hT
    obtain ⟨lN4, n40, n41⟩ := HT.out.net.two
    have hrests : ∀ k, k < rl → ∃ g, ra = some ⟨g, 0, none⟩ ∧ base ≤ g ∧ g < w.heap.size ∧ w4.cell? ⟨g, k, none⟩ = some (.int .i64 (fa R k)) := fun k hk => by
      have hRl : R.length = rl := by rw [HL.out, HlE.out]
      obtain ⟨g, hg, hg0, _, cg⟩ := own_int (l := R) (by rw [hRl]; exact HT.out.rest) (show k < R.length by rw [hRl]; exact hk)
      subst hg
      exact ⟨g, rfl, hg0, (HOWN.out.lt g rfl).2, cg⟩
    have HRS := Lib.hid hrests
    clear hrests
    by_cases hu1' : u = 1
    · have t1 : (u != 1) = false := by simp [hu1']
      have hway : isWayF n es 0 1 (m : Int) (l, 1) = true := (hu1' ▸ htr.out).isWay (by omega) (by omega)
      have HWAY := Lib.hid hway
      have hw2 := hway
      simp only [isWayF, Bool.and_eq_true, decide_eq_true_eq] at hw2
      obtain ⟨wk1, wk2, _, _, _⟩ := walkW_is (right_iff.1 HRT.out).2.2.2 l 0 (Gm.start n 0) (by simp [Gm.start]) hw2.2
      have HWK1 := Lib.hid wk1
      have HWK2 : Hid (((legsW l).map (·.1)).Nodup) := Lib.hid (by rw [legsW_map]; exact wk2)
      have HLW : Hid ((legsW l).length = l.length) := Lib.hid (by simp [legsW])
      obtain ⟨lM, m0, m1⟩ := HT.out.box.two
      clear hu1' hway hw2 wk1 wk2 n40 n41
      go_wp2
      clear t1 m1
      go_loopw [13] (fun kv wr => ∃ y : Nat, y ≤ l.length ∧ kv = .int .i64 y ∧ Blk wr (w.heap.size + 1) 44 #[.slice none 0 0, .int .i64 0] ∧ Blk wr (w.heap.size + 1 + 1 + 1) 44 #[.slice ea l.length ec, .int .i64 1] ∧ wr.ownsRow w.heap.size 3 1 (.slice ea l.length ec) l.length (ints l) ∧ wr.ownsRow base 3 1 (.slice ra rl rc) rl (ints (puts R ((legsW l).take y) (-1))) ∧ w.grownBy wr (Value.slice ra rl rc).ownBlock) (fun kv _ => l.length - (intOf kv).toNat)
      case atStart => exact ⟨0, Nat.zero_le _, rfl, HT.out.res, HT.out.box, HT.out.row, HT.out.rest, ⟨HT.out.low.os, HT.out.low.tape, HT.out.low.output, HT.out.low.size, fun k hk _ => HT.out.low.block k hk⟩⟩
      case round =>
        clear m0
        obtain ⟨y, hy, rfl, bR, bM, hrow, hrest, hg⟩ := hrel
        obtain ⟨w5, rfl⟩ : ∃ w', w' = wr := ⟨_, rfl⟩
        obtain ⟨lM5, m0, m1⟩ := bM.two
        have hz5 := hg.size
        by_cases hyl : y < l.length
        · obtain ⟨g, hge, hgb, hgw, _⟩ := HRS.out 0 (by omega)
          obtain ⟨eg, hee, heg0, heg1, cx⟩ := own_int hrow hyl
          subst hee
          have hi3 := HWK1.out l[y] (List.getElem_mem hyl)
          obtain ⟨x, hx⟩ : ∃ x : Nat, l[y] = (x : Int) := ⟨l[y].toNat, by omega⟩
          rw [List.getElem?_eq_getElem hyl] at cx
          have cx' : w5.cell? ⟨eg, y, none⟩ = some (.int .i64 (x : Int)) := by rw [cx]; show some (Value.int .i64 l[y]) = _; rw [hx]
          rw [hx] at hi3
          simp only [Int.toNat_natCast] at hi3
          have hyL : y < (legsW l).length := by rw [HLW.out]; exact hyl
          have hlq : (legsW l)[y]'hyL = (x, true) := by
            have : (legsW l)[y]'hyL = (l[y].toNat, true) := by simp [legsW]
            rw [this, hx, Int.toNat_natCast]
          have hst := puts_take (fl := R) (d := -1) (k := y) (l := legsW l) hyL
          rw [hlq] at hst
          unfold put at hst
          simp only at hst
          have hxl : x < es.length := by omega
          have hRl : R.length = rl := by rw [HL.out, HlE.out]
          have hpl : (puts R ((legsW l).take y) (-1)).length = rl := by rw [puts_length, hRl]
          have hold : Gm.fa (puts R ((legsW l).take y) (-1)) x = Gm.fa R x := (puts_at (-1) ((legsW l).take y) R x (fun p hp => by
            obtain ⟨i, hi, rfl⟩ := List.mem_map.1 (show p ∈ l.map (fun i => (i.toNat, true)) from List.mem_of_mem_take hp)
            have h3 := HWK1.out i hi
            rw [hRl, ← HlE.out]; dsimp only; omega) (by rw [List.map_take]; exact HWK2.out.sublist (List.take_sublist _ _))).2 (by
              have h := nodup_take HWK2.out (k := y) (by simpa using hyL)
              rw [List.map_take]
              simpa [hlq] using h)
          have hbd := HB0.out x hxl
          obtain ⟨D, hD⟩ : ∃ D, puts R ((legsW l).take y) (-1) = D := ⟨_, rfl⟩
          rw [hD] at hst hpl hold hrest
          have hxr : x < rl := by rw [← HlE.out]; exact hxl
          obtain ⟨gf, hgf, hgf0, hgf1, cf⟩ := own_int (by rw [hpl]; exact hrest) (show x < D.length by rw [hpl]; exact hxr)
          have cf' : w5.cell? ⟨gf, x, none⟩ = some (.int .i64 (Gm.fa D x)) := cf
          subst hgf
          have hgg : gf = g := by injection hge with h; injection h
          subst hgg
          have hfz := hrest.frozenAt x
          rw [hold] at hst cf'
          obtain ⟨f, hff⟩ : ∃ f, Gm.fa R x = f := ⟨_, rfl⟩
          rw [hff] at hst cf' hbd
          obtain ⟨hf0, hf1⟩ := hbd
          have hxI : (x : Int) < (rl : Int) := by omega
          have hyI : (y : Int) < (l.length : Int) := by omega
          have HST2 : Hid (puts R ((legsW l).take (y + 1)) (-1) = D.set x (f - 1)) := Lib.hid (by rw [hst]; simp [sgn]; rfl)
          have HREST := Lib.hid hrest
          have HROW := Lib.hid hrow
          have HBR := Lib.hid bR
          have HBM := Lib.hid bM
          have HG := Lib.hid hg
          have hwr : IntKind.i64.wrap (f - 1) = f - 1 := IntWalk.i64_in _ (by omega)
          clear hst hi3 hx hlq cx cf hff hxl hrest hyL hold hD hpl hrow bR bM hg hge
          go_wp2
          clear hwr
          go_roundw
          case rel =>
            have hs := HREST.out.stored x (.int .i64 (f - 1))
            refine ⟨y + 1, by omega, by go_num, HBR.out.far (p := ⟨gf, x, none⟩) (by simp; omega) _, HBM.out.far (p := ⟨gf, x, none⟩) (by simp; omega) _, ownsRow_setCell_other HROW.out (a := ⟨gf, x, none⟩) (by simp [Value.ownBlock]; omega) _, ?_, HG.out.trans hs.2⟩
            rw [HST2.out, show ints (D.set x (f - 1)) = (ints D).set x (.int .i64 (f - 1)) by simp [List.map_set]]
            exact hs.1
          case measure => simp [intOf]; omega
        · obtain rfl : y = l.length := by omega
          have HEND : Hid (puts R ((legsW l).take l.length) (-1) = lessF R l) := Lib.hid (by unfold lessF; rw [List.take_of_length_le (by rw [HLW.out]; exact Nat.le_refl _)])
          rw [HEND.out] at hrest
          have rf0 := bR.frozen 0
          have rf1 := bR.frozen 1
          obtain ⟨lR, r0, r1⟩ := bR.two
          have hR2 := ((bR.set 0 (.slice ea l.length ec)).set 1 (.int .i64 1))
          obtain ⟨_, z0, z1⟩ := hR2.two
          obtain ⟨g, hge, hgb, hgw, _⟩ := HRS.out 0 (by omega)
          have hrow2 := ownsRow_setCell_other (ownsRow_setCell_other hrow (a := ⟨w.heap.size + 1, 0, none⟩) (own_blk_ne hrow bR (by decide)) (.slice ea l.length ec)) (a := ⟨w.heap.size + 1, 1, none⟩) (own_blk_ne hrow bR (by decide)) (.int .i64 1)
          have hrest2 := ownsRow_setCell_other (ownsRow_setCell_other hrest (a := ⟨w.heap.size + 1, 0, none⟩) (own_blk_ne hrest bR (by decide)) (.slice ea l.length ec)) (a := ⟨w.heap.size + 1, 1, none⟩) (own_blk_ne hrest bR (by decide)) (.int .i64 1)
          have hg2 : w.grownBy ((w5.setCell ⟨w.heap.size + 1, 0, none⟩ (.slice ea l.length ec)).setCell ⟨w.heap.size + 1, 1, none⟩ (.int .i64 1)) (Value.slice ra rl rc).ownBlock := by
            have hb1 := (Below.refl w.heap.size w5).setCell (p := ⟨w.heap.size + 1, 0, none⟩) (by simp) (.slice ea l.length ec)
            have hb2 := hb1.setCell (p := ⟨w.heap.size + 1, 1, none⟩) (by simp) (.int .i64 1)
            exact ⟨hb2.os.trans hg.os, hb2.tape.trans hg.tape, hb2.output.trans hg.output, Nat.le_trans hg.size hb2.size, fun k hk hne => (hb2.block k hk).trans (hg.block k hk hne)⟩
          clear hyl hge
          go_wp2
          refine bodyPost_ret (v := .tuple #[.agg #[.slice ea l.length ec, .int .i64 1], .bool true]) (by simp [results, Try.results19, go_sem, z0, z1]) rfl ?_
          exact .inr ⟨l, ea, ec, rfl, HWAY.out, hbe.out, hrow2, hrest2, hg2⟩
    · have t1 : (u != 1) = true := by simp [hu1']
      have hBW4 : Below base w w4 := HT.out.low.mono hbase
      have hut := htr.out.u0
      clear hu1'
      go_wp2
      go_loopw [11, 12] (fun nv kv wr => ∃ (i : Nat) (nx : Int), i ≤ rl ∧ kv = .int .i64 i ∧ nv = .int .i64 nx ∧ Hid (nx = -1 ∨ ∃ e : Nat, nx = (e : Int) ∧ e < es.length ∧ (ed es e).1 = u ∧ 0 < fa R e) ∧ w4 = wr) (fun _ kv _ => rl - (intOf kv).toNat)
      case atStart => exact ⟨0, -1, Nat.zero_le _, rfl, rfl, Lib.hid (.inl rfl), rfl⟩
      case round =>
        obtain ⟨i, nx, hi, rfl, rfl, hnx, rfl⟩ := hrel
        by_cases hir : i < rl
        · have hie : i < es.length := by rw [HlE.out]; exact hir
          obtain ⟨b', off', ha, hec⟩ := (HE.out.below hBW4).2.2
          obtain ⟨hb', c0, c01, c02⟩ := hec i hie
          obtain ⟨rfl, rfl⟩ : b = b' ∧ off = off' := by
            rcases ha with h | h
            · omega
            · injection h with h; injection h with h1 h2; exact ⟨h1, h2⟩
          have hed : (ed es i).1 = (es[i]'hie).1 := by unfold ed; rw [List.getElem?_eq_getElem hie]; rfl
          replace c0 : w4.cell? ⟨b, off + i * 3, none⟩ = some (.int .i64 (ed es i).1) := c0.trans (congrArg (fun y => some (Value.int .i64 y)) hed.symm)
          obtain ⟨g, hg, hgb, hgw, cg⟩ := HRS.out i hir
          subst hg
          obtain ⟨x, hx⟩ : ∃ x, (ed es i).1 = x := ⟨_, rfl⟩
          obtain ⟨f, hf⟩ : ∃ f, fa R i = f := ⟨_, rfl⟩
          rw [hx] at c0
          rw [hf] at cg
          have HX := Lib.hid hx
          have HF := Lib.hid hf
          have HIE := Lib.hid hie
          have hgw4 : g < w4.heap.size := by omega
          have hbb4 : b < w4.heap.size := by omega
          have hii : (i : Int) < (rl : Int) := by omega
          clear ha hec c01 c02 hed hx hf
          clear hie
          have hsp : nx = -1 ∨ ¬ nx < 0 := by
            rcases hnx.out with h | ⟨e, h, _⟩
            · exact .inl h
            · exact .inr (by omega)
          rcases hsp with rfl | hnn
          · by_cases h1 : x = u
            · have t3 : (x == u) = true := by simp [h1]
              by_cases h2 : 0 < f
              · have t4 : decide (0 < f) = true := by simp [h2]
                have HNX : Hid ((i : Int) = -1 ∨ ∃ e : Nat, (i : Int) = (e : Int) ∧ e < es.length ∧ (ed es e).1 = u ∧ 0 < fa R e) := Lib.hid (.inr ⟨i, rfl, HIE.out, by rw [HX.out]; exact h1, by rw [HF.out]; exact h2⟩)
                clear h1
                go_wp2
                go_roundw
                case rel => exact ⟨i + 1, (i : Int), by omega, by go_num, rfl, HNX, trivial⟩
                case measure => simp [intOf]; omega
              · have t4 : decide (0 < f) = false := by simp [h2]
                clear h1
                go_wp2
                go_roundw
                case rel => exact ⟨i + 1, -1, by omega, by go_num, rfl, hnx, trivial⟩
                case measure => simp [intOf]; omega
            · have t3 : (x == u) = false := by simp [h1]
              clear h1
              go_wp2
              go_roundw
              case rel => exact ⟨i + 1, -1, by omega, by go_num, rfl, hnx, trivial⟩
              case measure => simp [intOf]; omega
          · go_wp2
            go_roundw
            case rel => exact ⟨i + 1, nx, by omega, by go_num, rfl, hnx, trivial⟩
            case measure => simp [intOf]; omega
        · obtain rfl : i = rl := by omega
          rcases hnx.out with rfl | ⟨e, rfl, hel, hef, heR⟩
          · have rf0 := HT.out.res.frozen 0
            have rf1 := HT.out.res.frozen 1
            obtain ⟨lR, r0, r1⟩ := HT.out.res.two
            obtain ⟨lM, m0, m1⟩ := HT.out.box.two
            have hR2 := ((HT.out.res.set 0 (.slice ea l.length ec)).set 1 (.int .i64 1))
            obtain ⟨_, z0, z1⟩ := hR2.two
            have hrest2 := ownsRow_setCell_other (ownsRow_setCell_other HT.out.rest (a := ⟨w.heap.size + 1, 0, none⟩) (own_blk_ne HT.out.rest HT.out.res (by decide)) (.slice ea l.length ec)) (a := ⟨w.heap.size + 1, 1, none⟩) (own_blk_ne HT.out.rest HT.out.res (by decide)) (.int .i64 1)
            have hb2 := (HT.out.low.setCell (p := ⟨w.heap.size + 1, 0, none⟩) (by simp) (.slice ea l.length ec)).setCell (p := ⟨w.heap.size + 1, 1, none⟩) (by simp) (.int .i64 1)
            go_wp2
            refine bodyPost_ret (v := .tuple #[.agg #[.slice ea l.length ec, .int .i64 1], .bool false]) (by simp [results, Try.results19, go_sem, z0, z1]) rfl ?_
            exact .inl ⟨_, rfl, ⟨ea, l.length, ec, rfl⟩, hrest2, ⟨hb2.os, hb2.tape, hb2.output, hb2.size, fun k hk _ => hb2.block k hk⟩⟩
          · obtain ⟨b', off', ha, hec⟩ := (HE.out.below hBW4).2.2
            obtain ⟨hb', c00, c1, c02⟩ := hec e hel
            obtain ⟨rfl, rfl⟩ : b = b' ∧ off = off' := by
              rcases ha with h | h
              · omega
              · injection h with h; injection h with h1 h2; exact ⟨h1, h2⟩
            have hed : (ed es e).2.1 = (es[e]'hel).2.1 := by unfold ed; rw [List.getElem?_eq_getElem hel]; rfl
            replace c1 : w4.cell? ⟨b, off + e * 3 + 1, none⟩ = some (.int .i64 (ed es e).2.1) := c1.trans (congrArg (fun y => some (Value.int .i64 y)) hed.symm)
            have hoke := okE_iff.1 ((right_iff.1 HRT.out).2.2.2 _ (ed_mem hel))
            have hsn := fun hf => htr.out.snoc HRT.out hel hef hf
            obtain ⟨x, hx⟩ : ∃ x, (ed es e).2.1 = x := ⟨_, rfl⟩
            rw [hx] at c1
            have hx0' : 0 ≤ x := by rw [← hx]; exact hoke.2.2.1
            have hx1' : x < (n : Int) := by rw [← hx]; exact hoke.2.2.2.1
            have hsl : seen.length = n := htr.out.len
            have cs := HT.out.marks.cell x.toNat
            rw [boolsA_at _ _ (by rw [hsl]; omega)] at cs
            obtain ⟨z, hz⟩ : ∃ z, seen[x.toNat]?.getD false = z := ⟨_, rfl⟩
            rw [hz] at cs
            have hz' : has seen x = z := hz
            rw [hx] at hsn
            have HX := Lib.hid hx
            have HSN := Lib.hid hsn
            have HZ := Lib.hid hz'
            have HSL := Lib.hid hsl
            have HEL := Lib.hid hel
            have HC1 := Lib.hid c1
            have heI : ¬ (e : Int) < 0 := by omega
            have hei : (e : Int) < (i : Int) := by have := HlE.out; omega
            have hei2 : e < i := by have := HlE.out; omega
            have hbb4 : b < w4.heap.size := by omega
            have lS4 := HT.out.marks.lt
            have hxn : x.toNat < n := by omega
            have hbeE := hbe.out.snoc heR
            have HBE := Lib.hid hbeE
            clear ha hec c00 c02 hed hoke hx hz hz' hsl hef heR hsn hbeE
            clear hel
            rcases z with _ | _
            · have bM4 := HT.out.box
              obtain ⟨lM4, m40, m41⟩ := bM4.two
              have hoE := HT.out.row.alloc (.cells #[.int .i64 (e : Int)] 3)
              have hlb : l.length ≤ 64 := by omega
              go_upto_region 16 with (
                at_builtin
                refine wpList_append_lies _ (by rfl) (.tmp 74) (.tmp 76) 25 (by rfl) w.heap.size 3 i0 _ 1 8 Try.underlying25 hi0 hx0 hx1 hx2 rfl (by decide) _ l.length (ints l) (by rfl) hoE ⟨w4.heap.size, 0, none⟩ 1 1 [.int .i64 (e : Int)] (by rfl) (by rfl) (cell_one_new _ _ _) (by simp [Value.oneCell']) (by omega) (by simp [maxLen]; omega) (by omega) (by simp; omega) (w4.heap.size + 1) (by simp) ?_
                intro g3 cap3 w6 hoE6 hg6 hloc6 hlt6
                have bM6 := (bM4.alloc (.cells #[.int .i64 (e : Int)] 3)).kept hg6 (own_blk_ne hoE (bM4.alloc _) (by decide)).symm
                obtain ⟨lM6, m60, m61⟩ := bM6.two
                have fM6 := bM6.frozen 0)
              have bN6 := (HT.out.net.alloc (.cells #[.int .i64 (e : Int)] 3)).kept hg6 (own_blk_ne hoE (HT.out.net.alloc _) (by decide)).symm
              have bR6 := (HT.out.res.alloc (.cells #[.int .i64 (e : Int)] 3)).kept hg6 (own_blk_ne hoE (HT.out.res.alloc _) (by decide)).symm
              have bS6 := (HT.out.marks.alloc (.cells #[.int .i64 (e : Int)] 3)).kept hg6 (own_blk_ne hoE (HT.out.marks.alloc _) (by decide)).symm
              have hrest6 := own_kept (HT.out.rest.alloc (.cells #[.int .i64 (e : Int)] 3)) hg6 (fun g e1 e2 => by
                have h1 := (HOWN.out.lt g e1).2
                have h2 := (hoE.lt g e2).1
                omega)
              have h26 : Below w.heap.size w w6 := (HT.out.low.alloc hz4 _).grown hg6 (by simp; omega) (fun k e => (hoE.lt k e).1)
              obtain ⟨w7, hw7⟩ : ∃ W, w6.setCell ⟨w.heap.size + 1 + 1 + 1, 0, none⟩ (.slice (some ⟨g3, 0, none⟩) (l.length + 1) cap3) = W := ⟨_, rfl⟩
              have hll : (l ++ [(e : Int)]).length = l.length + 1 := by simp
              have hT7 : TakingAt w n (some ⟨b, off, none⟩) i cap (w.heap.size + 1 + 1 + 1) (w.heap.size + 1 + 1 + 1 + 1) (l ++ [(e : Int)]) seen (.slice (some ⟨g3, 0, none⟩) (l.length + 1) cap3) base ra i rc R w7 := by
                rw [← hw7]
                refine ⟨bN6.far (p := ⟨w.heap.size + 1 + 1 + 1, 0, none⟩) (by show w.heap.size ≠ w.heap.size + 1 + 1 + 1; omega) _, bR6.far (p := ⟨w.heap.size + 1 + 1 + 1, 0, none⟩) (by show w.heap.size + 1 ≠ w.heap.size + 1 + 1 + 1; omega) _, bM6.set 0 _, ?_, bS6.far (p := ⟨w.heap.size + 1 + 1 + 1, 0, none⟩) (by simp) _, ownsRow_setCell_other hrest6 (a := ⟨w.heap.size + 1 + 1 + 1, 0, none⟩) (own_blk_ne hrest6 bM6 (by decide)) _, h26.setCell (p := ⟨w.heap.size + 1 + 1 + 1, 0, none⟩) (by simp; omega) _⟩
                rw [hll, show ints (l ++ [(e : Int)]) = ints l ++ [.int .i64 (e : Int)] by simp]
                exact ownsRow_setCell_other hoE6 (a := ⟨w.heap.size + 1 + 1 + 1, 0, none⟩) (own_blk_ne hoE6 bM6 (by decide)) _
              rw [hw7]
              have HT7 := Lib.hid hT7
              obtain ⟨lN7, n70, n71⟩ := hT7.net.two
              have c17 : w7.cell? ⟨b, off + e * 3 + 1, none⟩ = some (.int .i64 x) := by
                have h47 : w7.cell? ⟨b, off + e * 3 + 1, none⟩ = w.cell? ⟨b, off + e * 3 + 1, none⟩ := hT7.low.cell (p := ⟨b, off + e * 3 + 1, none⟩) hbw
                have h44 : w4.cell? ⟨b, off + e * 3 + 1, none⟩ = w.cell? ⟨b, off + e * 3 + 1, none⟩ := HT.out.low.cell (p := ⟨b, off + e * 3 + 1, none⟩) hbw
                rw [h47, ← h44]; exact HC1.out
              have cs7 := hT7.marks.cell x.toNat
              rw [boolsA_at _ _ (by rw [HSL.out]; omega)] at cs7
              obtain ⟨z7, hz7⟩ : ∃ z, seen[x.toNat]?.getD false = z := ⟨_, rfl⟩
              rw [hz7] at cs7
              have fS7 := hT7.marks.frozen x.toNat
              have lS7 := hT7.marks.lt
              have hbb7 : b < w7.heap.size := Nat.lt_of_lt_of_le hbw hT7.low.size
              clear hw7 hT7 hz7 bM6 bN6 bR6 bS6 hrest6 lM6 m60 m61 fM6 hoE hoE6 hg6 hloc6 hlt6 m40 m41 n40 n41 c1 cs
              go_wp2
              have hbox : Blk (w7.setCell ⟨w.heap.size + 1 + 1 + 1 + 1, x.toNat, none⟩ (.bool true)) (w.heap.size + 1 + 1 + 1) 44 #[.slice (some ⟨g3, 0, none⟩) (l.length + 1) cap3, .int .i64 1] := HT7.out.box.far (p := ⟨w.heap.size + 1 + 1 + 1 + 1, x.toNat, none⟩) (by simp) _
              have HBOX := Lib.hid hbox
              have HLL := Lib.hid hll
              clear hbox hll
              go_roundw
              case rel =>
                refine ⟨x, l ++ [(e : Int)], seen.set x.toNat true, some ⟨g3, 0, none⟩, cap3, rfl, Lib.hid (HSN.out HZ.out), HBE, ?_⟩
                rw [HLL.out]
                exact ⟨HT7.out.net.far (p := ⟨w.heap.size + 1 + 1 + 1 + 1, x.toNat, none⟩) (by show w.heap.size ≠ w.heap.size + 1 + 1 + 1 + 1; omega) _, HT7.out.res.far (p := ⟨w.heap.size + 1 + 1 + 1 + 1, x.toNat, none⟩) (by show w.heap.size + 1 ≠ w.heap.size + 1 + 1 + 1 + 1; omega) _, HBOX.out, ownsRow_setCell_other HT7.out.row (a := ⟨w.heap.size + 1 + 1 + 1 + 1, x.toNat, none⟩) (own_blk_ne HT7.out.row HT7.out.marks (by decide)) _, by rw [← boolsA_set]; exact HT7.out.marks.set _ _, ownsRow_setCell_other HT7.out.rest (a := ⟨w.heap.size + 1 + 1 + 1 + 1, x.toNat, none⟩) (own_blk_ne HT7.out.rest HT7.out.marks (by decide)) _, HT7.out.low.setCell (p := ⟨w.heap.size + 1 + 1 + 1 + 1, x.toNat, none⟩) (by simp; omega) _⟩
              case measure =>
                have h1 := (HSN.out HZ.out).short
                rw [HLL.out] at h1
                have h2 := leftN_of (n := n) HBOX.out
                have h3 := leftN_of (n := n) HT.out.box
                show leftN _ _ _ < leftN _ _ _
                rw [h2, h3]; omega
            · have rf0 := HT.out.res.frozen 0
              have rf1 := HT.out.res.frozen 1
              obtain ⟨lR, r0, r1⟩ := HT.out.res.two
              obtain ⟨lM, m0, m1⟩ := HT.out.box.two
              have hR2 := ((HT.out.res.set 0 (.slice ea l.length ec)).set 1 (.int .i64 1))
              obtain ⟨_, z0, z1⟩ := hR2.two
              have hrest2 := ownsRow_setCell_other (ownsRow_setCell_other HT.out.rest (a := ⟨w.heap.size + 1, 0, none⟩) (own_blk_ne HT.out.rest HT.out.res (by decide)) (.slice ea l.length ec)) (a := ⟨w.heap.size + 1, 1, none⟩) (own_blk_ne HT.out.rest HT.out.res (by decide)) (.int .i64 1)
              have hb2 := (HT.out.low.setCell (p := ⟨w.heap.size + 1, 0, none⟩) (by simp) (.slice ea l.length ec)).setCell (p := ⟨w.heap.size + 1, 1, none⟩) (by simp) (.int .i64 1)
              go_wp2
              refine bodyPost_ret (v := .tuple #[.agg #[.slice ea l.length ec, .int .i64 1], .bool false]) (by simp [results, Try.results19, go_sem, z0, z1]) rfl ?_
              exact .inl ⟨_, rfl, ⟨ea, l.length, ec, rfl⟩, hrest2, ⟨hb2.os, hb2.tape, hb2.output, hb2.size, fun k hk _ => hb2.block k hk⟩⟩
end Go.Proofs.Ythchlfoebkachaa
