/-
  The program's next path, walked: its steps, from t back to s.
-/
import Derived.Test.YtcbfgdiddhhhcaaSearch6
import Derived.Test.YtcbfgdiddhhhcaaQalong
namespace Go.Proofs.Ytcbfgdiddhhhcaa
open Go.RowKit Gm

/-- Where a leg comes from. -/
def fromL (es : List E) (p : Leg) : Int := if p.2 then (ed es p.1).1 else (ed es p.1).2.1
/-- The cells of steps, one behind the other. -/
def flatS (es : List E) (l : List Leg) : List Value := l.flatMap fun p => [.int .i64 (p.1 : Int), .int .i64 (fromL es p)]
theorem flatS_snoc (es : List E) (l : List Leg) (p : Leg) : flatS es (l ++ [p]) = flatS es l ++ [.int .i64 (p.1 : Int), .int .i64 (fromL es p)] := by simp [flatS]
theorem flatS_at (es : List E) (l : List Leg) (i : Nat) (h : i < l.length) : (flatS es l)[i * 2]? = some (.int .i64 (l[i].1 : Int)) ∧ (flatS es l)[i * 2 + 1]? = some (.int .i64 (fromL es l[i])) := by
  induction l generalizing i with
  | nil => simp at h
  | cons e l ih =>
    cases i with
    | zero => simp [flatS]
    | succ i =>
      have := ih i (by simpa using h)
      simp only [flatS, List.flatMap_cons, List.getElem_cons_succ] at this ⊢
      refine ⟨?_, ?_⟩
      · rw [List.getElem?_append_right (by simp; omega)]
        simp only [List.length_cons, List.length_nil]
        rw [show (i + 1) * 2 - (0 + 1 + 1) = i * 2 by omega]; exact this.1
      · rw [List.getElem?_append_right (by simp; omega)]
        simp only [List.length_cons, List.length_nil]
        rw [show (i + 1) * 2 + 1 - (0 + 1 + 1) = i * 2 + 1 by omega]; exact this.2
/-- THE SLICE AT a HOLDS THE STEPS OF THE LEGS l, in a block from A on, below B. -/
def StepsAt (A B : Nat) (W : World) (a : Option Addr) (es : List E) (l : List Leg) : Prop :=
  ∃ b off, (l.length = 0 ∨ a = some ⟨b, off, none⟩) ∧ ∀ i (h : i < l.length), A ≤ b ∧ b < B ∧ W.cell? ⟨b, off + i * 2, none⟩ = some (.int .i64 (l[i].1 : Int)) ∧ W.cell? ⟨b, off + i * 2 + 1, none⟩ = some (.int .i64 (fromL es l[i]))
theorem StepsAt.below {A B : Nat} {W W' : World} {a : Option Addr} {es : List E} {l : List Leg} (h : StepsAt A B W a es l) (hb : Below B W W') : StepsAt A B W' a es l := by
  obtain ⟨b, off, h0, h1⟩ := h
  refine ⟨b, off, h0, fun i hi => ?_⟩
  obtain ⟨hA, hl, c0, c1⟩ := h1 i hi
  exact ⟨hA, hl, (hb.cell (p := ⟨b, off + i * 2, none⟩) hl).trans c0, (hb.cell (p := ⟨b, off + i * 2 + 1, none⟩) hl).trans c1⟩
theorem StepsAt.more {A B B' : Nat} {W : World} {a : Option Addr} {es : List E} {l : List Leg} (h : StepsAt A B W a es l) (hb : B ≤ B') : StepsAt A B' W a es l := by
  obtain ⟨b, off, h0, h1⟩ := h
  exact ⟨b, off, h0, fun i hi => ⟨(h1 i hi).1, Nat.lt_of_lt_of_le (h1 i hi).2.1 hb, (h1 i hi).2.2⟩⟩
theorem steps_own {W : World} {base A : Nat} {a : Option Addr} {len cap : Nat} {es : List E} {l : List Leg} (h : W.ownsRow base 63 2 (.slice a len cap) l.length (flatS es l)) (hA : A ≤ base) : StepsAt A W.heap.size W a es l := by
  rcases h.2 with ⟨h1, h2⟩ | ⟨g, cap', cur, hv, hb, hg, hle, hm, hs, ht⟩
  · injection h1 with e1 e2 e3
    subst e1 e2
    exact ⟨0, 0, .inl h2, fun i hi => by omega⟩
  · injection hv with e1 e2 e3
    subst e1 e2
    refine ⟨g, 0, .inr rfl, fun i hi => ?_⟩
    have hlt : g < W.heap.size := (Array.getElem?_eq_some_iff.1 hg).1
    have hat : ∀ j, j < l.length * 2 → W.cell? ⟨g, j, none⟩ = (flatS es l)[j]? := fun j hj => by
      rw [cell_of_row W g j cur 63 (0, 0) hg, ← ht, List.getElem?_take_of_lt hj, Array.getElem?_toList]
    obtain ⟨f0, f1⟩ := flatS_at es l i hi
    refine ⟨by omega, hlt, ?_, ?_⟩
    · rw [Nat.zero_add, hat _ (by omega), f0]
    · rw [Nat.zero_add, hat _ (by omega), f1]
theorem infoStep : (Try.prog.info? 63).map (fun i => (i.zero, i.size, i.bytes)) = some (some (.agg #[.int .i64 0, .int .i64 0]), 2, 16) := by kernel_rfl
theorem cells_two (w : World) (x y : Value) (t : TypeId) : ∀ j u, [x, y][j]? = some u → (w.alloc (.cells #[x, y] t)).cell? ((⟨w.heap.size, 0, none⟩ : Addr).add j) = some u := by
  intro j u hj
  have h : (w.alloc (.cells #[x, y] t)).heap[w.heap.size]? = some (.cells #[x, y] t (0, 0)) := World.alloc_heap_new w _
  have hadd : (⟨w.heap.size, 0, none⟩ : Addr).add j = ⟨w.heap.size, j, none⟩ := by unfold Addr.add; split <;> simp_all
  rw [hadd, cell_of_row _ _ _ _ _ _ h]
  simpa using hj
/-- What nextPath answers. -/
def pathF (n : Nat) (es : List E) (fl : List Int) (s t : Int) : List Leg := if has (bfs n es fl s).seen t then next n es fl s t else []
def PathPost (es : List E) (l : List Leg) (w : World) (e : Ending) (w' : World) : Prop :=
  ∃ a c, e = .returned (.slice a l.length c) ∧ StepsAt w.heap.size w'.heap.size w' a es l ∧ Below w.heap.size w w'

set_option maxRecDepth 100000 in
set_option maxHeartbeats 4000000 in
theorem nextPath_any (n : Nat) (a : Option Addr) (len cap : Nat) (es : List E) (fa : Option Addr) (flen fcap : Nat) (fl : List Int) (s t : Int) (w : World) (hE : NetAt w.heap.size w a len es) (hF : FlowAt w.heap.size w fa flen fl) (hft : fits n es fl = true) (s0 : 0 ≤ s) (s1 : s < n) (t0 : 0 ≤ t) (t1 : t < n) :
    Calls Try.prog 26 #[netV n a len cap, .slice fa flen fcap, .int .i64 s, .int .i64 t] w (PathPost es (pathF n es fl s t) w) := by
  obtain ⟨hr, hl, hfit⟩ := fits_iff.1 hft
  have hri := right_iff.1 hr
  have hn64 : n ≤ 64 := by omega
  have hlen : len ≤ 256 := by have := hri.2.2.1; rw [hE.1] at this; omega
  have HlE := Lib.hid hE.1
  have HE := Lib.hid hE
  have HF := Lib.hid hF
  have HFT := Lib.hid hft
  obtain ⟨S, hS⟩ : ∃ S, bfs n es fl s = S := ⟨_, rfl⟩
  have HI : Hid (Inv n es fl s S) := Lib.hid (by rw [← hS]; exact (bfs_is hri.2.2.2 s0 s1 n (fl := fl)).inv)
  have HES : Hid (∀ e ∈ es, okE n e = true) := Lib.hid hri.2.2.2
  have HS := Lib.hid hS
  obtain ⟨b0, hb0⟩ : ∃ b, has S.seen t = b := ⟨_, rfl⟩
  have HB0 := Lib.hid hb0
  have hsh := HI.out.short
  obtain ⟨i0, hi0, hx0, hx1, hx2⟩ := info_parts infoStep
  clear hri hE hF hl hr hft hfit hS hb0
  obtain ⟨W0, hW0⟩ : ∃ W0, w.alloc (.cells #[.int .i64 (n : Int), .slice a len cap] 24) = W0 := ⟨_, rfl⟩
  have hB0 : Below w.heap.size w W0 := by rw [← hW0]; exact (Below.refl _ w).alloc (Nat.le_refl _) _
  have bN : Blk W0 w.heap.size 24 #[.int .i64 (n : Int), .slice a len cap] := by rw [← hW0]; exact Blk.new w _ _
  have HW0 := Lib.hid hW0
  have hz0 := hB0.size
  clear hW0
  rcases b0 with _ | _
  · have HPF : Hid (pathF n es fl s t = []) := Lib.hid (by unfold pathF; rw [HS.out, HB0.out]; simp)
    go_enter Try.func26, Try.ntmps26
    go_wp2_with (go_at_call 39; rw [HW0.out]; (with_reducible refine (search_any n _ _ _ es _ _ _ fl s _ ((HE.out.below hB0).more hz0) ((HF.out.below hB0).more hz0) HFT.out s0 s1).mono ?_); rw [HS.out]; rintro e w1 ⟨g, rfl, bM, hg, hb1⟩
                 obtain ⟨c, hlk⟩ := bM.look_ok t0 t1 hn64
                 rw [HB0.out] at hlk)
    go_ret
    rw [HPF.out]
    exact ⟨none, 0, rfl, ⟨0, 0, .inl rfl, fun i hi => by simp at hi⟩, hB0.trans (hb1.mono hz0)⟩
  · have HPF : Hid (pathF n es fl s t = along es S.by_ s 64 t) := Lib.hid (by unfold pathF Gm.next; rw [HS.out, HB0.out]; simp)
    obtain ⟨p0, hp0, hp0e⟩ := List.getElem_of_mem ((HI.out.td t).2 ⟨t0, t1, HB0.out⟩)
    have hpt : S.todo[p0]? = some t := (List.getElem?_eq_getElem hp0).trans (congrArg some hp0e)
    have hp63 : p0 ≤ 63 := by omega
    have HPT := Lib.hid hpt
    clear hpt hp0e hp0
    go_enter Try.func26, Try.ntmps26
    go_wp2_with (go_at_call 39; rw [HW0.out]; (with_reducible refine (search_any n _ _ _ es _ _ _ fl s _ ((HE.out.below hB0).more hz0) ((HF.out.below hB0).more hz0) HFT.out s0 s1).mono ?_); rw [HS.out]; rintro e w1 ⟨g, rfl, bM, hg, hb1⟩
                 obtain ⟨c, hlk⟩ := bM.look_ok t0 t1 hn64
                 rw [HB0.out] at hlk)
    have bN1 := bN.below hb1 bN.lt
    have hB1 := hB0.trans (hb1.mono hz0)
    have hz1 := hB1.size
    have lM1 := bM.lt
    have lN1 := bN1.lt
    clear hb1 hlk
    go_loopw [12, 13] (fun pv vv wr => ∃ (k p : Nat) (v : Int) (d : List Leg), vv = .int .i64 v ∧ Hid (S.todo[p]? = some v ∧ along es S.by_ s 64 t = d ++ along es S.by_ s (64 - k) v) ∧ p + k ≤ 63 ∧ d.length = k ∧ wr.ownsRow w1.heap.size 63 2 pv d.length (flatS es d) ∧ Below w1.heap.size w1 wr) (fun pv _ _ => 64 - (match pv with | .slice _ l _ => l | _ => 0))
    case atStart => exact ⟨0, p0, t, [], rfl, Lib.hid ⟨HPT.out, by simp⟩, by omega, rfl, ⟨rfl, .inl ⟨rfl, rfl⟩⟩, Below.refl _ _⟩
    case round =>
      obtain ⟨k, p, v, d, rfl, hin, hpk, hdk, hown, hB⟩ := hrel
      obtain ⟨w2, rfl⟩ : ∃ w', w' = wr := ⟨_, rfl⟩
      have hv0 := (HI.out.td v).1 (List.mem_of_getElem? hin.out.1)
      have hv1 := hv0.1
      have hv2 := hv0.2.1
      have hv3 := hv0.2.2
      have HD := Lib.hid hdk
      obtain ⟨pa, pc, rfl⟩ := own_form hown
      have bN2 := bN1.below hB lN1
      have bM2 := bM.below hB lM1
      have hBs := hB.size
      clear hv0 hdk
      by_cases hvs : v = s
      · have t1 : (v == s) = true := by simp [hvs]
        have t2 : (v != s) = false := by simp [hvs]
        have HL : Hid (along es S.by_ s 64 t = d) := Lib.hid (by rw [hin.out.2, hvs, along_end]; simp)
        have hd63 : d.length ≤ 63 := by have := HD.out; omega
        clear hvs
        go_wp2
        go_ret
        rw [HPF.out, HL.out]
        exact ⟨pa, pc, rfl, steps_own hown hz1, hB1.trans (hB.mono hz1)⟩
      · have t1 : (v == s) = false := by simp [hvs]
        have t2 : (v != s) = true := by simp [hvs]
        have hpre := HI.out.pre p v hin.out.1
        have hp : p ≠ 0 := fun e => by
          subst e
          have := hin.out.1.symm.trans HI.out.head
          exact hvs (Option.some.inj this)
        rcases hpre with h | ⟨i, hil, hby, p', u, hp', hpu, hne, hhop⟩
        · exact absurd h hp
        have hst := along_step (es := es) (k := 64 - (k + 1)) hvs hby
        have hfuel : 64 - k = 64 - (k + 1) + 1 := by omega
        have hhn : hop (ed es i) (Gm.fa fl i) u ≠ u := by rw [hhop]; exact fun e => hne e.symm
        have hnx : (if (ed es i).2.1 = v then (ed es i).1 else (ed es i).2.1) = u := by
          rcases hop_ne hhn with ⟨a1, _, c1⟩ | ⟨a1, _, c1⟩
          · rw [if_pos (by rw [← c1, hhop]), a1]
          · rw [if_neg (by rw [a1]; exact hne), a1]
        have hoth : otherF (ed es i) v = u := by
          have hok := (okE_iff.1 (HES.out _ (ed_mem hil))).2.2.2.2.1
          unfold otherF
          rcases hop_ne hhn with ⟨a1, _, c1⟩ | ⟨a1, _, c1⟩
          · rw [if_neg (by rw [a1]; exact fun e => hne e.symm), a1]
          · rw [if_pos (by rw [← c1, hhop]), a1]
        have hfl : fromL es (i, (ed es i).2.1 == v) = u := by
          unfold fromL
          rw [← hnx]
          by_cases e : (ed es i).2.1 = v
          · simp [e]
          · have : ((ed es i).2.1 == v) = false := by simpa using e
            simp [this, e]
        have HIN : Hid (along es S.by_ s 64 t = (d ++ [(i, (ed es i).2.1 == v)]) ++ along es S.by_ s (64 - (k + 1)) u) := Lib.hid (by
          rw [hin.out.2, hfuel, hst, hnx]; simp)
        have HPU := Lib.hid hpu
        have hlk := bM2.look hv1 hv2 hn64 hv3
        rw [show S.by_[v.toNat]?.getD 0 = (i : Int) by rw [hby]; rfl] at hlk
        obtain ⟨b, off, ha, hc⟩ := (HE.out.below (hB1.trans (hB.mono hz1))).2.2
        obtain ⟨hb, c0, c1, c2⟩ := hc i hil
        obtain rfl : a = some ⟨b, off, none⟩ := by
          rcases ha with h | h
          · omega
          · exact h
        have hed : ed es i = es[i] := by unfold ed; rw [List.getElem?_eq_getElem hil]; rfl
        rw [← hed] at c0 c1 c2
        obtain ⟨x, hx⟩ : ∃ x, ed es i = x := ⟨_, rfl⟩
        have HX := Lib.hid hx
        rw [hx] at c0 c1 c2 hoth hfl HIN
        have HOT := Lib.hid hoth
        have HFL := Lib.hid hfl
        have hilen : i < len := by rw [← HlE.out]; exact hil
        have hii : (i : Int) < (len : Int) := by omega
        have hb2 : b < w2.heap.size := by omega
        have hd64 : d.length ≤ 63 := by have := HD.out; omega
        obtain ⟨lN2, n20, n21⟩ := bN2.two
        clear ha hc hed hx hst hfuel hhn hhop hby hpu hvs hil hnx hoth hfl bM2
        go_wp2_with (first
          | (go_at_call 40; (with_reducible refine (other_any x v _).mono ?_); rw [HOT.out]; rintro e w3 ⟨rfl, hb3⟩
             have hown3 := own_below hown hb3
             have hB3 := hB.trans (hb3.mono hBs)
             have hz3 := hB3.size
             clear hb3)
          | (at_builtin
             refine wpList_append_own _ rfl _ _ 48 rfl w1.heap.size 63 i0 _ 2 16 Try.underlying48 hi0 hx0 hx1 hx2 rfl (by decide) _ d.length (flatS es d) rfl (hown3.alloc _) ⟨w3.heap.size, 0, none⟩ 1 1 [.int .i64 (i : Int), .int .i64 u] rfl rfl (cells_two _ _ _ _) (by simp [Value.oneCell']) (by simp [maxLen]; omega) (by omega) (by simp; omega) ?_
             intro v' w4 hown' hgrow hnil))
        obtain ⟨g', cap', rfl⟩ := ownsRow_succ hown'
        go_roundw
        case rel =>
          refine ⟨k + 1, p', u, d ++ [(i, x.2.1 == v)], rfl, Lib.hid ⟨HPU.out, HIN.out⟩, by omega, by simp; exact HD.out, ?_, (hB3.alloc hz3 _).grown hgrow (by simp; omega) (fun j e => by have := (hown3.lt j e).1; omega)⟩
          rw [flatS_snoc, HFL.out, List.length_append]
          exact hown'
        case measure => show 64 - (d.length + 1) < 64 - d.length; omega
end Go.Proofs.Ytcbfgdiddhhhcaa
