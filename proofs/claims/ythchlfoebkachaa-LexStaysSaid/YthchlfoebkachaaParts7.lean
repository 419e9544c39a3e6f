/-
  The program's own check of a path, walked.
  The program's own check of the order, walked.
  The program's own check of all paths, by a method value, walked.
  slices.Clone of edges, walked; a store into a row of edges.
  The program's network in which nothing can leave s, walked.
  The program's own check of a network with its two ends, walked.
-/
import Derived.Deep.DeepCutAuto
import Derived.Test.YthchlfoebkachaaOwn
import Derived.Test.YthchlfoebkachaaFit
import Derived.Test.YthchlfoebkachaaFlow
import Derived.Test.YthchlfoebkachaaNumbers7
import Derived.Test.YthchlfoebkachaaQisway
import Derived.Test.YthchlfoebkachaaWaysm
import Derived.Test.YthchlfoebkachaaMix
import Derived.Deep.AppendLies
import Derived.Lib.SliceRun
import Derived.Test.YthchlfoebkachaaPlus
import Derived.Test.YthchlfoebkachaaQopen
import Derived.Test.YthchlfoebkachaaOrder
import Derived.Test.YthchlfoebkachaaCalm
import Derived.Test.YthchlfoebkachaaChecks
import Derived.Test.YthchlfoebkachaaShare
import Derived.Test.YthchlfoebkachaaQmax
namespace Go.Proofs.Ythchlfoebkachaa
open Go.RowKit Gm

theorem isEdge_any (v : Int) (a : Option Addr) (len cap : Nat) (i : Int) (r : Bool) (w : World) (hr : (decide (0 ≤ i) && decide (i < (len : Int))) = r) :
    Calls Try.prog 34 #[netV v a len cap, .int .i64 i] w fun e w' => e = .returned (.bool r) ∧ Below w.heap.size w w' := by
  have hB : Below w.heap.size w (w.alloc (.cells #[.int .i64 v, .slice a len cap] 24)) := (Below.refl _ w).alloc (Nat.le_refl _) _
  have HB := Lib.hid hB
  have HR := Lib.hid hr
  clear hB hr
  by_cases h : 0 ≤ i
  · have HR2 : Hid (decide (i < (len : Int)) = r) := Lib.hid (by rw [← HR.out, decide_eq_true h]; rfl)
    go_enter Try.func34, Try.ntmps34
    go_wp2
    go_ret
    exact ⟨ret_bool HR2.out, HB.out⟩
  · have HR2 : Hid (false = r) := Lib.hid (by rw [← HR.out, decide_eq_false h]; rfl)
    have h' : i < 0 := by omega
    go_enter Try.func34, Try.ntmps34
    go_wp2
    go_ret
    exact ⟨ret_bool HR2.out, HB.out⟩

abbrev routeV (n : Int) (a : Option Addr) (len cap : Nat) (src t : Int) : Value := .agg #[.int .i64 n, .slice a len cap, .int .i64 src, .int .i64 t]
def PathAt (SB : Nat) (n : Nat) (es : List E) (s t : Int) (W : List Int) (k : Nat) (uv : Value) (wr : World) : Prop :=
  ∃ (u : Int) (seen : List Bool), uv = .int .i64 u ∧ 0 ≤ u ∧ u < n ∧ seen.length = n ∧ Hid (walkW es t W s (Gm.start (n : Int) s) = walkW es t (W.drop k) u seen) ∧ Blk wr SB 4 (boolsA seen)

theorem four {W : World} {g : Nat} {t : TypeId} {a b c d : Value} (h : Blk W g t #[a, b, c, d]) : g < W.heap.size ∧ W.cell? ⟨g, 0, none⟩ = some a ∧ W.cell? ⟨g, 1, none⟩ = some b ∧ W.cell? ⟨g, 2, none⟩ = some c ∧ W.cell? ⟨g, 3, none⟩ = some d := ⟨h.lt, by rw [h.cell]; rfl, by rw [h.cell]; rfl, by rw [h.cell]; rfl, by rw [h.cell]; rfl⟩

set_option maxRecDepth 100000 in
set_option maxHeartbeats 4000000 in
theorem isPath_any (n : Nat) (a : Option Addr) (len cap : Nat) (es : List E) (s t src : Int) (ea : Option Addr) (el ec : Nat) (W : List Int) (c : Int) (w : World) (hE : NetAt w.heap.size w a len es) (hW : FlowAt w.heap.size w ea el W) (hr : right n es = true) (s0 : 0 ≤ s) (s1 : s < n) (hsrc : isSrc es s src = true) :
    Calls Try.prog 35 #[routeV n a len cap src t, wayV ea el ec c] w fun e w' => e = .returned (.bool (isWayF n es s t src (W, c))) ∧ Below w.heap.size w w' := by
  have hri := right_iff.1 hr
  have hn64 : n ≤ 64 := by omega
  have HlE := Lib.hid hE.1
  have HlW := Lib.hid hW.1
  have hlen : len ≤ 256 := by have := hri.2.2.1; rw [hE.1] at this; omega
  have HOK : Hid (∀ e ∈ es, okE n e = true) := Lib.hid hri.2.2.2
  have HE := Lib.hid hE
  have HW := Lib.hid hW
  have hwl := hW.2.1
  have hmb := make_bools n (by omega)
  have hF : isWayF n es s t src (W, c) = (!decide (c < 0) && !decide (1000 < c) && !decide (el = 0) && decide (W[0]?.getD 0 = src) && walkW es t W s (Gm.start (n : Int) s)) := by
    rw [← isPath_way hr s0 s1]; unfold isPathF; rw [hW.1]
  have HF := Lib.hid hF
  have HS := Lib.hid (isSrc_iff.1 hsrc)
  clear hri hE hW hr hF hsrc
  have hb1 : ∀ cs ds k, Below w.heap.size w (((w.alloc (.cells cs 64)).alloc (.cells ds 44)).drewN k) := fun cs ds k => below_drewN (((Below.refl _ w).alloc (Nat.le_refl _) _).alloc (by simp) _) k
  have HB1 := Lib.hid hb1
  clear hb1
  by_cases h1 : c < 0
  · have HR : Hid (isWayF n es s t src (W, c) = false) := Lib.hid (by rw [HF.out]; simp [h1])
    clear s0 s1
    go_enter Try.func35, Try.ntmps35
    go_wp2_with fail
    go_quiet (fail)
    go_wp2
    go_ret
    exact ⟨ret_bool HR.out.symm, HB1.out _ _ _⟩
  by_cases h2 : 1000 < c
  · have HR : Hid (isWayF n es s t src (W, c) = false) := Lib.hid (by rw [HF.out]; simp [h2])
    have d1 : decide (c < 0) = false := by simp [h1]
    have d2 : decide (1000 < c) = true := by simp [h2]
    clear s0 s1 h1 h2
    go_enter Try.func35, Try.ntmps35
    go_wp2_with fail
    go_quiet (fail)
    go_wp2
    go_ret
    exact ⟨ret_bool HR.out.symm, HB1.out _ _ _⟩
  by_cases h3 : el = 0
  · have HR : Hid (isWayF n es s t src (W, c) = false) := Lib.hid (by rw [HF.out]; simp [h3])
    have e3 : ((el : Int) == 0) = true := by simp [h3]
    have d1 : decide (c < 0) = false := by simp [h1]
    have d2 : decide (1000 < c) = false := by simp [h2]
    clear s0 s1 h1 h2 h3
    go_enter Try.func35, Try.ntmps35
    go_wp2_with fail
    go_quiet (fail)
    go_wp2
    go_ret
    exact ⟨ret_bool HR.out.symm, HB1.out _ _ _⟩
  have e3 : ((el : Int) == 0) = false := by simp [h3]
  obtain ⟨eb, eo, hea, hec⟩ := HW.out.2.2.int
  obtain ⟨heb, e0⟩ := hec 0 (by rw [HlW.out]; omega)
  obtain rfl : ea = some ⟨eb, eo, none⟩ := by
    rcases hea with h | h
    · rw [HlW.out] at h; omega
    · exact h
  obtain ⟨x0, hx0⟩ : ∃ x, W[0]?.getD 0 = x := ⟨_, rfl⟩
  rw [hx0] at e0
  have HX0 := Lib.hid hx0
  have hw0 : w.cell? ⟨eb, eo, none⟩ = some (.int .i64 x0) := by simpa using e0
  have he0 : 0 < el := by omega
  clear hea hec hx0 e0 h3
  have d1 : decide (c < 0) = false := by simp [h1]
  have d2 : decide (1000 < c) = false := by simp [h2]
  by_cases h4 : x0 = src
  · have HF2 : Hid (isWayF n es s t src (W, c) = walkW es t W s (Gm.start (n : Int) s)) := Lib.hid (by
      rw [HF.out, HX0.out]; simp [h1, h2, h4, show ¬ el = 0 by omega])
    have t1 : (x0 != src) = false := by simp [h4]
    have q0 := HS.out.1
    have q1 := HS.out.2.1
    have hsl0 : src.toNat < es.length := by omega
    have q1' : src < (len : Int) := by rw [← HlE.out]; exact q1
    obtain ⟨b, off, ha, hc⟩ := HE.out.2.2
    obtain ⟨hb, c0, c01, c02⟩ := hc src.toNat hsl0
    obtain rfl : a = some ⟨b, off, none⟩ := by
      rcases ha with h | h
      · omega
      · exact h
    have hed : ed es src.toNat = es[src.toNat] := by unfold ed; rw [List.getElem?_eq_getElem hsl0]; rfl
    rw [← hed, HS.out.2.2] at c0
    clear h4 ha hc hed q1 h1 h2 c01 c02 hsl0
    go_enter Try.func35, Try.ntmps35
    go_wp2_with fail
    go_quiet (fail)
    obtain ⟨W0, hW0⟩ : ∃ W, ((w.alloc (.cells #[.int .i64 (n : Int), .slice (some ⟨b, off, none⟩) len cap, .int .i64 src, .int .i64 t] 64)).alloc (.cells #[.slice (some ⟨eb, eo, none⟩) el ec, .int .i64 c] 44)).drewN nq = W := ⟨_, rfl⟩
    rw [hW0]
    have hB0 : Below w.heap.size w W0 := by rw [← hW0]; exact HB1.out _ _ _
    have bR0 : Blk W0 w.heap.size 64 #[.int .i64 (n : Int), .slice (some ⟨b, off, none⟩) len cap, .int .i64 src, .int .i64 t] := by
      rw [← hW0]; exact (((Blk.new w _ _).alloc _).drewN _)
    have bW0 : Blk W0 (w.heap.size + 1) 44 #[.slice (some ⟨eb, eo, none⟩) el ec, .int .i64 c] := by
      rw [← hW0]
      have h := Blk.new (w.alloc (.cells #[.int .i64 (n : Int), .slice (some ⟨b, off, none⟩) len cap, .int .i64 src, .int .i64 t] 64)) 44 #[.slice (some ⟨eb, eo, none⟩) el ec, .int .i64 c]
      simp only [World.size_alloc] at h; exact h.drewN _
    have hz0 : W0.heap.size = w.heap.size + 1 + 1 := by rw [← hW0]; simp
    have HZ0 := Lib.hid hz0
    obtain ⟨r0, r1, r2, r3, r4⟩ := four bR0
    obtain ⟨v0, v1, v2⟩ := bW0.two
    have c0' : W0.cell? ⟨b, off + src.toNat * 3, none⟩ = some (.int .i64 s) := (hB0.cell (p := ⟨b, off + src.toNat * 3, none⟩) hb).trans c0
    have hb0 : b < W0.heap.size := by omega
    clear hz0 hW0 c0
    go_wp2
    clear t1 e3 d1 d2 hw0 v0 r0 r1 r3 r2 hmb
    go_loopw [50, 5] (fun kv uv wr => ∃ k : Nat, k ≤ el ∧ kv = .int .i64 k ∧ PathAt W0.heap.size n es s t W k uv wr ∧ Below W0.heap.size W0 wr) (fun kv _ _ => el - (intOf kv).toNat)
    case atStart =>
      refine ⟨0, Nat.zero_le _, rfl, ⟨s, Gm.start (n : Int) s, rfl, s0, s1, by simp [Gm.start], Lib.hid (by simp), ?_⟩, (Below.refl _ W0).alloc (Nat.le_refl _) _⟩
      have h := Blk.new W0 4 ((Array.replicate n (.bool false)).setIfInBounds s.toNat (.bool true))
      rw [← boolsA_rep, boolsA_set] at h
      have e : (List.replicate n false).set s.toNat true = Gm.start (n : Int) s := by simp [Gm.start]
      rw [e] at h
      rw [← boolsA_rep, boolsA_set, e]
      exact h
    case round =>
      clear c0' v1 v2 r4
      obtain ⟨k, hk, rfl, ⟨u, seen, rfl, u0, u1, hsl, hin, bS⟩, hb0'⟩ := hrel
      obtain ⟨w1, rfl⟩ : ∃ w', w' = wr := ⟨_, rfl⟩
      have bR := bR0.below hb0' bR0.lt
      have hB := hB0.trans (hb0'.mono hB0.size)
      obtain ⟨lR, r0, r1, r2, r3⟩ := four bR
      have hz1 := hb0'.size
      have HSL := Lib.hid hsl
      by_cases hlt : k < el
      · have hkW : k < W.length := by rw [HlW.out]; exact hlt
        obtain ⟨eb', eo', hea', hec'⟩ := (HW.out.below hB).2.2.int
        obtain ⟨heb', ek⟩ := hec' k hkW
        obtain ⟨rfl, rfl⟩ : eb = eb' ∧ eo = eo' := by
          rcases hea' with h | h
          · omega
          · injection h with h; injection h with h1 h2; exact ⟨h1, h2⟩
        have hdr : W.drop k = (W[k]?.getD 0) :: W.drop (k + 1) := by
          rw [List.drop_eq_getElem_cons hkW, List.getElem?_eq_getElem hkW]; rfl
        obtain ⟨i, hi⟩ : ∃ i, W[k]?.getD 0 = i := ⟨_, rfl⟩
        rw [hi] at ek hdr
        have hst := hin.out
        rw [hdr] at hst
        simp only [walkW] at hst
        have hkk : (k : Int) < (el : Int) := by omega
        have heb1 : eb < w1.heap.size := by omega
        clear hea' hec' hi hdr hkW hin hsl
        by_cases q : 0 ≤ i ∧ i < (len : Int)
        · obtain ⟨q1, q2⟩ := q
          have HQ : Hid ((decide (0 ≤ i) && decide (i < (len : Int))) = true) := Lib.hid (by simp [q1, q2])
          obtain ⟨x, hx⟩ : ∃ x, ed es i.toNat = x := ⟨_, rfl⟩
          rw [hx] at hst
          obtain ⟨m, rfl⟩ : ∃ m : Nat, i = m := ⟨i.toNat, by omega⟩
          rw [Int.toNat_natCast] at hx
          have hml : m < es.length := by rw [HlE.out]; omega
          have hmlen : m < len := by omega
          obtain ⟨b', off', ha, hc⟩ := (HE.out.below hB).2.2
          obtain ⟨hb', c0, c1, c2⟩ := hc m hml
          obtain ⟨rfl, rfl⟩ : b = b' ∧ off = off' := by
            rcases ha with h | h
            · omega
            · injection h with h; injection h with h1 h2; exact ⟨h1, h2⟩
          have hed : ed es m = es[m] := by unfold ed; rw [List.getElem?_eq_getElem hml]; rfl
          have ho := okE_iff.1 (HOK.out _ (ed_mem hml))
          rw [← hed] at c0 c1
          rw [hx] at c0 c1 ho
          have cs := bS.cell x.2.1.toNat
          rw [boolsA_at _ _ (by rw [HSL.out]; omega)] at cs
          obtain ⟨z, hz⟩ : ∃ z, seen[x.2.1.toNat]?.getD false = z := ⟨_, rfl⟩
          rw [hz] at cs
          have hz' : has seen x.2.1 = z := hz
          have lS := bS.lt
          rw [decide_eq_true (show (0 : Int) ≤ (m : Int) by omega), decide_eq_true (show (m : Int) < (es.length : Int) by omega), hz'] at hst
          have y0 := ho.2.2.1
          have y1 := ho.2.2.2.1
          have HST := Lib.hid hst
          have HC0 := Lib.hid c0
          have HC1 := Lib.hid c1
          have HCS := Lib.hid cs
          have hb1 : b < w1.heap.size := by omega
          clear ha hc hx hed ho hz hz' c2 hst c0 c1 cs
          clear hml
          by_cases q3 : x.1 = u
          · have t2 : (x.1 != u) = false := by simp [q3]
            have HQ3 := Lib.hid q3
            clear q3
            rcases z with _ | _
            · have HNX : Hid (walkW es t W s (Gm.start (n : Int) s) = walkW es t (W.drop (k + 1)) x.2.1 (seen.set x.2.1.toNat true)) := Lib.hid (by
                rw [HST.out, HQ3.out]; simp)
              go_wp2_with (go_at_call 34; (with_reducible refine (isEdge_any _ _ _ _ _ true _ HQ.out).mono ?_); rintro e w2 ⟨rfl, hb2⟩
                           have bR2 := bR.below hb2 bR.lt
                           have bS2 := bS.below hb2 bS.lt
                           obtain ⟨m0, m1, m2, m3, m4⟩ := four bR2
                           have hz2 := hb2.size
                           have d0 : w2.cell? ⟨b, off + m * 3, none⟩ = some (.int .i64 x.1) := (hb2.cell (p := ⟨b, off + m * 3, none⟩) hb1).trans HC0.out
                           have d1 : w2.cell? ⟨b, off + m * 3 + 1, none⟩ = some (.int .i64 x.2.1) := (hb2.cell (p := ⟨b, off + m * 3 + 1, none⟩) hb1).trans HC1.out
                           have d2 : w2.cell? ⟨W0.heap.size, x.2.1.toNat, none⟩ = some (.bool false) := (hb2.cell (p := ⟨W0.heap.size, x.2.1.toNat, none⟩) lS).trans HCS.out
                           have d3 := bS2.frozen x.2.1.toNat
                           have hb3 : b < w2.heap.size := by omega
                           have lS2 := bS2.lt)
              go_roundw
              case rel =>
                refine ⟨k + 1, by omega, by go_num, ⟨x.2.1, seen.set x.2.1.toNat true, rfl, y0, y1, by simp [HSL.out], HNX, by rw [← boolsA_set]; exact bS2.set _ _⟩, (hb0'.trans (hb2.mono hz1)).setCell (p := ⟨W0.heap.size, x.2.1.toNat, none⟩) (by simp) _⟩
              case measure => simp [intOf]; omega
            · have HR : Hid (isWayF n es s t src (W, c) = false) := Lib.hid (by
                rw [HF2.out, HST.out]; simp)
              go_wp2_with (go_at_call 34; (with_reducible refine (isEdge_any _ _ _ _ _ true _ HQ.out).mono ?_); rintro e w2 ⟨rfl, hb2⟩
                           have bR2 := bR.below hb2 bR.lt
                           have bS2 := bS.below hb2 bS.lt
                           obtain ⟨m0, m1, m2, m3, m4⟩ := four bR2
                           have hz2 := hb2.size
                           have d0 : w2.cell? ⟨b, off + m * 3, none⟩ = some (.int .i64 x.1) := (hb2.cell (p := ⟨b, off + m * 3, none⟩) hb1).trans HC0.out
                           have d1 : w2.cell? ⟨b, off + m * 3 + 1, none⟩ = some (.int .i64 x.2.1) := (hb2.cell (p := ⟨b, off + m * 3 + 1, none⟩) hb1).trans HC1.out
                           have d2 : w2.cell? ⟨W0.heap.size, x.2.1.toNat, none⟩ = some (.bool true) := (hb2.cell (p := ⟨W0.heap.size, x.2.1.toNat, none⟩) lS).trans HCS.out
                           have hb3 : b < w2.heap.size := by omega
                           have lS2 := bS2.lt)
              go_ret
              exact ⟨ret_bool HR.out.symm, hB.trans (hb2.mono hB.size)⟩
          · have t2 : (x.1 != u) = true := by simp [q3]
            have HR : Hid (isWayF n es s t src (W, c) = false) := Lib.hid (by
              rw [HF2.out, HST.out, decide_eq_false q3]; simp)
            clear q3
            go_wp2_with (go_at_call 34; (with_reducible refine (isEdge_any _ _ _ _ _ true _ HQ.out).mono ?_); rintro e w2 ⟨rfl, hb2⟩
                         have bR2 := bR.below hb2 bR.lt
                         obtain ⟨m0, m1, m2, m3, m4⟩ := four bR2
                         have hz2 := hb2.size
                         have d0 : w2.cell? ⟨b, off + m * 3, none⟩ = some (.int .i64 x.1) := (hb2.cell (p := ⟨b, off + m * 3, none⟩) hb1).trans HC0.out
                         have hb3 : b < w2.heap.size := by omega)
            go_ret
            exact ⟨ret_bool HR.out.symm, hB.trans (hb2.mono hB.size)⟩
        · have HQ : Hid ((decide (0 ≤ i) && decide (i < (len : Int))) = false) := Lib.hid (by
            rw [Bool.and_eq_false_iff]
            by_cases h : 0 ≤ i
            · right; rw [decide_eq_false_iff_not]; exact fun h2 => q ⟨h, h2⟩
            · left; simp [h])
          have HR : Hid (isWayF n es s t src (W, c) = false) := Lib.hid (by
            have e : (decide (0 ≤ i) && decide (i < (es.length : Int))) = false := by rw [HlE.out]; exact HQ.out
            rw [HF2.out, hst, e]; simp)
          clear q hst
          go_wp2_with (go_at_call 34; (with_reducible refine (isEdge_any _ _ _ _ _ false _ HQ.out).mono ?_); rintro e w2 ⟨rfl, hb2⟩)
          go_ret
          exact ⟨ret_bool HR.out.symm, hB.trans (hb2.mono hB.size)⟩
      · obtain rfl : k = el := by omega
        have HR : Hid (isWayF n es s t src (W, c) = decide (u = t)) := Lib.hid (by
          rw [HF2.out, hin.out, List.drop_eq_nil_of_le (by rw [HlW.out]; exact Nat.le_refl _)]; rfl)
        have e : (u == t) = decide (u = t) := by rw [Bool.eq_iff_iff]; simp
        have HEQ := Lib.hid e
        clear e
        go_wp2
        go_ret
        exact ⟨ret_bool (by rw [HR.out]; exact HEQ.out), hB⟩
  · have HR : Hid (isWayF n es s t src (W, c) = false) := Lib.hid (by rw [HF.out, HX0.out]; simp [h4])
    have t1 : (x0 != src) = true := by simp [h4]
    clear s0 s1 h4 h1 h2
    go_enter Try.func35, Try.ntmps35
    go_wp2_with fail
    go_quiet (fail)
    go_wp2
    go_ret
    exact ⟨ret_bool HR.out.symm, HB1.out _ _ _⟩
end Go.Proofs.Ythchlfoebkachaa

namespace Go.Proofs.Ythchlfoebkachaa
open Go.RowKit Gm

def srcsF (es : List E) (s : Int) (order : List Int) : Bool := order.all (isSrc es s) && decide order.Nodup
theorem srcsF_bad {es : List E} {s : Int} {order : List Int} {k : Nat} (hk : k < order.length) (h : isSrc es s (order[k]?.getD 0) = false) : srcsF es s order = false := by
  rw [List.getElem?_eq_getElem hk] at h
  unfold srcsF
  rw [Bool.and_eq_false_iff]
  left
  rw [Bool.eq_false_iff]
  intro h2
  have := List.all_eq_true.1 h2 _ (List.getElem_mem hk)
  have h' : isSrc es s order[k] = false := h
  rw [h'] at this; cases this
theorem srcsF_twice {es : List E} {s : Int} {order : List Int} {k : Nat} (hk : k < order.length) (h : order[k]?.getD 0 ∈ order.take k) : srcsF es s order = false := by
  rw [List.getElem?_eq_getElem hk] at h
  have h' : order[k] ∈ order.take k := h
  unfold srcsF
  rw [Bool.and_eq_false_iff]
  right
  rw [decide_eq_false_iff_not]
  intro hn
  obtain ⟨m, hm1, hm2⟩ := List.getElem_of_mem h'
  rw [List.length_take] at hm1
  rw [List.getElem_take] at hm2
  have := (List.getElem_inj hn).1 hm2
  omega
structure ListedAt (es : List E) (s : Int) (order : List Int) (k : Nat) (L : List Bool) : Prop where
  len : L.length = es.length
  src : ∀ x ∈ order.take k, isSrc es s x = true
  nodup : (order.take k).Nodup
  marks : ∀ i : Nat, i < es.length → (has L (i : Int) = true ↔ (i : Int) ∈ order.take k)
theorem ListedAt.zero (es : List E) (s : Int) (order : List Int) : ListedAt es s order 0 (List.replicate es.length false) :=
  ⟨by simp, by simp, by simp, fun i hi => by unfold has; simp [hi]⟩
theorem ListedAt.next {es : List E} {s : Int} {order : List Int} {k : Nat} {L : List Bool} (h : ListedAt es s order k L) (hk : k < order.length) {x : Nat} (hx : order[k]?.getD 0 = (x : Int)) (hs : isSrc es s (x : Int) = true) (hn : has L (x : Int) = false) : ListedAt es s order (k + 1) (L.set x true) := by
  have hxl : x < es.length := by have := (isSrc_iff.1 hs).2.1; omega
  have e : order.take (k + 1) = order.take k ++ [(x : Int)] := by
    rw [List.take_succ_eq_append_getElem hk]
    rw [List.getElem?_eq_getElem hk] at hx
    have : order[k] = (x : Int) := hx
    rw [this]
  have hnm : (x : Int) ∉ order.take k := fun hm => by rw [(h.marks x hxl).2 hm] at hn; cases hn
  refine ⟨by simp [h.len], fun y hy => ?_, ?_, fun i hi => ?_⟩
  · rw [e, List.mem_append, List.mem_singleton] at hy
    rcases hy with hy | rfl
    · exact h.src y hy
    · exact hs
  · rw [e]
    refine List.nodup_append.2 ⟨h.nodup, by simp, fun a ha b hb => ?_⟩
    rw [List.mem_singleton.1 hb]
    exact fun e => hnm (e ▸ ha)
  · have := has_set L x (by rw [h.len]; exact hxl) (i : Int) (by omega)
    rw [this, e, List.mem_append, List.mem_singleton, Bool.or_eq_true, decide_eq_true_eq, h.marks i hi]
    exact Or.comm
theorem ListedAt.all {es : List E} {s : Int} {order : List Int} {k : Nat} {L : List Bool} (h : ListedAt es s order k L) (hk : k = order.length) : srcsF es s order = true := by
  have e : order.take k = order := List.take_of_length_le (by omega)
  have h1 := h.src
  have h2 := h.nodup
  rw [e] at h1 h2
  unfold srcsF
  rw [List.all_eq_true.2 h1, decide_eq_true h2]; rfl

set_option maxRecDepth 100000 in
set_option maxHeartbeats 4000000 in
theorem areSources_any (v : Int) (a : Option Addr) (len cap : Nat) (es : List E) (s : Int) (oa : Option Addr) (ol oc : Nat) (order : List Int) (w : World) (hE : NetAt w.heap.size w a len es) (hO : FlowAt w.heap.size w oa ol order) (hlen : len ≤ 256) :
    Calls Try.prog 21 #[netV v a len cap, .int .i64 s, .slice oa ol oc] w fun e w' => e = .returned (.bool (srcsF es s order)) ∧ Below w.heap.size w w' := by
  have HlE := Lib.hid hE.1
  have HlO := Lib.hid hO.1
  have hol := hO.2.1
  have HE := Lib.hid hE
  have HO := Lib.hid hO
  have hmb := make_bools len (by omega)
  clear hE hO
  go_enter Try.func21, Try.ntmps21
  go_wp2
  clear hmb
  go_loopw [16] (fun kv wr => ∃ (k : Nat) (L : List Bool), k ≤ ol ∧ kv = .int .i64 k ∧ Hid (ListedAt es s order k L) ∧ Blk wr w.heap.size 24 #[.int .i64 v, .slice a len cap] ∧ Blk wr (w.heap.size + 1) 4 (boolsA L) ∧ Below w.heap.size w wr) (fun kv _ => ol - (intOf kv).toNat)
  case atStart =>
    refine ⟨0, List.replicate es.length false, Nat.zero_le _, rfl, Lib.hid (ListedAt.zero es s order), (Blk.new w _ _).alloc _, ?_, ((Below.refl _ w).alloc (Nat.le_refl _) _).alloc (by simp) _⟩
    have h := Blk.new (w.alloc (.cells #[.int .i64 v, .slice a len cap] 24)) 4 (Array.replicate len (.bool false))
    rw [← boolsA_rep] at h
    simp only [World.size_alloc] at h
    rw [HlE.out, ← boolsA_rep]
    exact h
  case round =>
    obtain ⟨k, L, hk, rfl, hin, bN, bL, hB⟩ := hrel
    obtain ⟨w1, rfl⟩ : ∃ w', w' = wr := ⟨_, rfl⟩
    obtain ⟨lN, n0, n1⟩ := bN.two
    have hz1 := hB.size
    by_cases hlt : k < ol
    · have hko : k < order.length := by rw [HlO.out]; exact hlt
      obtain ⟨ob, oo, hoa, hoc⟩ := (HO.out.below hB).2.2.int
      obtain ⟨hob, co⟩ := hoc k hko
      obtain rfl : oa = some ⟨ob, oo, none⟩ := by
        rcases hoa with h | h
        · omega
        · exact h
      obtain ⟨x, hx⟩ : ∃ x, order[k]?.getD 0 = x := ⟨_, rfl⟩
      rw [hx] at co
      have HX := Lib.hid hx
      have hki : (k : Int) < (ol : Int) := by omega
      have hob1 : ob < w1.heap.size := by omega
      have HKO := Lib.hid hko
      clear hoa hoc hx hko
      by_cases q : 0 ≤ x ∧ x < (len : Int)
      · obtain ⟨q1, q2⟩ := q
        have HQ : Hid ((decide (0 ≤ x) && decide (x < (len : Int))) = true) := Lib.hid (by simp [q1, q2])
        obtain ⟨m, rfl⟩ : ∃ m : Nat, x = m := ⟨x.toNat, by omega⟩
        have hml : m < es.length := by rw [HlE.out]; omega
        have hmlen : m < len := by omega
        obtain ⟨b, off, ha, hc⟩ := (HE.out.below hB).2.2
        obtain ⟨hb, c0, c01, c02⟩ := hc m hml
        obtain rfl : a = some ⟨b, off, none⟩ := by
          rcases ha with h | h
          · omega
          · exact h
        have hed : ed es m = es[m] := by unfold ed; rw [List.getElem?_eq_getElem hml]; rfl
        rw [← hed] at c0
        obtain ⟨u, hu⟩ : ∃ u, (ed es m).1 = u := ⟨_, rfl⟩
        rw [hu] at c0
        have cs := bL.cell m
        rw [boolsA_at _ _ (by rw [hin.out.len]; exact hml)] at cs
        obtain ⟨z, hz⟩ : ∃ z, L[m]?.getD false = z := ⟨_, rfl⟩
        rw [hz] at cs
        have hz' : has L (m : Int) = z := by unfold has; rw [Int.toNat_natCast]; exact hz
        have HZ := Lib.hid hz'
        have lL := bL.lt
        have HML := Lib.hid hml
        have HU := Lib.hid hu
        have HC0 := Lib.hid c0
        have HCS := Lib.hid cs
        have hb1 : b < w1.heap.size := by omega
        clear ha hc hed hu hz hz' c01 c02 c0 cs n0 n1
        clear hml
        obtain ⟨lN', n0, n1⟩ := bN.two
        clear lN'
        by_cases q3 : u = s
        · have t3 : (u != s) = false := by simp [q3]
          have HSRC : Hid (isSrc es s (m : Int) = true) := Lib.hid (isSrc_iff.2 ⟨by omega, by have := HML.out; omega, by rw [Int.toNat_natCast, HU.out, q3]⟩)
          clear q3
          rcases z with _ | _
          · go_wp2_with (go_at_call 34; (with_reducible refine (isEdge_any _ _ _ _ _ true _ HQ.out).mono ?_); rintro e w2 ⟨rfl, hb2⟩
                         have bN2 := bN.below hb2 bN.lt
                         have bL2 := bL.below hb2 bL.lt
                         obtain ⟨m0, m1, m2⟩ := bN2.two
                         have hz2 := hb2.size
                         have d0 : w2.cell? ⟨b, off + m * 3, none⟩ = some (.int .i64 u) := (hb2.cell (p := ⟨b, off + m * 3, none⟩) hb1).trans HC0.out
                         have d1 : w2.cell? ⟨w.heap.size + 1, m, none⟩ = some (.bool false) := (hb2.cell (p := ⟨w.heap.size + 1, m, none⟩) lL).trans HCS.out
                         have d2 := bL2.frozen m
                         have hb3 : b < w2.heap.size := by omega
                         have lL2 := bL2.lt)
            go_roundw
            case rel =>
              refine ⟨k + 1, L.set m true, by omega, by go_num, Lib.hid (hin.out.next HKO.out HX.out HSRC.out HZ.out), bN2.far (p := ⟨w.heap.size + 1, m, none⟩) (by simp) _, by rw [← boolsA_set]; exact bL2.set _ _, (hB.trans (hb2.mono hz1)).setCell (p := ⟨w.heap.size + 1, m, none⟩) (by simp) _⟩
            case measure => simp [intOf]; omega
          · have HR : Hid (srcsF es s order = false) := Lib.hid (srcsF_twice HKO.out (by rw [HX.out]; exact (hin.out.marks m HML.out).1 HZ.out))
            go_wp2_with (go_at_call 34; (with_reducible refine (isEdge_any _ _ _ _ _ true _ HQ.out).mono ?_); rintro e w2 ⟨rfl, hb2⟩
                         have bN2 := bN.below hb2 bN.lt
                         have bL2 := bL.below hb2 bL.lt
                         obtain ⟨m0, m1, m2⟩ := bN2.two
                         have hz2 := hb2.size
                         have d0 : w2.cell? ⟨b, off + m * 3, none⟩ = some (.int .i64 u) := (hb2.cell (p := ⟨b, off + m * 3, none⟩) hb1).trans HC0.out
                         have d1 : w2.cell? ⟨w.heap.size + 1, m, none⟩ = some (.bool true) := (hb2.cell (p := ⟨w.heap.size + 1, m, none⟩) lL).trans HCS.out
                         have hb3 : b < w2.heap.size := by omega
                         have lL2 := bL2.lt)
            go_ret
            exact ⟨ret_bool HR.out.symm, hB.trans (hb2.mono hz1)⟩
        · have t3 : (u != s) = true := by simp [q3]
          have HR : Hid (srcsF es s order = false) := Lib.hid (srcsF_bad HKO.out (by
            rw [HX.out, Bool.eq_false_iff]
            intro h
            have := (isSrc_iff.1 h).2.2
            rw [Int.toNat_natCast, HU.out] at this
            exact q3 this))
          clear q3
          go_wp2_with (go_at_call 34; (with_reducible refine (isEdge_any _ _ _ _ _ true _ HQ.out).mono ?_); rintro e w2 ⟨rfl, hb2⟩
                       have bN2 := bN.below hb2 bN.lt
                       obtain ⟨m0, m1, m2⟩ := bN2.two
                       have hz2 := hb2.size
                       have d0 : w2.cell? ⟨b, off + m * 3, none⟩ = some (.int .i64 u) := (hb2.cell (p := ⟨b, off + m * 3, none⟩) hb1).trans HC0.out
                       have hb3 : b < w2.heap.size := by omega)
          go_ret
          exact ⟨ret_bool HR.out.symm, hB.trans (hb2.mono hz1)⟩
      · have HQ : Hid ((decide (0 ≤ x) && decide (x < (len : Int))) = false) := Lib.hid (by
          rw [Bool.and_eq_false_iff]
          by_cases h : 0 ≤ x
          · right; rw [decide_eq_false_iff_not]; exact fun h2 => q ⟨h, h2⟩
          · left; simp [h])
        have HR : Hid (srcsF es s order = false) := Lib.hid (srcsF_bad HKO.out (by
          rw [HX.out, Bool.eq_false_iff]
          intro h
          obtain ⟨h1, h2, _⟩ := isSrc_iff.1 h
          rw [HlE.out] at h2
          exact q ⟨h1, h2⟩))
        clear q
        go_wp2_with (go_at_call 34; (with_reducible refine (isEdge_any _ _ _ _ _ false _ HQ.out).mono ?_); rintro e w2 ⟨rfl, hb2⟩)
        go_ret
        exact ⟨ret_bool HR.out.symm, hB.trans (hb2.mono hz1)⟩
    · obtain rfl : k = ol := by omega
      have HR : Hid (srcsF es s order = true) := Lib.hid (hin.out.all HlO.out.symm)
      go_wp2
      go_ret
      exact ⟨ret_bool HR.out.symm, hB⟩
end Go.Proofs.Ythchlfoebkachaa

namespace Go.Proofs.Ythchlfoebkachaa
open Go.RowKit Gm

theorem all_bad {α : Type} {l : List α} {f : α → Bool} {k : Nat} (hk : k < l.length) (h : f l[k] = false) : l.all f = false := by
  rw [Bool.eq_false_iff]
  intro h2
  have := List.all_eq_true.1 h2 _ (List.getElem_mem hk)
  rw [h] at this; cases this
theorem all_take {α : Type} {l : List α} {f : α → Bool} {k : Nat} (hk : k < l.length) (h0 : (l.take k).all f = true) (h : f l[k] = true) : (l.take (k + 1)).all f = true := by
  rw [List.take_succ_eq_append_getElem hk, List.all_append, h0]
  simp [h]

set_option maxRecDepth 100000 in
set_option maxHeartbeats 4000000 in
theorem every_any (n : Nat) (a : Option Addr) (len cap : Nat) (es : List E) (s t src : Int) (wa : Option Addr) (wl wc : Nat) (ws : List WayE) (w : World) (hE : NetAt w.heap.size w a len es) (hW : WaysAt w.heap.size w wa wl ws) (hr : right n es = true) (s0 : 0 ≤ s) (s1 : s < n) (hsrc : isSrc es s src = true) :
    Calls Try.prog 36 #[.slice wa wl wc, .func (.func 35) #[routeV n a len cap src t] #[]] w fun e w' => e = .returned (.bool (ws.all (isWayF n es s t src))) ∧ Below w.heap.size w w' := by
  have HE := Lib.hid hE
  have HW := Lib.hid hW
  have HlW := Lib.hid hW.1
  have hwx := hW.2.1
  have HR := Lib.hid hr
  have HS := Lib.hid hsrc
  have HS0 := Lib.hid s0
  have HS1 := Lib.hid s1
  clear hE hW hr hsrc s0 s1
  go_enter Try.func36, Try.ntmps36
  go_wp2
  go_loopw [9] (fun kv wr => ∃ k : Nat, k ≤ wl ∧ kv = .int .i64 k ∧ Hid ((ws.take k).all (isWayF n es s t src) = true) ∧ Below w.heap.size w wr) (fun kv _ => wl - (intOf kv).toNat)
  case atStart => exact ⟨0, Nat.zero_le _, rfl, Lib.hid (by simp), Below.refl _ _⟩
  case round =>
    obtain ⟨k, hk, rfl, hin, hB⟩ := hrel
    obtain ⟨w1, rfl⟩ : ∃ w', w' = wr := ⟨_, rfl⟩
    have hz1 := hB.size
    by_cases hlt : k < wl
    · have hkw : k < ws.length := by rw [HlW.out]; exact hlt
      obtain ⟨_, _, b, off, ha, hc⟩ := HW.out.below hB
      obtain ⟨hb, ea, el, ec, e0, hf, e1⟩ := hc k hkw
      obtain rfl : wa = some ⟨b, off, none⟩ := by
        rcases ha with h | h
        · omega
        · exact h
      obtain ⟨g, hg⟩ : ∃ g, isWayF n es s t src ws[k] = g := ⟨_, rfl⟩
      obtain ⟨p, hp⟩ : ∃ p, ws[k] = p := ⟨_, rfl⟩
      rw [hp] at hf e1
      obtain ⟨W, c⟩ := p
      dsimp only at hf e1
      have HP := Lib.hid hp
      have HG := Lib.hid hg
      have HG2 : Hid (isWayF n es s t src (W, c) = g) := Lib.hid (by rw [← HP.out]; exact HG.out)
      have HKW := Lib.hid hkw
      obtain ⟨w2, hw2⟩ : ∃ W2, w1.alloc (.cells #[.slice ea el ec, .int .i64 c] 44) = W2 := ⟨_, rfl⟩
      have bW2 : Blk w2 w1.heap.size 44 #[.slice ea el ec, .int .i64 c] := hw2 ▸ Blk.new w1 _ _
      have hB2 : Below w.heap.size w w2 := hw2 ▸ hB.alloc hz1 _
      have HE2 := Lib.hid ((HE.out.below hB2).more hB2.size)
      have HF2 : Hid (FlowAt w2.heap.size w2 ea el W) := Lib.hid ((by rw [← hw2]; exact (hf.more hz1).below ((Below.refl _ w1).alloc (Nat.le_refl _) _) : FlowAt w1.heap.size w2 ea el W).more (by rw [← hw2]; simp))
      have HW2 := Lib.hid hw2
      have hb1 : b < w1.heap.size := by omega
      have hki : (k : Int) < (wl : Int) := by omega
      obtain ⟨l2, x0, x1⟩ := bW2.two
      clear ha hc hp hg hf hw2
      rcases g with _ | _
      · have HRES : Hid (ws.all (isWayF n es s t src) = false) := Lib.hid (all_bad HKW.out HG.out)
        go_wp2_with (go_at_call 35; rw [HW2.out]; (with_reducible refine (isPath_any _ _ _ _ es s _ _ _ _ _ W _ _ HE2.out HF2.out HR.out HS0.out HS1.out HS.out).mono ?_); rw [HG2.out]; rintro e w3 ⟨rfl, hb3⟩)
        go_ret
        exact ⟨ret_bool HRES.out.symm, hB2.trans (hb3.mono hB2.size)⟩
      · have HNX : Hid ((ws.take (k + 1)).all (isWayF n es s t src) = true) := Lib.hid (all_take HKW.out hin.out HG.out)
        go_wp2_with (go_at_call 35; rw [HW2.out]; (with_reducible refine (isPath_any _ _ _ _ es s _ _ _ _ _ W _ _ HE2.out HF2.out HR.out HS0.out HS1.out HS.out).mono ?_); rw [HG2.out]; rintro e w3 ⟨rfl, hb3⟩)
        go_roundw
        case rel => exact ⟨k + 1, by omega, by go_num, HNX, hB2.trans (hb3.mono hB2.size)⟩
        case measure => simp [intOf]; omega
    · obtain rfl : k = wl := by omega
      have HRES : Hid (ws.all (isWayF n es s t src) = true) := Lib.hid (by
        have := hin.out
        rwa [List.take_of_length_le (by rw [HlW.out]; exact Nat.le_refl _)] at this)
      go_wp2
      go_ret
      exact ⟨ret_bool HRES.out.symm, hB⟩

theorem waysOk_bad {n : Nat} {es : List E} {s t : Int} {order : List Int} {wss : List (List WayE)} {k : Nat} (hk : k < wss.length) (h : (wss[k]).all (isWayF n es s t (order[k]?.getD 0)) = false) : waysOk n es s t order wss = false := by
  rw [Bool.eq_false_iff]
  intro h2
  have h3 := List.all_eq_true.1 h2 k (List.mem_range.2 hk)
  rw [List.getElem?_eq_getElem hk] at h3
  have h4 : (wss[k]).all (isWayF n es s t (order[k]?.getD 0)) = true := h3
  rw [h] at h4; cases h4

set_option maxRecDepth 100000 in
set_option maxHeartbeats 4000000 in
theorem areWays_any (n : Nat) (a : Option Addr) (len cap : Nat) (es : List E) (s t : Int) (oa : Option Addr) (ol oc : Nat) (order : List Int) (wa : Option Addr) (wl wc : Nat) (wss : List (List WayE)) (w : World) (hE : NetAt w.heap.size w a len es) (hO : FlowAt w.heap.size w oa ol order) (hW : WayssAt w.heap.size w wa wl wss) (hr : right n es = true) (s0 : 0 ≤ s) (s1 : s < n) (hsrc : ∀ x ∈ order, isSrc es s x = true) :
    Calls Try.prog 22 #[netV n a len cap, .int .i64 t, .slice oa ol oc, .slice wa wl wc] w fun e w' => e = .returned (.bool (decide (wss.length ≤ order.length) && waysOk n es s t order wss)) ∧ Below w.heap.size w w' := by
  have HE := Lib.hid hE
  have HO := Lib.hid hO
  have HW := Lib.hid hW
  have HlW := Lib.hid hW.1
  have HlO := Lib.hid hO.1
  have hol := hO.2.1
  have HR := Lib.hid hr
  have HS := Lib.hid hsrc
  have HS0 := Lib.hid s0
  have HS1 := Lib.hid s1
  have hB0 : Below w.heap.size w (w.alloc (.cells #[.int .i64 (n : Int), .slice a len cap] 24)) := (Below.refl _ w).alloc (Nat.le_refl _) _
  have HB0 := Lib.hid hB0
  clear hE hO hW hr hsrc s0 s1 hB0
  have hmf : ∀ (fn : Fn) (first cap : Array Value) (w : World), (Instr.makeFunc fn first cap).run Try.prog w = .ok (.func fn first cap) w := fun _ _ _ _ => rfl
  by_cases hwo : wl ≤ ol
  · have hng : ¬ (ol : Int) < (wl : Int) := by omega
    have HRES : Hid ((decide (wss.length ≤ order.length) && waysOk n es s t order wss) = waysOk n es s t order wss) := Lib.hid (by rw [HlW.out, HlO.out, decide_eq_true hwo]; rfl)
    have hwlx : wl ≤ 17592186044416 := by omega
    go_enter Try.func22, Try.ntmps22
    go_wp2
    go_loopw [19] (fun kv wr => ∃ k : Nat, k ≤ wl ∧ kv = .int .i64 k ∧ Hid (∀ j, j < k → (wss[j]?.getD []).all (isWayF n es s t (order[j]?.getD 0)) = true) ∧ Blk wr w.heap.size 24 #[.int .i64 (n : Int), .slice a len cap] ∧ Below w.heap.size w wr) (fun kv _ => wl - (intOf kv).toNat)
    case atStart => exact ⟨0, Nat.zero_le _, rfl, Lib.hid (fun j hj => by omega), Blk.new w _ _, HB0.out⟩
    case round =>
      obtain ⟨k, hk, rfl, hin, bN, hB⟩ := hrel
      obtain ⟨w1, rfl⟩ : ∃ w', w' = wr := ⟨_, rfl⟩
      have hz1 := hB.size
      by_cases hlt : k < wl
      · have hkw : k < wss.length := by rw [HlW.out]; exact hlt
        have hko : k < order.length := by rw [HlO.out]; omega
        obtain ⟨_, wb, wo, hwa, hwc⟩ := HW.out.below hB
        obtain ⟨hwb, ma, ml, mc, cw, hmw⟩ := hwc k hkw
        obtain rfl : wa = some ⟨wb, wo, none⟩ := by
          rcases hwa with h | h
          · omega
          · exact h
        obtain ⟨ob, oo, hoa, hoc⟩ := (HO.out.below hB).2.2.int
        obtain ⟨hob, co⟩ := hoc k hko
        obtain rfl : oa = some ⟨ob, oo, none⟩ := by
          rcases hoa with h | h
          · omega
          · exact h
        obtain ⟨x, hx⟩ : ∃ x, order[k]?.getD 0 = x := ⟨_, rfl⟩
        rw [hx] at co
        have hsx : isSrc es s x = true := by
          have h := HS.out _ (List.getElem_mem hko)
          rw [List.getElem?_eq_getElem hko] at hx
          rwa [show order[k] = x from hx] at h
        have HX := Lib.hid hx
        have HSX := Lib.hid hsx
        obtain ⟨g, hg⟩ : ∃ g, (wss[k]).all (isWayF n es s t x) = g := ⟨_, rfl⟩
        have HG := Lib.hid hg
        have hwb1 : wb < w1.heap.size := by omega
        have hob1 : ob < w1.heap.size := by omega
        have hki : (k : Int) < (wl : Int) := by omega
        have hkl : k < ol := by omega
        have hkl2 : (k : Int) < (ol : Int) := by omega
        have hcells : ∀ W, Below w1.heap.size w1 W → W.cell? ⟨w.heap.size, 0, none⟩ = some (.int .i64 (n : Int)) ∧ W.cell? ⟨w.heap.size, 1, none⟩ = some (.slice a len cap) ∧ W.cell? ⟨ob, oo + k, none⟩ = some (.int .i64 x) := fun W h => ⟨(bN.below h bN.lt).two.2.1, (bN.below h bN.lt).two.2.2, (h.cell (p := ⟨ob, oo + k, none⟩) hob1).trans co⟩
        have HCE := Lib.hid hcells
        have HMW := Lib.hid hmw
        have HKW := Lib.hid hkw
        have BN := Lib.hid bN
        clear hwa hwc hoa hoc hx hsx hg hcells hmw bN co
        go_upto_region 6 with fail
        have hB2 := below_drew (Below.refl w1.heap.size w1)
        refine region_mix (fun W => Below w1.heap.size w1 W) (6) (.reads [0, 1, 2, 3, 4, 5] (.only 6 (.only 7 (.only 8 (.stop))))) (by kernel_rfl) (by kernel_rfl) (hB2) ?_
        obtain ⟨w2, hw2⟩ : ∃ W, w1.drew = W := ⟨_, rfl⟩
        rw [hw2] at hB2 ⊢
        clear hw2
        repeat (
          refine plan_read rfl (fun K hK => ?_)
          first
            | (refine plan_neg ?_ ?_
               focus (go_simp; done)
               go_simp
               refine hK _ ?_
               clear hK K)
            | (apply plan_pos
               focus (go_simp; done)
               focus (
                 intro W hW
                 (obtain ⟨d0, d1, d2⟩ := HCE.out W hW)
                 go_simp
                 first
                   | done
                   | exact rfl)
               go_simp
               refine hK _ ?_
               clear hK K))
        refine plan_only rfl (fun Q hQ => ?_)
        go_wp2
        refine hQ _ _ (fun h => absurd h (by omega)) ?_
        clear hQ Q
        refine plan_only rfl (fun Q hQ => ?_)
        go_wp2
        refine hQ _ _ (fun h => absurd h (by omega)) ?_
        clear hQ Q
        refine plan_only rfl (fun Q hQ => ?_)
        go_wp2
        refine hQ _ _ (fun h => absurd h (by omega)) ?_
        clear hQ Q
        unfold Plan.wp
        have hBw := hB.trans (hB2.mono hz1)
        have hz2 := hBw.size
        have HE2 := Lib.hid ((HE.out.below hBw).more hBw.size)
        have HM2 := Lib.hid ((HMW.out.below (hB2.mono hz1)).more hBw.size)
        have bN2 := BN.out.below hB2 BN.out.lt
        clear hmf
        rcases g with _ | _
        · have HBAD : Hid (waysOk n es s t order wss = false) := Lib.hid (waysOk_bad HKW.out (by rw [HX.out]; exact HG.out))
          go_wp2_with (go_at_call 36; (with_reducible refine (every_any _ _ _ _ es s _ _ _ _ _ _ _ HE2.out HM2.out HR.out HS0.out HS1.out HSX.out).mono ?_); rw [HG.out]; rintro e w3 ⟨rfl, hb3⟩)
          go_ret
          exact ⟨ret_bool (by rw [HRES.out, HBAD.out]), hBw.trans (hb3.mono hz2)⟩
        · have HNX : Hid (∀ j, j < k + 1 → (wss[j]?.getD []).all (isWayF n es s t (order[j]?.getD 0)) = true) := Lib.hid (fun j hj => by
            rcases Nat.lt_or_ge j k with h | h
            · exact hin.out j h
            · obtain rfl : j = k := by omega
              rw [List.getElem?_eq_getElem HKW.out, HX.out]; exact HG.out)
          go_wp2_with (go_at_call 36; (with_reducible refine (every_any _ _ _ _ es s _ _ _ _ _ _ _ HE2.out HM2.out HR.out HS0.out HS1.out HSX.out).mono ?_); rw [HG.out]; rintro e w3 ⟨rfl, hb3⟩)
          go_roundw
          case rel => exact ⟨k + 1, by omega, by go_num, HNX, bN2.below hb3 bN2.lt, hBw.trans (hb3.mono hz2)⟩
          case measure => simp [intOf]; omega
      · obtain rfl : k = wl := by omega
        have HOK : Hid (waysOk n es s t order wss = true) := Lib.hid (List.all_eq_true.2 fun j hj => hin.out j (by rw [← HlW.out]; exact List.mem_range.1 hj))
        go_wp2
        go_ret
        exact ⟨ret_bool (by rw [HRES.out, HOK.out]), hB⟩
  · have hng : (ol : Int) < (wl : Int) := by omega
    have HRES : Hid ((decide (wss.length ≤ order.length) && waysOk n es s t order wss) = false) := Lib.hid (by rw [HlW.out, HlO.out, decide_eq_false hwo]; rfl)
    go_enter Try.func22, Try.ntmps22
    go_wp2
    go_ret
    exact ⟨ret_bool HRES.out.symm, HB0.out⟩
end Go.Proofs.Ythchlfoebkachaa

namespace Go.Proofs.Ythchlfoebkachaa
open Go.RowKit Gm

theorem flat_set (c : Int) : ∀ (es : List E) (k : Nat) (h : k < es.length), (flat es).set (k * 3 + 2) (.int .i64 c) = flat (es.set k (es[k].1, es[k].2.1, c))
  | [], k, h => by simp at h
  | e :: es, 0, _ => by simp [flat]
  | e :: es, k + 1, h => by
    have h' : k < es.length := by simpa using h
    have ih := flat_set c es k h'
    have e1 : flat (e :: es) = [.int .i64 e.1, .int .i64 e.2.1, .int .i64 e.2.2] ++ flat es := by simp [flat]
    have e2 : flat ((e :: es).set (k + 1) ((e :: es)[k + 1].1, (e :: es)[k + 1].2.1, c)) = [.int .i64 e.1, .int .i64 e.2.1, .int .i64 e.2.2] ++ flat (es.set k (es[k].1, es[k].2.1, c)) := by simp [flat]
    rw [e1, e2, ← ih, List.set_append_right _ _ (by simp; omega)]
    congr 2
    simp only [List.length_cons, List.length_nil]
    omega
/-- Edges appended to an empty slice of the call's own. -/
theorem append_edges {W : World} {a : Option Addr} {len cap : Nat} {es : List E} {B : Nat} {v : Value} {base : Nat} (hown : W.ownsRow base 50 3 v 0 []) (hE : NetAt B W a len es) (h300 : len ≤ 300) (ty : TypeId) (hbase : base ≤ W.heap.size) :
    ∃ v' w', (Builtin.append_ #[22, 22] ty #[v, .slice a len cap]).run Try.prog W = .ok v' w' ∧ w'.ownsRow base 50 3 v' len (flat es) ∧ W.grownBy w' v.ownBlock := by
  obtain ⟨i0, hi0, hz0, hz1, hz2⟩ := info_parts infoEdge
  have hl := hE.1
  obtain ⟨b, off, ha, hcell⟩ := hE.2.2
  by_cases h0 : len = 0
  · subst h0
    have : es = [] := List.eq_nil_of_length_eq_zero hl
    subst this
    refine ⟨v, W, ?_, hown, ⟨rfl, rfl, rfl, Nat.le_refl _, fun _ _ _ => rfl⟩⟩
    rcases hown.2 with ⟨rfl, _⟩ | ⟨g, cap, cur, rfl, _, _, hnc, _⟩
    · cases a <;> simp [Builtin.append_, run_underlying Try.underlying22, sizeOf, typeInfo, hi0, Builtin.lenOf, Builtin.firstCells, loadCells, loadCellsFrom]
    · cases a <;> simp [Builtin.append_, run_underlying Try.underlying22, sizeOf, typeInfo, hi0, Builtin.lenOf, Builtin.firstCells, loadCells, loadCellsFrom, storeCells, Result.andThen]
  · obtain rfl : a = some ⟨b, off, none⟩ := by
      rcases ha with h | h
      · omega
      · exact h
    have hft := flat_take es len (by omega)
    have hfc := flat_cells hcell len (by omega)
    rw [List.take_of_length_le (by omega)] at hft hfc
    obtain ⟨v', w', hr, h2, h3, _, _⟩ := run_append_own_at (P := Try.prog) W base 22 ty 50 i0 _ 3 24 Try.underlying22 hi0 hz0 hz1 hz2 rfl (by decide) v 0 [] hown ⟨b, off, none⟩ len cap (flat es) hft hfc (flat_one _) (by simp [maxLen]; omega) (by omega) hbase
    exact ⟨v', w', hr, by simpa using h2, h3⟩

def ClonePost (es : List E) (w : World) (e : Ending) (w' : World) : Prop :=
  ∃ v, e = .returned v ∧ w'.ownsRow w.heap.size 50 3 v es.length (flat es) ∧ Below w.heap.size w w'
set_option maxHeartbeats 2000000 in
theorem clone_any (a : Option Addr) (len cap : Nat) (es : List E) (w : World) (hE : NetAt w.heap.size w a len es) (h300 : len ≤ 300) :
    Calls Try.prog 37 #[.slice a len cap] w (ClonePost es w) := by
  have HlE := Lib.hid hE.1
  have HE := Lib.hid hE
  have qT : ∀ (w : World) (a : Option Addr) (n c n' c' : Nat), (binOp .eql 22 (.slice a n c) (.slice none n' c')).run Try.prog w = .ok (.bool a.isNone) w := fun w a n c n' c' => Lib.run_eql_slice_nil w _ _ a n c n' c' Try.underlying22
  clear hE
  rcases a with _ | x
  · have hl : Hid (es = []) := Lib.hid (by
      obtain ⟨_, _, ha, _⟩ := HE.out.2.2
      rcases ha with h | h
      · exact List.eq_nil_of_length_eq_zero h
      · cases h)
    go_enter Try.func37, Try.ntmps37
    go_wp2
    go_ret
    exact ⟨_, rfl, by rw [hl.out]; exact World.ownsRow_nil _ _ _ _, Below.refl _ _⟩
  · have hown : (w.alloc (.cells #[] 50)).ownsRow w.heap.size 50 3 (.slice (some ⟨w.heap.size, 0, none⟩) 0 0) 0 [] :=
      ⟨rfl, .inr ⟨w.heap.size, 0, #[], rfl, Nat.le_refl _, World.alloc_heap_new w _, Nat.le_refl _, by simp [maxLen], rfl, rfl⟩⟩
    have hB : Below w.heap.size w (w.alloc (.cells #[] 50)) := (Below.refl _ w).alloc (Nat.le_refl _) _
    obtain ⟨v', w', hr, h2, h3⟩ := append_edges (cap := cap) hown (HE.out.below hB) h300 22 hB.size
    have hB2 : Below w.heap.size w w' := hB.grown h3 hB.size (fun j e => by simp [Value.ownBlock] at e; omega)
    have H2 : Hid (w'.ownsRow w.heap.size 50 3 v' es.length (flat es)) := Lib.hid (by rw [HlE.out]; exact h2)
    have HB2 := Lib.hid hB2
    clear hB2 h3 h2 hB hown
    go_enter Try.func37, Try.ntmps37
    go_wp2_with (
      at_builtin
      refine wpList_append_run (by rfl) (.tmp 5) (.tmp 6) 22 22 (by rfl) (by rfl) (by rfl) hr ?_)
    go_ret
    exact ⟨v', rfl, H2.out, HB2.out⟩
theorem own_edge {W : World} {base : Nat} {a : Option Addr} {n c : Nat} {l : List E} (h : W.ownsRow base 50 3 (.slice a n c) l.length (flat l)) (hl : l.length ≤ 300) {k : Nat} (hk : k < l.length) :
    ∃ g, a = some ⟨g, 0, none⟩ ∧ base ≤ g ∧ g < W.heap.size ∧ W.cell? ⟨g, k * 3, none⟩ = some (.int .i64 l[k].1) ∧ W.cell? ⟨g, k * 3 + 1, none⟩ = some (.int .i64 l[k].2.1) ∧ W.cell? ⟨g, k * 3 + 2, none⟩ = some (.int .i64 l[k].2.2) := by
  obtain ⟨_, _, _, b, off, ha, hc⟩ := edges_own h (by omega)
  rcases h.2 with ⟨_, h2⟩ | ⟨g, cap, cur, hv, hb, hg, _⟩
  · omega
  · injection hv with e1 e2 e3
    subst e1 e2
    obtain ⟨_, c0, c1, c2⟩ := hc k hk
    rcases ha with h | h
    · omega
    · injection h with h
      injection h with h1 h2
      subst h1 h2
      rw [Nat.zero_add] at c0 c1 c2
      exact ⟨g, rfl, hb, (Array.getElem?_eq_some_iff.1 hg).1, c0, c1, c2⟩
end Go.Proofs.Ythchlfoebkachaa

namespace Go.Proofs.Ythchlfoebkachaa
open Go.RowKit Gm

theorem Gm.opened_snoc {es : List E} {s : Int} {L : List Int} {m : Nat} (hm : m < es.length) : opened es s (L ++ [(m : Int)]) = (opened es s L).set m (ed es m) := by
  apply List.ext_getElem (by simp [opened_length])
  intro i h1 h2
  rw [opened_length] at h1
  rw [List.getElem_set]
  have e1 : (opened es s (L ++ [(m : Int)]))[i]'(by rw [opened_length]; exact h1) = openE s (L ++ [(m : Int)]) i es[i] := by simp [opened]
  have e2 : (opened es s L)[i]'(by rw [opened_length]; exact h1) = openE s L i es[i] := by simp [opened]
  rw [e1]
  by_cases e : m = i
  · subst e
    rw [if_pos rfl]
    unfold openE
    rw [if_neg (fun h => h.2 (by simp))]
    unfold ed; rw [List.getElem?_eq_getElem hm]; rfl
  · rw [if_neg e, e2]
    unfold openE
    have e3 : ((i : Int) ∈ L ++ [(m : Int)]) ↔ (i : Int) ∈ L := by
      rw [List.mem_append, List.mem_singleton]
      constructor
      · rintro (h | h)
        · exact h
        · exact absurd (Int.ofNat.inj h).symm e
      · exact .inl
    simp only [e3]
/-- The first k edges closed. -/
def Gm.closedN (es : List E) (s : Int) (k : Nat) : List E := (opened es s []).take k ++ es.drop k
theorem Gm.closedN_length (es : List E) (s : Int) (k : Nat) (hk : k ≤ es.length) : (closedN es s k).length = es.length := by
  unfold closedN; rw [List.length_append, List.length_take, List.length_drop, opened_length]; omega
theorem Gm.closedN_zero (es : List E) (s : Int) : closedN es s 0 = es := by simp [closedN]
theorem Gm.closedN_all (es : List E) (s : Int) : closedN es s es.length = opened es s [] := by
  unfold closedN; rw [List.take_of_length_le (by rw [opened_length]; exact Nat.le_refl _), List.drop_length, List.append_nil]
theorem Gm.closedN_at {es : List E} {s : Int} {k : Nat} (hk : k < es.length) : (closedN es s k)[k]'(by rw [closedN_length _ _ _ (Nat.le_of_lt hk)]; exact hk) = es[k] := by
  unfold closedN
  rw [List.getElem_append_right (by rw [List.length_take, opened_length]; omega)]
  rw [List.getElem_drop]
  congr 1
  rw [List.length_take, opened_length]; omega
theorem Gm.closedN_set {es : List E} {s : Int} {k : Nat} (hk : k < es.length) : closedN es s (k + 1) = (closedN es s k).set k (openE s [] k es[k]) := by
  unfold closedN
  rw [List.take_succ_eq_append_getElem (by rw [opened_length]; exact hk), List.append_assoc, List.set_append_right _ _ (by rw [List.length_take, opened_length]; omega)]
  congr 1
  rw [show k - (List.take k (opened es s [])).length = 0 by rw [List.length_take, opened_length]; omega]
  rw [List.drop_eq_getElem_cons hk]
  have e : (opened es s [])[k]'(by rw [opened_length]; exact hk) = openE s [] k es[k] := by simp [opened]
  rw [e]; rfl
theorem Gm.closedN_same {es : List E} {s : Int} {k : Nat} (hk : k < es.length) (h : es[k].1 ≠ s) : closedN es s (k + 1) = closedN es s k := by
  rw [closedN_set hk]
  have e : openE s [] k es[k] = es[k] := by unfold openE; rw [if_neg (fun h2 => h h2.1)]
  rw [e]
  have h2 := closedN_at (s := s) hk
  have hl : k < (closedN es s k).length := by rw [closedN_length _ _ _ (Nat.le_of_lt hk)]; exact hk
  apply List.ext_getElem (by simp)
  intro i h3 h4
  rw [List.getElem_set]
  split
  · rename_i e; subst e; exact h2.symm
  · rfl

def ClosedAt (w : World) (v : Int) (a : Option Addr) (len cap : Nat) (sl : Value) (F : List E) (wr : World) : Prop :=
  (Blk wr w.heap.size 24 #[.int .i64 v, .slice a len cap] ∧ Blk wr (w.heap.size + 1) 24 #[.int .i64 0, .slice none 0 0]) ∧ wr.ownsRow w.heap.size 50 3 sl len (flat F) ∧ Below w.heap.size w wr

set_option maxRecDepth 100000 in
set_option maxHeartbeats 4000000 in
theorem closed_any (v : Int) (a : Option Addr) (len cap : Nat) (es : List E) (s : Int) (w : World) (hE : NetAt w.heap.size w a len es) (h300 : len ≤ 300) :
    Calls Try.prog 23 #[netV v a len cap, .int .i64 s] w (OpenPost v (opened es s []) w) := by
  have HlE := Lib.hid hE.1
  have HE := Lib.hid hE
  obtain ⟨W0, hW0⟩ : ∃ W0, (w.alloc (.cells #[.int .i64 v, .slice a len cap] 24)).alloc (.cells #[.int .i64 0, .slice none 0 0] 24) = W0 := ⟨_, rfl⟩
  have hB0 : Below w.heap.size w W0 := by rw [← hW0]; exact ((Below.refl _ w).alloc (Nat.le_refl _) _).alloc (by simp) _
  have bN : Blk W0 w.heap.size 24 #[.int .i64 v, .slice a len cap] := by rw [← hW0]; exact (Blk.new w _ _).alloc _
  have bR : Blk W0 (w.heap.size + 1) 24 #[.int .i64 0, .slice none 0 0] := by
    rw [← hW0]
    have h := Blk.new (w.alloc (.cells #[.int .i64 v, .slice a len cap] 24)) 24 #[.int .i64 0, .slice none 0 0]
    simp only [World.size_alloc] at h; exact h
  have HW0 := Lib.hid hW0
  have hz0 := hB0.size
  have HE0 := Lib.hid ((hE.below hB0).more hB0.size)
  obtain ⟨lN, n0, n1⟩ := bN.two
  clear hW0 hE
  go_enter Try.func23, Try.ntmps23
  go_wp2_with (go_at_call 37; rw [HW0.out]; (with_reducible refine (clone_any _ _ _ es _ HE0.out h300).mono ?_); rintro e w1 ⟨sl, rfl, hown, hb1⟩
               have hB1 := hB0.trans (hb1.mono hz0)
               have bN1 := bN.below hb1 bN.lt
               have bR1 := bR.below hb1 bR.lt
               have hz1 := hB1.size
               obtain ⟨sa, sc, rfl⟩ := own_form hown
               rw [HlE.out] at hown ⊢
               have HOWN0 := Lib.hid hown
               clear hown)
  have HZR := Lib.hid bR.lt
  clear n0 n1 lN bN bR
  go_loopw [12] (fun kv wr => ∃ k : Nat, k ≤ len ∧ kv = .int .i64 k ∧ Blk wr w.heap.size 24 #[.int .i64 v, .slice a len cap] ∧ Blk wr (w.heap.size + 1) 24 #[.int .i64 0, .slice none 0 0] ∧ wr.ownsRow W0.heap.size 50 3 (.slice sa len sc) len (flat (closedN es s k)) ∧ Below w.heap.size w wr) (fun kv _ => len - (intOf kv).toNat)
  case atStart => exact ⟨0, Nat.zero_le _, rfl, bN1, bR1, by rw [closedN_zero]; exact HOWN0.out, hB1⟩
  case round =>
    clear bN1 bR1 hB1 hb1 hz1
    obtain ⟨k, hk, rfl, bN, bR, hown, hB⟩ := hrel
    obtain ⟨w2, rfl⟩ : ∃ w', w' = wr := ⟨_, rfl⟩
    have hz2 := hB.size
    by_cases hlt : k < len
    · have hkl : k < es.length := by rw [HlE.out]; exact hlt
      have hcl := closedN_length es s k (by omega)
      obtain ⟨g, hg, hg0, hg1, c0, c1, c2⟩ := own_edge (l := closedN es s k) (by rw [hcl, HlE.out]; exact hown) (by rw [hcl, HlE.out]; exact h300) (show k < (closedN es s k).length by rw [hcl]; exact hkl)
      subst hg
      rw [closedN_at hkl] at c0
      obtain ⟨x, hx⟩ : ∃ x, es[k].1 = x := ⟨_, rfl⟩
      rw [hx] at c0
      have hki : (k : Int) < (len : Int) := by omega
      have HKL := Lib.hid hkl
      have HX := Lib.hid hx
      have HOWN := Lib.hid hown
      have HCL := Lib.hid hcl
      by_cases hxs : x = s
      · have t1 : (x == s) = true := by simp [hxs]
        have hst := flat_set 0 (closedN es s k) k (by rw [hcl]; exact hkl)
        have HST : Hid ((flat (closedN es s k)).set (k * 3 + 2) (.int .i64 0) = flat (closedN es s (k + 1))) := Lib.hid (by
          rw [hst, closedN_set hkl, closedN_at hkl]
          congr 2
          unfold openE
          rw [if_pos ⟨hx.trans hxs, by simp⟩])
        have hfz := hown.frozenAt (k * 3 + 2)
        have HBN := Lib.hid bN
        have HBR := Lib.hid bR
        have HBB := Lib.hid hB
        have HG0 := Lib.hid hg0
        have c2' := c2
        clear c2
        obtain ⟨y2, hy2⟩ : ∃ y, (closedN es s k)[k].2.2 = y := ⟨_, rfl⟩
        rw [hy2] at c2'
        clear hy2 hst hxs hx hown c1 bN bR hB
        go_wp2
        go_roundw
        case rel =>
          have hge : w.heap.size + 1 < g := Nat.lt_of_lt_of_le HZR.out HG0.out
          refine ⟨k + 1, by omega, by go_num, HBN.out.far (p := ⟨g, k * 3 + 2, none⟩) (by simp; omega) _, HBR.out.far (p := ⟨g, k * 3 + 2, none⟩) (by simp; omega) _, ?_, HBB.out.setCell (p := ⟨g, k * 3 + 2, none⟩) (by simp; omega) _⟩
          have h := (HOWN.out.stored (k * 3 + 2) (.int .i64 0)).1
          rw [HST.out] at h
          exact h
        case measure => simp [intOf]; omega
      · have t1 : (x == s) = false := by simp [hxs]
        have HST : Hid (closedN es s (k + 1) = closedN es s k) := Lib.hid (closedN_same hkl (by rw [hx]; exact hxs))
        have HBN := Lib.hid bN
        have HBR := Lib.hid bR
        have HBB := Lib.hid hB
        clear hxs hx hown c1 c2 bN bR hB
        go_wp2
        go_roundw
        case rel => exact ⟨k + 1, by omega, by go_num, HBN.out, HBR.out, by rw [HST.out]; exact HOWN.out, HBB.out⟩
        case measure => simp [intOf]; omega
    · obtain rfl : k = len := by omega
      have HALL : Hid (closedN es s k = opened es s []) := Lib.hid (by rw [← HlE.out]; exact closedN_all es s)
      rw [HALL.out] at hown
      have HOWN := Lib.hid hown
      have HOL : Hid ((opened es s []).length = k) := Lib.hid (by rw [opened_length]; exact HlE.out)
      obtain ⟨lN, n0, n1⟩ := bN.two
      obtain ⟨lR, r0, r1⟩ := bR.two
      have rf0 := bR.frozen 0
      have rf1 := bR.frozen 1
      have hR2 := ((bR.set 0 (.int .i64 v)).set 1 (.slice sa k sc))
      obtain ⟨_, z0, z1⟩ := hR2.two
      have hown2 : ((w2.setCell ⟨w.heap.size + 1, 0, none⟩ (.int .i64 v)).setCell ⟨w.heap.size + 1, 1, none⟩ (.slice sa k sc)).ownsRow w.heap.size 50 3 (.slice sa k sc) k (flat (opened es s [])) :=
        own_less (ownsRow_setCell_other (ownsRow_setCell_other HOWN.out (a := ⟨w.heap.size + 1, 0, none⟩) (own_blk_ne HOWN.out bR (by decide)) _) (a := ⟨w.heap.size + 1, 1, none⟩) (own_blk_ne HOWN.out bR (by decide)) _) hz0
      have hB2 := (hB.setCell (p := ⟨w.heap.size + 1, 0, none⟩) (by simp) (.int .i64 v)).setCell (p := ⟨w.heap.size + 1, 1, none⟩) (by simp) (.slice sa k sc)
      clear hlt hown
      go_wp2
      refine bodyPost_ret (v := netV v sa k sc) (by simp [results, Try.results23, go_sem, z0, z1]) rfl ?_
      rw [← HOL.out] at hown2
      have hE2 := edges_own hown2 (by rw [HOL.out]; omega)
      refine ⟨sa, sc, by rw [HOL.out], ?_, by rw [HOL.out] at hown2 ⊢; exact hown2, hB2⟩
      have h := hE2.2
      rw [HOL.out] at h ⊢
      exact h
end Go.Proofs.Ythchlfoebkachaa

namespace Go.Proofs.Ythchlfoebkachaa
open Go.RowKit Gm

def endsF (v : Int) (es : List E) (s t : Int) : Bool := right v es && vtx v s && vtx v t && !decide (s = t)
theorem good_zero {v : Int} {es : List E} {s t : Int} (hr : right v es = true) : good v es (List.replicate es.length 0) s t = endsF v es s t := by
  rw [Bool.eq_iff_iff]
  unfold endsF
  simp only [Bool.and_eq_true, Bool.not_eq_true', decide_eq_false_iff_not, vtx, decide_eq_true_eq]
  constructor
  · intro h
    have h' := goodG_iff.1 h
    exact ⟨⟨⟨hr, h'.s0, h'.s1⟩, h'.t0, h'.t1⟩, h'.ne⟩
  · rintro ⟨⟨⟨_, a, b⟩, c, d⟩, e⟩
    obtain ⟨n, rfl⟩ : ∃ n : Nat, v = n := ⟨v.toNat, by have := (right_iff.1 hr).1; omega⟩
    exact goodG_iff.2 (GoodG.zero hr a b c d e).1

set_option maxRecDepth 100000 in
set_option maxHeartbeats 4000000 in
theorem areEnds_any (v : Int) (a : Option Addr) (len cap : Nat) (es : List E) (s t : Int) (w : World) (hE : NetAt w.heap.size w a len es) :
    Calls Try.prog 20 #[netV v a len cap, .int .i64 s, .int .i64 t] w fun e w' => e = .returned (.bool (endsF v es s t)) ∧ Below w.heap.size w w' := by
  obtain ⟨W0, hW0⟩ : ∃ W0, w.alloc (.cells #[.int .i64 v, .slice a len cap] 24) = W0 := ⟨_, rfl⟩
  have hB0 : Below w.heap.size w W0 := by rw [← hW0]; exact (Below.refl _ w).alloc (Nat.le_refl _) _
  have bN : Blk W0 w.heap.size 24 #[.int .i64 v, .slice a len cap] := by rw [← hW0]; exact Blk.new w _ _
  have HW0 := Lib.hid hW0
  have HlE := Lib.hid hE.1
  have HE0 := Lib.hid ((hE.below hB0).more hB0.size)
  have hz0 := hB0.size
  have HB0 := Lib.hid hB0
  have hcells : ∀ W, Below W0.heap.size W0 W → W.cell? ⟨w.heap.size, 0, none⟩ = some (.int .i64 v) ∧ W.cell? ⟨w.heap.size, 1, none⟩ = some (.slice a len cap) := fun W h => (bN.below h bN.lt).two.2
  have HCE := Lib.hid hcells
  clear hW0 hE hB0 bN hcells
  obtain ⟨g, hg⟩ : ∃ g, right v es = g := ⟨_, rfl⟩
  have HG := Lib.hid hg
  clear hg
  have hB := below_drew (Below.refl W0.heap.size W0)
  rcases g with _ | _
  · have HR : Hid (endsF v es s t = false) := Lib.hid (by unfold endsF; rw [HG.out]; rfl)
    go_enter Try.func20, Try.ntmps20
    go_wp2_with fail
    rw [HW0.out]
    refine region_mix (fun W => Below W0.heap.size W0 W) (10) (.reads [0] (.only 1 (.reads [2, 3, 4, 5, 6, 8, 9] (.only 7 (.only 10 (.only 11 (.only 12 (.stop)))))))) (by kernel_rfl) (by kernel_rfl) (hB) ?_
    obtain ⟨wc, hwc⟩ : ∃ W, W0.drew = W := ⟨_, rfl⟩
    rw [hwc] at hB ⊢
    clear hwc
    repeat (
      refine plan_read rfl (fun K hK => ?_)
      first
        | (refine plan_neg ?_ ?_
           focus (go_simp; done)
           go_simp
           refine hK _ ?_
           clear hK K)
        | (apply plan_pos
           focus (go_simp; done)
           focus (
             intro W hW
             (first | obtain ⟨d0, d1⟩ := HCE.out W hW | skip)
             go_simp
             first
               | done
               | exact rfl)
           go_simp
           refine hK _ ?_
           clear hK K))
    refine plan_only rfl (fun Q hQ => ?_)
    go_wp2_with (go_at_call 32; (with_reducible refine (right_any _ _ _ _ es _ (net_on HE0.out hB)).mono ?_); rw [HG.out]; rintro e wd ⟨rfl, hb⟩)
    replace hB := hB.trans (hb.mono hB.size)
    refine hQ _ _ (fun _ => hB) ?_
    clear hQ Q hb
    obtain ⟨wc, rfl⟩ : ∃ W, W = wd := ⟨_, rfl⟩
    repeat (
      refine plan_read rfl (fun K hK => ?_)
      first
        | (refine plan_neg ?_ ?_
           focus (go_simp; done)
           go_simp
           refine hK _ ?_
           clear hK K)
        | (apply plan_pos
           focus (go_simp; done)
           focus (
             intro W hW
             (first | obtain ⟨d0, d1⟩ := HCE.out W hW | skip)
             go_simp
             first
               | done
               | exact rfl)
           go_simp
           refine hK _ ?_
           clear hK K))
    refine plan_only rfl (fun Q hQ => ?_)
    go_wp2
    refine hQ _ _ (fun _ => hB) ?_
    clear hQ Q
    refine plan_only rfl (fun Q hQ => ?_)
    go_wp2
    refine hQ _ _ (fun h => absurd h (by omega)) ?_
    clear hQ Q
    refine plan_only rfl (fun Q hQ => ?_)
    go_wp2
    refine hQ _ _ (fun h => absurd h (by omega)) ?_
    clear hQ Q
    refine plan_only rfl (fun Q hQ => ?_)
    go_wp2
    refine hQ _ _ (fun h => absurd h (by omega)) ?_
    clear hQ Q
    unfold Plan.wp
    go_wp2
    go_ret
    exact ⟨ret_bool HR.out.symm, HB0.out.trans (hB.mono hz0)⟩
  · have hlen : len ≤ 256 := by have := (right_iff.1 HG.out).2.2.1; rw [HlE.out] at this; exact this
    have HR : Hid (good v es (List.replicate len 0) s t = endsF v es s t) := Lib.hid (by rw [← HlE.out]; exact good_zero HG.out)
    have hmk := make_ints len (by omega)
    go_enter Try.func20, Try.ntmps20
    go_wp2_with fail
    rw [HW0.out]
    refine region_mix (fun W => Below W0.heap.size W0 W) (10) (.reads [0] (.only 1 (.reads [2, 3, 4, 5, 6, 8, 9] (.only 7 (.only 10 (.only 11 (.only 12 (.stop)))))))) (by kernel_rfl) (by kernel_rfl) (hB) ?_
    obtain ⟨wc, hwc⟩ : ∃ W, W0.drew = W := ⟨_, rfl⟩
    rw [hwc] at hB ⊢
    clear hwc
    repeat (
      refine plan_read rfl (fun K hK => ?_)
      first
        | (refine plan_neg ?_ ?_
           focus (go_simp; done)
           go_simp
           refine hK _ ?_
           clear hK K)
        | (apply plan_pos
           focus (go_simp; done)
           focus (
             intro W hW
             (first | obtain ⟨d0, d1⟩ := HCE.out W hW | skip)
             go_simp
             first
               | done
               | exact rfl)
           go_simp
           refine hK _ ?_
           clear hK K))
    refine plan_only rfl (fun Q hQ => ?_)
    go_wp2_with (go_at_call 32; (with_reducible refine (right_any _ _ _ _ es _ (net_on HE0.out hB)).mono ?_); rw [HG.out]; rintro e wd ⟨rfl, hb⟩)
    replace hB := hB.trans (hb.mono hB.size)
    refine hQ _ _ (fun _ => hB) ?_
    clear hQ Q hb
    obtain ⟨wc, rfl⟩ : ∃ W, W = wd := ⟨_, rfl⟩
    repeat (
      refine plan_read rfl (fun K hK => ?_)
      first
        | (refine plan_neg ?_ ?_
           focus (go_simp; done)
           go_simp
           refine hK _ ?_
           clear hK K)
        | (apply plan_pos
           focus (go_simp; done)
           focus (
             intro W hW
             (first | obtain ⟨d0, d1⟩ := HCE.out W hW | skip)
             go_simp
             first
               | done
               | exact rfl)
           go_simp
           refine hK _ ?_
           clear hK K))
    refine plan_only rfl (fun Q hQ => ?_)
    go_wp2
    have bZ := Blk.new wc 3 (Array.replicate len (.int .i64 0))
    replace hB := hB.alloc hB.size (.cells (Array.replicate len (.int .i64 0)) 3)
    refine hQ _ _ (fun _ => hB) ?_
    clear hQ Q
    generalize wc.alloc (.cells (Array.replicate len (.int .i64 0)) 3) = wd at *
    generalize wc.heap.size = Z at *
    have hZ : FlowAt wd.heap.size wd (some ⟨Z, 0, none⟩) len (List.replicate len 0) := by
      have e : Array.replicate len (Value.int .i64 0) = (ints (List.replicate len 0)).toArray := by apply Array.toList_inj.1; simp
      rw [e] at bZ
      have h := flow_blk bZ (by simp; omega)
      simpa using h
    have HZ := Lib.hid hZ
    clear hZ bZ
    obtain ⟨wc, rfl⟩ : ∃ W, W = wd := ⟨_, rfl⟩
    refine plan_only rfl (fun Q hQ => ?_)
    go_wp2_with (go_at_call 33; (with_reducible refine (good_any _ _ _ _ es _ _ _ (List.replicate len 0) s t _ (net_on HE0.out hB) HZ.out).mono ?_); rintro e wd ⟨rfl, hb⟩)
    replace hB := hB.trans (hb.mono hB.size)
    refine hQ _ _ (fun h => absurd h (by omega)) ?_
    clear hQ Q hb HZ
    obtain ⟨wc, rfl⟩ : ∃ W, W = wd := ⟨_, rfl⟩
    refine plan_only rfl (fun Q hQ => ?_)
    go_wp2
    refine hQ _ _ (fun h => absurd h (by omega)) ?_
    clear hQ Q
    refine plan_only rfl (fun Q hQ => ?_)
    go_wp2
    refine hQ _ _ (fun h => absurd h (by omega)) ?_
    clear hQ Q
    unfold Plan.wp
    go_wp2
    go_ret
    exact ⟨ret_bool HR.out, HB0.out.trans (hB.mono hz0)⟩
end Go.Proofs.Ythchlfoebkachaa
