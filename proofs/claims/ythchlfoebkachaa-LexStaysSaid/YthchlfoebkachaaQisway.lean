/-
  The document's own isWay, walked.
-/
import Derived.Deep.DeepCutAuto
import Derived.Test.YthchlfoebkachaaOwn
import Derived.Test.YthchlfoebkachaaFit
import Derived.Test.YthchlfoebkachaaFlow
import Derived.Test.YthchlfoebkachaaNumbers7
namespace Go.Proofs.Ythchlfoebkachaa
open Go.RowKit Gm

abbrev wayV (a : Option Addr) (len cap : Nat) (c : Int) : Value := .agg #[.slice a len cap, .int .i64 c]
def IsWayAt (w : World) (n : Nat) (es : List E) (s t : Int) (W : List Int) (k : Nat) (uv : Value) (wr : World) : Prop :=
  ∃ (u : Int) (seen : List Bool), uv = .int .i64 u ∧ 0 ≤ u ∧ u < n ∧ seen.length = n ∧ Hid (walkW es t W s (Gm.start (n : Int) s) = walkW es t (W.drop k) u seen) ∧ Blk wr (w.heap.size + 1 + 1) 4 (boolsA seen)

set_option maxRecDepth 100000 in
set_option maxHeartbeats 4000000 in
theorem qisWay_any (n : Nat) (a : Option Addr) (len cap : Nat) (es : List E) (s t src : Int) (ea : Option Addr) (el ec : Nat) (W : List Int) (c : Int) (w : World) (hE : NetAt w.heap.size w a len es) (hW : FlowAt w.heap.size w ea el W) (hr : right n es = true) (s0 : 0 ≤ s) (s1 : s < n) :
    Calls Try.prog 43 #[netV n a len cap, .int .i64 s, .int .i64 t, .int .i64 src, wayV ea el ec c] w fun e w' => e = .returned (.bool (isWayF n es s t src (W, c))) ∧ Below w.heap.size w w' := by
  have hri := right_iff.1 hr
  have hn64 : n ≤ 64 := by omega
  have HlE := Lib.hid hE.1
  have HlW := Lib.hid hW.1
  have hlen : len ≤ 256 := by have := hri.2.2.1; rw [hE.1] at this; omega
  have HOK : Hid (∀ e ∈ es, okE n e = true) := Lib.hid hri.2.2.2
  have HE := Lib.hid hE
  have HW := Lib.hid hW
  have hwl := hW.2.1
  have hmb := make_bools n (by omega)
  -- the head: why it may be none
  have hF : isWayF n es s t src (W, c) = (decide (1 ≤ el) && decide (el ≤ n) && decide (W[0]?.getD 0 = src) && decide (0 ≤ c) && decide (c ≤ 1000) && walkW es t W s (Gm.start (n : Int) s)) := by
    unfold isWayF; rw [hW.1]
  have HF := Lib.hid hF
  clear hri hE hW hr hF
  have hb1 : ∀ cs, Below w.heap.size w ((w.alloc (.cells #[.int .i64 (n : Int), .slice a len cap] 24)).alloc (.cells cs 44)) := fun cs => ((Below.refl _ w).alloc (Nat.le_refl _) _).alloc (by simp) _
  by_cases h1 : 1 ≤ el
  · by_cases h2 : el ≤ n
    · obtain ⟨eb, eo, hea, hec⟩ := HW.out.2.2.int
      obtain ⟨heb, e0⟩ := hec 0 (by rw [HlW.out]; omega)
      obtain rfl : ea = some ⟨eb, eo, none⟩ := by
        rcases hea with h | h
        · rw [HlW.out] at h; omega
        · exact h
      obtain ⟨x0, hx0⟩ : ∃ x, W[0]?.getD 0 = x := ⟨_, rfl⟩
      rw [hx0] at e0
      have HX0 := Lib.hid hx0
      have hw0 : w.cell? ⟨eb, eo, none⟩ = some (.int .i64 x0) := by simpa using e0
      have h3 : ¬ (el : Int) < 1 := by omega
      have h4 : ¬ (n : Int) < (el : Int) := by omega
      clear hea hec hx0 e0
      by_cases h5 : x0 = src ∧ 0 ≤ c ∧ c ≤ 1000
      · have HF2 : Hid (isWayF n es s t src (W, c) = walkW es t W s (Gm.start (n : Int) s)) := Lib.hid (by
          rw [HF.out, HX0.out]; simp [h1, h2, h5])
        obtain ⟨h5, h6, h7⟩ := h5
        have t1 : (x0 != src) = false := by simp [h5]
        have h8 : ¬ c < 0 := by omega
        have h9 : ¬ 1000 < c := by omega
        clear h5
        go_enter Try.func43, Try.ntmps43
        go_wp2
        go_loopw [12, 13] (fun uv kv wr => ∃ k : Nat, k ≤ el ∧ kv = .int .i64 k ∧ IsWayAt w n es s t W k uv wr ∧ (Blk wr w.heap.size 24 #[.int .i64 (n : Int), .slice a len cap] ∧ Blk wr (w.heap.size + 1) 44 #[.slice (some ⟨eb, eo, none⟩) el ec, .int .i64 c]) ∧ Below w.heap.size w wr) (fun _ kv _ => el - (intOf kv).toNat)
        case atStart =>
          have hb3 := (hb1 #[.slice (some ⟨eb, eo, none⟩) el ec, .int .i64 c]).alloc (by simp; omega) (.cells ((Array.replicate n (.bool false)).setIfInBounds s.toNat (.bool true)) 4)
          refine ⟨0, Nat.zero_le _, rfl, ⟨s, Gm.start (n : Int) s, rfl, s0, s1, by simp [Gm.start], Lib.hid (by simp), ?_⟩, ⟨((Blk.new w _ _).alloc _).alloc _, ?_⟩, hb3⟩
          · have h := Blk.new ((w.alloc (.cells #[.int .i64 (n : Int), .slice a len cap] 24)).alloc (.cells #[.slice (some ⟨eb, eo, none⟩) el ec, .int .i64 c] 44)) 4 ((Array.replicate n (.bool false)).setIfInBounds s.toNat (.bool true))
            rw [← boolsA_rep, boolsA_set] at h
            simp only [World.size_alloc] at h
            have e : (List.replicate n false).set s.toNat true = Gm.start (n : Int) s := by simp [Gm.start]
            rw [e] at h
            rw [← boolsA_rep, boolsA_set, e]
            exact h
          · have h := (Blk.new (w.alloc (.cells #[.int .i64 (n : Int), .slice a len cap] 24)) 44 #[.slice (some ⟨eb, eo, none⟩) el ec, .int .i64 c]).alloc (.cells ((Array.replicate n (.bool false)).setIfInBounds s.toNat (.bool true)) 4)
            simpa using h
        case round =>
          obtain ⟨k, hk, rfl, ⟨u, seen, rfl, u0, u1, hsl, hin, bS⟩, ⟨bN, bW⟩, hB⟩ := hrel
          obtain ⟨w1, rfl⟩ : ∃ w', w' = wr := ⟨_, rfl⟩
          obtain ⟨lN, n0, n1⟩ := bN.two
          obtain ⟨lW, v0, v1⟩ := bW.two
          have hz1 := hB.size
          have HSL := Lib.hid hsl
          by_cases hlt : k < el
          · have hkW : k < W.length := by rw [HlW.out]; exact hlt
            obtain ⟨eb', eo', hea', hec'⟩ := (HW.out.below hB).2.2.int
            obtain ⟨heb', ek⟩ := hec' k hkW
            obtain ⟨rfl, rfl⟩ : eb = eb' ∧ eo = eo' := by
              rcases hea' with h | h
              · omega
              · injection h with h; injection h with h1 h2; exact ⟨h1, h2⟩
            have hdr : W.drop k = (W[k]?.getD 0) :: W.drop (k + 1) := by
              rw [List.drop_eq_getElem_cons hkW, List.getElem?_eq_getElem hkW]; rfl
            obtain ⟨i, hi⟩ : ∃ i, W[k]?.getD 0 = i := ⟨_, rfl⟩
            rw [hi] at ek hdr
            have hst := hin.out
            rw [hdr] at hst
            simp only [walkW] at hst
            have hkk : (k : Int) < (el : Int) := by omega
            have heb1 : eb < w1.heap.size := by omega
            clear hea' hec' hi hdr hkW hin hsl
            by_cases q1 : i < 0
            · have HR : Hid (isWayF n es s t src (W, c) = false) := Lib.hid (by
                rw [HF2.out, hst, decide_eq_false (show ¬ (0 ≤ i) by omega)]; simp)
              clear hst
              go_wp2
              go_ret
              exact ⟨ret_bool HR.out.symm, hB⟩
            · by_cases q2 : i < (len : Int)
              · have hil : i.toNat < es.length := by rw [HlE.out]; omega
                obtain ⟨b, off, ha, hc⟩ := (HE.out.below hB).2.2
                obtain ⟨hb, c0, c1, c2⟩ := hc i.toNat hil
                obtain rfl : a = some ⟨b, off, none⟩ := by
                  rcases ha with h | h
                  · omega
                  · exact h
                have hed : ed es i.toNat = es[i.toNat] := by unfold ed; rw [List.getElem?_eq_getElem hil]; rfl
                have ho := okE_iff.1 (HOK.out _ (ed_mem hil))
                rw [← hed] at c0 c1 c2
                obtain ⟨x, hx⟩ : ∃ x, ed es i.toNat = x := ⟨_, rfl⟩
                rw [hx] at c0 c1 c2 ho hst
                have hb1' : b < w1.heap.size := by omega
                have q1' : (0 : Int) ≤ i := by omega
                have cs := bS.cell x.2.1.toNat
                rw [boolsA_at _ _ (by rw [HSL.out]; omega)] at cs
                obtain ⟨z, hz⟩ : ∃ z, seen[x.2.1.toNat]?.getD false = z := ⟨_, rfl⟩
                rw [hz] at cs
                have hz' : has seen x.2.1 = z := hz
                have lS := bS.lt
                have hlenI : (es.length : Int) = (len : Int) := by rw [HlE.out]
                rw [decide_eq_true q1', decide_eq_true (show i < (es.length : Int) by omega), hz'] at hst
                have y0 := ho.2.2.1
                have y1 := ho.2.2.2.1
                have HST := Lib.hid hst
                have hlenq : ¬ (len : Int) ≤ i := by omega
                clear ha hc hx hed ho hz hz' hil hst hlenI
                by_cases q3 : x.1 = u
                · have t2 : (x.1 != u) = false := by simp [q3]
                  have HQ3 := Lib.hid q3
                  clear q3
                  rcases z with _ | _
                  · have HNX : Hid (walkW es t W s (Gm.start (n : Int) s) = walkW es t (W.drop (k + 1)) x.2.1 (seen.set x.2.1.toNat true)) := Lib.hid (by
                      rw [HST.out, HQ3.out]; simp)
                    have sf := bS.frozen x.2.1.toNat
                    go_wp2
                    go_roundw
                    case rel =>
                      refine ⟨k + 1, by omega, by go_num, ⟨x.2.1, seen.set x.2.1.toNat true, rfl, y0, y1, by simp [HSL.out], HNX, by rw [← boolsA_set]; exact bS.set _ _⟩, ⟨bN.far (p := ⟨w.heap.size + 1 + 1, x.2.1.toNat, none⟩) (by simp; omega) _, bW.far (p := ⟨w.heap.size + 1 + 1, x.2.1.toNat, none⟩) (by simp) _⟩, hB.setCell (p := ⟨w.heap.size + 1 + 1, x.2.1.toNat, none⟩) (by simp; omega) _⟩
                    case measure => simp [intOf]; omega
                  · have HR : Hid (isWayF n es s t src (W, c) = false) := Lib.hid (by
                      rw [HF2.out, HST.out]; simp)
                    go_wp2
                    go_ret
                    exact ⟨ret_bool HR.out.symm, hB⟩
                · have t2 : (x.1 != u) = true := by simp [q3]
                  have HR : Hid (isWayF n es s t src (W, c) = false) := Lib.hid (by
                    rw [HF2.out, HST.out, decide_eq_false q3]; simp)
                  clear q3
                  go_wp2
                  go_ret
                  exact ⟨ret_bool HR.out.symm, hB⟩
              · have HR : Hid (isWayF n es s t src (W, c) = false) := Lib.hid (by
                  rw [HF2.out, hst, decide_eq_false (show ¬ (i < (es.length : Int)) by rw [HlE.out]; exact q2)]; simp)
                have q2' : (len : Int) ≤ i := by omega
                clear hst
                go_wp2
                go_ret
                exact ⟨ret_bool HR.out.symm, hB⟩
          · obtain rfl : k = el := by omega
            have HR : Hid (isWayF n es s t src (W, c) = decide (u = t)) := Lib.hid (by
              rw [HF2.out, hin.out, List.drop_eq_nil_of_le (by rw [HlW.out]; exact Nat.le_refl _)]; rfl)
            have e : (u == t) = decide (u = t) := by rw [Bool.eq_iff_iff]; simp
            have HEQ := Lib.hid e
            clear e
            go_wp2
            go_ret
            exact ⟨ret_bool (by rw [HR.out]; exact HEQ.out), hB⟩
      · have HR : Hid (isWayF n es s t src (W, c) = false) := Lib.hid (by
          rw [HF.out, HX0.out]
          by_cases a1 : x0 = src
          · by_cases a2 : 0 ≤ c
            · have a3 : ¬ c ≤ 1000 := fun h => h5 ⟨a1, a2, h⟩
              simp [a3]
            · simp [a2]
          · simp [a1])
        have hw : (x0 != src) = true ∨ ((x0 != src) = false ∧ c < 0) ∨ ((x0 != src) = false ∧ ¬ c < 0 ∧ 1000 < c) := by
          by_cases a1 : x0 = src
          · by_cases a2 : 0 ≤ c
            · have a3 : ¬ c ≤ 1000 := fun h => h5 ⟨a1, a2, h⟩
              exact .inr (.inr ⟨by simp [a1], by omega, by omega⟩)
            · exact .inr (.inl ⟨by simp [a1], by omega⟩)
          · exact .inl (by simp [a1])
        clear h5
        rcases hw with t1 | ⟨t1, t2⟩ | ⟨t1, t2, t3⟩
        all_goals
          go_enter Try.func43, Try.ntmps43
          go_wp2
          go_ret
          exact ⟨ret_bool HR.out.symm, hb1 _⟩
    · have HR : Hid (isWayF n es s t src (W, c) = false) := Lib.hid (by rw [HF.out]; simp [h2])
      have h3 : ¬ (el : Int) < 1 := by omega
      have h4 : (n : Int) < (el : Int) := by omega
      go_enter Try.func43, Try.ntmps43
      go_wp2
      go_ret
      exact ⟨ret_bool HR.out.symm, hb1 _⟩
  · have HR : Hid (isWayF n es s t src (W, c) = false) := Lib.hid (by rw [HF.out]; simp [h1])
    have h3 : (el : Int) < 1 := by omega
    go_enter Try.func43, Try.ntmps43
    go_wp2
    go_ret
    exact ⟨ret_bool HR.out.symm, hb1 _⟩
end Go.Proofs.Ythchlfoebkachaa
