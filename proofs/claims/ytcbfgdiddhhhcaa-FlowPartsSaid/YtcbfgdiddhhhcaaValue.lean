/-
  graph.Value, graph.Good.
-/
import Derived.Test.YtcbfgdiddhhhcaaGains
namespace Go.Proofs.Ytcbfgdiddhhhcaa
open Go.RowKit Gm


set_option maxRecDepth 100000 in
set_option maxHeartbeats 2000000 in
theorem value_any (v : Int) (a : Option Addr) (len cap : Nat) (es : List E) (fa : Option Addr) (flen fcap : Nat) (fl : List Int) (s : Int) (w : World) (hE : NetAt w.heap.size w a len es) (hF : FlowAt w.heap.size w fa flen fl) :
    Calls Try.prog 24 #[netV v a len cap, .slice fa flen fcap, .int .i64 s] w fun e w' => e = .returned (.int .i64 (value v es fl s)) ∧ Below w.heap.size w w' := by
  obtain ⟨W0, hW0⟩ : ∃ W0, w.alloc (.cells #[.int .i64 v, .slice a len cap] 24) = W0 := ⟨_, rfl⟩
  have hB0 : Below w.heap.size w W0 := by rw [← hW0]; exact (Below.refl _ w).alloc (Nat.le_refl _) _
  have bN : Blk W0 w.heap.size 24 #[.int .i64 v, .slice a len cap] := by rw [← hW0]; exact Blk.new w _ _
  have HW0 := Lib.hid hW0
  clear hW0
  have hE0 := (hE.below hB0).more hB0.size
  have hF0 := (hF.below hB0).more hB0.size
  have lN := bN.lt
  rcases hf : fits v es fl with _ | _
  · have HV : Hid (value v es fl s = 0) := Lib.hid (by simp [value, hf])
    go_enter Try.func24, Try.ntmps24
    go_wp2_with (go_at_call 36; rw [HW0.out]; refine (fits_any _ _ _ _ es _ _ _ fl _ hE0 hF0).mono ?_; rw [hf]; rintro e w1 ⟨rfl, hb1⟩)
    go_ret
    exact ⟨ret_int HV.out.symm, hB0.trans (hb1.mono hB0.size)⟩
  · rcases hs : vtx v s with _ | _
    · have HV : Hid (value v es fl s = 0) := Lib.hid (by simp [value, hs])
      go_enter Try.func24, Try.ntmps24
      go_wp2_with (first
        | (go_at_call 36; rw [HW0.out]; refine (fits_any _ _ _ _ es _ _ _ fl _ hE0 hF0).mono ?_; rw [hf]; rintro e w1 ⟨rfl, hb1⟩
           obtain ⟨lN1, n0, n1⟩ := (bN.below hb1 lN).two)
        | (go_at_call 37; refine (isv_any _ _ _ _ _ _).mono ?_; rw [hs]; rintro e w2 ⟨rfl, rfl⟩))
      go_ret
      exact ⟨ret_int HV.out.symm, (hB0.trans (hb1.mono hB0.size)).alloc (by have := hb1.size; omega) _⟩
    · have HV : Hid (value v es fl s = gain (es.zip fl) s) := Lib.hid (by simp [value, hf, hs])
      obtain ⟨n, rfl⟩ : ∃ n : Nat, v = n := ⟨v.toNat, by have := fits_n hf; omega⟩
      have hs' : 0 ≤ s ∧ s < (n : Int) := by simpa [vtx] using hs
      obtain ⟨hs0, hs1⟩ := hs'
      go_enter Try.func24, Try.ntmps24
      go_wp2_with (first
        | (go_at_call 36; rw [HW0.out]; refine (fits_any _ _ _ _ es _ _ _ fl _ hE0 hF0).mono ?_; rw [hf]; rintro e w1 ⟨rfl, hb1⟩
           obtain ⟨lN1, n0, n1⟩ := (bN.below hb1 lN).two
           have hB1 : Below w.heap.size w w1 := hB0.trans (hb1.mono hB0.size))
        | (go_at_call 37; refine (isv_any _ _ _ _ _ _).mono ?_; rw [hs]; rintro e w2 ⟨rfl, hw2⟩
           have hB2 : Below w.heap.size w w2 := by rw [hw2]; exact hB1.alloc hB1.size _
           have bN2 : Blk w2 w.heap.size 24 #[.int .i64 (n : Int), .slice a len cap] := by rw [hw2]; exact (bN.below hb1 lN).alloc _
           obtain ⟨lN2, m0, m1⟩ := bN2.two
           clear hw2)
        | (go_at_call 38; refine (gains_any _ _ _ _ es _ _ _ fl _ ((hE.below hB2).more hB2.size) ((hF.below hB2).more hB2.size) hf).mono ?_; rintro e w3 ⟨g, rfl, hg, bG, hb3⟩
           have gs := bG.cell s.toNat
           rw [gainV_at _ _ _ (by omega), show ((s.toNat : Nat) : Int) = s by omega] at gs
           have lG := bG.lt))
      go_ret
      exact ⟨ret_int HV.out.symm, hB2.trans (hb3.mono hB2.size)⟩

set_option maxRecDepth 100000 in
set_option maxHeartbeats 2000000 in
theorem good_any (v : Int) (a : Option Addr) (len cap : Nat) (es : List E) (fa : Option Addr) (flen fcap : Nat) (fl : List Int) (s t : Int) (w : World) (hE : NetAt w.heap.size w a len es) (hF : FlowAt w.heap.size w fa flen fl) :
    Calls Try.prog 25 #[netV v a len cap, .slice fa flen fcap, .int .i64 s, .int .i64 t] w fun e w' => e = .returned (.bool (good v es fl s t)) ∧ Below w.heap.size w w' := by
  obtain ⟨W0, hW0⟩ : ∃ W0, w.alloc (.cells #[.int .i64 v, .slice a len cap] 24) = W0 := ⟨_, rfl⟩
  have hB0 : Below w.heap.size w W0 := by rw [← hW0]; exact (Below.refl _ w).alloc (Nat.le_refl _) _
  have bN : Blk W0 w.heap.size 24 #[.int .i64 v, .slice a len cap] := by rw [← hW0]; exact Blk.new w _ _
  have HW0 := Lib.hid hW0
  clear hW0
  have hE0 := (hE.below hB0).more hB0.size
  have hF0 := (hF.below hB0).more hB0.size
  have lN := bN.lt
  rcases hf : fits v es fl with _ | _
  · have HV : Hid (good v es fl s t = false) := Lib.hid (by simp [good, hf])
    go_enter Try.func25, Try.ntmps25
    go_wp2_with (go_at_call 36; rw [HW0.out]; refine (fits_any _ _ _ _ es _ _ _ fl _ hE0 hF0).mono ?_; rw [hf]; rintro e w1 ⟨rfl, hb1⟩)
    go_ret
    exact ⟨ret_bool HV.out.symm, hB0.trans (hb1.mono hB0.size)⟩
  · rcases hs : vtx v s with _ | _
    · have HV : Hid (good v es fl s t = false) := Lib.hid (by simp [good, hs])
      go_enter Try.func25, Try.ntmps25
      go_wp2_with (first
        | (go_at_call 36; rw [HW0.out]; refine (fits_any _ _ _ _ es _ _ _ fl _ hE0 hF0).mono ?_; rw [hf]; rintro e w1 ⟨rfl, hb1⟩
           obtain ⟨lN1, n0, n1⟩ := (bN.below hb1 lN).two)
        | (go_at_call 37; refine (isv_any _ _ _ _ _ _).mono ?_; rw [hs]; rintro e w2 ⟨rfl, rfl⟩))
      go_ret
      exact ⟨ret_bool HV.out.symm, (hB0.trans (hb1.mono hB0.size)).alloc (by have := hb1.size; omega) _⟩
    · rcases ht : vtx v t with _ | _
      · have HV : Hid (good v es fl s t = false) := Lib.hid (by simp [good, ht])
        go_enter Try.func25, Try.ntmps25
        go_wp2_with (first
          | (go_at_call 36; rw [HW0.out]; refine (fits_any _ _ _ _ es _ _ _ fl _ hE0 hF0).mono ?_; rw [hf]; rintro e w1 ⟨rfl, hb1⟩
             obtain ⟨lN1, n0, n1⟩ := (bN.below hb1 lN).two)
          | (go_at_call 37; (with_reducible refine (isv_any _ _ _ _ s _).mono ?_); rw [hs]; rintro e w2 ⟨rfl, rfl⟩)
          | (go_at_call 37; (with_reducible refine (isv_any _ _ _ _ t _).mono ?_); rw [ht]; rintro e w2 ⟨rfl, rfl⟩))
        go_ret
        exact ⟨ret_bool HV.out.symm, ((hB0.trans (hb1.mono hB0.size)).alloc (by have := hb1.size; omega) _).alloc (by have := hb1.size; simp; omega) _⟩
      · obtain ⟨n, rfl⟩ : ∃ n : Nat, v = n := ⟨v.toNat, by have := fits_n hf; omega⟩
        by_cases hst : s = t
        · have HV : Hid (good n es fl s t = false) := Lib.hid (by simp [good, hst])
          have h1 : (s == t) = true := by simpa using hst
          clear hst
          go_enter Try.func25, Try.ntmps25
          go_wp2_with (first
            | (go_at_call 36; rw [HW0.out]; refine (fits_any _ _ _ _ es _ _ _ fl _ hE0 hF0).mono ?_; rw [hf]; rintro e w1 ⟨rfl, hb1⟩
               obtain ⟨lN1, n0, n1⟩ := (bN.below hb1 lN).two)
            | (go_at_call 37; (with_reducible refine (isv_any _ _ _ _ s _).mono ?_); rw [hs]; rintro e w2 ⟨rfl, rfl⟩)
            | (go_at_call 37; (with_reducible refine (isv_any _ _ _ _ t _).mono ?_); rw [ht]; rintro e w2 ⟨rfl, rfl⟩))
          go_ret
          exact ⟨ret_bool HV.out.symm, ((hB0.trans (hb1.mono hB0.size)).alloc (by have := hb1.size; omega) _).alloc (by have := hb1.size; simp; omega) _⟩
        · have h1 : (s == t) = false := by simpa using hst
          have hn := fits_n hf
          have HG : Hid (good n es fl s t = true ↔ ∀ u : Nat, (u : Int) < n → gain (es.zip fl) u = 0 ∨ (u : Int) = s ∨ (u : Int) = t) := Lib.hid (by
            rw [good_iff]; simp [hf, hs, ht, hst])
          clear hst
          go_enter Try.func25, Try.ntmps25
          go_wp2_with (first
            | (go_at_call 36; rw [HW0.out]; refine (fits_any _ _ _ _ es _ _ _ fl _ hE0 hF0).mono ?_; rw [hf]; rintro e w1 ⟨rfl, hb1⟩
               obtain ⟨lN1, n0, n1⟩ := (bN.below hb1 lN).two
               have hB1 : Below w.heap.size w w1 := hB0.trans (hb1.mono hB0.size))
            | (go_at_call 37; (with_reducible refine (isv_any _ _ _ _ s _).mono ?_); rw [hs]; rintro e w2 ⟨rfl, hw2⟩
               have hB2 : Below w.heap.size w w2 := by rw [hw2]; exact hB1.alloc hB1.size _
               have bN2 : Blk w2 w.heap.size 24 #[.int .i64 (n : Int), .slice a len cap] := by rw [hw2]; exact (bN.below hb1 lN).alloc _
               obtain ⟨lN2, m0, m1⟩ := bN2.two
               clear hw2)
            | (go_at_call 37; (with_reducible refine (isv_any _ _ _ _ t _).mono ?_); rw [ht]; rintro e w3 ⟨rfl, hw3⟩
               have hB3 : Below w.heap.size w w3 := by rw [hw3]; exact hB2.alloc hB2.size _
               have bN3 : Blk w3 w.heap.size 24 #[.int .i64 (n : Int), .slice a len cap] := by rw [hw3]; exact bN2.alloc _
               obtain ⟨lN3, o0, o1⟩ := bN3.two
               clear hw3)
            | (go_at_call 38; refine (gains_any _ _ _ _ es _ _ _ fl _ ((hE.below hB3).more hB3.size) ((hF.below hB3).more hB3.size) hf).mono ?_; rintro e w4 ⟨g, rfl, hg, bG, hb4⟩
               have lG := bG.lt
               have hB4 : Below w.heap.size w w4 := hB3.trans (hb4.mono hB3.size)))
          go_loop [36] (fun i => ∃ k : Nat, k ≤ n ∧ i = .int .i64 k ∧ ∀ u : Nat, u < k → gain (es.zip fl) u = 0 ∨ (u : Int) = s ∨ (u : Int) = t) (fun i => n - (intOf i).toNat)
          case atStart => exact ⟨0, Nat.zero_le _, rfl, fun u hu => by omega⟩
          case round =>
            obtain ⟨k, hk, rfl, hall⟩ := hrel
            have HA := Lib.hid hall
            clear hall
            by_cases hlt : k < n
            · have gk := bG.cell k
              rw [gainV_at _ _ _ hlt] at gk
              obtain ⟨q, hq⟩ : ∃ q, gain (es.zip fl) k = q := ⟨_, rfl⟩
              rw [hq] at gk
              have HQ := Lib.hid hq
              clear hq
              by_cases hbad : q ≠ 0 ∧ (k : Int) ≠ s ∧ (k : Int) ≠ t
              · have HV : Hid (good n es fl s t = false) := Lib.hid (by
                  rcases h : good n es fl s t with _ | _
                  · rfl
                  · have := HG.out.1 h k (by omega)
                    rw [HQ.out] at this; omega)
                have b1 : (q != 0) = true := by simpa using hbad.1
                have b2 : ((k : Int) != s) = true := by simpa using hbad.2.1
                have b3 : ((k : Int) != t) = true := by simpa using hbad.2.2
                have c1 : (q == 0) = false := by simpa using hbad.1
                have c2 : ((k : Int) == s) = false := by simpa using hbad.2.1
                have c3 : ((k : Int) == t) = false := by simpa using hbad.2.2
                clear hbad
                go_wp2
                go_ret
                exact ⟨ret_bool HV.out.symm, hB4⟩
              · have hok : Hid (∀ u : Nat, u < k + 1 → gain (es.zip fl) u = 0 ∨ (u : Int) = s ∨ (u : Int) = t) := Lib.hid (fun u hu => by
                  rcases Nat.lt_or_ge u k with h | h
                  · exact HA.out u h
                  · obtain rfl : u = k := by omega
                    rw [HQ.out]; omega)
                have hc : ((q != 0) = false ∧ (q == 0) = true) ∨ (((q != 0) = true ∧ (q == 0) = false) ∧ ((k : Int) != s) = false ∧ ((k : Int) == s) = true) ∨ (((q != 0) = true ∧ (q == 0) = false) ∧ (((k : Int) != s) = true ∧ ((k : Int) == s) = false) ∧ ((k : Int) != t) = false ∧ ((k : Int) == t) = true) := by
                  by_cases x0 : q = 0
                  · left; simp [x0]
                  · by_cases x1 : (k : Int) = s
                    · right; left; simp [x0, x1]
                    · have x2 : (k : Int) = t := by omega
                      right; right; simp [x0, x2]
                      intro e; omega
                clear hbad
                rcases hc with ⟨b1, c1⟩ | ⟨⟨b1, c1⟩, b2, c2⟩ | ⟨⟨b1, c1⟩, ⟨b2, c2⟩, b3, c3⟩
                all_goals
                  go_wp2
                  go_round
                  case rel => exact ⟨k + 1, by omega, by go_num, hok.out⟩
                  case measure => simp [intOf]; omega
            · obtain rfl : k = n := by omega
              have HV : Hid (good k es fl s t = true) := Lib.hid (HG.out.2 fun u hu => HA.out u (by omega))
              go_wp2
              go_ret
              exact ⟨ret_bool HV.out.symm, hB4⟩
end Go.Proofs.Ytcbfgdiddhhhcaa
