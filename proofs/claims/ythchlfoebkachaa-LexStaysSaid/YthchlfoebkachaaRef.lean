/-
  The document's own answers: Right, fits, out.
-/
import Derived.Test.YthchlfoebkachaaShare
namespace Go.Proofs.Ythchlfoebkachaa
open Go.RowKit Gm

def QRightAt (w : World) (v : Int) (a : Option Addr) (len cap : Nat) (es : List E) (k : Nat) (wr : World) : Prop :=
  Blk wr w.heap.size 24 #[.int .i64 v, .slice a len cap] ∧ (∀ j (h : j < es.length), j < k → okE v es[j] = true) ∧ Below w.heap.size w wr
theorem right_no {v : Int} {es : List E} {k : Nat} (hk : k < es.length) (h : okE v es[k] = false) : right v es = false := by
  rcases hr : right v es with _ | _
  · rfl
  · rw [(right_iff.1 hr).2.2.2 _ (List.getElem_mem hk)] at h; cases h
theorem ok_ways (v : Int) (e : E) : (okE v e = false ∧ (e.1 < 0 ∨ (0 ≤ e.1 ∧ v ≤ e.1) ∨ (0 ≤ e.1 ∧ e.1 < v ∧ e.2.1 < 0) ∨ (0 ≤ e.1 ∧ e.1 < v ∧ 0 ≤ e.2.1 ∧ v ≤ e.2.1) ∨ (0 ≤ e.1 ∧ e.1 < v ∧ 0 ≤ e.2.1 ∧ e.2.1 < v ∧ (e.1 == e.2.1) = true) ∨ (0 ≤ e.1 ∧ e.1 < v ∧ 0 ≤ e.2.1 ∧ e.2.1 < v ∧ (e.1 == e.2.1) = false ∧ e.2.2 < 0) ∨ (0 ≤ e.1 ∧ e.1 < v ∧ 0 ≤ e.2.1 ∧ e.2.1 < v ∧ (e.1 == e.2.1) = false ∧ 0 ≤ e.2.2 ∧ 1000 < e.2.2))) ∨
    (okE v e = true ∧ 0 ≤ e.1 ∧ e.1 < v ∧ 0 ≤ e.2.1 ∧ e.2.1 < v ∧ (e.1 == e.2.1) = false ∧ 0 ≤ e.2.2 ∧ e.2.2 ≤ 1000) := by
  by_cases h : okE v e = true
  rotate_left
  · left
    have h : okE v e = false := by simpa using h
    refine ⟨h, ?_⟩
    have hn : ¬ (0 ≤ e.1 ∧ e.1 < v ∧ 0 ≤ e.2.1 ∧ e.2.1 < v ∧ e.1 ≠ e.2.1 ∧ 0 ≤ e.2.2 ∧ e.2.2 ≤ 1000) := fun h' => by rw [okE_iff.2 h'] at h; cases h
    have heq : (e.1 == e.2.1) = decide (e.1 = e.2.1) := by rfl
    rw [heq]
    simp only [decide_eq_true_eq, decide_eq_false_iff_not]
    omega
  · right
    have := okE_iff.1 h
    have heq : (e.1 == e.2.1) = decide (e.1 = e.2.1) := by rfl
    rw [heq]
    simp only [decide_eq_false_iff_not]
    exact ⟨h, this.1, this.2.1, this.2.2.1, this.2.2.2.1, this.2.2.2.2.1, this.2.2.2.2.2.1, this.2.2.2.2.2.2⟩

set_option maxRecDepth 100000 in
set_option maxHeartbeats 2000000 in
theorem qright_any (v : Int) (a : Option Addr) (len cap : Nat) (es : List E) (w : World) (hE : NetAt w.heap.size w a len es) :
    Calls Try.prog 42 #[netV v a len cap] w fun e w' => e = .returned (.bool (right v es)) ∧ Below w.heap.size w w' := by
  have HlE := Lib.hid hE.1
  have HE := Lib.hid hE
  have hl := hE.2.1
  clear hE
  by_cases hs : 2 ≤ v ∧ v ≤ 64 ∧ len ≤ 256
  · obtain ⟨h1, h2, h3⟩ := hs
    go_enter Try.func42, Try.ntmps42
    go_wp2
    go_loopw [3] (fun i wr => ∃ k : Nat, k ≤ len ∧ i = .int .i64 k ∧ QRightAt w v a len cap es k wr) (fun i _ => len - (intOf i).toNat)
    case atStart => exact ⟨0, Nat.zero_le _, rfl, Blk.new w _ _, fun j _ h => by omega, (Below.refl _ w).alloc (Nat.le_refl _) _⟩
    case round =>
      obtain ⟨k, hk, rfl, bN, hok, hB⟩ := hrel
      obtain ⟨w1, rfl⟩ : ∃ w', w' = wr := ⟨_, rfl⟩
      obtain ⟨lN, n0, n1⟩ := bN.two
      have HOK := Lib.hid hok
      have hBs := hB.size
      clear hok
      by_cases hlt : k < len
      · have hkl : k < es.length := by rw [HlE.out]; exact hlt
        obtain ⟨b, off, ha, hc⟩ := (HE.out.below hB).2.2
        obtain ⟨hb, c0, c1, c2⟩ := hc k hkl
        obtain rfl : a = some ⟨b, off, none⟩ := by
          rcases ha with h | h
          · omega
          · exact h
        clear ha hc
        obtain ⟨x, hx⟩ : ∃ x, es[k] = x := ⟨_, rfl⟩
        have HX := Lib.hid hx
        have HKL := Lib.hid hkl
        rw [hx] at c0 c1 c2
        have hki : (k : Int) < (len : Int) := by omega
        have hb1 : b < w1.heap.size := by omega
        have hways := ok_ways v x
        clear hx
        rcases hways with ⟨hno, hw⟩ | ⟨hyes, g1, g2, g3, g4, g5, g6, g7⟩
        · have HNO : Hid (right v es = false) := Lib.hid (right_no HKL.out (by rw [HX.out]; exact hno))
          clear hno
          rcases hw with g1 | ⟨g1, g2⟩ | ⟨g1, g2, g3⟩ | ⟨g1, g2, g3, g4⟩ | ⟨g1, g2, g3, g4, g5⟩ | ⟨g1, g2, g3, g4, g5, g6⟩ | ⟨g1, g2, g3, g4, g5, g6, g7⟩
          all_goals
            go_wp2
            go_ret
            exact ⟨ret_bool HNO.out.symm, hB.alloc hBs _⟩
        · have HY := Lib.hid hyes
          clear hyes
          go_wp2
          go_roundw
          case rel =>
            refine ⟨k + 1, by omega, by go_num, bN.alloc _, fun j hj h => ?_, hB.alloc hBs _⟩
            by_cases e : j < k
            · exact HOK.out j hj e
            · obtain rfl : j = k := by omega
              rw [HX.out]; exact HY.out
          case measure => simp [intOf]; omega
      · obtain rfl : k = es.length := by have := HlE.out; omega
        have HR : Hid (right v es = true) := Lib.hid (right_iff.2 ⟨h1, h2, by rw [HlE.out]; exact h3, fun e he => by
          obtain ⟨i, hi, rfl⟩ := List.getElem_of_mem he
          exact HOK.out i hi hi⟩)
        go_wp2
        go_ret
        exact ⟨ret_bool HR.out.symm, hB⟩
  · have hr : Hid (right v es = false) := Lib.hid (by
      rcases h : right v es with _ | _
      · rfl
      · have := right_iff.1 h
        rw [HlE.out] at this; omega)
    have hs' : v < 2 ∨ (2 ≤ v ∧ 64 < v) ∨ (2 ≤ v ∧ v ≤ 64 ∧ 256 < len) := by omega
    clear hs
    rcases hs' with h | ⟨h, h'⟩ | ⟨h, h', h''⟩
    all_goals
      go_enter Try.func42, Try.ntmps42
      go_wp2
      go_ret
      exact ⟨ret_bool hr.out.symm, (Below.refl _ w).alloc (Nat.le_refl _) _⟩
end Go.Proofs.Ythchlfoebkachaa
