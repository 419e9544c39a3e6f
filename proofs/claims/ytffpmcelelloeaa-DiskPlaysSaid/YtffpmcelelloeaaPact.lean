/-
  The program's disk: New, act, isName, Off, Acts, Arm, Read.
-/
import Derived.Test.YtffpmcelelloeaaTurn10
import Derived.Test.YtffpmcelelloeaaPmem
namespace Go.Proofs.Ytffpmcelelloeaa
open Go.RowKit Gm

theorem setp_heap {w : World} {p : Nat} {a b c d : Value} {t : TypeId} (h : w.heap[p]? = some (.cells #[a, b, c, d] t (0, 0))) :
    (∀ u, (w.setCell ⟨p, 1, none⟩ u).heap[p]? = some (.cells #[a, u, c, d] t (0, 0))) ∧ (∀ u, (w.setCell ⟨p, 2, none⟩ u).heap[p]? = some (.cells #[a, b, u, d] t (0, 0))) ∧ (∀ u, (w.setCell ⟨p, 3, none⟩ u).heap[p]? = some (.cells #[a, b, c, u] t (0, 0))) := by
  refine ⟨fun u => ?_, fun u => ?_, fun u => ?_⟩ <;> simp [World.setCell, Array.getElem?_modify, h]

set_option maxHeartbeats 1000000 in
theorem pact_any (p m : Nat) (loc : Loc) (D : Dk) (w : World) (h : PAt w p m loc D) (ok : OkD D) (ha : D.acts ≤ 1099511627776) :
    Calls Try.prog 35 #[.pointer (some ⟨p, 0, none⟩)] w fun e w' => e = .returned (.bool (goesD D)) ∧ PAt w' p m loc (actD D) ∧ w.grownBy w' (some p) := by
  obtain ⟨_, c1, c2, c3, hf, hl⟩ := h.cells
  have harm := ok.arm
  have f1 := hf 1
  have f2 := hf 2
  have f3 := hf 3
  have H := Lib.hid h
  clear h hf ok
  by_cases ho : D.off = true
  · rw [ho] at c3
    have e1 : goesD D = false := by unfold goesD; rw [ho]; rfl
    have e2 : actD D = D := by unfold actD; rw [ho]; rfl
    rw [e1, e2]
    clear ho e1 e2
    go_enter Try.func35, Try.ntmps35
    go_wp2
    go_ret
    exact ⟨rfl, H.out, gbb _ (Below.refl _ _)⟩
  · have ho' : D.off = false := by simpa using ho
    rw [ho'] at c3
    have HO := Lib.hid ho'
    have HW : Hid (((D.acts : Int) + 1) = ((D.acts + 1 : Nat) : Int)) := Lib.hid (by omega)
    obtain ⟨a, hA⟩ : ∃ a, D.arm - D.acts = a := ⟨_, rfl⟩
    rw [hA] at c2
    have HA := Lib.hid hA
    have ha2 : a ≤ 1099511627776 := by omega
    clear ho ho' harm hA
    have b0 := H.out.blk
    rw [HO.out, HA.out] at b0
    have HB := Lib.hid b0
    clear b0
    rcases (show a = 0 ∨ a = 1 ∨ 2 ≤ a by omega) with e | e | e
    · subst e
      have e1 : goesD D = true := by unfold goesD; rw [HO.out, decide_eq_false (by have := HA.out; omega)]; rfl
      have e2 : actD D = { D with acts := D.acts + 1 } := by
        unfold actD; rw [HO.out, decide_eq_false (by have := HA.out; omega)]; simp
      rw [e1, e2]
      clear e1 e2
      go_enter Try.func35, Try.ntmps35
      go_wp2
      go_ret
      refine ⟨rfl, H.out.setp rfl (gbs _ _ _ _) ?_, gbs _ _ _ _⟩
      rw [HW.out, (setp_heap HB.out).1]
      have : D.arm - (D.acts + 1) = 0 := by have := HA.out; omega
      dsimp only
      rw [this, HO.out]
    · subst e
      have e1 : goesD D = false := by unfold goesD; rw [HO.out, decide_eq_true (by have := HA.out; omega)]; rfl
      have e2 : actD D = { D with acts := D.acts + 1, off := true } := by
        unfold actD; rw [HO.out, decide_eq_true (by have := HA.out; omega)]; rfl
      rw [e1, e2]
      clear e1 e2
      go_enter Try.func35, Try.ntmps35
      go_wp2
      go_ret
      refine ⟨rfl, H.out.setp rfl (gbt (gbt (gbs _ _ _ _) (gbs _ _ _ _)) (gbs _ _ _ _)) ?_, gbt (gbt (gbs _ _ _ _) (gbs _ _ _ _)) (gbs _ _ _ _)⟩
      rw [HW.out, (setp_heap ((setp_heap ((setp_heap HB.out).1 _)).2.1 _)).2.2]
      have : D.arm - (D.acts + 1) = 0 := by have := HA.out; omega
      dsimp only
      rw [this]; rfl
    · have e1 : goesD D = true := by unfold goesD; rw [HO.out, decide_eq_false (by have := HA.out; omega)]; rfl
      have e2 : actD D = { D with acts := D.acts + 1, off := false } := by
        unfold actD; rw [HO.out, decide_eq_false (by have := HA.out; omega)]; simp
      rw [e1, e2]
      have i1 : (0 : Int) < (a : Int) := by omega
      have i2 : ((a : Int) - 1 == 0) = false := by simp; omega
      clear e1 e2
      go_enter Try.func35, Try.ntmps35
      go_wp2
      go_ret
      refine ⟨rfl, H.out.setp rfl (gbt (gbt (gbs _ _ _ _) (gbs _ _ _ _)) (gbs _ _ _ _)) ?_, gbt (gbt (gbs _ _ _ _) (gbs _ _ _ _)) (gbs _ _ _ _)⟩
      rw [HW.out, (setp_heap ((setp_heap ((setp_heap HB.out).1 _)).2.1 _)).2.2]
      have : ((D.arm - (D.acts + 1) : Nat) : Int) = (a : Int) - 1 := by have := HA.out; omega
      dsimp only
      rw [this]

theorem pname_any (k : Bs) (w : World) (hk : k.length ≤ 1048576) : Calls Try.prog 36 #[.string (S k)] w fun e w' => e = .returned (.bool (okName k)) ∧ w = w' := by
  have hs := S_size k
  by_cases h1 : 1 ≤ k.length
  · have hok : okName k = decide (k.length ≤ 12) := by unfold okName; rw [decide_eq_true h1]; rfl
    rw [hok]
    have i1 : decide ((1 : Int) ≤ ((S k).size : Int)) = true := by rw [hs]; simp; omega
    have i2 : decide (((S k).size : Int) ≤ 12) = decide (k.length ≤ 12) := by rw [hs]; simp; omega
    have hl : ((S k).size : Int) ≤ 1048576 := by rw [hs]; omega
    clear hs hok h1 hk
    go_enter Try.func36, Try.ntmps36
    go_wp2
    go_ret
    exact ⟨rfl, rfl⟩
  · have hok : okName k = false := by unfold okName; rw [decide_eq_false h1]; rfl
    rw [hok]
    have i1 : decide ((1 : Int) ≤ ((S k).size : Int)) = false := by rw [hs]; simp; omega
    clear hs hok h1 hk
    go_enter Try.func36, Try.ntmps36
    go_wp2
    go_ret
    exact ⟨rfl, rfl⟩

theorem off_any (p : Nat) (D : Dk) (R : Nat → Prop) (w : World) (h : PDisk w p D R) :
    Calls Try.prog 31 #[.pointer (some ⟨p, 0, none⟩)] w fun e w' => e = .returned (.bool D.off) ∧ Below w.heap.size w w' := by
  obtain ⟨_, m, loc, _, h⟩ := h
  obtain ⟨_, _, _, c3, _, hl⟩ := h.cells
  clear h
  go_enter Try.func31, Try.ntmps31
  go_wp2
  go_ret
  exact ⟨rfl, Below.refl _ _⟩
theorem acts_any (p : Nat) (D : Dk) (R : Nat → Prop) (w : World) (h : PDisk w p D R) :
    Calls Try.prog 33 #[.pointer (some ⟨p, 0, none⟩)] w fun e w' => e = .returned (.int .i64 D.acts) ∧ Below w.heap.size w w' := by
  obtain ⟨_, m, loc, _, h⟩ := h
  obtain ⟨_, c1, _, _, _, hl⟩ := h.cells
  clear h
  go_enter Try.func33, Try.ntmps33
  go_wp2
  go_ret
  exact ⟨rfl, Below.refl _ _⟩
theorem new_any (w : World) : Calls Try.prog 10 #[] w fun e w' => ∃ p R, e = .returned (.pointer (some ⟨p, 0, none⟩)) ∧ PDisk w' p newD R ∧ (∀ b, R b → w.heap.size ≤ b) ∧ Below w.heap.size w w' := by
  have hmm := @run_makeMap Try.prog
  go_enter Try.func10, Try.ntmps10
  go_wp2
  go_ret
  have hb1 : Below w.heap.size w (w.alloc (.map #[] 0)) := (Below.refl _ w).alloc (Nat.le_refl _) _
  have es : (w.alloc (.map #[] 0)).heap.size = w.heap.size + 1 := by simp
  have hn := new_at (w.alloc (.map #[] 0)) (.cells #[.map (some w.heap.size), .int .i64 0, .int .i64 0, .bool false] 55 (0, 0))
  have hm := (MapAt.made w (fun _ => (0, .slice none 0 0))).moved (((Below.refl (w.alloc (.map #[] 0)).heap.size (w.alloc (.map #[] 0))).alloc (Nat.le_refl _) (.cells #[.map (some w.heap.size), .int .i64 0, .int .i64 0, .bool false] 55 (0, 0))).block w.heap.size (by rw [es]; omega))
  rw [es] at hn
  refine ⟨w.heap.size + 1, PBlk (w.heap.size + 1) w.heap.size (fun _ => (0, .slice none 0 0)) [], rfl, ⟨OkD.new, w.heap.size, fun _ => (0, .slice none 0 0), fun _ => Iff.rfl, ⟨hn, hm, fun _ hf => absurd hf List.not_mem_nil, fun _ hf => absurd hf List.not_mem_nil⟩⟩, ?_, hb1.alloc hb1.size _⟩
  rintro b (rfl | rfl | ⟨f, hf, _⟩)
  · omega
  · exact Nat.le_refl _
  · cases hf
end Go.Proofs.Ytffpmcelelloeaa
