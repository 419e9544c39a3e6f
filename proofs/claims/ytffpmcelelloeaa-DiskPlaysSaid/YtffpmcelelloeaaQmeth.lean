/-
  The document's own disk: Append, Remove, Rename, Sync.
-/
import Derived.Test.YtffpmcelelloeaaQdrop
namespace Go.Proofs.Ytffpmcelelloeaa
open Go.RowKit Gm

theorem q_turn {w w' : World} {p : Nat} {v v' : Value} {D' : Dk} {R : Nat → Prop} (hR : ∀ b, R b ↔ (b = p ∨ v.ownBlock = some b)) (ok' : OkD D') (h' : QAt w' p v' D') (hb : Beside R w w') (hv : ∀ b, v'.ownBlock = some b → v.ownBlock = some b ∨ w.heap.size ≤ b) : Turn QDisk w w' p D' R :=
  ⟨fun b => b = p ∨ v'.ownBlock = some b, ⟨ok', v', fun _ => Iff.rfl, h'⟩, hb, fun b e => by
    rcases e with e | e
    · exact .inl ((hR b).2 (.inl e))
    · rcases hv b e with e | e
      · exact .inl ((hR b).2 (.inr e))
      · exact .inr e⟩
theorem q_grown {w w' : World} {p : Nat} {v v' : Value} {D' : Dk} {R : Nat → Prop} (hR : ∀ b, R b ↔ (b = p ∨ v.ownBlock = some b)) (ok' : OkD D') (h' : QAt w' p v' D') (hb : w.grownBy w' (some p)) (hv : ∀ b, v'.ownBlock = some b → v.ownBlock = some b ∨ w.heap.size ≤ b) : Turn QDisk w w' p D' R :=
  q_turn hR ok' h' (Beside.grown hb fun b e _ => (hR b).2 (.inl (by injection e with e; exact e.symm))) hv

set_option maxRecDepth 100000 in
set_option maxHeartbeats 2000000 in
theorem qremove_any (p : Nat) (D : Dk) (R : Nat → Prop) (k : Bs) (w : World) (h : QDisk w p D R) (ha : D.acts ≤ 1099511627776) :
    Calls Try.prog 21 #[.pointer (some ⟨p, 0, none⟩), .string (S k)] w fun e w' => e = .returned (.int .i64 (removeD D k).2) ∧ Turn QDisk w w' p (removeD D k).1 R := by
  obtain ⟨ok, v, hR, hq⟩ := h
  have HR := Lib.hid hR
  have HQ := Lib.hid hq
  have hok' := ok.remove k
  have hl4 := ok.fs.len
  unfold removeD at hok' ⊢
  rcases hg : goesD D with _ | _
  · rw [done_no hg] at hok' ⊢
    have HG := Lib.hid hg
    have HO := Lib.hid hok'
    clear hg hok' hR hq ok
    go_enter Try.func21, Try.ntmps21
    go_wp2_with (go_at_call 38; (have hc := qact_any p v D w HQ.out ha; rw [errD_no HG.out] at hc; with_reducible refine hc.mono ?_); rintro e w1 ⟨rfl, q1, g1⟩; have Q1 := Lib.hid q1; clear q1)
    go_ret
    exact ⟨rfl, q_grown HR.out HO.out Q1.out g1 (fun b e => .inl e)⟩
  · rw [done_ok hg] at hok' ⊢
    have HG := Lib.hid hg
    have HO := Lib.hid hok'
    rcases hf : findF D.fs k with _ | f
    · have hr : removeF D.fs k = (D.fs, 101) := by unfold removeF; rw [hf]
      rw [hr] at HO ⊢
      have HF := Lib.hid hf
      clear hg hok' hR hq ok hr hf
      go_enter Try.func21, Try.ntmps21
      go_wp2_with (first
        | (go_at_call 38; (have hc := qact_any p v D w HQ.out ha; rw [errD_ok HG.out, goes_act HG.out] at hc; with_reducible refine hc.mono ?_); rintro e w1 ⟨rfl, q1, g1⟩; have Q1 := Lib.hid q1; clear q1)
        | (go_at_call 39; (with_reducible refine (qat_no Q1.out hl4 HF.out).mono ?_); rintro e w2 ⟨rfl, rfl⟩))
      go_ret
      exact ⟨rfl, q_grown HR.out HO.out Q1.out g1 (fun b e => .inl e)⟩
    · have hr : removeF D.fs k = (dropF D.fs k, 0) := by unfold removeF; rw [hf]
      rw [hr] at HO ⊢
      have HF := Lib.hid hf
      clear hg hok' hR hq ok hr hf
      go_enter Try.func21, Try.ntmps21
      go_wp2_with (first
        | (go_at_call 38; (have hc := qact_any p v D w HQ.out ha; rw [errD_ok HG.out, goes_act HG.out] at hc; with_reducible refine hc.mono ?_); rintro e w1 ⟨rfl, q1, g1⟩; have Q1 := Lib.hid q1; clear q1)
        | (go_at_call 39; (with_reducible refine (qat_yes Q1.out hl4 HF.out).mono ?_); rintro e w2 ⟨⟨i, hi, rfl, _⟩, rfl⟩; have hi0 : ¬ (i : Int) < 0 := by omega)
        | (go_at_call 41; (with_reducible refine (qdrop_any _ _ _ k _ Q1.out hl4).mono ?_); rintro e w3 ⟨rfl, v', q3, g3, n3⟩; have Q3 := Lib.hid q3; clear q3))
      go_ret
      exact ⟨rfl, q_grown HR.out HO.out Q3.out (gbt g1 g3) (fun b e => .inr (Nat.le_trans g1.size (n3 b e)))⟩
end Go.Proofs.Ytffpmcelelloeaa
