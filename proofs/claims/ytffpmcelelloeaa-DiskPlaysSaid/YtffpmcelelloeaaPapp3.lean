/-
  The program's disk: Append, all its ways; a file's settle.
-/
import Derived.Test.YtffpmcelelloeaaPapp2
namespace Go.Proofs.Ytffpmcelelloeaa
open Go.RowKit Gm

set_option maxRecDepth 100000 in
set_option maxHeartbeats 1000000 in
theorem append_any (p : Nat) (D : Dk) (R : Nat → Prop) (k s : Bs) (w : World) (h : PDisk w p D R) (ha : D.acts ≤ 1099511627776) (hk : k.length ≤ 1048576) (hs : s.length ≤ 1048576) :
    Calls Try.prog 14 #[.pointer (some ⟨p, 0, none⟩), .string (S k), .string (S s)] w fun e w' => e = .returned (.int .i64 (appendD D k s).2) ∧ Turn PDisk w w' p (appendD D k s).1 R := by
  rcases hg : goesD D with _ | _
  · obtain ⟨ok, m, loc, hR, hp⟩ := h
    have HR := Lib.hid hR
    have HP := Lib.hid hp
    have HK := Lib.hid ok
    have hok' := ok.append k s
    unfold appendD at hok' ⊢
    rw [done_no hg] at hok' ⊢
    have HG := Lib.hid hg
    have HO := Lib.hid hok'
    clear hg hok' hR hp ok
    go_enter Try.func14, Try.ntmps14
    go_wp2_with (go_at_call 35; (have hc := pact_any p m loc D w HP.out HK.out ha; rw [HG.out] at hc; with_reducible refine hc.mono ?_); rintro e w1 ⟨rfl, q1, g1⟩; have Q1 := Lib.hid q1; clear q1)
    go_ret
    exact ⟨rfl, p_same HR.out HO.out Q1.out (by rw [act_fs]) g1⟩
  · rcases hn : okName k with _ | _
    · obtain ⟨ok, m, loc, hR, hp⟩ := h
      have HR := Lib.hid hR
      have HP := Lib.hid hp
      have HK := Lib.hid ok
      have hok' := ok.append k s
      have hr : appendF D.fs k s = (D.fs, 1) := by unfold appendF; rw [hn]; rfl
      unfold appendD at hok' ⊢
      rw [done_ok hg, hr] at hok' ⊢
      have HG := Lib.hid hg
      have HN := Lib.hid hn
      have HO := Lib.hid hok'
      clear hg hok' hR hp ok hr hn
      go_enter Try.func14, Try.ntmps14
      go_wp2_with (first
        | (go_at_call 35; (have hc := pact_any p m loc D w HP.out HK.out ha; rw [HG.out, goes_act HG.out] at hc; with_reducible refine hc.mono ?_); rintro e w1 ⟨rfl, q1, g1⟩; have Q1 := Lib.hid q1; clear q1)
        | (go_at_call 36; (have hc := pname_any k w1 hk; rw [HN.out] at hc; with_reducible refine hc.mono ?_); rintro e w2 ⟨rfl, rfl⟩))
      go_ret
      exact ⟨rfl, p_same HR.out HO.out Q1.out rfl g1⟩
    · rcases hf : findF D.fs k with _ | f
      · by_cases hfull : 4 ≤ D.fs.length ∨ 65536 < s.length
        · exact append_full p D R k s w h ha hk hs hf hg hn hfull
        · exact append_new p D R k s w h ha hk hs hf hg hn hfull
      · exact append_has p D R k s w h ha hk hs hf hg hn

theorem bytes_to (a : Option Addr) (len cap m : Nat) (h : m ≤ cap) (w : World) : (Instr.slice 45 (.slice a len cap) none (some (.int .i64 (m : Int))) none).run Try.prog w = .ok (.slice a m cap) w := by
  have hu : Try.prog.underlying 45 = some (.slice (Try.prog.elem 45)) := by kernel_rfl
  have hs : ∀ w, (sizeOf (Try.prog.elem 45)).run Try.prog w = .ok 1 w := fun w => by kernel_rfl
  rw [run_slice_h w 45 a len cap hu .i64 (m : Int) (by omega) (by omega), hs]
  cases a <;> simp [sliced, Result.andThen, Addr.add]
/-- The row of bytes is cut. -/
theorem row_cut {w : World} {a : Option Addr} {cap : Nat} {x : Bs} (h : w.ownsRow 0 5 1 (.slice a x.length cap) x.length (byV x)) (n : Nat) (hn : n ≤ x.length) :
    n ≤ cap ∧ w.ownsRow 0 5 1 (.slice a n cap) (x.take n).length (byV (x.take n)) ∧ (Value.slice a n cap).ownBlock = (Value.slice a x.length cap).ownBlock := by
  have hl : (x.take n).length = n := by rw [List.length_take]; omega
  rcases h.2 with ⟨hv, h0⟩ | ⟨g, cap', cur, hv, hb, hh, hle, hm, hsz, ht⟩
  · obtain rfl : n = 0 := by omega
    injection hv with e1 e2 e3
    subst e1 e3
    exact ⟨Nat.le_refl _, ⟨by simp, .inl ⟨rfl, by simp⟩⟩, rfl⟩
  · injection hv with e1 e2 e3
    subst e1 e3
    refine ⟨by omega, ⟨by rw [byV_len]; omega, .inr ⟨g, cap, cur, by rw [hl], hb, hh, by omega, hm, hsz, ?_⟩⟩, rfl⟩
    have e : (cur.toList.take (x.length * 1)).take n = (byV x).take n := by rw [ht]
    rw [List.take_take, Nat.min_eq_left (by omega)] at e
    rw [hl, Nat.mul_one, e]
    simp [byV, List.map_take]
end Go.Proofs.Ytffpmcelelloeaa
