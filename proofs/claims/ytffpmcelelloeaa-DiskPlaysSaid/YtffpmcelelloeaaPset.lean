/-
  A file's settle.
-/
import Derived.Test.YtffpmcelelloeaaPapp3
namespace Go.Proofs.Ytffpmcelelloeaa
open Go.RowKit Gm

def SetPost (x : Nat × Value) (f : Fl) (c : Int) (w : World) (e : Ending) (w' : World) : Prop :=
  e = .returned (.tuple #[]) ∧ ∃ v', FileAt w' (x.1, v') (cutF f c) ∧ v'.ownBlock = x.2.ownBlock ∧ w.grownBy w' (some x.1)

theorem two_set {w : World} {p : Nat} {a b : Value} {t : TypeId} (h : w.heap[p]? = some (.cells #[a, b] t (0, 0))) :
    (∀ u, (w.setCell ⟨p, 0, none⟩ u).heap[p]? = some (.cells #[u, b] t (0, 0))) ∧ (∀ u, (w.setCell ⟨p, 1, none⟩ u).heap[p]? = some (.cells #[a, u] t (0, 0))) := by
  refine ⟨fun u => ?_, fun u => ?_⟩ <;> simp [World.setCell, Array.getElem?_modify, h]
theorem settle_end {x : Nat × Value} {f : Fl} {c : Int} {w W3 : World} (h : FileAt w x f) {a : Option Addr} {cap s k n : Nat} (hv : x.2 = .slice a f.tx.length cap) (hsk : s + k ≤ f.tx.length) (hc : cutF f c = ⟨f.nm, f.tx.take (s + k), s + k⟩) (h3 : (w.drewN n).setCell ⟨x.1, 1, none⟩ (.int .i64 ((s : Int) + (k : Int))) = W3) :
    SetPost x f c w (.returned (.tuple #[])) ((W3.setCell ⟨x.1, 0, none⟩ (.slice a (s + k) cap)).drew) := by
  have hr := h.row
  rw [hv] at hr
  obtain ⟨_, r1, r2⟩ := row_cut hr (s + k) hsk
  have hb0 : (w.drewN n).heap[x.1]? = some (.cells #[x.2, .int .i64 (f.sy : Int)] 63 (0, 0)) := h.blk
  have hb3 := (two_set hb0).2 (.int .i64 ((s : Int) + (k : Int)))
  have g3 : w.grownBy ((w.drewN n).setCell ⟨x.1, 1, none⟩ (.int .i64 ((s : Int) + (k : Int)))) (some x.1) := gbt (gbd (World.grownBy.refl w _) n) (gbs _ _ _ _)
  rw [h3] at hb3 g3
  have g4 : w.grownBy ((W3.setCell ⟨x.1, 0, none⟩ (.slice a (s + k) cap)).drew) (some x.1) := gbd (gbt g3 (gbs _ _ _ _)) 1
  have e : ((s + k : Nat) : Int) = (s : Int) + (k : Int) := by omega
  refine ⟨rfl, .slice a (s + k) cap, ⟨?_, ?_⟩, by rw [r2, hv], g4⟩
  · rw [hc]
    dsimp only
    rw [e]
    exact (two_set hb3).1 (.slice a (s + k) cap)
  · rw [hc]
    exact row_moved r1 fun b e => g4.block b (r1.lt b e).2 fun e' => h.apart (by rw [hv, ← r2]; exact e) (by injection e')

set_option maxRecDepth 100000 in
set_option maxHeartbeats 4000000 in
theorem settle_any (x : Nat × Value) (f : Fl) (c : Int) (w : World) (h : FileAt w x f) (hsy : f.sy ≤ f.tx.length) (htx : f.tx.length ≤ 65536) (hc : I64 c) :
    Calls Try.prog 42 #[.pointer (some ⟨x.1, 0, none⟩), .int .i64 c] w (SetPost x f c w) := by
  obtain ⟨hc0, hc1⟩ := hc
  obtain ⟨d0, d1, df, dl⟩ := h.cells
  have df0 := df 0
  have df1 := df 1
  have H := Lib.hid h
  obtain ⟨a, cap, hv⟩ := h.form
  rw [hv] at d0
  have HV := Lib.hid hv
  obtain ⟨B, hB⟩ : ∃ B, x.1 = B := ⟨_, rfl⟩
  rw [hB] at d0 d1 df0 df1 dl ⊢
  have HBE := Lib.hid hB
  obtain ⟨n, hn⟩ : ∃ n, f.tx.length = n := ⟨_, rfl⟩
  obtain ⟨s, hs⟩ : ∃ s, f.sy = s := ⟨_, rfl⟩
  rw [hn] at d0 hsy htx
  rw [hs] at d1 hsy
  obtain ⟨u, hu⟩ : ∃ u, n - s = u := ⟨_, rfl⟩
  obtain ⟨e, he⟩ : ∃ e : Int, (if c < 0 then -(c + 1) else c) = e := ⟨_, rfl⟩
  have he0 : 0 ≤ e ∧ e ≤ 9223372036854775807 := by rw [← he]; split <;> omega
  obtain ⟨k, hk⟩ : ∃ k : Nat, e.toNat % (u + 1) = k := ⟨_, rfl⟩
  have hku : k ≤ u := by have := Nat.mod_lt e.toNat (show 0 < u + 1 by omega); omega
  have hke : e % ((u : Int) + 1) = (k : Int) := by
    have h1 : e = ((e.toNat : Nat) : Int) := by omega
    rw [h1, ← hk]; simp
  have hkt : e.tmod ((u : Int) + 1) = (k : Int) := by rw [Int.tmod_eq_emod_of_nonneg he0.1, hke]
  have hsub : (n : Int) - (s : Int) = (u : Int) := by omega
  have hsk : s + k ≤ n := by omega
  have hcapk : s + k ≤ cap := by
    have hr := h.row
    rw [hv] at hr
    exact (row_cut hr (s + k) (by omega)).1
  have hcut : cutF f c = ⟨f.nm, f.tx.take (s + k), s + k⟩ := by
    unfold cutF keepN
    rw [hs, hn, hu, he, hk]
  obtain ⟨v, hv1⟩ : ∃ v : Int, (u : Int) + 1 = v := ⟨_, rfl⟩
  rw [hv1] at hke hkt
  have hwr : IntKind.i64.wrap ((u : Int) + 1) = v := by
    rw [IntWalk.i64_in _ ⟨by omega, by omega⟩, hv1]
  have hv0 : ¬ v = 0 := by omega
  have hv2 : (v == 0) = false := by simp; omega
  clear hv1
  have hsl : ∀ W, (Instr.slice 45 (.slice a n cap) none (some (.int .i64 ((s : Int) + (k : Int)))) none).run Try.prog W = .ok (.slice a (s + k) cap) W := fun W => by
    have := bytes_to a n cap (s + k) hcapk W
    have e : ((s + k : Nat) : Int) = (s : Int) + (k : Int) := by omega
    rwa [e] at this
  have HC := Lib.hid hcut
  have HN := Lib.hid hn
  have HS := Lib.hid hs
  clear h hv hB df hcut hn hs hu hk hcapk
  by_cases h0 : c < 0
  · rw [if_pos h0] at he
    go_enter Try.func42, Try.ntmps42
    go_wp2
    clear he hc0 hc1 h0
    go_quiet (fail)
    go_wp2
    have hC1 : w.drew.cell? ⟨B, 1, none⟩ = some (.int .i64 (s : Int)) := d1
    refine region_mix (fun W => W.cell? ⟨B, 1, none⟩ = some (.int .i64 (s : Int))) (8) (.reads [0, 1, 2, 3, 4, 5, 6, 7] (.only 8 (.only 9 (.only 10 (.only 11 (.stop)))))) (by kernel_rfl) (by kernel_rfl) (hC1) ?_
    repeat (
      refine plan_read rfl (fun K hK => ?_)
      first
        | (refine plan_neg ?_ ?_
           focus (go_simp; done)
           go_simp
           refine hK _ ?_
           clear hK K)
        | (apply plan_pos
           focus (go_simp; done)
           focus (
             intro W hW
             (have d1 := hW)
             go_simp
             first
               | done
               | exact rfl)
           go_simp
           refine hK _ ?_
           clear hK K))
    refine plan_only rfl (fun Q hQ => ?_)
    go_wp2
    refine hQ _ _ (fun h => absurd h (by omega)) ?_
    clear hQ Q
    refine plan_only rfl (fun Q hQ => ?_)
    go_wp2
    refine hQ _ _ (fun h => absurd h (by omega)) ?_
    clear hQ Q
    refine plan_only rfl (fun Q hQ => ?_)
    go_wp2
    refine hQ _ _ (fun h => absurd h (by omega)) ?_
    clear hQ Q
    refine plan_only rfl (fun Q hQ => ?_)
    go_wp2
    refine hQ _ _ (fun h => absurd h (by omega)) ?_
    clear hQ Q
    unfold Plan.wp
    go_wp2
    obtain ⟨W3, hW3⟩ : ∃ W, (w.drewN (nq + 1)).setCell ⟨B, 1, none⟩ (.int .i64 ((s : Int) + (k : Int))) = W := ⟨_, rfl⟩
    rw [hW3]
    have HW3 := Lib.hid hW3
    have k1 : W3.cell? ⟨B, 1, none⟩ = some (.int .i64 ((s : Int) + (k : Int))) := by rw [← hW3]; exact World.cell?_setCell_same _ _ _ d1
    have k0 : W3.cell? ⟨B, 0, none⟩ = some (.slice a n cap) := by rw [← hW3, World.cell?_setCell_other (h := fun e => by injection e with _ e; cases e)]; exact d0
    have f0 : W3.frozen? ⟨B, 0, none⟩ = false := by rw [← hW3, World.frozen?_setCell]; exact df0
    have l3 : B < W3.heap.size := by rw [← hW3]; simpa [World.setCell] using dl
    have k1' : W3.drew.cell? ⟨B, 1, none⟩ = some (.int .i64 ((s : Int) + (k : Int))) := k1
    have k0' : W3.drew.cell? ⟨B, 0, none⟩ = some (.slice a n cap) := k0
    clear hW3 df0 df1 d0 d1 hke hkt hwr hv0 hv2 he0 hsub hC1 dl
    refine region_mix (fun W => W.cell? ⟨B, 0, none⟩ = some (.slice a n cap) ∧ W.cell? ⟨B, 1, none⟩ = some (.int .i64 ((s : Int) + (k : Int)))) (10) (.reads [0, 1, 2, 3, 4, 5, 6, 7, 8, 9] (.only 10 (.only 11 (.only 12 (.stop))))) (by kernel_rfl) (by kernel_rfl) (⟨k0', k1'⟩) ?_
    clear k0' k1'
    repeat (
      refine plan_read rfl (fun K hK => ?_)
      first
        | (refine plan_neg ?_ ?_
           focus (go_simp; done)
           go_simp
           refine hK _ ?_
           clear hK K)
        | (apply plan_pos
           focus (go_simp; done)
           focus (
             intro W hW
             (obtain ⟨d0, d1⟩ := hW)
             go_simp
             first
               | done
               | exact rfl)
           go_simp
           refine hK _ ?_
           clear hK K))
    refine plan_only rfl (fun Q hQ => ?_)
    go_wp2
    refine hQ _ _ (fun h => absurd h (by omega)) ?_
    clear hQ Q
    refine plan_only rfl (fun Q hQ => ?_)
    go_wp2
    refine hQ _ _ (fun h => absurd h (by omega)) ?_
    clear hQ Q
    refine plan_only rfl (fun Q hQ => ?_)
    go_wp2
    refine hQ _ _ (fun h => absurd h (by omega)) ?_
    clear hQ Q
    unfold Plan.wp
    go_wp2
    go_end0
    rw [← HBE.out]
    exact settle_end H.out HV.out (by rw [HN.out]; exact hsk) HC.out (by rw [HBE.out]; exact HW3.out)
  · rw [if_neg h0] at he
    subst he
    go_enter Try.func42, Try.ntmps42
    go_wp2
    clear hc0 h0
    go_quiet (fail)
    go_wp2
    have hC1 : w.drew.cell? ⟨B, 1, none⟩ = some (.int .i64 (s : Int)) := d1
    refine region_mix (fun W => W.cell? ⟨B, 1, none⟩ = some (.int .i64 (s : Int))) (8) (.reads [0, 1, 2, 3, 4, 5, 6, 7] (.only 8 (.only 9 (.only 10 (.only 11 (.stop)))))) (by kernel_rfl) (by kernel_rfl) (hC1) ?_
    repeat (
      refine plan_read rfl (fun K hK => ?_)
      first
        | (refine plan_neg ?_ ?_
           focus (go_simp; done)
           go_simp
           refine hK _ ?_
           clear hK K)
        | (apply plan_pos
           focus (go_simp; done)
           focus (
             intro W hW
             (have d1 := hW)
             go_simp
             first
               | done
               | exact rfl)
           go_simp
           refine hK _ ?_
           clear hK K))
    refine plan_only rfl (fun Q hQ => ?_)
    go_wp2
    refine hQ _ _ (fun h => absurd h (by omega)) ?_
    clear hQ Q
    refine plan_only rfl (fun Q hQ => ?_)
    go_wp2
    refine hQ _ _ (fun h => absurd h (by omega)) ?_
    clear hQ Q
    refine plan_only rfl (fun Q hQ => ?_)
    go_wp2
    refine hQ _ _ (fun h => absurd h (by omega)) ?_
    clear hQ Q
    refine plan_only rfl (fun Q hQ => ?_)
    go_wp2
    refine hQ _ _ (fun h => absurd h (by omega)) ?_
    clear hQ Q
    unfold Plan.wp
    go_wp2
    obtain ⟨W3, hW3⟩ : ∃ W, (w.drewN (nq + 1)).setCell ⟨B, 1, none⟩ (.int .i64 ((s : Int) + (k : Int))) = W := ⟨_, rfl⟩
    rw [hW3]
    have HW3 := Lib.hid hW3
    have k1 : W3.cell? ⟨B, 1, none⟩ = some (.int .i64 ((s : Int) + (k : Int))) := by rw [← hW3]; exact World.cell?_setCell_same _ _ _ d1
    have k0 : W3.cell? ⟨B, 0, none⟩ = some (.slice a n cap) := by rw [← hW3, World.cell?_setCell_other (h := fun e => by injection e with _ e; cases e)]; exact d0
    have f0 : W3.frozen? ⟨B, 0, none⟩ = false := by rw [← hW3, World.frozen?_setCell]; exact df0
    have l3 : B < W3.heap.size := by rw [← hW3]; simpa [World.setCell] using dl
    have k1' : W3.drew.cell? ⟨B, 1, none⟩ = some (.int .i64 ((s : Int) + (k : Int))) := k1
    have k0' : W3.drew.cell? ⟨B, 0, none⟩ = some (.slice a n cap) := k0
    clear hW3 df0 df1 d0 d1 hke hkt hwr hv0 hv2 he0 hsub hC1 dl
    refine region_mix (fun W => W.cell? ⟨B, 0, none⟩ = some (.slice a n cap) ∧ W.cell? ⟨B, 1, none⟩ = some (.int .i64 ((s : Int) + (k : Int)))) (10) (.reads [0, 1, 2, 3, 4, 5, 6, 7, 8, 9] (.only 10 (.only 11 (.only 12 (.stop))))) (by kernel_rfl) (by kernel_rfl) (⟨k0', k1'⟩) ?_
    clear k0' k1'
    repeat (
      refine plan_read rfl (fun K hK => ?_)
      first
        | (refine plan_neg ?_ ?_
           focus (go_simp; done)
           go_simp
           refine hK _ ?_
           clear hK K)
        | (apply plan_pos
           focus (go_simp; done)
           focus (
             intro W hW
             (obtain ⟨d0, d1⟩ := hW)
             go_simp
             first
               | done
               | exact rfl)
           go_simp
           refine hK _ ?_
           clear hK K))
    refine plan_only rfl (fun Q hQ => ?_)
    go_wp2
    refine hQ _ _ (fun h => absurd h (by omega)) ?_
    clear hQ Q
    refine plan_only rfl (fun Q hQ => ?_)
    go_wp2
    refine hQ _ _ (fun h => absurd h (by omega)) ?_
    clear hQ Q
    refine plan_only rfl (fun Q hQ => ?_)
    go_wp2
    refine hQ _ _ (fun h => absurd h (by omega)) ?_
    clear hQ Q
    unfold Plan.wp
    go_wp2
    go_end0
    rw [← HBE.out]
    exact settle_end H.out HV.out (by rw [HN.out]; exact hsk) HC.out (by rw [HBE.out]; exact HW3.out)
end Go.Proofs.Ytffpmcelelloeaa
