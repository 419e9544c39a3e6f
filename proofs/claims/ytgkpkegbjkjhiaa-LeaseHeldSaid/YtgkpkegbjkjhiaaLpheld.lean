/-
  The program's book: Held.
-/
import Derived.Test.YtgkpkegbjkjhiaaLpnew
namespace Go.Proofs.Ytgkpkegbjkjhiaa
open Go.RowKit Gm

namespace Gm
theorem pbest_step {g : List Gr} (k : Bs) {i : Nat} (hi : i < g.length) : bestG (g.take (i + 1)) k = max (bestG (g.take i) k) (sumC g[i].l k) := by
  rw [List.take_succ_eq_append_getElem hi, bestG_snoc]
end Gm

set_option maxRecDepth 100000 in
set_option maxHeartbeats 4000000 in
theorem held_any (p : Nat) (D : Bk) (R : Nat → Prop) (k : Bs) (w : World) (h : PBook w p D R) (hD : OkB D) (hk : k.length ≤ 1048576) :
    Calls Try.prog 30 #[.pointer (some ⟨p, 0, none⟩), .string (S k)] w fun e w' => e = .returned (.int .i64 (heldB D k)) ∧ Below w.heap.size w w' := by
  obtain ⟨v, gx, u, _, _, hq⟩ := h
  obtain ⟨c0, _, c2, _, hpl⟩ := hq.cells
  have HQ := Lib.hid hq
  have HD := Lib.hid hD
  obtain ⟨a, cap, hv⟩ := row_form hq.row
  subst hv
  obtain ⟨n, hn⟩ : ∃ n, gx.length = n := ⟨_, rfl⟩
  rw [hn] at c2
  have HN := Lib.hid hn
  have hgl : D.g.length = n := by rw [hq.eq, List.length_map, hn]
  have HG := Lib.hid hgl
  have hn1000 : n ≤ 1000 := by have := hD.len; omega
  by_cases hu : D.unknown = true
  · have HR : Hid (heldB D k = -1) := Lib.hid (by unfold heldB; rw [if_pos hu])
    rw [HR.out]
    rw [hu] at c0
    have c0' : w.cell? ⟨p, 0, none⟩ = some (.bool false) := c0
    clear hq hD hu hn hgl HR c0
    go_enter Try.func30, Try.ntmps30
    go_wp2
    go_ret
    exact ⟨rfl, Below.refl _ _⟩
  · have hu' : D.unknown = false := by simpa using hu
    have HR : Hid (heldB D k = bestG D.g k) := Lib.hid (by unfold heldB; rw [if_neg hu])
    rw [HR.out]
    rw [hu'] at c0
    have c0' : w.cell? ⟨p, 0, none⟩ = some (.bool true) := c0
    have HB0 : Hid (bestG (D.g.take 0) k = 0) := Lib.hid rfl
    clear hq hD hu hu' hn hgl HR c0
    go_enter Try.func30, Try.ntmps30
    go_wp2
    go_loopw [5, 18] (fun bv iv wr => ∃ i : Nat, i ≤ n ∧ iv = .int .i64 (i : Int) ∧ bv = .int .i64 (bestG (D.g.take i) k) ∧ Below w.heap.size w wr) (fun _ iv _ => n - (intOf iv).toNat)
    case atStart => exact ⟨0, Nat.zero_le _, rfl, by rw [HB0.out], Below.refl _ _⟩
    case round =>
      obtain ⟨i, hi, rfl, rfl, hB⟩ := hrel
      clear HB0
      have HB := Lib.hid hB
      have hsz := hB.size
      obtain ⟨bi, hbi⟩ : ∃ b, bestG (D.g.take i) k = b := ⟨_, rfl⟩
      by_cases hlt : i < n
      · have hil : i < gx.length := by rw [HN.out]; exact hlt
        have hil2 : i < D.g.length := by rw [HG.out]; exact hlt
        obtain ⟨g, cap', hve, hgl2, d0, d1, d2⟩ := (HQ.out.below hB).grant hil
        obtain rfl : a = some ⟨g, 0, none⟩ := by injection hve
        obtain ⟨y, hy⟩ : ∃ y, gx[i] = y := ⟨_, rfl⟩
        have hym : y ∈ gx := hy ▸ List.getElem_mem hil
        have hyc := (HQ.out.below hB).cnt y hym
        have hfit := HD.out.fit y.1 (by rw [HQ.out.eq]; exact List.mem_map.2 ⟨y, hym, rfl⟩)
        rw [hy] at d0 d1 d2
        have hgi : D.g[i] = y.1 := by
          have h1 := HQ.out.eq
          have h2 : D.g[i]? = some y.1 := by rw [h1, List.getElem?_map, List.getElem?_eq_getElem hil, hy]; rfl
          rw [List.getElem?_eq_getElem hil2] at h2
          exact Option.some.inj h2
        have hbs := pbest_step k hil2
        rw [hgi, hbi] at hbs
        have hsb := sumC_bd y.1.l k
        have hl1 := hfit.1
        obtain ⟨s, hs⟩ : ∃ s, sumC y.1.l k = s := ⟨_, rfl⟩
        have hlk : ∀ o, (Instr.lookup 56 (.map (some y.2)) (.string (S k)) false).run Try.prog (wr.alloc o) = .ok (.int .i64 s) (wr.alloc o) := fun o => by
          rw [← hs]
          exact (hyc.moved (((Below.refl wr.heap.size wr).alloc (Nat.le_refl _) o).block _ hyc.lt)).look k (by omega)
        rw [hs] at hbs hsb
        obtain ⟨m2, hm2⟩ : ∃ m, y.2 = m := ⟨_, rfl⟩
        rw [hm2] at d2 hlk
        have hmx := qmax2 bi s
        obtain ⟨m1, hm1⟩ : ∃ m, max bi s = m := ⟨_, rfl⟩
        rw [hm1] at hmx hbs
        have HBS := Lib.hid hbs
        have hi0' : (0 : Int) ≤ (i : Int) := by omega
        have hi1 : (i : Int) < (n : Int) := by omega
        have bbi : 0 ≤ bi ∧ bi ≤ 1048576000 := by
          rw [← hbi]
          exact best_bd _ k 1048576000 (by omega) fun x hx => by
            have := sumC_bd x.l k
            have := (HD.out.fit x (List.mem_of_mem_take hx)).1
            omega
        have hsb' : 0 ≤ s ∧ s ≤ 1048576000 := by omega
        rw [hbi]
        clear hve hy hym hyc hfit hgi hbs hil hil2 hbi hB hs hm2 hm1 hsb hl1
        go_wp2
        go_roundw
        case rel => exact ⟨i + 1, by omega, by go_num, by rw [HBS.out], HB.out.alloc hsz _⟩
        case measure => simp [intOf]; omega
      · obtain rfl : i = n := by omega
        have HE : Hid (bi = bestG D.g k) := Lib.hid (by rw [← hbi, ← HG.out, List.take_length])
        rw [hbi]
        clear hlt hbi hB
        go_wp2
        go_ret
        exact ⟨ret_int HE.out, HB.out⟩
end Go.Proofs.Ytgkpkegbjkjhiaa
