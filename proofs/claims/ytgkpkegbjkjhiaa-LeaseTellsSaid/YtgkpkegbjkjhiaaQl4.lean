/-
  The document's own book: Held; all of it lifted.
-/
import Derived.Test.YtgkpkegbjkjhiaaQl3
namespace Go.Proofs.Ytgkpkegbjkjhiaa
open Go.RowKit Gm

namespace Gm
theorem sum_step {l : List Bd} (k : Bs) {m : Nat} (hm : m < l.length) : sumC (l.take (m + 1)) k = sumC (l.take m) k + (if l[m].work = k then numC l[m].cnt else 0) := by
  rw [List.take_succ_eq_append_getElem hm, sumC_app, sumC_cons, sumC_nil, Int.add_zero]
theorem best_step {g : List Gr} (k : Bs) {i : Nat} (hi : i < g.length) : bestG (g.take (i + 1)) k = max (bestG (g.take i) k) (sumC g[i].l k) := by
  rw [List.take_succ_eq_append_getElem hi, bestG_snoc]
end Gm

set_option maxRecDepth 100000 in
set_option maxHeartbeats 4000000 in
theorem qheld_any (p : Nat) (D : Bk) (R : Nat → Prop) (k : Bs) (w : World) (h : QBook w p D R) (hD : OkB D) :
    Calls Try.prog 31 #[.pointer (some ⟨p, 0, none⟩), .string (S k)] w fun e w' => e = .returned (.int .i64 (heldB D k)) ∧ Below w.heap.size w w' := by
  obtain ⟨v, gx, _, hq⟩ := h
  obtain ⟨c0, _, c2, _, hpl⟩ := hq.cells
  have HQ := Lib.hid hq
  have HD := Lib.hid hD
  obtain ⟨a, cap, hv⟩ := row_form hq.row
  subst hv
  obtain ⟨n, hn⟩ : ∃ n, gx.length = n := ⟨_, rfl⟩
  rw [hn] at c2
  have HN := Lib.hid hn
  have hgl : D.g.length = n := by rw [hq.eq, List.length_map, hn]
  have HG := Lib.hid hgl
  have hn1000 : n ≤ 1000 := by have := hD.len; omega
  by_cases hu : D.unknown = true
  · have HR : Hid (heldB D k = -1) := Lib.hid (by unfold heldB; rw [if_pos hu])
    rw [HR.out]
    rw [hu] at c0
    clear hq hD hu hn hgl HR
    go_enter Try.func31, Try.ntmps31
    go_wp2
    go_ret
    exact ⟨rfl, Below.refl _ _⟩
  · have hu' : D.unknown = false := by simpa using hu
    have HR : Hid (heldB D k = bestG D.g k) := Lib.hid (by unfold heldB; rw [if_neg hu])
    rw [HR.out]
    rw [hu'] at c0
    have HB0 : Hid (bestG (D.g.take 0) k = 0) := Lib.hid rfl
    clear hq hD hu hu' hn hgl HR
    go_enter Try.func31, Try.ntmps31
    go_wp2
    go_loopw [5, 6] (fun bv iv wr => ∃ i : Nat, i ≤ n ∧ iv = .int .i64 (i : Int) ∧ bv = .int .i64 (bestG (D.g.take i) k) ∧ wr = w) (fun _ iv _ => n - (intOf iv).toNat)
    case atStart => exact ⟨0, Nat.zero_le _, rfl, by rw [HB0.out], rfl⟩
    case round =>
      obtain ⟨i, hi, rfl, rfl, rfl⟩ := hrel
      clear HB0
      obtain ⟨bi, hbi⟩ : ∃ b, bestG (D.g.take i) k = b := ⟨_, rfl⟩
      have HBI := Lib.hid hbi
      by_cases hlt : i < n
      · have hil : i < gx.length := by rw [HN.out]; exact hlt
        have hil2 : i < D.g.length := by rw [HG.out]; exact hlt
        obtain ⟨g, cap', hve, hgl2, d0, d1, d2⟩ := HQ.out.grant hil
        obtain rfl : a = some ⟨g, 0, none⟩ := by injection hve
        obtain ⟨y, hy⟩ : ∃ y, gx[i] = y := ⟨_, rfl⟩
        have hym : y ∈ gx := hy ▸ List.getElem_mem hil
        have hyb := HQ.out.bnd y hym
        have hfit := HD.out.fit y.1 (by rw [HQ.out.eq]; exact List.mem_map.2 ⟨y, hym, rfl⟩)
        obtain ⟨ya, yc, hys, _, hbin⟩ := binds_own hyb
        rw [hy] at d2
        rw [hys] at d2
        have hgi : D.g[i] = y.1 := by
          have h1 := HQ.out.eq
          have h2 : D.g[i]? = some y.1 := by rw [h1, List.getElem?_map, List.getElem?_eq_getElem hil, hy]; rfl
          rw [List.getElem?_eq_getElem hil2] at h2
          exact Option.some.inj h2
        have hbs := best_step k hil2
        rw [hgi, hbi] at hbs
        obtain ⟨l, hle⟩ : ∃ l, y.1.l = l := ⟨_, rfl⟩
        rw [hle] at d2 hbin hfit hbs
        have hl1 := hfit.1
        have HFIT := Lib.hid hfit.2.2.2.2.2
        have HBIN := Lib.hid hbin
        have HBS := Lib.hid hbs
        have hi0' : (0 : Int) ≤ (i : Int) := by omega
        have hi1 : (i : Int) < (n : Int) := by omega
        have bbi : 0 ≤ bi ∧ bi ≤ 1048576000 := by
          rw [← hbi]
          exact best_bd _ k 1048576000 (by omega) fun x hx => by
            have := sumC_bd x.l k
            have := (HD.out.fit x (List.mem_of_mem_take hx)).1
            omega
        have HS0 : Hid (sumC (l.take 0) k = 0) := Lib.hid rfl
        rw [hbi]
        clear hve hy hym hyb hfit hys hbin hgi hbs hle hil hil2 hbi d0 d1
        go_wp2
        go_loopw [7, 8] (fun sv jv wx => ∃ j : Nat, j ≤ l.length ∧ jv = .int .i64 (j : Int) ∧ sv = .int .i64 (sumC (l.take j) k) ∧ wx = wr) (fun _ jv _ => l.length - (intOf jv).toNat)
        case atStart => exact ⟨0, Nat.zero_le _, rfl, by rw [HS0.out], rfl⟩
        case round =>
          obtain ⟨j, hj, rfl, rfl, rfl⟩ := hrel
          clear HS0
          obtain ⟨sj, hsj⟩ : ∃ b, sumC (l.take j) k = b := ⟨_, rfl⟩
          have HSJ := Lib.hid hsj
          rw [hsj]
          have bsj := sumC_bd (l.take j) k
          rw [hsj, List.length_take] at bsj
          have bsj' : 0 ≤ sj ∧ sj ≤ 1048576000 := by omega
          clear bsj
          by_cases hjl : j < l.length
          · obtain ⟨_, gb, goff, hga, hgc⟩ := HBIN.out
            obtain ⟨rfl, hgb⟩ : ya = some ⟨gb, goff, none⟩ ∧ _ := by
              rcases hga with h | h
              · omega
              · exact h
            obtain ⟨x, hx⟩ : ∃ x, l[j] = x := ⟨_, rfl⟩
            obtain ⟨e0, _, e2⟩ := hgc j hjl
            have hxc := HFIT.out l[j] (List.getElem_mem hjl)
            have hst := sum_step k hjl
            rw [hx] at e0 e2 hst hxc
            rw [hsj] at hst
            have hj0 : (0 : Int) ≤ (j : Int) := by omega
            have hj1 : (j : Int) < (l.length : Int) := by omega
            clear hga hgc hx hsj hgb
            by_cases hw : x.work = k
            · have e1 : ((S x.work).toList == (S k).toList) = true := by rw [S_beq]; simpa using hw
              rw [if_pos hw] at hst
              have hmx := qmax2 x.cnt 0
              obtain ⟨m1, hm1⟩ : ∃ m, max x.cnt 0 = m := ⟨_, rfl⟩
              have hmn := qmin2 m1 1000
              have hnc : numC x.cnt = min m1 1000 := by unfold numC; rw [hm1]
              rw [hm1] at hmx
              obtain ⟨m2, hm2⟩ : ∃ m, min m1 1000 = m := ⟨_, rfl⟩
              rw [hm2] at hmn hnc
              have bm2 : 0 ≤ m2 ∧ m2 ≤ 1000 := by omega
              rw [hnc] at hst
              have HST := Lib.hid hst
              clear hw hst hm1 hm2 hnc
              go_wp2
              go_roundw
              case rel => exact ⟨j + 1, by omega, by go_num, by rw [HST.out], trivial⟩
              case measure => simp [intOf]; omega
            · have e1 : ((S x.work).toList == (S k).toList) = false := by rw [S_beq]; simpa using hw
              rw [if_neg hw, Int.add_zero] at hst
              have HST := Lib.hid hst
              clear hw hst
              go_wp2
              go_roundw
              case rel => exact ⟨j + 1, by omega, by go_num, by rw [HST.out], trivial⟩
              case measure => simp [intOf]; omega
          · obtain rfl : j = l.length := by omega
            have hst : bestG (D.g.take (i + 1)) k = max bi sj := by rw [HBS.out, ← HSJ.out, List.take_length]
            have hmx := qmax2 bi sj
            obtain ⟨m1, hm1⟩ : ∃ m, max bi sj = m := ⟨_, rfl⟩
            rw [hm1] at hmx hst
            have HST := Lib.hid hst
            clear hjl hst hm1 hsj
            go_wp2
            go_roundw
            case rel => exact ⟨i + 1, by omega, by go_num, by rw [HST.out], trivial⟩
            case measure => simp [intOf]; omega
      · obtain rfl : i = n := by omega
        have HE : Hid (bi = bestG D.g k) := Lib.hid (by rw [← hbi, ← HG.out, List.take_length])
        rw [hbi]
        clear hlt hbi
        go_wp2
        go_ret
        exact ⟨ret_int HE.out, Below.refl _ _⟩
end Go.Proofs.Ytgkpkegbjkjhiaa
