/-
  The law's own clocks: a closure over raw numbers.
-/
import Derived.Test.YtgkpkegbjkjhiaaLmem
import Derived.Test.YtgkpkegbjkjhiaaCalm
namespace Go.Proofs.Ytgkpkegbjkjhiaa
open Go.RowKit Gm

namespace Gm
def skN (l : List Int) (i : Nat) : Int := if l.length = 0 then 0 else skewN (l[i % l.length]?.getD 0)
theorem skN_bd (l : List Int) (i : Nat) : -2 ≤ skN l i ∧ skN l i ≤ 2 := by
  have := skew_bd (l[i % l.length]?.getD 0)
  unfold skN; split <;> omega
end Gm

set_option maxRecDepth 100000 in
set_option maxHeartbeats 2000000 in
theorem skewc_any (B g : Nat) (a : Option Addr) (len cap : Nat) (l : List Int) (i : Nat) (w : World) (h : KeepB B w a len l) (hB : B ≤ w.heap.size) (hg : w.cell? ⟨g, 0, none⟩ = some (.slice a len cap)) (hgl : g < w.heap.size) (hi : i ≤ 1000) :
    Calls Try.prog 34 #[.int .i64 (i : Int), .pointer (some ⟨g, 0, none⟩)] w fun e w' => e = .returned (.int .i64 (skN l i)) ∧ Below w.heap.size w w' := by
  obtain ⟨h0, b, off, h1, h2⟩ := h
  by_cases hn : len = 0
  · subst hn
    have HS : Hid (skN l i = 0) := Lib.hid (by unfold skN; rw [if_pos h0])
    rw [HS.out]
    clear HS h0 h1 h2
    go_enter Try.func34, Try.ntmps34
    go_wp2
    go_ret
    exact ⟨rfl, Below.refl _ _⟩
  · have hpos : 0 < len := by omega
    have hrl : i % len < len := Nat.mod_lt _ hpos
    obtain ⟨r, hr⟩ : ∃ r, i % len = r := ⟨_, rfl⟩
    have hril : i % len < l.length := by rw [h0]; exact hrl
    obtain ⟨hb, hc, hx⟩ := h2 (i % len) hril
    obtain rfl : a = some ⟨b, off, none⟩ := by
      rcases h1 with h | h
      · exact absurd h hn
      · exact h
    obtain ⟨x, hxe⟩ : ∃ x, l[i % len] = x := ⟨_, rfl⟩
    have HS : Hid (skN l i = skewN x) := Lib.hid (by
      unfold skN
      rw [if_neg (by omega), h0, List.getElem?_eq_getElem hril, Option.getD_some, hxe])
    rw [hxe] at hc hx
    have hr1 : ((i : Int)).tmod (len : Int) = (r : Int) := by rw [Int.tmod_eq_emod_of_nonneg (by omega), ← hr]; exact (Int.natCast_emod i len).symm
    have hr2 : ((i : Int)) % (len : Int) = (r : Int) := by rw [← hr]; exact (Int.natCast_emod i len).symm
    have hln : ¬ (len : Int) = 0 := by omega
    have hr3 : (r : Int) < (len : Int) := by omega
    have hr4 : (0 : Int) ≤ (r : Int) := by omega
    rw [hr] at hc
    have HX := Lib.hid hx
    have HG := Lib.hid hg
    have HC := Lib.hid hc
    obtain ⟨y, hy⟩ : ∃ y, skewN x = y := ⟨_, rfl⟩
    have HY := Lib.hid hy
    rw [HS.out, hy]
    clear HS h0 h1 h2 hxe hr hx hc hy hril hrl
    go_enter Try.func34, Try.ntmps34
    go_wp2
    have hbd := (Below.refl w.heap.size w).drew
    (refine region_calm (fun W => Below w.heap.size w W) (by kernel_rfl) (by kernel_rfl) (hbd) ?_
     repeat (
       refine wpQuiet_step (fun K hK => ?_)
       first
         | (refine calm_neg ?_ ?_
            focus (go_simp; done)
            go_simp
            refine hK _ ?_
            clear hK K)
         | (apply calm_pos
            focus (go_simp; done)
            focus (
              intro W hW
              (have d0 := (hW.cell (p := ⟨g, 0, none⟩) hgl).trans HG.out
               have d1 := (hW.cell (p := ⟨b, off + r, none⟩) (Nat.lt_of_lt_of_le hb hB)).trans HC.out)
              go_simp
              first
                | done
                | exact rfl
                | (first
                    | (go_at_call 33; (have hc := skew_any x W HX.out; rw [HY.out] at hc; with_reducible refine hc.mono ?_); rintro e w12 ⟨rfl, rfl⟩; exact ⟨rfl, hW⟩)))
            go_simp
            refine hK _ ?_
            clear hK K))
     refine wpQuiet_nil ?_)
    intro w13 hb13
    go_wp2
    go_ret
    exact ⟨rfl, hb13⟩
end Go.Proofs.Ytgkpkegbjkjhiaa
