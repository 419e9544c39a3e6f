/-
  Raw numbers as what three cells hold and are to have (a law's own function).
-/
import Derived.Deep.AppendLies
import Derived.Laws.OwnMore
import Derived.OwnWalk
import Derived.Deep.DeepCutAuto
import Derived.Test.YtjkfiilnogacnaaSmem
namespace Go.Proofs.Ytjkfiilnogacnaa
open Go.RowKit Gm

namespace Gm
def heldR (z : List Int) (i : Nat) : Int := match z[2 * i]? with | some x => pk x 9 - 1 | none => 0
def targR (z : List Int) (i : Nat) : Int := match z[2 * i + 1]? with | some x => pk x 9 | none => 0
def heldsN (z : List Int) : List Int := (List.range 3).map (heldR z)
def targsN (z : List Int) : List Int := (List.range 3).map (targR z)
theorem heldR_bd (z : List Int) (i : Nat) : -1 ≤ heldR z i ∧ heldR z i ≤ 7 := by
  unfold heldR
  split
  · rename_i x _; have := pk_bd x 9 (by omega); omega
  · omega
theorem targR_bd (z : List Int) (i : Nat) : 0 ≤ targR z i ∧ targR z i ≤ 8 := by
  unfold targR
  split
  · rename_i x _; have := pk_bd x 9 (by omega); omega
  · omega
theorem heldsN_eq (z : List Int) : heldsN z = [heldR z 0, heldR z 1, heldR z 2] := rfl
theorem targsN_eq (z : List Int) : targsN z = [targR z 0, targR z 1, targR z 2] := rfl
theorem heldR_of {z : List Int} {i j : Nat} (hj : j = 2 * i) (h : j < z.length) : heldR z i = pk z[j] 9 - 1 := by
  subst hj; unfold heldR; rw [List.getElem?_eq_getElem h]
theorem targR_of {z : List Int} {i j : Nat} (hj : j = 2 * i + 1) (h : j < z.length) : targR z i = pk z[j] 9 := by
  subst hj; unfold targR; rw [List.getElem?_eq_getElem h]
theorem heldR_no {z : List Int} {i : Nat} (h : z.length ≤ 2 * i) : heldR z i = 0 := by unfold heldR; rw [List.getElem?_eq_none h]
theorem targR_no {z : List Int} {i : Nat} (h : z.length ≤ 2 * i + 1) : targR z i = 0 := by unfold targR; rw [List.getElem?_eq_none h]
theorem range_snoc (f : Nat → Int) (i : Nat) : (List.range (i + 1)).map f = (List.range i).map f ++ [f i] := by rw [List.range_succ, List.map_append]; rfl
theorem range_snoc_len (f : Nat → Int) (i : Nat) : ((List.range i).map f).length = i := by simp
end Gm

/-- Two rows of numbers of the call's own, in blocks of their own. -/
structure Two (w wr : World) (hv tv : Value) (n m : Nat) (xs ys : List Int) : Prop where
  a : wr.ownsRow w.heap.size 3 1 hv n (numV xs)
  b : wr.ownsRow w.heap.size 3 1 tv m (numV ys)
  ne : ∀ k, hv.ownBlock = some k → tv.ownBlock ≠ some k
  bw : Below w.heap.size w wr
theorem Two.swap {w wr : World} {hv tv : Value} {n m : Nat} {xs ys : List Int} (h : Two w wr hv tv n m xs ys) : Two w wr tv hv m n ys xs := ⟨h.b, h.a, fun k e e' => h.ne k e' e, h.bw⟩
theorem Two.grow {w wr w5 : World} {hv tv : Value} {n m g cp : Nat} {xs ys : List Int} {x : Int} {o : Obj} (h : Two w wr hv tv n m xs ys)
    (ho : w5.ownsRow w.heap.size 3 1 (.slice (some ⟨g, 0, none⟩) (n + 1) cp) (n + 1) (numV xs ++ [.int .i64 x])) (hg : (wr.alloc o).grownBy w5 hv.ownBlock) (hat : hv.ownBlock = some g ∨ g = (wr.alloc o).heap.size) :
    Two w w5 (.slice (some ⟨g, 0, none⟩) (n + 1) cp) tv (n + 1) m (xs ++ [x]) ys where
  a := by simpa [numV] using ho
  b := row_moved (h.b.alloc o) fun k e => hg.block k ((h.b.alloc o).lt k e).2 (fun e2 => h.ne k e2.symm e)
  ne := fun k e e' => by
    have e1 : g = k := by simpa [Value.ownBlock] using e
    subst e1
    rcases hat with h1 | h1
    · exact h.ne _ h1 e'
    · have := (h.b.lt _ e').2
      have h2 : (wr.alloc o).heap.size = wr.heap.size + 1 := by simp
      omega
  bw := (h.bw.alloc h.bw.size o).grown hg (by have h2 : (wr.alloc o).heap.size = wr.heap.size + 1 := by simp
                                              have := h.bw.size
                                              omega) (fun j e => (h.a.lt j e).1)
theorem row_some {w : World} {base e size n : Nat} {v : Value} {xs : List Value} (h : w.ownsRow base e size v n xs) (hn : 0 < n) : ∃ g c, v = .slice (some ⟨g, 0, none⟩) n c := by
  rcases h.2 with ⟨_, h0⟩ | ⟨g, cap, cur, hv, _⟩
  · omega
  · exact ⟨g, cap, hv⟩

set_option maxRecDepth 100000 in
set_option maxHeartbeats 8000000 in
theorem lists_any (B : Nat) (a : Option Addr) (len cap : Nat) (z : List Int) (w : World) (h : KeepB B w a len z) (hBw : B ≤ w.heap.size) :
    Calls Try.prog 16 #[.slice a len cap] w fun e w' => ∃ g1 c1 g2 c2, e = .returned (.tuple #[.slice (some ⟨g1, 0, none⟩) 3 c1, .slice (some ⟨g2, 0, none⟩) 3 c2]) ∧ Two w w' (.slice (some ⟨g1, 0, none⟩) 3 c1) (.slice (some ⟨g2, 0, none⟩) 3 c2) 3 3 (heldsN z) (targsN z) := by
  have HZ := Lib.hid h
  have HL : Hid (z.length = len) := Lib.hid h.1
  obtain ⟨j0, hj0, hq0, hq1, hq2⟩ := info_parts infoInt
  clear h
  go_enter Try.func16, Try.ntmps16
  go_wp2
  go_loopw [4, 5, 6] (fun hv tv iv wr => ∃ i : Nat, i ≤ 3 ∧ iv = .int .i64 (i : Int) ∧ Two w wr hv tv i i ((List.range i).map (heldR z)) ((List.range i).map (targR z))) (fun _ _ iv _ => 3 - (intOf iv).toNat)
  case atStart => exact ⟨0, Nat.zero_le _, rfl, World.ownsRow_nil _ _ _ _, World.ownsRow_nil _ _ _ _, fun k e => (by cases e), Below.refl _ _⟩
  case round =>
    obtain ⟨i, hi, rfl, htwo⟩ := hrel
    have HTWO := Lib.hid htwo
    have hsz := htwo.bw.size
    clear htwo
    by_cases hlt : i < 3
    · have hi0 : (0 : Int) ≤ (i : Int) := by omega
      have hi3 : (i : Int) < 3 := by omega
      obtain ⟨j, hj⟩ : ∃ j, 2 * i = j := ⟨_, rfl⟩
      obtain ⟨j1, hj1⟩ : ∃ j1, j + 1 = j1 := ⟨_, rfl⟩
      have HJ := Lib.hid hj
      have HJ1 := Lib.hid hj1
      have e2 : IntKind.i64.wrap (2 * (i : Int)) = (j : Int) := by rw [IntWalk.i64_in _ ⟨by omega, by omega⟩]; omega
      have e2' : 2 * (i : Int) = (j : Int) := by omega
      have e3 : IntKind.i64.wrap ((j : Int) + 1) = (j1 : Int) := by rw [IntWalk.i64_in _ ⟨by omega, by omega⟩]; omega
      have e3' : (j : Int) + 1 = (j1 : Int) := by omega
      have hjp : (0 : Int) ≤ (j : Int) := by omega
      have hj1p : (0 : Int) ≤ (j1 : Int) := by omega
      have HE1 : Hid ((List.range (i + 1)).map (heldR z) = (List.range i).map (heldR z) ++ [heldR z i]) := Lib.hid (range_snoc _ _)
      have HE2 : Hid ((List.range (i + 1)).map (targR z) = (List.range i).map (targR z) ++ [targR z i]) := Lib.hid (range_snoc _ _)
      obtain ⟨X, hX⟩ : ∃ X, (List.range i).map (heldR z) = X := ⟨_, rfl⟩
      obtain ⟨Y, hY⟩ : ∃ Y, (List.range i).map (targR z) = Y := ⟨_, rfl⟩
      rw [hX, hY] at HTWO
      rw [hX] at HE1
      rw [hY] at HE2
      obtain ⟨hx, hhx⟩ : ∃ x, heldR z i = x := ⟨_, rfl⟩
      obtain ⟨tx, htx⟩ : ∃ x, targR z i = x := ⟨_, rfl⟩
      have hbx := heldR_bd z i
      have tbx := targR_bd z i
      rw [hhx] at hbx HE1
      rw [htx] at tbx HE2
      have HHX := Lib.hid hhx
      have HTX := Lib.hid htx
      have HA0 : Hid ((wr.alloc (.cells #[.int .i64 hx] 3)).ownsRow w.heap.size 3 1 u4 i (numV X)) := Lib.hid (HTWO.out.a.alloc _)
      have HN0 : Hid ((wr.alloc (.cells #[.int .i64 hx] 3)).heap[wr.heap.size]? = some (.cells #[.int .i64 hx] 3)) := Lib.hid (new_at wr _)
      have hs0 : (wr.alloc (.cells #[.int .i64 hx] 3)).heap.size = wr.heap.size + 1 := by simp
      have HS0 : Hid (w.heap.size ≤ (wr.alloc (.cells #[.int .i64 hx] 3)).heap.size) := Lib.hid (by omega)
      clear hX hY hhx htx hs0 hj hj1
      by_cases h1 : j1 < len
      · have h0 : j < len := by have := HJ1.out; omega
        obtain ⟨hzl, b, off, ha, hc⟩ := HZ.out
        obtain rfl : a = some ⟨b, off, none⟩ := by
          rcases ha with h | h
          · omega
          · exact h
        clear ha hzl
        obtain ⟨b0, c0, x0⟩ := hc j (by rw [HL.out]; exact h0)
        obtain ⟨u0, hu0⟩ : ∃ x, z[j]'(by rw [HL.out]; exact h0) = x := ⟨_, rfl⟩
        rw [hu0] at c0 x0
        replace c0 := (HTWO.out.bw.cell (p := ⟨b, off + j, none⟩) (Nat.lt_of_lt_of_le b0 hBw)).trans c0
        have HX0 := Lib.hid x0
        have hbl0 : b < wr.heap.size := by omega
        have hii0 : (j : Int) < (len : Int) := by omega
        clear x0 b0
        obtain ⟨b1, c1, x1⟩ := hc j1 (by rw [HL.out]; exact h1)
        obtain ⟨u1, hu1⟩ : ∃ x, z[j1]'(by rw [HL.out]; exact h1) = x := ⟨_, rfl⟩
        rw [hu1] at c1 x1
        replace c1 := (HTWO.out.bw.cell (p := ⟨b, off + j1, none⟩) (Nat.lt_of_lt_of_le b1 hBw)).trans c1
        have HX1 := Lib.hid x1
        have hbl1 : b < wr.heap.size := by omega
        have hii1 : (j1 : Int) < (len : Int) := by omega
        clear x1 b1
        clear hc
        obtain ⟨p0, hp0⟩ : ∃ p, pk u0 9 = p := ⟨_, rfl⟩
        have hpx : hx = p0 - 1 := by rw [← HHX.out, heldR_of HJ.out.symm (by rw [HL.out]; exact h0), hu0, hp0]
        have bp0 := pk_bd u0 9 (by omega)
        rw [hp0] at bp0
        have HP0 := Lib.hid hp0
        have bp0a := bp0.1
        have bp0b := bp0.2
        have wq : IntKind.i64.wrap (p0 - 1) = hx := by rw [IntWalk.i64_in _ ⟨by omega, by omega⟩]; omega
        have wq' : p0 - 1 = hx := by omega
        clear hp0 hu0 hpx bp0
        obtain ⟨p1, hp1⟩ : ∃ p, pk u1 9 = p := ⟨_, rfl⟩
        have hpt : tx = p1 := by rw [← HTX.out, targR_of (show j1 = 2 * i + 1 by have := HJ.out; have := HJ1.out; omega) (by rw [HL.out]; exact h1), hu1, hp1]
        have bp1 := pk_bd u1 9 (by omega)
        rw [hp1] at bp1
        have HP1 := Lib.hid hp1
        obtain rfl := hpt
        clear hp1 hu1
        go_upto_region 13 with (first | (go_at_call 17; (have hc := pick_any u0 9 wr HX0.out (by omega) (by omega); rw [HP0.out] at hc; with_reducible refine hc.mono ?_); rintro e w1 ⟨rfl, rfl⟩) | (go_at_call 17; (have hc := pick_any u1 9 wr HX1.out (by omega) (by omega); rw [HP1.out] at hc; with_reducible refine hc.mono ?_); rintro e w1 ⟨rfl, rfl⟩) | (at_builtin; refine wpList_append_lies _ (by rfl) (.tmp 38) (.tmp 40) 22 (by rfl) w.heap.size 3 j0 _ 1 8 Try.underlying22 hj0 hq0 hq1 hq2 rfl (by decide) u4 i (numV X) (by rfl) HA0.out ⟨wr.heap.size, 0, none⟩ 1 1 [.int .i64 hx] (by rfl) (by rfl) (news_one HN0.out) (by simp [Value.oneCell']) (by omega) (by unfold maxLen; omega) (by omega) HS0.out _ rfl ?_; intro g1 cp1 w5 ho5 hg5 hat5 hl5; have H5 := Lib.hid (HTWO.out.grow ho5 hg5 hat5).swap; clear ho5 hg5 hat5))
        have HA5 : Hid ((w5.alloc (.cells #[.int .i64 tx] 3)).ownsRow w.heap.size 3 1 u5 i (numV Y)) := Lib.hid (H5.out.a.alloc _)
        have HN5 : Hid ((w5.alloc (.cells #[.int .i64 tx] 3)).heap[w5.heap.size]? = some (.cells #[.int .i64 tx] 3)) := Lib.hid (new_at w5 _)
        have hs5 : (w5.alloc (.cells #[.int .i64 tx] 3)).heap.size = w5.heap.size + 1 := by simp
        have hs6 := H5.out.bw.size
        have HS5 : Hid (w.heap.size ≤ (w5.alloc (.cells #[.int .i64 tx] 3)).heap.size) := Lib.hid (by omega)
        clear hs5 hs6 HA0 HN0
        go_wp2_with (at_builtin; refine wpList_append_lies _ (by rfl) (.tmp 42) (.tmp 44) 22 (by rfl) w.heap.size 3 j0 _ 1 8 Try.underlying22 hj0 hq0 hq1 hq2 rfl (by decide) u5 i (numV Y) (by rfl) HA5.out ⟨w5.heap.size, 0, none⟩ 1 1 [.int .i64 tx] (by rfl) (by rfl) (news_one HN5.out) (by simp [Value.oneCell']) (by omega) (by unfold maxLen; omega) (by omega) HS5.out _ rfl ?_; intro g2 cp2 w6 ho6 hg6 hat6 hl6; have H6 := Lib.hid (H5.out.grow ho6 hg6 hat6).swap; clear ho6 hg6 hat6)
        clear HA5 HN5 HS5 HS0
        go_roundw
        case rel => exact ⟨i + 1, by omega, by go_num, by rw [HE1.out, HE2.out]; exact H6.out⟩
        case measure => simp [intOf]; omega
      · have h1' : ¬ ((j1 : Int) < (len : Int)) := by omega
        by_cases h0 : j < len
        · obtain rfl : tx = 0 := by rw [← HTX.out]; exact targR_no (by rw [HL.out, HJ.out, HJ1.out]; omega)
          obtain ⟨hzl, b, off, ha, hc⟩ := HZ.out
          obtain rfl : a = some ⟨b, off, none⟩ := by
            rcases ha with h | h
            · omega
            · exact h
          clear ha hzl
          obtain ⟨b0, c0, x0⟩ := hc j (by rw [HL.out]; exact h0)
          obtain ⟨u0, hu0⟩ : ∃ x, z[j]'(by rw [HL.out]; exact h0) = x := ⟨_, rfl⟩
          rw [hu0] at c0 x0
          replace c0 := (HTWO.out.bw.cell (p := ⟨b, off + j, none⟩) (Nat.lt_of_lt_of_le b0 hBw)).trans c0
          have HX0 := Lib.hid x0
          have hbl0 : b < wr.heap.size := by omega
          have hii0 : (j : Int) < (len : Int) := by omega
          clear x0 b0
          clear hc
          obtain ⟨p0, hp0⟩ : ∃ p, pk u0 9 = p := ⟨_, rfl⟩
          have hpx : hx = p0 - 1 := by rw [← HHX.out, heldR_of HJ.out.symm (by rw [HL.out]; exact h0), hu0, hp0]
          have bp0 := pk_bd u0 9 (by omega)
          rw [hp0] at bp0
          have HP0 := Lib.hid hp0
          have bp0a := bp0.1
          have bp0b := bp0.2
          have wq : IntKind.i64.wrap (p0 - 1) = hx := by rw [IntWalk.i64_in _ ⟨by omega, by omega⟩]; omega
          have wq' : p0 - 1 = hx := by omega
          clear hp0 hu0 hpx bp0
          go_upto_region 13 with (first | (go_at_call 17; (have hc := pick_any u0 9 wr HX0.out (by omega) (by omega); rw [HP0.out] at hc; with_reducible refine hc.mono ?_); rintro e w1 ⟨rfl, rfl⟩) | (at_builtin; refine wpList_append_lies _ (by rfl) (.tmp 38) (.tmp 40) 22 (by rfl) w.heap.size 3 j0 _ 1 8 Try.underlying22 hj0 hq0 hq1 hq2 rfl (by decide) u4 i (numV X) (by rfl) HA0.out ⟨wr.heap.size, 0, none⟩ 1 1 [.int .i64 hx] (by rfl) (by rfl) (news_one HN0.out) (by simp [Value.oneCell']) (by omega) (by unfold maxLen; omega) (by omega) HS0.out _ rfl ?_; intro g1 cp1 w5 ho5 hg5 hat5 hl5; have H5 := Lib.hid (HTWO.out.grow ho5 hg5 hat5).swap; clear ho5 hg5 hat5))
          have HA5 : Hid ((w5.alloc (.cells #[.int .i64 0] 3)).ownsRow w.heap.size 3 1 u5 i (numV Y)) := Lib.hid (H5.out.a.alloc _)
          have HN5 : Hid ((w5.alloc (.cells #[.int .i64 0] 3)).heap[w5.heap.size]? = some (.cells #[.int .i64 0] 3)) := Lib.hid (new_at w5 _)
          have hs5 : (w5.alloc (.cells #[.int .i64 0] 3)).heap.size = w5.heap.size + 1 := by simp
          have hs6 := H5.out.bw.size
          have HS5 : Hid (w.heap.size ≤ (w5.alloc (.cells #[.int .i64 0] 3)).heap.size) := Lib.hid (by omega)
          clear hs5 hs6 HA0 HN0
          go_wp2_with (at_builtin; refine wpList_append_lies _ (by rfl) (.tmp 42) (.tmp 44) 22 (by rfl) w.heap.size 3 j0 _ 1 8 Try.underlying22 hj0 hq0 hq1 hq2 rfl (by decide) u5 i (numV Y) (by rfl) HA5.out ⟨w5.heap.size, 0, none⟩ 1 1 [.int .i64 0] (by rfl) (by rfl) (news_one HN5.out) (by simp [Value.oneCell']) (by omega) (by unfold maxLen; omega) (by omega) HS5.out _ rfl ?_; intro g2 cp2 w6 ho6 hg6 hat6 hl6; have H6 := Lib.hid (H5.out.grow ho6 hg6 hat6).swap; clear ho6 hg6 hat6)
          clear HA5 HN5 HS5 HS0
          go_roundw
          case rel => exact ⟨i + 1, by omega, by go_num, by rw [HE1.out, HE2.out]; exact H6.out⟩
          case measure => simp [intOf]; omega
        · have h0' : ¬ ((j : Int) < (len : Int)) := by omega
          obtain rfl : tx = 0 := by rw [← HTX.out]; exact targR_no (by rw [HL.out, HJ.out, HJ1.out]; omega)
          obtain rfl : hx = 0 := by rw [← HHX.out]; exact heldR_no (by rw [HL.out, HJ.out]; omega)
          go_upto_region 13 with (at_builtin; refine wpList_append_lies _ (by rfl) (.tmp 38) (.tmp 40) 22 (by rfl) w.heap.size 3 j0 _ 1 8 Try.underlying22 hj0 hq0 hq1 hq2 rfl (by decide) u4 i (numV X) (by rfl) HA0.out ⟨wr.heap.size, 0, none⟩ 1 1 [.int .i64 0] (by rfl) (by rfl) (news_one HN0.out) (by simp [Value.oneCell']) (by omega) (by unfold maxLen; omega) (by omega) HS0.out _ rfl ?_; intro g1 cp1 w5 ho5 hg5 hat5 hl5; have H5 := Lib.hid (HTWO.out.grow ho5 hg5 hat5).swap; clear ho5 hg5 hat5)
          have HA5 : Hid ((w5.alloc (.cells #[.int .i64 0] 3)).ownsRow w.heap.size 3 1 u5 i (numV Y)) := Lib.hid (H5.out.a.alloc _)
          have HN5 : Hid ((w5.alloc (.cells #[.int .i64 0] 3)).heap[w5.heap.size]? = some (.cells #[.int .i64 0] 3)) := Lib.hid (new_at w5 _)
          have hs5 : (w5.alloc (.cells #[.int .i64 0] 3)).heap.size = w5.heap.size + 1 := by simp
          have hs6 := H5.out.bw.size
          have HS5 : Hid (w.heap.size ≤ (w5.alloc (.cells #[.int .i64 0] 3)).heap.size) := Lib.hid (by omega)
          clear hs5 hs6 HA0 HN0
          go_wp2_with (at_builtin; refine wpList_append_lies _ (by rfl) (.tmp 42) (.tmp 44) 22 (by rfl) w.heap.size 3 j0 _ 1 8 Try.underlying22 hj0 hq0 hq1 hq2 rfl (by decide) u5 i (numV Y) (by rfl) HA5.out ⟨w5.heap.size, 0, none⟩ 1 1 [.int .i64 0] (by rfl) (by rfl) (news_one HN5.out) (by simp [Value.oneCell']) (by omega) (by unfold maxLen; omega) (by omega) HS5.out _ rfl ?_; intro g2 cp2 w6 ho6 hg6 hat6 hl6; have H6 := Lib.hid (H5.out.grow ho6 hg6 hat6).swap; clear ho6 hg6 hat6)
          clear HA5 HN5 HS5 HS0
          go_roundw
          case rel => exact ⟨i + 1, by omega, by go_num, by rw [HE1.out, HE2.out]; exact H6.out⟩
          case measure => simp [intOf]; omega
    · obtain rfl : i = 3 := by omega
      obtain ⟨g1, c1, rfl⟩ := row_some HTWO.out.a (by omega)
      obtain ⟨g2, c2, rfl⟩ := row_some HTWO.out.b (by omega)
      clear hlt
      go_wp2
      go_ret2
      exact ⟨g1, c1, g2, c2, rfl, HTWO.out⟩
end Go.Proofs.Ytjkfiilnogacnaa
