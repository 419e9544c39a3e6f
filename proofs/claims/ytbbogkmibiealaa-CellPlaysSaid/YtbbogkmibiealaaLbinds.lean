/-
  Raw numbers as binds (a law's own function).
-/
import Derived.Deep.AppendLies
import Derived.Laws.OwnMore
import Derived.OwnWalk
import Derived.Test.YtbbogkmibiealaaMix
import Derived.Test.YtbbogkmibiealaaLacts
namespace Go.Proofs.Ytbbogkmibiealaa
open Go.RowKit Gm

namespace Gm
def nm8 : List Bs := [[97], [98], [99], [100], [101], [102], [103], [104]]
def bdN (x : Int) : Bd := ⟨119 :: nm8[(pk x 1048576).toNat % 8]?.getD [], 110 :: nm8[(pk x 1048576).toNat / 8 % 8]?.getD [], (((pk x 1048576).toNat / 64 % 5 : Nat) : Int)⟩
def bindsN (z : List Int) : List Bd := (z.take 20).map bdN
theorem bindsN_len (z : List Int) : (bindsN z).length ≤ 20 := by unfold bindsN; rw [List.length_map, List.length_take]; omega
theorem nm8_len (i : Nat) : (nm8[i]?.getD []).length ≤ 1 := by
  unfold nm8
  rcases (show i = 0 ∨ i = 1 ∨ i = 2 ∨ i = 3 ∨ i = 4 ∨ i = 5 ∨ i = 6 ∨ i = 7 ∨ 8 ≤ i by omega) with h | h | h | h | h | h | h | h | h
  all_goals first
    | (subst h; decide)
    | (rw [List.getElem?_eq_none (by simpa using h)]; decide)
theorem bdN_ok (x : Int) : 0 ≤ (bdN x).cnt ∧ (bdN x).cnt ≤ 4 ∧ (bdN x).work.length ≤ 2 ∧ (bdN x).node.length ≤ 2 := by
  have h1 := nm8_len ((pk x 1048576).toNat % 8)
  have h2 := nm8_len ((pk x 1048576).toNat / 8 % 8)
  unfold bdN
  refine ⟨by dsimp only; omega, by dsimp only; omega, ?_, ?_⟩ <;> (rw [List.length_cons]; omega)
end Gm
abbrev bdC (x : Bd) : List Value := [.string (S x.work), .string (S x.node), .int .i64 x.cnt]
def bdsV (l : List Bd) : List Value := l.flatMap bdC
theorem bdsV_nil : bdsV [] = [] := rfl
theorem bdsV_cons (f : Bd) (l : List Bd) : bdsV (f :: l) = bdC f ++ bdsV l := rfl
theorem bdsV_app (l m : List Bd) : bdsV (l ++ m) = bdsV l ++ bdsV m := by unfold bdsV; rw [List.flatMap_append]
theorem bdsV_len (l : List Bd) : (bdsV l).length = l.length * 3 := by
  induction l with
  | nil => rfl
  | cons f l ih => rw [bdsV_cons, List.length_append, ih]; simp; omega
theorem bdsV_at : ∀ (l : List Bd) (i : Nat) (h : i < l.length), (bdsV l)[i * 3]? = some (.string (S l[i].work)) ∧ (bdsV l)[i * 3 + 1]? = some (.string (S l[i].node)) ∧ (bdsV l)[i * 3 + 2]? = some (.int .i64 l[i].cnt)
  | [], i, h => by simp at h
  | f :: l, 0, _ => by simp [bdsV_cons]
  | f :: l, i + 1, h => by
    have ih := bdsV_at l i (by simpa using h)
    have e : ∀ j, (bdsV (f :: l))[(i + 1) * 3 + j]? = (bdsV l)[i * 3 + j]? := fun j => by
      rw [bdsV_cons, List.getElem?_append_right (by simp; omega)]
      congr 1
      simp; omega
    have e0 := e 0
    simp only [Nat.add_zero] at e0
    rw [e0, e 1, e 2]
    exact ih
/-- A row of the call's own, as binds. -/
theorem binds_own {w : World} {base n : Nat} {v : Value} {l : List Bd} (h : w.ownsRow base 35 3 v n (bdsV l)) : ∃ a cap, v = .slice a n cap ∧ l.length = n ∧ BindsAt w (fun b => v.ownBlock = some b) a n l := by
  have hl : l.length = n := by have := h.1; rw [bdsV_len] at this; omega
  rcases h.2 with ⟨rfl, rfl⟩ | ⟨g, cap, cur, rfl, hb, hh, hle, hm, hs, ht⟩
  · have : l = [] := List.eq_nil_of_length_eq_zero hl
    subst this
    exact ⟨none, 0, rfl, rfl, BindsAt.nil _ _ _⟩
  · refine ⟨_, _, rfl, hl, hl, g, 0, .inr ⟨rfl, rfl⟩, fun i hi => ?_⟩
    obtain ⟨f0, f1, f2⟩ := bdsV_at l i hi
    have hat : ∀ j, j < n * 3 → w.cell? ⟨g, j, none⟩ = (bdsV l)[j]? := fun j hj => by
      rw [cell_of_row w g j cur 35 (0, 0) hh, ← ht, List.getElem?_take_of_lt hj, Array.getElem?_toList]
    rw [Nat.zero_add, hat _ (by omega), hat _ (by omega), hat _ (by omega)]
    exact ⟨f0, f1, f2⟩
theorem row_blk {w : World} {base e size n : Nat} {v : Value} {xs : List Value} (h : w.ownsRow base e size v n xs) {b : Nat} (hb : v.ownBlock = some b) : ∃ cs, w.heap[b]? = some (.cells cs e (0, 0)) := by
  rcases h.2 with ⟨rfl, _⟩ | ⟨g, cap, cur, rfl, _, hh, _⟩
  · cases hb
  · have : g = b := by simpa [Value.ownBlock] using hb
    exact ⟨cur, this ▸ hh⟩
theorem infoBd : (Try.prog.info? 35).map (fun i => (i.zero, i.size, i.bytes)) = some (some (.agg #[.string ByteArray.empty, .string ByteArray.empty, .int .i64 0]), 3, 40) := by kernel_rfl
theorem cells_3 (w : World) (x y z : Value) (t : TypeId) : ∀ j u, [x, y, z][j]? = some u → (w.alloc (.cells #[x, y, z] t)).cell? ((⟨w.heap.size, 0, none⟩ : Addr).add j) = some u := by
  intro j u hj
  have hadd : (⟨w.heap.size, 0, none⟩ : Addr).add j = ⟨w.heap.size, j, none⟩ := by unfold Addr.add; split <;> simp_all
  rw [hadd, cell_of_row _ _ _ _ _ _ (new_at w _)]
  match j, hj with
  | 0, h => simpa using h
  | 1, h => simpa using h
  | 2, h => simpa using h
  | j + 3, h => simp at h

abbrev names8 : Obj := .cells #[.string { data := #[97] }, .string { data := #[98] }, .string { data := #[99] }, .string { data := #[100] }, .string { data := #[101] }, .string { data := #[102] }, .string { data := #[103] }, .string { data := #[104] }] 9 (0, 0)
theorem names8_at {W : World} {g : Nat} (h : W.heap[g]? = some names8) {i : Nat} (hi : i < 8) : W.cell? ⟨g, i, none⟩ = some (.string (S (nm8[i]?.getD []))) := by
  rw [cell_of_row _ _ _ _ _ _ h]
  have : i = 0 ∨ i = 1 ∨ i = 2 ∨ i = 3 ∨ i = 4 ∨ i = 5 ∨ i = 6 ∨ i = 7 := by omega
  rcases this with rfl | rfl | rfl | rfl | rfl | rfl | rfl | rfl <;> rfl

set_option maxRecDepth 100000 in
set_option maxHeartbeats 8000000 in
theorem binds_any (B : Nat) (a : Option Addr) (len cap : Nat) (z : List Int) (w : World) (h : KeepB B w a len z) (hBw : B ≤ w.heap.size) :
    Calls Try.prog 37 #[.slice a len cap] w fun e w' => ∃ v, e = .returned v ∧ w'.ownsRow w.heap.size 35 3 v (bindsN z).length (bdsV (bindsN z)) ∧ w'.heap[w.heap.size]? = some names8 ∧ Below w.heap.size w w' := by
  have HZ := Lib.hid h
  have HL : Hid (z.length = len) := Lib.hid h.1
  obtain ⟨i0, hi0, hz0, hz1, hz2⟩ := info_parts infoBd
  clear h
  go_enter Try.func37, Try.ntmps37
  go_wp2
  have hn8 := new_at w names8
  have hb0 : Below w.heap.size w (w.alloc names8) := (Below.refl _ w).alloc (Nat.le_refl _) _
  have HB0 := Lib.hid hb0
  have HN8 := Lib.hid hn8
  clear hn8 hb0
  go_loopw [3, 5] (fun ov iv wr => ∃ i : Nat, i ≤ len ∧ i ≤ 20 ∧ iv = .int .i64 (i : Int) ∧ wr.ownsRow w.heap.size 35 3 ov ((z.take i).map bdN).length (bdsV ((z.take i).map bdN)) ∧ wr.heap[w.heap.size]? = some names8 ∧ Below w.heap.size w wr) (fun _ iv _ => 21 - (intOf iv).toNat)
  case atStart => exact ⟨0, Nat.zero_le _, Nat.zero_le _, rfl, World.ownsRow_nil _ _ _ _, HN8.out, HB0.out⟩
  case round =>
    obtain ⟨i, hi, hi20, rfl, hown, hn8, hB⟩ := hrel
    clear HB0 HN8
    have hwr := hB.size
    by_cases hlt : i < len
    · by_cases h20 : i < 20
      · have hil : i < z.length := by rw [HL.out]; exact hlt
        obtain ⟨hzl, b, off, ha, hc⟩ := HZ.out
        obtain rfl : a = some ⟨b, off, none⟩ := by
          rcases ha with h | h
          · omega
          · exact h
        obtain ⟨hbB, c0, hx64⟩ := hc i hil
        have c0' := (hB.cell (p := ⟨b, off + i, none⟩) (show b < w.heap.size by omega)).trans c0
        obtain ⟨x, hx⟩ : ∃ x, z[i] = x := ⟨_, rfl⟩
        rw [hx] at c0' hx64
        have hbw : b < wr.heap.size := by omega
        have HT : Hid ((z.take (i + 1)).map bdN = (z.take i).map bdN ++ [bdN x]) := Lib.hid (by
          rw [List.take_succ_eq_append_getElem hil, hx, List.map_append]; rfl)
        have hol : ((z.take i).map bdN).length = i := by rw [List.length_map, List.length_take]; omega
        have hii : (i : Int) < (len : Int) := by omega
        have hi20' : (i : Int) < 20 := by omega
        have HPK := Lib.hid (pick8_any x 1048576 · hx64 (by omega) (by omega))
        have hpb := pk_bd x 1048576 (by omega)
        obtain ⟨c, hcN⟩ : ∃ c : Nat, pk x 1048576 = (c : Int) := ⟨(pk x 1048576).toNat, by omega⟩
        have hbd : bdN x = ⟨119 :: nm8[c % 8]?.getD [], 110 :: nm8[c / 8 % 8]?.getD [], ((c / 64 % 5 : Nat) : Int)⟩ := by
          unfold bdN; rw [hcN]; rfl
        obtain ⟨r1, hr1⟩ : ∃ r, c % 8 = r := ⟨_, rfl⟩
        obtain ⟨q1, hq1⟩ : ∃ r, c / 8 = r := ⟨_, rfl⟩
        obtain ⟨r2, hr2⟩ : ∃ r, q1 % 8 = r := ⟨_, rfl⟩
        obtain ⟨q2, hq2⟩ : ∃ r, c / 64 = r := ⟨_, rfl⟩
        obtain ⟨r3, hr3⟩ : ∃ r, q2 % 5 = r := ⟨_, rfl⟩
        rw [hr1, hq1, hr2, hq2, hr3] at hbd
        have m1 : (c : Int) % 8 = (r1 : Int) := by omega
        have m1t : (c : Int).tmod 8 = (r1 : Int) := by rw [Int.tmod_eq_emod_of_nonneg (by omega)]; exact m1
        have d1 : (c : Int) / 8 = (q1 : Int) := by omega
        have d1t : (c : Int).tdiv 8 = (q1 : Int) := by rw [Int.tdiv_eq_ediv_of_nonneg (by omega)]; exact d1
        have m2 : (q1 : Int) % 8 = (r2 : Int) := by omega
        have m2t : (q1 : Int).tmod 8 = (r2 : Int) := by rw [Int.tmod_eq_emod_of_nonneg (by omega)]; exact m2
        have d2 : (c : Int) / 64 = (q2 : Int) := by omega
        have d2t : (c : Int).tdiv 64 = (q2 : Int) := by rw [Int.tdiv_eq_ediv_of_nonneg (by omega)]; exact d2
        have m3 : (q2 : Int) % 5 = (r3 : Int) := by omega
        have m3t : (q2 : Int).tmod 5 = (r3 : Int) := by rw [Int.tmod_eq_emod_of_nonneg (by omega)]; exact m3
        have l1 : (r1 : Int) < 8 := by omega
        have l2 : (r2 : Int) < 8 := by omega
        have p1 : (0 : Int) ≤ (r1 : Int) := by omega
        have p2 : (0 : Int) ≤ (r2 : Int) := by omega
        have lc : (c : Int) < 1048576 := by omega
        have wq1 : IntKind.i64.wrap (q1 : Int) = (q1 : Int) := IntWalk.i64_in _ ⟨by omega, by omega⟩
        have wq2 : IntKind.i64.wrap (q2 : Int) = (q2 : Int) := IntWalk.i64_in _ ⟨by omega, by omega⟩
        have f1 := names8_at hn8 (show r1 < 8 by omega)
        have f2 := names8_at hn8 (show r2 < 8 by omega)
        obtain ⟨n1, hn1⟩ : ∃ n, nm8[r1]?.getD [] = n := ⟨_, rfl⟩
        obtain ⟨n2, hn2⟩ : ∃ n, nm8[r2]?.getD [] = n := ⟨_, rfl⟩
        have z1 : ¬ 9223372036854775807 < 1 + (S n1).size := by rw [S_size, ← hn1]; have := nm8_len r1; omega
        have z2 : ¬ 9223372036854775807 < 1 + (S n2).size := by rw [S_size, ← hn2]; have := nm8_len r2; omega
        rw [hn1] at f1 hbd
        rw [hn2] at f2 hbd
        have s1 : ({ data := #[119] } : ByteArray) ++ S n1 = S (119 :: n1) := S_app [119] n1
        have s2 : ({ data := #[110] } : ByteArray) ++ S n2 = S (110 :: n2) := S_app [110] n2
        have HC := Lib.hid hcN
        rw [hbd] at HT
        have HN8 := Lib.hid hn8
        have hg8 : w.heap.size < wr.heap.size := (Array.getElem?_eq_some_iff.1 hn8).1
        clear hx hil hzl ha hc hbB c0 hbd hr1 hq1 hr2 hq2 hr3 hn1 hn2 hcN hpb hx64 hn8
        go_wp2_with (go_at_call 42; (have hc := HPK.out wr; rw [HC.out] at hc; with_reducible refine hc.mono ?_); rintro e w1 ⟨rfl, rfl⟩)
        have b3 := (hB.alloc hB.size (.cells #[.string (S (119 :: n1)), .string (S (110 :: n2)), .int .i64 (r3 : Int)] 35)).drew
        have hown1 := (hown.alloc (.cells #[.string (S (119 :: n1)), .string (S (110 :: n2)), .int .i64 (r3 : Int)] 35)).drew
        have cuts := cells_3 wr (.string (S (119 :: n1))) (.string (S (110 :: n2))) (.int .i64 (r3 : Int)) 35
        have e1 : wr.drew.cell? ⟨w.heap.size, r1, none⟩ = some (.string (S n1)) := f1
        have e2 : wr.drew.cell? ⟨w.heap.size, r2, none⟩ = some (.string (S n2)) := f2
        have HN81 := Lib.hid (((Below.refl wr.heap.size wr).alloc (Nat.le_refl _) (.cells #[.string (S (119 :: n1)), .string (S (110 :: n2)), .int .i64 (r3 : Int)] 35)).block w.heap.size hg8 |>.trans HN8.out)
        refine region_mix (fun W => W.cell? ⟨w.heap.size, r1, none⟩ = some (.string (S n1)) ∧ W.cell? ⟨w.heap.size, r2, none⟩ = some (.string (S n2))) (19) (.reads [0, 1, 2, 3, 4, 5, 6, 7, 8, 9, 10, 11, 12, 13, 14, 15, 16, 17] (.only 18 (.only 19 (.only 20 (.stop))))) (by kernel_rfl) (by kernel_rfl) (⟨e1, e2⟩) ?_
        repeat (
          refine plan_read rfl (fun K hK => ?_)
          first
            | (refine plan_neg ?_ ?_
               focus (first | (go_simp; done) | (go_simp; decide))
               go_simp
               refine hK _ ?_
               clear hK K)
            | (apply plan_pos
               focus (go_simp; done)
               focus (
                 intro W hW
                 (obtain ⟨e1, e2⟩ := hW)
                 go_simp
                 first
                   | done
                   | exact rfl)
               go_simp
               refine hK _ ?_
               clear hK K))
        refine plan_only rfl (fun Q hQ => ?_)
        go_wp2
        have g1 : ((wr.alloc (.cells #[.string (S (119 :: n1)), .string (S (110 :: n2)), .int .i64 (r3 : Int)] 35)).drew).cell? ⟨w.heap.size, r1, none⟩ = some (.string (S n1)) := by
          rw [show ((wr.alloc (.cells #[.string (S (119 :: n1)), .string (S (110 :: n2)), .int .i64 (r3 : Int)] 35)).drew).cell? ⟨w.heap.size, r1, none⟩ = (wr.alloc (.cells #[.string (S (119 :: n1)), .string (S (110 :: n2)), .int .i64 (r3 : Int)] 35)).cell? ⟨w.heap.size, r1, none⟩ from rfl, World.cell?_alloc_lt wr _ ⟨w.heap.size, r1, none⟩ hg8]; exact f1
        have g2 : ((wr.alloc (.cells #[.string (S (119 :: n1)), .string (S (110 :: n2)), .int .i64 (r3 : Int)] 35)).drew).cell? ⟨w.heap.size, r2, none⟩ = some (.string (S n2)) := by
          rw [show ((wr.alloc (.cells #[.string (S (119 :: n1)), .string (S (110 :: n2)), .int .i64 (r3 : Int)] 35)).drew).cell? ⟨w.heap.size, r2, none⟩ = (wr.alloc (.cells #[.string (S (119 :: n1)), .string (S (110 :: n2)), .int .i64 (r3 : Int)] 35)).cell? ⟨w.heap.size, r2, none⟩ from rfl, World.cell?_alloc_lt wr _ ⟨w.heap.size, r2, none⟩ hg8]; exact f2
        refine hQ _ _ (fun _ => ⟨g1, g2⟩) ?_
        clear hQ Q g1 g2
        have cuts2 : ∀ j u, [Value.string (S (119 :: n1)), .string (S (110 :: n2)), .int .i64 (r3 : Int)][j]? = some u → ((wr.alloc (.cells #[.string (S (119 :: n1)), .string (S (110 :: n2)), .int .i64 (r3 : Int)] 35)).drew).cell? ((⟨wr.heap.size, 0, none⟩ : Addr).add j) = some u := cuts
        have hz2' : ((wr.alloc (.cells #[.string (S (119 :: n1)), .string (S (110 :: n2)), .int .i64 (r3 : Int)] 35)).drew).heap.size = wr.heap.size + 1 := by simp
        have HN82 : Hid ((wr.alloc (.cells #[.string (S (119 :: n1)), .string (S (110 :: n2)), .int .i64 (r3 : Int)] 35)).drew.heap[w.heap.size]? = some names8) := Lib.hid HN81.out
        generalize (wr.alloc (.cells #[.string (S (119 :: n1)), .string (S (110 :: n2)), .int .i64 (r3 : Int)] 35)).drew = w2 at *
        have hlt2 : w.heap.size < w2.heap.size := by omega
        refine plan_only rfl (fun Q hQ => ?_)
        refine wpList_append_own _ (by rfl) (.tmp 23) (.tmp 41) 29 (by rfl) w.heap.size 35 i0 _ 3 40 Try.underlying29 hi0 hz0 hz1 hz2 rfl (by decide) _ _ (bdsV ((z.take i).map bdN)) (by rfl) hown1 ⟨wr.heap.size, 0, none⟩ 1 1 [.string (S (119 :: n1)), .string (S (110 :: n2)), .int .i64 (r3 : Int)] (by rfl) (by rfl) cuts2 (by simp [Value.oneCell']) (by simp [maxLen]; omega) (by rw [hol]; omega) (by omega) ?_
        intro v4 w4 hown4 hg4 _
        have hN4 : w4.heap[w.heap.size]? = some names8 := (hg4.block _ hlt2 (fun e => by
          obtain ⟨cs, hcs⟩ := row_blk hown1 e.symm
          rw [HN82.out] at hcs
          injection hcs with hcs; injection hcs with _ ht; exact absurd ht (by decide))).trans HN82.out
        have hB4 : Below w.heap.size w w4 := b3.grown hg4 (by omega) (fun j e => (hown1.lt j e).1)
        have HN4 := Lib.hid hN4
        have HO4 : Hid (w4.ownsRow w.heap.size 35 3 v4 ((z.take (i + 1)).map bdN).length (bdsV ((z.take (i + 1)).map bdN))) := Lib.hid (by
          rw [HT.out, List.length_append, bdsV_app]; exact hown4)
        clear hN4 hown4 hown1 hg4 cuts cuts2 f1 f2 e1 e2 m1 m1t d1 d1t m2 m2t d2 d2t m3 m3t wq1 wq2 s1 s2 z1 z2 HN81 HN82 hown
        refine hQ _ _ (fun h => absurd h (by omega)) ?_
        clear hQ Q
        refine plan_only rfl (fun Q hQ => ?_)
        go_wp2
        refine hQ _ _ (fun h => absurd h (by omega)) ?_
        clear hQ Q
        unfold Plan.wp
        go_wp2
        go_roundw
        case rel => exact ⟨i + 1, by omega, by omega, by go_num, HO4.out, HN4.out, hB4⟩
        case measure => simp [intOf]; omega
      · obtain rfl : i = 20 := by omega
        have HE : Hid ((z.take 20).map bdN = bindsN z) := Lib.hid rfl
        have hii : ((20 : Nat) : Int) < (len : Int) := by omega
        have HN8' := Lib.hid hn8
        clear hn8 hlt h20
        go_wp2
        go_ret
        rw [← HE.out]
        exact ⟨_, rfl, hown, HN8'.out, hB⟩
    · obtain rfl : i = len := by omega
      have HE : Hid ((z.take i).map bdN = bindsN z) := Lib.hid (by
        unfold bindsN
        rw [List.take_of_length_le (by rw [HL.out]; omega), List.take_of_length_le (by rw [HL.out]; omega)])
      have HN8' := Lib.hid hn8
      clear hn8 hlt
      go_wp2
      go_ret
      rw [← HE.out]
      exact ⟨_, rfl, hown, HN8'.out, hB⟩

/-- BLOCK g, which is o, BEARS THE SLICE v OF THESE BINDS (or there are none). -/
def RowG (g : Nat) (o : Obj) (v : Value) (l : List Bd) : Prop := ∃ a cap, v = .slice a l.length cap ∧ (l = [] ∨ (a = some ⟨g, 0, none⟩ ∧ ∃ cur : Array Value, o = .cells cur 35 (0, 0) ∧ cur.toList.take (l.length * 3) = bdsV l))
theorem RowG.at {W : World} {g : Nat} {o : Obj} {v : Value} {l : List Bd} (h : RowG g o v l) (ho : W.heap[g]? = some o) : ∃ a cap, v = .slice a l.length cap ∧ BindsAt W (fun b => b = g) a l.length l := by
  obtain ⟨a, cap, hv, h1⟩ := h
  refine ⟨a, cap, hv, rfl, ?_⟩
  rcases h1 with rfl | ⟨ha, cur, hc, ht⟩
  · exact ⟨0, 0, .inl rfl, fun i hi => by simp at hi⟩
  · refine ⟨g, 0, .inr ⟨ha, rfl⟩, fun i hi => ?_⟩
    subst hc
    obtain ⟨f0, f1, f2⟩ := bdsV_at l i hi
    have hat : ∀ j, j < l.length * 3 → W.cell? ⟨g, j, none⟩ = (bdsV l)[j]? := fun j hj => by
      rw [cell_of_row W g j cur 35 (0, 0) ho, ← ht, List.getElem?_take_of_lt hj, Array.getElem?_toList]
    rw [Nat.zero_add, hat _ (by omega), hat _ (by omega), hat _ (by omega)]
    exact ⟨f0, f1, f2⟩
theorem binds_g (B : Nat) (a : Option Addr) (len cap : Nat) (z : List Int) (w : World) (h : KeepB B w a len z) (hBw : B ≤ w.heap.size) :
    Calls Try.prog 37 #[.slice a len cap] w fun e w' => ∃ v g o, e = .returned v ∧ RowG g o v (bindsN z) ∧ w.heap.size ≤ g ∧ w'.heap[g]? = some o ∧ Below w.heap.size w w' :=
  (binds_any B a len cap z w h hBw).mono fun e w' ⟨v, h1, h2, h3, h4⟩ => by
    rcases h2.2 with ⟨hv, h0⟩ | ⟨g, cap', cur, hv, hb, hh, hle, hm, hs, ht⟩
    · exact ⟨v, w.heap.size, names8, h1, ⟨none, 0, by rw [hv, h0], .inl (List.eq_nil_of_length_eq_zero h0)⟩, Nat.le_refl _, h3, h4⟩
    · exact ⟨v, g, _, h1, ⟨_, _, hv, .inr ⟨rfl, cur, rfl, ht⟩⟩, hb, hh, h4⟩
end Go.Proofs.Ytbbogkmibiealaa
