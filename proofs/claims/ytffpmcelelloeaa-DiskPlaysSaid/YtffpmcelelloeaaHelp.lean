/-
  The laws' own small functions: pick, Name, Same (of two lists of names).
-/
import Derived.Test.YtffpmcelelloeaaHeld
namespace Go.Proofs.Ytffpmcelelloeaa
open Go.RowKit Gm

/-- A number of 64 bits. -/
theorem I64.of {n : Int} (h : I64 n) : -9223372036854775808 ≤ n ∧ n ≤ 9223372036854775807 := h
theorem e97 : S [97] = { data := #[97] } := rfl
theorem e98 : S [98] = { data := #[98] } := rfl
theorem e99 : S [99] = { data := #[99] } := rfl
theorem e100 : S [100] = { data := #[100] } := rfl
theorem e101 : S [101] = { data := #[101] } := rfl
theorem S_toList (x : Bs) : (S x).toList = x := by rw [Lib.toList_data]; rfl
theorem S_beq (x y : Bs) : ((S x).toList == (S y).toList) = decide (x = y) := by
  rw [S_toList, S_toList]
  by_cases h : x = y
  · simp [h]
  · simp [h]
theorem below_dn {B : Nat} {W W' : World} (h : Below B W W') (n : Nat) : Below B W (W'.drewN n) := h.trans ⟨rfl, rfl, rfl, Nat.le_refl _, fun _ _ => rfl⟩
namespace Gm
def pk (c n : Int) : Int := (if c < 0 then -(c + 1) else c) % n
theorem pk_bd (c n : Int) (hn : 0 < n) : 0 ≤ pk c n ∧ pk c n < n := ⟨Int.emod_nonneg _ (by omega), Int.emod_lt_of_pos _ hn⟩
/-- The name that a number stands for. -/
def nameN (c : Int) : Bs := ([[97], [98], [99], [108, 111, 103], [110, 101, 119], [], [116, 111, 111, 108, 111, 110, 103, 97, 110, 97, 109, 101, 46]] : List Bs)[(pk c 7).toNat]?.getD []
theorem name_len (c : Int) : (nameN c).length ≤ 13 := by
  have h := pk_bd c 7 (by omega)
  unfold nameN
  have : (pk c 7).toNat = 0 ∨ (pk c 7).toNat = 1 ∨ (pk c 7).toNat = 2 ∨ (pk c 7).toNat = 3 ∨ (pk c 7).toNat = 4 ∨ (pk c 7).toNat = 5 ∨ (pk c 7).toNat = 6 := by omega
  rcases this with h | h | h | h | h | h | h <;> rw [h] <;> decide
end Gm

theorem pick_any (c n : Int) (w : World) (hc : I64 c) (hn : 0 < n) (hn2 : n ≤ 1048576) : Calls Try.prog 13 #[.int .i64 c, .int .i64 n] w fun e w' => e = .returned (.int .i64 (pk c n)) ∧ w = w' := by
  obtain ⟨c0, c1⟩ := hc
  by_cases h : c < 0
  · have HP : Hid (pk c n = (-(c + 1)) % n) := Lib.hid (by simp [pk, h])
    have h1 : 0 ≤ -(c + 1) := by omega
    go_enter Try.func13, Try.ntmps13
    go_wp2
    go_ret
    refine ⟨ret_int ?_, rfl⟩
    rw [HP.out]
    first | rfl | rw [← Int.neg_tmod, Int.tmod_eq_emod_of_nonneg h1]
  · have HP : Hid (pk c n = c % n) := Lib.hid (by simp [pk, h])
    have h1 : 0 ≤ c := by omega
    go_enter Try.func13, Try.ntmps13
    go_wp2
    go_ret
    exact ⟨ret_int HP.out.symm, rfl⟩

theorem name_any (c : Int) (w : World) (hc : I64 c) : Calls Try.prog 12 #[.int .i64 c] w fun e w' => e = .returned (.string (S (nameN c))) ∧ Below w.heap.size w w' := by
  have h := pk_bd c 7 (by omega)
  have HC := Lib.hid hc
  have hs : pk c 7 = 0 ∨ pk c 7 = 1 ∨ pk c 7 = 2 ∨ pk c 7 = 3 ∨ pk c 7 = 4 ∨ pk c 7 = 5 ∨ pk c 7 = 6 := by omega
  clear h hc
  rcases hs with h | h | h | h | h | h | h
  all_goals
    have HN : Hid (nameN c = nameN c) := Lib.hid rfl
    conv at HN => arg 1; rhs; unfold nameN; rw [h]
    have HK := Lib.hid h
    clear h
    go_enter Try.func12, Try.ntmps12
    go_wp2_with (go_at_call 13; refine (pick_any _ _ _ HC.out (by omega) (by omega)).mono ?_; rw [HK.out]; rintro e w1 ⟨rfl, rfl⟩)
    go_ret
    refine ⟨ret_str ?_, (Below.refl _ w).alloc (Nat.le_refl _) _⟩
    rw [HN.out]; rfl

/-- THE SLICE AT a HOLDS THESE NAMES. -/
def NamesAt (W : World) (a : Option Addr) (len : Nat) (l : List Bs) : Prop :=
  l.length = len ∧ ∃ b off, (len = 0 ∨ a = some ⟨b, off, none⟩) ∧ ∀ i (h : i < l.length), b < W.heap.size ∧ W.cell? ⟨b, off + i, none⟩ = some (.string (S l[i]))
theorem NamesAt.below {W W' : World} {a : Option Addr} {len : Nat} {l : List Bs} (h : NamesAt W a len l) (hb : Below W.heap.size W W') : NamesAt W' a len l := by
  obtain ⟨h0, b, off, h1, h2⟩ := h
  refine ⟨h0, b, off, h1, fun i hi => ?_⟩
  obtain ⟨k1, k2⟩ := h2 i hi
  exact ⟨Nat.lt_of_lt_of_le k1 hb.size, (hb.cell (p := ⟨b, off + i, none⟩) k1).trans k2⟩

theorem NamesAt.one {W : World} {g : Nat} {t : TypeId} {l : Bs} (h : W.heap[g]? = some (.cells #[.string (S l)] t (0, 0))) : NamesAt W (some ⟨g, 0, none⟩) 1 [l] :=
  ⟨rfl, g, 0, .inr rfl, fun i hi => by
    obtain rfl : i = 0 := by simpa using hi
    exact ⟨(Array.getElem?_eq_some_iff.1 h).1, by simp [World.cell?, h]⟩⟩
set_option maxHeartbeats 1000000 in
theorem same_any (a b : Option Addr) (la ca lb cb : Nat) (r q : List Bs) (w : World) (ha : NamesAt w a la r) (hb : NamesAt w b lb q) (hl : r.length ≤ 1048576) :
    Calls Try.prog 28 #[.slice a la ca, .slice b lb cb] w fun e w' => e = .returned (.bool (decide (r = q))) ∧ Below w.heap.size w w' := by
  obtain ⟨h1, p, o, pa, pc⟩ := ha
  obtain ⟨g1, p', o', pa', pc'⟩ := hb
  have HA := Lib.hid h1
  have HB := Lib.hid g1
  have hla : la ≤ 1048576 := by omega
  clear h1 g1 hl
  by_cases hl : la = lb
  · subst hl
    have HPC := Lib.hid pc
    have HPC' := Lib.hid pc'
    have HPA := Lib.hid pa
    have HPA' := Lib.hid pa'
    clear pc pc' pa pa'
    go_enter Try.func28, Try.ntmps28
    go_wp2
    go_loopw [5] (fun i wr => ∃ k : Nat, k ≤ la ∧ i = .int .i64 k ∧ Below w.heap.size w wr ∧ ∀ i, i < k → r[i]?.getD [] = q[i]?.getD []) (fun i _ => la - (intOf i).toNat)
    case atStart => exact ⟨0, Nat.zero_le _, rfl, Below.refl _ _, fun i hi => by omega⟩
    case round =>
      obtain ⟨k, hk, rfl, hbw, hall⟩ := hrel
      have HALL := Lib.hid hall
      clear hall
      by_cases hlt : k < la
      · obtain rfl : a = some ⟨p, o, none⟩ := by
          rcases HPA.out with h | h
          · have := HA.out; omega
          · exact h
        obtain rfl : b = some ⟨p', o', none⟩ := by
          rcases HPA'.out with h | h
          · have := HB.out; omega
          · exact h
        have hkr : k < r.length := by rw [HA.out]; exact hlt
        have hkq : k < q.length := by rw [HB.out]; exact hlt
        obtain ⟨d1, c1⟩ := HPC.out k hkr
        obtain ⟨d2, c2⟩ := HPC'.out k hkq
        replace c1 := (hbw.cell (p := ⟨p, o + k, none⟩) d1).trans c1
        replace c2 := (hbw.cell (p := ⟨p', o' + k, none⟩) d2).trans c2
        obtain ⟨x, hx⟩ : ∃ x, r[k] = x := ⟨_, rfl⟩
        obtain ⟨y, hy⟩ : ∃ y, q[k] = y := ⟨_, rfl⟩
        have ex : r[k]?.getD [] = x := by rw [List.getElem?_eq_getElem hkr, hx]; rfl
        have ey : q[k]?.getD [] = y := by rw [List.getElem?_eq_getElem hkq, hy]; rfl
        rw [hx] at c1
        rw [hy] at c2
        have hi0 : (0 : Int) ≤ (k : Int) := by omega
        have hi1 : (k : Int) < (la : Int) := by omega
        have HX := Lib.hid ex
        have HY := Lib.hid ey
        clear hx hy ex ey hkr hkq
        by_cases hxy : x = y
        · have e1 : ((S x).toList == (S y).toList) = true := by rw [S_beq]; simpa using hxy
          have HN : Hid (∀ i, i < k + 1 → r[i]?.getD [] = q[i]?.getD []) := Lib.hid (fun i hi => by
            rcases Nat.lt_or_ge i k with h | h
            · exact HALL.out i h
            · obtain rfl : i = k := by omega
              rw [HX.out, HY.out, hxy])
          clear hxy
          go_wp2
          go_quiet (fail)
          go_wp2
          go_roundw
          case rel => exact ⟨k + 1, by omega, by go_num, below_dn hbw _, HN.out⟩
          case measure => simp [intOf]; omega
        · have e1 : ((S x).toList == (S y).toList) = false := by rw [S_beq]; simpa using hxy
          have HN : Hid (decide (r = q) = false) := Lib.hid (by
            rw [decide_eq_false_iff_not]; intro e; apply hxy; rw [← HX.out, ← HY.out, e])
          clear hxy
          go_wp2
          go_quiet (fail)
          go_wp2
          go_ret
          exact ⟨ret_bool HN.out.symm, below_dn hbw _⟩
      · obtain rfl : k = la := by omega
        have HN : Hid (decide (r = q) = true) := Lib.hid (by
          rw [decide_eq_true_iff]
          apply List.ext_getElem (by rw [HA.out, HB.out])
          intro i h1 h2
          have := HALL.out i (by have := HA.out; omega)
          simpa [h1, h2] using this)
        go_wp2
        go_ret
        exact ⟨ret_bool HN.out.symm, hbw⟩
  · have HN : Hid (decide (r = q) = false) := Lib.hid (by
      rw [decide_eq_false_iff_not]; intro e; apply hl; rw [← HA.out, ← HB.out, e])
    have e1 : ((la : Int) != (lb : Int)) = true := by simp; omega
    have e2 : ((la : Int) == (lb : Int)) = false := by simp; omega
    clear pc pc' pa pa' hl
    go_enter Try.func28, Try.ntmps28
    go_wp2
    go_ret
    exact ⟨ret_bool HN.out.symm, Below.refl _ _⟩

/-- 's[:min(len(s), c)]'. -/
theorem cut_str (x : Bs) (c : Nat) : ∃ k : Nat, (∀ ts ty W, (Builtin.min_ ts ty #[.int .i64 (x.length : Int), .int .i64 (c : Int)]).run Try.prog W = .ok (.int .i64 (k : Int)) W) ∧ (∀ W, (Instr.slice 9 (.string (S x)) none (some (.int .i64 (k : Int))) none).run Try.prog W = .ok (.string (S (x.take c))) W) := by
  refine ⟨min x.length c, fun ts ty W => min_at _ _ ts ty W, fun W => ?_⟩
  rw [slice_to x _ (by omega) W]
  congr 3
  rw [Nat.min_comm, List.take_eq_take_iff]; omega
theorem cut_500 (x : Bs) : ∃ k : Nat, (∀ ts ty W, (Builtin.min_ ts ty #[.int .i64 (x.length : Int), .int .i64 500]).run Try.prog W = .ok (.int .i64 (k : Int)) W) ∧ (∀ W, (Instr.slice 9 (.string (S x)) none (some (.int .i64 (k : Int))) none).run Try.prog W = .ok (.string (S (x.take 500))) W) := cut_str x 500
theorem cut_2000 (x : Bs) : ∃ k : Nat, (∀ ts ty W, (Builtin.min_ ts ty #[.int .i64 (x.length : Int), .int .i64 2000]).run Try.prog W = .ok (.int .i64 (k : Int)) W) ∧ (∀ W, (Instr.slice 9 (.string (S x)) none (some (.int .i64 (k : Int))) none).run Try.prog W = .ok (.string (S (x.take 2000))) W) := cut_str x 2000
end Go.Proofs.Ytffpmcelelloeaa
