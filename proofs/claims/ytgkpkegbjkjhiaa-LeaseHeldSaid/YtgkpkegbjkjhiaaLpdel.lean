/-
  The program's book: the closures of Acked and Pass; slices.IndexFunc and slices.DeleteFunc over grants.
-/
import Derived.Shelf.Abstract
import Derived.Test.YtgkpkegbjkjhiaaLpgrant
namespace Go.Proofs.Ytgkpkegbjkjhiaa
open Go.RowKit Gm

theorem row_at3 {w : World} {a : Option Addr} {cap : Nat} {gx : PX} (h : w.ownsRow 0 58 3 (.slice a gx.length cap) gx.length (pxV gx)) {i : Nat} (hi : i < gx.length) : ∃ g, a = some ⟨g, 0, none⟩ ∧ g < w.heap.size ∧ gx.length ≤ cap ∧
    w.cell? ⟨g, i * 3, none⟩ = some (.int .i64 gx[i].1.ver) ∧ w.cell? ⟨g, i * 3 + 1, none⟩ = some (.int .i64 gx[i].1.unt) ∧ w.cell? ⟨g, i * 3 + 2, none⟩ = some (.map (some gx[i].2)) := by
  rcases h.2 with ⟨_, h2⟩ | ⟨g, cap', cur, hv, hg, hh, hle, hm, hs, ht⟩
  · omega
  · obtain ⟨rfl, rfl⟩ : a = some ⟨g, 0, none⟩ ∧ cap = cap' := by injection hv with h1 h2 h3; exact ⟨h1, h3⟩
    have hlt : g < w.heap.size := (Array.getElem?_eq_some_iff.1 hh).1
    obtain ⟨f0, f1, f2⟩ := pxV_at gx i hi
    exact ⟨g, rfl, hlt, hle, by rw [h.cellAt _ (by omega), f0], by rw [h.cellAt _ (by omega), f1], by rw [h.cellAt _ (by omega), f2]⟩

/-- The closure of Acked. -/
theorem acked1_any (t : Int) (B : Nat) (y : Gr) (m : Nat) (W : World) (hB : W.cell? ⟨B, 0, none⟩ = some (.int .i64 t)) :
    Calls Try.prog 40 #[.agg #[.int .i64 y.ver, .int .i64 y.unt, .map (some m)], .pointer (some ⟨B, 0, none⟩)] W fun e w' => e = .returned (.bool (decide (y.ver < t))) ∧ Below W.heap.size W w' := by
  have hlt : B < W.heap.size := World.block_lt_of_cell? W _ hB
  have c1 : ∀ o, (W.alloc o).cell? ⟨B, 0, none⟩ = some (.int .i64 t) := fun o => by rw [World.cell?_alloc_lt W _ ⟨B, 0, none⟩ hlt]; exact hB
  go_enter Try.func40, Try.ntmps40
  go_wp2
  go_ret
  exact ⟨rfl, (Below.refl _ W).alloc (Nat.le_refl _) _⟩
/-- The closure of Pass. -/
theorem pass1_any (t : Int) (ht : I64 t) (B : Nat) (y : Gr) (m : Nat) (W : World) (hB : W.cell? ⟨B, 0, none⟩ = some (.int .i64 t)) (hy : I64 y.unt) :
    Calls Try.prog 41 #[.agg #[.int .i64 y.ver, .int .i64 y.unt, .map (some m)], .pointer (some ⟨B, 0, none⟩)] W fun e w' => e = .returned (.bool (overN t y.unt)) ∧ Below W.heap.size W w' := by
  have hlt : B < W.heap.size := World.block_lt_of_cell? W _ hB
  have c1 : ∀ o, (W.alloc o).cell? ⟨B, 0, none⟩ = some (.int .i64 t) := fun o => by rw [World.cell?_alloc_lt W _ ⟨B, 0, none⟩ hlt]; exact hB
  obtain ⟨x, hx⟩ : ∃ x, overN t y.unt = x := ⟨_, rfl⟩
  have HX := Lib.hid hx
  have HT := Lib.hid ht
  have HY := Lib.hid hy
  rw [hx]
  clear hx ht hy
  go_enter Try.func41, Try.ntmps41
  go_wp2_with (go_at_call 16; (with_reducible refine (pover_is t y.unt _ HT.out HY.out HX.out).mono ?_); rintro e w1 ⟨rfl, rfl⟩)
  go_ret
  exact ⟨rfl, (Below.refl _ W).alloc (Nat.le_refl _) _⟩

/-- WHAT IS ASKED OF A CLOSURE g OVER THE NUMBER IN BLOCK B: that it says c of each grant. -/
structure Says (g : Nat) (B : Nat) (t : Int) (c : Gr → Bool) : Prop where
  at_ : ∀ (W : World) (y : Gr) (m : Nat), W.cell? ⟨B, 0, none⟩ = some (.int .i64 t) → I64 y.unt → Calls Try.prog g #[.agg #[.int .i64 y.ver, .int .i64 y.unt, .map (some m)], .pointer (some ⟨B, 0, none⟩)] W fun e w' => e = .returned (.bool (c y)) ∧ Below W.heap.size W w'
theorem Says.is {g B : Nat} {t : Int} {c : Gr → Bool} (h : Says g B t c) (W : World) (y : Gr) (m : Nat) (hB : W.cell? ⟨B, 0, none⟩ = some (.int .i64 t)) (hy : I64 y.unt) {x : Bool} (hx : c y = x) :
    Calls Try.prog g #[.agg #[.int .i64 y.ver, .int .i64 y.unt, .map (some m)], .pointer (some ⟨B, 0, none⟩)] W fun e w' => e = .returned (.bool x) ∧ Below W.heap.size W w' := hx ▸ h.at_ W y m hB hy

set_option maxRecDepth 100000 in
set_option maxHeartbeats 4000000 in
theorem index_any (g B : Nat) (t : Int) (c : Gr → Bool) (eg : ∀ args w, (callFunc g args).run Try.prog w = .ok (.enter g args) w) (hs : Says g B t c) (a : Option Addr) (n cap : Nat) (gx : PX) (w : World) (hn : gx.length = n) (hn2 : n ≤ 1000)
    (hr : w.ownsRow 0 58 3 (.slice a n cap) n (pxV gx)) (hf : ∀ y ∈ gx, I64 y.1.unt) (hB : w.cell? ⟨B, 0, none⟩ = some (.int .i64 t)) :
    Calls Try.prog 45 #[.slice a n cap, .func (.func g) #[] #[.pointer (some ⟨B, 0, none⟩)]] w fun e w' => ∃ k : Nat, k ≤ n ∧ (∀ y ∈ gx.take k, c y.1 = false) ∧ (∀ h : k < gx.length, c gx[k].1 = true) ∧ e = .returned (.int .i64 (if k < n then (k : Int) else -1)) ∧ Below w.heap.size w w' := by
  have hBl : B < w.heap.size := World.block_lt_of_cell? w _ hB
  have HR := Lib.hid hr
  have HF := Lib.hid hf
  have HS := Lib.hid hs
  have HB := Lib.hid hB
  have HN := Lib.hid hn
  clear hr hf hs hB hn
  go_enter Try.func45, Try.ntmps45
  go_wp2
  go_loopw [8] (fun iv wr => ∃ k : Nat, k ≤ n ∧ iv = .int .i64 (k : Int) ∧ (∀ y ∈ gx.take k, c y.1 = false) ∧ Below w.heap.size w wr) (fun iv _ => n - (intOf iv).toNat)
  case atStart => exact ⟨0, Nat.zero_le _, rfl, fun y hy => by simp at hy, Below.refl _ _⟩
  case round =>
    obtain ⟨k, hk, rfl, hall, hb⟩ := hrel
    have HA := Lib.hid hall
    have HW := Lib.hid hb
    clear hall hb
    by_cases hlt : k < n
    · have hkl : k < gx.length := by rw [HN.out]; exact hlt
      have hrow := row_moved (w' := wr) HR.out fun b e => HW.out.block b (HR.out.lt b e).2
      have hrow' := hrow
      rw [← HN.out] at hrow'
      obtain ⟨gr, rfl, hgl, _, d0, d1, d2⟩ := row_at3 hrow' hkl
      obtain ⟨y, hy⟩ : ∃ y, gx[k] = y := ⟨_, rfl⟩
      have hyf := HF.out gx[k] (List.getElem_mem hkl)
      rw [hy] at d0 d1 d2 hyf
      have hBr := (HW.out.cell (p := ⟨B, 0, none⟩) hBl).trans HB.out
      have hk0 : (0 : Int) ≤ (k : Int) := by omega
      have hk1 : (k : Int) < (n : Int) := by omega
      have HY := Lib.hid hy
      have HYF := Lib.hid hyf
      have HBR := Lib.hid hBr
      obtain ⟨m, hm⟩ : ∃ m, y.2 = m := ⟨_, rfl⟩
      rw [hm] at d2
      clear hrow hrow' hy hyf hBr
      rcases hx : c y.1 with _ | _
      · have HX := Lib.hid hx
        have HT : Hid (∀ z ∈ gx.take (k + 1), c z.1 = false) := Lib.hid fun z hz => by
          rw [List.take_succ_eq_append_getElem (by rw [HN.out]; exact hlt), HY.out] at hz
          rcases List.mem_append.1 hz with hz | hz
          · exact HA.out z hz
          · obtain rfl : z = y := by simpa using hz
            exact hx
        clear hx
        go_wp2_with (go_at_fn g; (with_reducible refine (HS.out.is wr y.1 m HBR.out HYF.out HX.out).mono ?_); rintro e w1 ⟨rfl, hb1⟩)
        go_roundw
        case rel => exact ⟨k + 1, by omega, by go_num, HT.out, below_t HW.out hb1 HW.out.size⟩
        case measure => simp [intOf]; omega
      · have HX := Lib.hid hx
        clear hx
        go_wp2_with (go_at_fn g; (with_reducible refine (HS.out.is wr y.1 m HBR.out HYF.out HX.out).mono ?_); rintro e w1 ⟨rfl, hb1⟩)
        go_ret
        refine ⟨k, hk, HA.out, fun h => by rw [HY.out]; exact HX.out, by rw [if_pos hlt]; rfl, below_t HW.out hb1 HW.out.size⟩
    · obtain rfl : k = n := by omega
      clear hlt
      go_wp2
      go_ret
      exact ⟨k, Nat.le_refl _, HA.out, fun h => absurd h (by rw [HN.out]; omega), by rw [if_neg (by omega)]; rfl, HW.out⟩
end Go.Proofs.Ytgkpkegbjkjhiaa
