/-
  The laws' first calls: chapter 15's examples.
-/
import Derived.Deep.QuietTactic
import Derived.Deep.DeepCutAuto
import Derived.Test.YtjkfiilnogacnaaSp
import Derived.Test.YtjkfiilnogacnaaSsame
namespace Go.Proofs.Ytjkfiilnogacnaa
open Go.RowKit Gm

abbrev B2 (x y : Int) : Obj := .cells #[.int .i64 x, .int .i64 y] 3 (0, 0)
abbrev T2 (x y : Int) : Obj := .cells #[.string { data := #[97] }, .string { data := #[109] }, .int .i64 x, .string { data := #[97] }, .string { data := #[110] }, .int .i64 y] 40 (0, 0)
theorem old_at {w : World} {o p : Obj} {g : Nat} (h : w.heap[g]? = some p) : (w.alloc o).heap[g]? = some p := by
  have hl := (Array.getElem?_eq_some_iff.1 h).1
  rw [((Below.refl w.heap.size w).alloc (Nat.le_refl _) o).block g hl]; exact h
theorem new_1 (w : World) (o p : Obj) : ((w.alloc o).alloc p).heap[w.heap.size + 1]? = some p := by
  have := new_at (w.alloc o) p
  rwa [show (w.alloc o).heap.size = w.heap.size + 1 by simp] at this
theorem new_2 (w : World) (o p q : Obj) : (((w.alloc o).alloc p).alloc q).heap[w.heap.size + 1 + 1]? = some q := by
  have := new_at ((w.alloc o).alloc p) q
  rwa [show ((w.alloc o).alloc p).heap.size = w.heap.size + 1 + 1 by simp] at this
theorem keep_2 {W : World} {g : Nat} {x y : Int} (h : W.heap[g]? = some (B2 x y)) (hx : I64 x) (hy : I64 y) : KeepB W.heap.size W (some ⟨g, 0, none⟩) 2 [x, y] := by
  refine ⟨rfl, g, 0, .inr rfl, fun i hi => ⟨(Array.getElem?_eq_some_iff.1 h).1, ?_, ?_⟩⟩
  · rw [Nat.zero_add, cell_of_row _ _ _ _ _ _ h]
    have : i = 0 ∨ i = 1 := by simp at hi; omega
    rcases this with rfl | rfl <;> rfl
  · have : i = 0 ∨ i = 1 := by simp at hi; omega
    rcases this with rfl | rfl
    · exact hx
    · exact hy
theorem keep_1 {W : World} {g : Nat} {x : Int} (h : W.heap[g]? = some (.cells #[.int .i64 x] 3 (0, 0))) (hx : I64 x) : KeepB W.heap.size W (some ⟨g, 0, none⟩) 1 [x] := by
  refine ⟨rfl, g, 0, .inr rfl, fun i hi => ⟨(Array.getElem?_eq_some_iff.1 h).1, ?_, ?_⟩⟩
  · rw [Nat.zero_add, cell_of_row _ _ _ _ _ _ h]
    have : i = 0 := by simp at hi; omega
    subst this; rfl
  · have : i = 0 := by simp at hi; omega
    subst this; exact hx
theorem binds_2 {W : World} {g : Nat} {x y : Int} (h : W.heap[g]? = some (T2 x y)) : BindsAt W (· < W.heap.size) (some ⟨g, 0, none⟩) 2 [⟨[97], [109], x⟩, ⟨[97], [110], y⟩] := by
  refine ⟨rfl, g, 0, .inr ⟨rfl, (Array.getElem?_eq_some_iff.1 h).1⟩, fun i hi => ?_⟩
  rw [Nat.zero_add, cell_of_row _ _ _ _ _ _ h, cell_of_row _ _ _ _ _ _ h, cell_of_row _ _ _ _ _ _ h]
  have : i = 0 ∨ i = 1 := by simp at hi; omega
  rcases this with rfl | rfl <;> exact ⟨rfl, rfl, rfl⟩
theorem binds_1 {W : World} {g : Nat} {x y : Int} (h : W.heap[g]? = some (T2 x y)) : BindsAt W (· < W.heap.size) (some ⟨g, 3, none⟩) 1 [⟨[97], [110], y⟩] := by
  refine ⟨rfl, g, 3, .inr ⟨rfl, (Array.getElem?_eq_some_iff.1 h).1⟩, fun i hi => ?_⟩
  rw [cell_of_row _ _ _ _ _ _ h, cell_of_row _ _ _ _ _ _ h, cell_of_row _ _ _ _ _ _ h]
  have : i = 0 := by simp at hi; omega
  subst this; exact ⟨rfl, rfl, rfl⟩
theorem names_1 {W : World} {g : Nat} (h : W.heap[g]? = some (.cells #[.string { data := #[97] }] 9 (0, 0))) : NamesAt W (· < W.heap.size) (some ⟨g, 0, none⟩) 1 [[97]] := by
  refine ⟨rfl, g, 0, .inr ⟨rfl, (Array.getElem?_eq_some_iff.1 h).1⟩, fun i hi => ?_⟩
  rw [Nat.zero_add, cell_of_row _ _ _ _ _ _ h]
  have : i = 0 := by simp at hi; omega
  subst this; rfl
theorem binds_up {W W' : World} {a : Option Addr} {len : Nat} {l : List Bd} (h : BindsAt W (· < W.heap.size) a len l) (hb : Below W.heap.size W W') : BindsAt W' (· < W'.heap.size) a len l :=
  (h.keep fun b hl => hb.block b hl).imp fun _ hl => Nat.lt_of_lt_of_le hl hb.size
/-- A row of binds that a call has made. -/
theorem row_binds {w : World} {base n : Nat} {v : Value} {l : List Bd} (h : w.ownsRow base 40 3 v n (bdsV l)) : ∃ a cap, v = .slice a n cap ∧ l.length = n ∧ BindsAt w (· < w.heap.size) a n l := by
  obtain ⟨a, cap, hv, hl, hb⟩ := binds_own h
  exact ⟨a, cap, hv, hl, hb.imp fun _ e => (h.lt _ e).2⟩

theorem trim_aw (w : World) : Calls Try.prog 12 #[.slice (some ⟨w.heap.size, 0, none⟩) 2 2, .slice (some ⟨w.heap.size, 3, none⟩) 1 1, .slice (some ⟨w.heap.size + 1, 0, none⟩) 1 1, .slice (some ⟨w.heap.size + 1 + 1, 0, none⟩) 1 1] (((w.alloc (T2 2 2)).alloc (.cells #[.string { data := #[97] }] 9)).alloc (.cells #[.int .i64 3] 3)) fun e w' => ∃ a c, e = .returned (.slice a 2 c) ∧ BindsAt w' (· < w'.heap.size) a 2 [⟨[97], [109], 1⟩, ⟨[97], [110], 2⟩] ∧ Below w.heap.size w w' := by
  have h0 : (((w.alloc (T2 2 2)).alloc (.cells #[.string { data := #[97] }] 9)).alloc (.cells #[.int .i64 3] 3)).heap[w.heap.size]? = some (T2 2 2) := old_at (old_at (new_at w _))
  have h1 : (((w.alloc (T2 2 2)).alloc (.cells #[.string { data := #[97] }] 9)).alloc (.cells #[.int .i64 3] 3)).heap[w.heap.size + 1]? = some (.cells #[.string { data := #[97] }] 9) := old_at (new_1 w _ _)
  have h2 := new_2 w (T2 2 2) (.cells #[.string { data := #[97] }] 9) (.cells #[.int .i64 3] 3)
  have hB : Below w.heap.size w (((w.alloc (T2 2 2)).alloc (.cells #[.string { data := #[97] }] 9)).alloc (.cells #[.int .i64 3] 3)) := (((Below.refl w.heap.size w).alloc (Nat.le_refl _) _).alloc (by simp) _).alloc (by simp; omega) _
  refine (trim_any (some ⟨w.heap.size, 0, none⟩) 2 2 [⟨[97], [109], 2⟩, ⟨[97], [110], 2⟩] (some ⟨w.heap.size, 3, none⟩) 1 1 [⟨[97], [110], 2⟩] (some ⟨w.heap.size + 1, 0, none⟩) 1 1 [[97]] (some ⟨w.heap.size + 1 + 1, 0, none⟩) 1 1 [3] _ (binds_2 h0) (binds_1 h0) (names_1 h1) (keep_1 h2 (by unfold I64; omega)) ⟨by simp, by simp⟩ ⟨by simp, by simp⟩ ⟨by simp, by simp⟩).mono ?_
  rintro e w' ⟨v, rfl, hr, hb⟩
  have e1 : trimN [⟨[97], [109], 2⟩, ⟨[97], [110], 2⟩] [⟨[97], [110], 2⟩] [[97]] [3] = [⟨[97], [109], 1⟩, ⟨[97], [110], 2⟩] := by rfl
  rw [e1] at hr
  obtain ⟨a, c, rfl, hl, hk⟩ := row_binds hr
  exact ⟨a, c, rfl, hk, hB.trans (hb.mono hB.size)⟩
theorem share_aw (w : World) (a b c d x y : Int) (ha : I64 a ∧ I64 b ∧ I64 c ∧ I64 d) (h : shareN 5 [a, b] [c, d] = [x, y]) : Calls Try.prog 10 #[.int .i64 5, .slice (some ⟨w.heap.size, 0, none⟩) 2 2, .slice (some ⟨w.heap.size + 1, 0, none⟩) 2 2] ((w.alloc (B2 a b)).alloc (B2 c d)) fun e w' => ∃ a' c', e = .returned (.slice a' 2 c') ∧ KeepB w'.heap.size w' a' 2 [x, y] ∧ Below w.heap.size w w' := by
  have h0 : ((w.alloc (B2 a b)).alloc (B2 c d)).heap[w.heap.size]? = some (B2 a b) := old_at (new_at w _)
  have h1 := new_1 w (B2 a b) (B2 c d)
  have hB : Below w.heap.size w ((w.alloc (B2 a b)).alloc (B2 c d)) := ((Below.refl w.heap.size w).alloc (Nat.le_refl _) _).alloc (by simp) _
  refine (share_any 5 _ 2 2 [a, b] _ 2 2 [c, d] _ (by unfold I64; omega) (keep_2 h0 ha.1 ha.2.1) (keep_2 h1 ha.2.2.1 ha.2.2.2)).mono ?_
  rintro e w' ⟨v, rfl, hr, hb⟩
  have hbd := share_bd 5 [a, b] [c, d]
  rw [h] at hr hbd
  obtain ⟨a', c', rfl, hl, hk⟩ := keep_row hr fun z hz => by have := hbd z hz; unfold I64; omega
  exact ⟨a', c', rfl, hk, hB.trans (hb.mono hB.size)⟩
theorem ints_aw {w : World} {a : Option Addr} {c : Nat} {x y : Int} (h : KeepB w.heap.size w a 2 [x, y]) (hx : I64 x) (hy : I64 y) : Calls Try.prog 14 #[.slice a 2 c, .slice (some ⟨w.heap.size, 0, none⟩) 2 2] (w.alloc (B2 x y)) fun e w' => e = .returned (.bool true) ∧ Below w.heap.size w w' := by
  have hB : Below w.heap.size w (w.alloc (B2 x y)) := (Below.refl w.heap.size w).alloc (Nat.le_refl _) _
  refine (ints_any a _ 2 c 2 2 [x, y] [x, y] _ (by omega) (keep_bs (h.below hB) hB.size) (keep_2 (new_at w _) hx hy)).mono ?_
  rintro e w' ⟨rfl, hb⟩
  exact ⟨by simp, hB.trans (hb.mono hB.size)⟩
theorem same_aw {w : World} {a : Option Addr} {c : Nat} (h : BindsAt w (· < w.heap.size) a 2 [⟨[97], [109], 1⟩, ⟨[97], [110], 2⟩]) : Calls Try.prog 15 #[.slice a 2 c, .slice (some ⟨w.heap.size, 0, none⟩) 2 2] (w.alloc (T2 1 2)) fun e w' => e = .returned (.bool true) ∧ Below w.heap.size w w' := by
  have hB : Below w.heap.size w (w.alloc (T2 1 2)) := (Below.refl w.heap.size w).alloc (Nat.le_refl _) _
  refine (same8_any a _ 2 c 2 2 [⟨[97], [109], 1⟩, ⟨[97], [110], 2⟩] [⟨[97], [109], 1⟩, ⟨[97], [110], 2⟩] _ (by omega) (binds_up h hB) (binds_2 (new_at w _))).mono ?_
  rintro e w' ⟨rfl, hb⟩
  exact ⟨by simp, hB.trans (hb.mono hB.size)⟩
theorem sh1 : shareN 5 [3, 0] [1, 4] = [1, 2] := by rfl
theorem sh2 : shareN 5 [1, 2] [1, 4] = [1, 4] := by rfl
theorem sh3 : shareN 5 [-1, 0] [1, 4] = [0, 0] := by rfl
set_option maxRecDepth 100000 in
set_option maxHeartbeats 4000000 in
theorem awake_any (w : World) : Calls Try.prog 9 #[] w fun e w' => e = .returned (.bool true) ∧ Below w.heap.size w w' := by
  go_enter Try.func9, Try.ntmps9
  go_upto_region 3 with (go_at_call 12; with_reducible refine (trim_aw w).mono ?_; rintro e w1 ⟨a1, c1, rfl, hk1, hb1⟩; have HK1 := Lib.hid hk1; have HS := Lib.hid (And.intro hb1 (Below.refl w1.heap.size w1)); clear hk1 hb1)
  go_wp2_with (first
    | (go_at_call 10; (first | with_reducible refine (share_aw _ 3 0 1 4 1 2 (by unfold I64; omega) sh1).mono ?_ | with_reducible refine (share_aw _ 1 2 1 4 1 4 (by unfold I64; omega) sh2).mono ?_ | with_reducible refine (share_aw _ (-1) 0 1 4 0 0 (by unfold I64; omega) sh3).mono ?_); rintro e w2 ⟨a2, c2, rfl, hk2, hb2⟩; have HK := Lib.hid hk2; have HS := Lib.hid (And.intro (bt HS.out.1 hb2) (bt HS.out.2 hb2)); clear hk2 hb2)
    | (go_at_call 14; with_reducible refine (ints_aw HK.out (by unfold I64; omega) (by unfold I64; omega)).mono ?_; rintro e w3 ⟨rfl, hb3⟩; have HS := Lib.hid (And.intro (bt HS.out.1 hb3) (bt HS.out.2 hb3)); clear hb3)
    | (go_at_call 15; with_reducible refine (same_aw (binds_up HK1.out HS.out.2)).mono ?_; rintro e w4 ⟨rfl, hb4⟩; have HS := Lib.hid (And.intro (bt HS.out.1 hb4) (bt HS.out.2 hb4)); clear hb4))
  go_ret
  exact ⟨rfl, HS.out.1⟩
end Go.Proofs.Ytjkfiilnogacnaa
