/-
  The program's Trim: copies of names, spotOf, leftOf, take.
-/
import Derived.Lib.BufferWrite
import Derived.Lib.UnsafeStr
import Derived.Deep.WholeRow
import Derived.Stop.Walk2
import Derived.Test.YtjkfiilnogacnaaSpkey
import Derived.Test.YtjkfiilnogacnaaTmap
import Derived.Test.YtjkfiilnogacnaaSpsmall
namespace Go.Proofs.Ytjkfiilnogacnaa
open Go.RowKit Gm

theorem infoB : (Try.prog.info? 5).map (fun i => (i.zero, i.size, i.bytes)) = some (some (.int .u8 0), 1, 1) := by kernel_rfl
theorem makeN (n : Nat) (h : n ≤ 281474976710656) : ∃ C : Array Value, ∀ w : World, (Instr.makeSlice 57 (.int .i64 (n : Int)) (.int .i64 (n : Int))).run Try.prog w = .ok (.slice (some ⟨w.heap.size, 0, none⟩) n n) (w.alloc (.cells C 5)) ∧ C.size = n := by
  obtain ⟨i0, hi, hz0, hz1, hz2⟩ := info_parts infoB
  refine ⟨madeCells (Value.int .u8 0).cells (n * i0.size), fun w => ⟨?_, ?_⟩⟩
  · have := run_make (P := Try.prog) w 57 5 i0 (.int .u8 0) Try.underlying57 hi hz0 .i64 .i64 (n : Int) (n : Int) (by omega) (Int.le_refl _) (by rw [hz2]; omega) (by omega)
    simpa using this
  · rw [size_madeCells, hz1, Nat.mul_one]
theorem clone_at (s : ByteArray) (hs : s.size ≤ 281474976710656) (h0 : (((s.size : Nat) : Int) == 0) = false) (w : World) :
    Calls Try.prog 31 #[.string s] w fun e w' => e = .returned (.string s) ∧ Below w.heap.size w w' := by
  obtain ⟨C, hC⟩ := makeN s.size hs
  have hmk : (Instr.makeSlice 57 (.int .i64 (s.size : Int)) (.int .i64 (s.size : Int))).run Try.prog w = .ok (.slice (some ⟨w.heap.size, 0, none⟩) s.size s.size) (w.alloc (.cells C 5)) := (hC w).1
  have hCs := (hC w).2
  have hcp : ∀ ty, (Builtin.copy_ #[57, 9] ty #[.slice (some ⟨w.heap.size, 0, none⟩) s.size s.size, .string s]).run Try.prog (w.alloc (.cells C 5)) = .ok (.int .i64 (s.size : Int)) (w.alloc (.cells (Lib.byteCells s.data.toList).toArray 5)) := by
    intro ty
    have := Lib.run_copy_row_string (P := Try.prog) (w.alloc (.cells C 5)) 57 9 ty 5 w.heap.size 0 s.size s.size s C 5 Try.underlying57 (by kernel_rfl) (new_at w _) (Nat.le_refl _) (by omega)
    rw [this, World.setRow_alloc_new]
    congr 3
    simp [hCs]
  have hun : ∀ ty, (Builtin.unsafeString_ #[58, 3] ty #[.pointer (some ⟨w.heap.size, 0, none⟩), .int .i64 (s.size : Int)]).run Try.prog (w.alloc (.cells (Lib.byteCells s.data.toList).toArray 5)) =
      .ok (.string s) ((w.alloc (.cells (Lib.byteCells s.data.toList).toArray 5)).freeze ⟨w.heap.size, 0, none⟩ s.size) := by
    intro ty
    have hl : s.data.toList.length = s.size := (Lib.size_eq s).symm
    have := Lib.run_unsafeString_row (P := Try.prog) (w.alloc (.cells (Lib.byteCells s.data.toList).toArray 5)) 58 3 ty 5 Try.underlying58 (by kernel_rfl) w.heap.size s.size
      (by rw [World.shape?_alloc_at _ _ _ _]; simp [Lib.byteCells_length, hl]; rfl) s.data.toList (by intro h; rw [h] at hl; simp at hl; simp [← hl] at h0) (by omega) (by omega) (fun j x hj => by
        have hp : (⟨w.heap.size, 0, none⟩ : Addr).add j = ⟨w.heap.size, j, none⟩ := by unfold Addr.add; split <;> simp_all
        rw [hp, World.cell?_alloc_mark]
        simp [Lib.byteCells, hj])
    rw [hl] at this
    rw [this]
  have hpos : 0 < s.size := by
    rcases Nat.eq_zero_or_pos s.size with h | h
    · rw [h] at h0; simp at h0
    · exact h
  clear hC hCs
  go_enter Try.func31, Try.ntmps31
  go_wp2
  go_ret
  exact ⟨rfl, Lib.below_freeze ((Below.refl _ _).alloc (Nat.le_refl _) _) (Nat.le_refl _) _⟩
theorem clone_any (s : ByteArray) (hs : s.size ≤ 281474976710656) (w : World) :
    Calls Try.prog 31 #[.string s] w fun e w' => e = .returned (.string s) ∧ Below w.heap.size w w' := by
  by_cases h : s.size = 0
  · obtain rfl : s = ⟨#[]⟩ := by
      rw [← S_eq s]
      have : s.data.toList = [] := List.eq_nil_of_length_eq_zero (by rw [← Lib.size_eq]; exact h)
      rw [this]; rfl
    clear h hs
    go_enter Try.func31, Try.ntmps31
    go_wp2
    go_ret
    exact ⟨rfl, Below.refl _ _⟩
  · exact clone_at s hs (by rw [beq_eq_false_iff_ne]; omega) w
theorem sclone_any (k : Bs) (hk : k.length ≤ 140737488351232) (w : World) :
    Calls Try.prog 30 #[.string (S k)] w fun e w' => e = .returned (.string (S k)) ∧ Below w.heap.size w w' := by
  have hs : (S k).size ≤ 281474976710656 := by rw [S_size]; omega
  go_enter Try.func30, Try.ntmps30
  go_wp2_with (go_at_call 31; refine (clone_any _ hs _).mono ?_; rintro e w1 ⟨rfl, hb1⟩)
  go_ret
  exact ⟨rfl, hb1⟩

abbrev okName (k : Bs) : Prop := k.length ≤ 140737488351232
abbrev nameL (k : Bs) : Lit := .string k
theorem name_keys : KeysOf 9 (κ := Bs) nameL (fun x => .string (S x)) okName := str_keys 9 Try.underlying9
/-- BLOCK b TELLS WHAT IS LEFT OF EACH NAME. -/
abbrev LeftM (w : World) (b n : Nat) (f : Bs → Option Int) : Prop := CntM 9 nameL okName w b n f
abbrev WasM (w : World) (b n : Nat) (f : Bs × Bs → Option Int) : Prop := CntM 52 spotL okSpot w b n f

theorem spot_any (k n : Bs) (c : Int) (w : World) : Calls Try.prog 27 #[.agg #[.string (S k), .string (S n), .int .i64 c]] w fun e w' => e = .returned (spotV (k, n)) ∧ Below w.heap.size w w' := by
  have hb1 : Below w.heap.size w (w.alloc (.cells #[.string (S k), .string (S n), .int .i64 c] 40)) := (Below.refl _ w).alloc (Nat.le_refl _) _
  go_enter Try.func27, Try.ntmps27
  go_wp2
  have hn2 := new_at (w.alloc (.cells #[.string (S k), .string (S n), .int .i64 c] 40)) (.cells #[.string (S k), .string (S n)] 52)
  rw [show (w.alloc (.cells #[.string (S k), .string (S n), .int .i64 c] 40)).heap.size = w.heap.size + 1 by simp] at hn2
  (try simp only [Exit.inBlock, Exit.then])
  refine bodyPost_ret (results_cell_row (cs := #[.string (S k), .string (S n)]) rfl _ _ (w.heap.size + 1) 52 (0, 0) _ rfl hn2 Try.underlying52 rfl (by kernel_rfl)) rfl ?_
  exact ⟨rfl, hb1.alloc hb1.size _⟩
theorem take_any (b n : Nat) (f : Bs → Option Int) (k : Bs) (most v m : Int) (w : World) (h : LeftM w b n f) (hn : n ≤ 1099511627776) (hk : okName k) (hv : (f k).getD 0 = v) (hm : min most v = m) (hb : I64 (v - m)) :
    Calls Try.prog 26 #[.map (some b), .string (S k), .int .i64 most] w fun e w' => e = .returned (.int .i64 m) ∧ LeftM w' b (n + 1) (fun j => if j = k then some (v - m) else f j) ∧ w.grownBy w' (some b) := by
  have hl := h.look name_keys Try.underlying46 k hk
  rw [hv] at hl
  have m1 := min2 most v
  rw [hm] at m1
  obtain ⟨d, hd⟩ : ∃ d, v - m = d := ⟨_, rfl⟩
  rw [hd] at hb ⊢
  have w1 : IntKind.i64.wrap (v - m) = d := by rw [hd]; exact IntWalk.i64_in _ hb
  have w2 : wrap64 (v - m) = d := by rw [hd]; exact IntWalk.wrap64_in _ hb
  obtain ⟨w', hrun, hc, hg⟩ := h.store name_keys Try.underlying46 hn k hk d
  have HC := Lib.hid hc
  have HG := Lib.hid hg
  clear h hc hg hd hm hv hb
  go_enter Try.func26, Try.ntmps26
  go_wp2
  go_ret
  exact ⟨rfl, HC.out, HG.out⟩
set_option maxRecDepth 100000 in
set_option maxHeartbeats 4000000 in
theorem leftOf_any (wa : Option Addr) (wl wc : Nat) (works : List Bs) (aa : Option Addr) (ac : Nat) (allowed : List Int) (w : World) (hw : NamesAt w (· < w.heap.size) wa wl works) (ha : KeepB w.heap.size w aa wl allowed) (okw : OkW works) :
    Calls Try.prog 24 #[.slice wa wl wc, .slice aa wl ac] w fun e w' => e = .returned (.map (some w.heap.size)) ∧ LeftM w' w.heap.size wl (leftF works allowed wl) ∧ Below w.heap.size w w' := by
  have hmm := @run_makeMap Try.prog
  have HW := Lib.hid hw
  have HA := Lib.hid ha
  have HOK := Lib.hid okw.2
  have HWl : Hid (works.length = wl) := Lib.hid hw.1
  have HAl : Hid (allowed.length = wl) := Lib.hid ha.1
  have wl20 : wl ≤ 1048576 := by have := okw.1; rw [hw.1] at this; exact this
  have HC0 : Hid (LeftM (w.alloc (.map #[] 0)) w.heap.size 0 (leftF works allowed 0)) := Lib.hid (CntM.made 9 nameL okName w)
  have HB0 : Hid (Below w.heap.size w (w.alloc (.map #[] 0))) := Lib.hid ((Below.refl _ w).alloc (Nat.le_refl _) _)
  obtain ⟨g, hg⟩ : ∃ g, w.heap.size = g := ⟨_, rfl⟩
  have HG := Lib.hid hg
  clear hw ha okw
  go_enter Try.func24, Try.ntmps24
  go_wp2
  rw [hg] at HC0
  clear hg
  go_loopw [13] (fun iv wr => ∃ i : Nat, i ≤ wl ∧ iv = .int .i64 (i : Int) ∧ LeftM wr g i (leftF works allowed i) ∧ Below w.heap.size w wr) (fun iv _ => wl - (intOf iv).toNat)
  case atStart => exact ⟨0, Nat.zero_le _, rfl, HC0.out, HB0.out⟩
  case round =>
    obtain ⟨i, hi, rfl, hc, hb⟩ := hrel
    have HC := Lib.hid hc
    have HB := Lib.hid hb
    clear HC0 HB0 hc
    by_cases hlt : i < wl
    · have hil : i < works.length := by rw [HWl.out]; exact hlt
      have hal : i < allowed.length := by rw [HAl.out]; exact hlt
      obtain ⟨b, off, hwa, hbl, hcell⟩ := cells_n HW.out hlt
      obtain ⟨b', off', haa, hbl', hcell'⟩ := cells_k HA.out hlt
      subst hwa haa
      have c1 := (hb.cell (p := ⟨b, off + i, none⟩) hbl).trans (hcell hil)
      have c2 := (hb.cell (p := ⟨b', off' + i, none⟩) hbl').trans (hcell' hal)
      have y1 := Nat.lt_of_lt_of_le hbl hb.size
      have y2 := Nat.lt_of_lt_of_le hbl' hb.size
      have hok := HOK.out _ (List.getElem_mem hil)
      have HS := Lib.hid (fun k => leftF_snoc (allowed := allowed) hil k)
      have hat : atN allowed i = allowed[i] := (atN_of hal).symm
      obtain ⟨k, hk⟩ : ∃ k, works[i] = k := ⟨_, rfl⟩
      obtain ⟨x, hx⟩ : ∃ x, allowed[i] = x := ⟨_, rfl⟩
      rw [hat, hx, hk] at HS
      rw [hk] at c1 hok
      rw [hx] at c2
      obtain ⟨nx, hnx⟩ : ∃ m, numC x = m := ⟨_, rfl⟩
      rw [hnx] at HS
      have HNX := Lib.hid hnx
      have hl := HC.out.look2 name_keys Try.underlying46 k hok
      have hi0 : (0 : Int) ≤ (i : Int) := by omega
      have hi1 : (i : Int) < (wl : Int) := by omega
      obtain ⟨v, hv⟩ : ∃ v, (leftF works allowed i k).getD 0 = v := ⟨_, rfl⟩
      rw [hv] at hl
      clear hk hx hat hb hcell hcell' hnx hv hil hal
      rcases hs : (leftF works allowed i k).isSome with _ | _
      · rw [hs] at hl
        obtain ⟨w', hrun, hc', hg'⟩ := HC.out.store name_keys Try.underlying46 (by omega) k hok nx
        have HT : Hid (LeftM w' g (i + 1) (leftF works allowed (i + 1))) := Lib.hid (hc'.same fun j => by
          rw [HS.out j]
          by_cases e : j = k
          · subst e; simp [hs]
          · simp [e])
        have HG' := Lib.hid hg'
        clear hc' hg' hs
        go_wp2_with (go_at_call 22; (have hc' := limit_any x wr; rw [HNX.out] at hc'; with_reducible refine hc'.mono ?_); rintro e w1 ⟨rfl, rfl⟩)
        go_roundw
        case rel => exact ⟨i + 1, by omega, by go_num, HT.out, HB.out.grown HG'.out HB.out.size (fun j e => by injection e with e; rw [HG.out, ← e]; exact Nat.le_refl _)⟩
        case measure => simp [intOf]; omega
      · rw [hs] at hl
        have HT : Hid (LeftM wr g (i + 1) (leftF works allowed (i + 1))) := Lib.hid ((HC.out.same fun j => by
          rw [HS.out j]
          by_cases e : j = k
          · subst e; simp [hs]
          · simp [e]).wide (Nat.le_succ _))
        clear hs
        go_wp2
        go_roundw
        case rel => exact ⟨i + 1, by omega, by go_num, HT.out, HB.out⟩
        case measure => simp [intOf]; omega
    · have hie : i = wl := by omega
      have hin : ¬ (i : Int) < (wl : Int) := by omega
      have HF : Hid (LeftM wr w.heap.size wl (leftF works allowed wl)) := Lib.hid (by rw [HG.out]; have := HC.out; rwa [hie] at this)
      have HRET : Hid (Ending.returned (Value.map (some g)) = .returned (.map (some w.heap.size))) := Lib.hid (by rw [HG.out])
      clear hie hlt hb
      go_wp2
      go_ret
      exact ⟨HRET.out, HF.out, HB.out⟩
end Go.Proofs.Ytjkfiilnogacnaa
