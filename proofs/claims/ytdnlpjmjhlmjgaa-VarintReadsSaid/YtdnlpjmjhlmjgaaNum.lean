/-
  varint.Num: the bytes of a number, visited by its iterator, gathered in a slice and made a string: for every number of 64 bits its encoding.
-/
import Derived.RangeFuncNested
import Derived.RangeFuncBox
import Derived.RangeFuncBound
import Derived.RangeFuncCalls
import Derived.RangeFuncLeaves
import Derived.Shelf.Abstract
import Derived.Shelf.RegionOpen
import Derived.WalkKit
import Derived.OwnWalkIn
import Derived.TacticsInMore
import Derived.LoopNIn
import Derived.LoopIn
import Derived.Maps.AppendAt
import Derived.Lib.UnsafeStr
import Derived.Laws.IdiomStrings
import Derived.Test.YtdnlpjmjhlmjgaaSmall
namespace Go.Proofs.Ytdnlpjmjhlmjgaa
open Go.RowKit Go.Shelf
attribute [local go_sem] Oper.semAt_some

theorem u8_rem (z : Nat) : IntKind.u8.wrap ((z : Int) % 128) = ((z % 128 : Nat) : Int) := by rw [IntKind.wrap_u8]; omega

set_option maxRecDepth 100000 in
set_option maxHeartbeats 1000000 in
theorem nb1_in (n : Nat) (hn : 1 ≤ n) (l Bn n₀ : Nat) (m : Int) (hm : Vm.In m) (J Jx : List UInt8 → World → Prop)
    (hY : ∀ pre x W, J pre W → pre.length < 10 → YieldAt Fence.wide (n - 1) Try.prog l #[.int .u8 (x.toNat : Int)] W fun e W' =>
      (e = .returned (.bool true) ∧ J (pre ++ [x]) W' ∧ Below n₀ W W') ∨ (e = .returned (.bool false) ∧ Jx (pre ++ [x]) W'))
    (W : World) (hBn : W.cell? ⟨Bn, 0, none⟩ = some (.int .i64 m)) (h0 : J [] W) :
    CallsIn Fence.wide n Try.prog 36 #[.func (.yield l) #[] #[], .pointer (some ⟨Bn, 0, none⟩)] W fun e W' => (∃ v, e = .returned v) ∧
      ((∃ ys, ys = Vm.enc m ∧ J ys W') ∨ (∃ pre, pre <+: Vm.enc m ∧ Jx pre W')) := by
  have hz9 := Vm.zig_lt hm
  refine callsIn_of_wp Try.func36 rfl trivial ?_ rfl
  simp only [Try.ntmps36, List.size_toArray, List.length_cons, List.length_nil, Nat.reduceAdd, Nat.reduceSub, Array.replicate_succ, Array.replicate_zero, List.push_toArray, List.append_toArray, List.nil_append, List.cons_append]
  gi_wp2_with (refine ⟨trivial, ?_⟩; gi_at_call 37; refine (callsIn_wide.2 (zig_any m _ hm)).mono ?_; rintro e w' ⟨rfl, rfl⟩)
  gi_loopw [3] (fun v wr => ∃ (k z : Nat) (pre : List UInt8), v = .int .u64 z ∧ k + pre.length = 9 ∧ z < 2 * 128 ^ k ∧ Vm.enc m = pre ++ Vm.encF k z ∧ J pre wr)
    (fun v _ => (intOf v).toNat)
  case atStart => exact ⟨9, Vm.zig m, [], rfl, rfl, hz9, rfl, h0⟩
  case round =>
    obtain ⟨k, z, pre, rfl, hk, hz, he, hJ⟩ := hrel
    have HE := Lib.hid he
    have HK := Lib.hid hk
    clear he hk
    by_cases hs : z < 128
    · have hx : ((UInt8.ofNat z).toNat : Int) = (z : Int) := by rw [Vm.toNat_small (by omega)]
      obtain ⟨fn, tmps, assign, body, hy, hR⟩ := hY pre (UInt8.ofNat z) wr hJ (by have := HK.out; omega)
      rw [hx] at hy
      clear hx
      gi_wp2
      refine hR.mono ?_
      have HF : Hid (Vm.encF k z = [UInt8.ofNat z]) := Lib.hid (Vm.encF_small k hs)
      rintro e W3 (⟨rfl, hJ3, hk3⟩ | ⟨rfl, hJx3⟩)
      · gi_wp2
        go_end0
        exact ⟨⟨_, rfl⟩, .inl ⟨_, by rw [HE.out, HF.out], hJ3⟩⟩
      · gi_wp2
        go_end0
        exact ⟨⟨_, rfl⟩, .inr ⟨_, by rw [HE.out, HF.out]; exact List.prefix_refl _, hJx3⟩⟩
    · obtain ⟨j, rfl⟩ : ∃ j, k = j + 1 := by
        cases k with
        | zero => omega
        | succ j => exact ⟨j, rfl⟩
      have hz64 : z < 18446744073709551616 := by
        have h1 : 2 * 128 ^ (j + 1) ≤ 2 * 128 ^ 9 := Nat.mul_le_mul_left _ (Nat.pow_le_pow_right (by omega) (by have := HK.out; omega))
        omega
      have hd := Vm.div_lt j hz
      have HZ := Lib.hid hz
      have HD := Lib.hid hd
      clear hz hd
      have hx : ((UInt8.ofNat (z % 128 + 128)).toNat : Int) = (z : Int) % 128 + 128 := by rw [Vm.toNat_small (by omega)]; omega
      obtain ⟨fn, tmps, assign, body, hy, hR⟩ := hY pre (UInt8.ofNat (z % 128 + 128)) wr hJ (by have := HK.out; omega)
      rw [hx] at hy
      clear hx
      have HF : Hid (Vm.encF (j + 1) z = UInt8.ofNat (z % 128 + 128) :: Vm.encF j (z / 128)) := Lib.hid (Vm.encF_big j hs)
      have hge : 128 ≤ (z : Int) := by omega
      gi_wp2
      refine hR.mono ?_
      rintro e W3 (⟨rfl, hJ3, hk3⟩ | ⟨rfl, hJx3⟩)
      · gi_wp2
        go_roundw
        case rel => exact ⟨j, z / 128, pre ++ [UInt8.ofNat (z % 128 + 128)], by go_num, by have := HK.out; simp; omega, HD.out, by rw [HE.out, HF.out]; simp, hJ3⟩
        case measure => simp [intOf]; omega
      · gi_wp2
        refine bodyPost_ret (results_none rfl _ _ _) rfl ?_
        exact ⟨⟨_, rfl⟩, .inr ⟨_, by rw [HE.out, HF.out]; exact ⟨Vm.encF j (z / 128), by simp⟩, hJx3⟩⟩

theorem nbytes_any (m : Int) (w : World) :
    CallsIn Fence.wide 3 Try.prog 31 #[.int .i64 m] w fun e w' => e = .returned (.func (.func 36) #[] #[.pointer (some ⟨w.heap.size, 0, none⟩)]) ∧ w' = w.alloc (.cells #[.int .i64 m] 3) := by
  refine callsIn_of_wp Try.func31 rfl trivial ?_ rfl
  simp only [Try.ntmps31, List.size_toArray, List.length_cons, List.length_nil, Nat.reduceAdd, Nat.reduceSub, Array.replicate_succ, Array.replicate_zero, List.push_toArray, List.append_toArray, List.nil_append, List.cons_append]
  gi_wp2
  go_ret
  exact ⟨rfl, rfl⟩

theorem nb_stops (n : Nat) (hn : 1 ≤ n) (Bn n₀ : Nat) (m : Int) (hm : Vm.In m) (w : World) (hBn : Bn < w.heap.size)
    (hc : w.cell? ⟨Bn, 0, none⟩ = some (.int .i64 m)) :
    SeqStopsK Fence.wide n Try.prog 36 #[.pointer (some ⟨Bn, 0, none⟩)] (fun x : UInt8 => #[Value.int .u8 (x.toNat : Int)]) (Below n₀) (fun ys => ys = Vm.enc m) (fun pre => pre <+: Vm.enc m) 10 w := fun l J Jx W hW _ _ hY h0 =>
  nb1_in n hn l Bn n₀ m hm J Jx hY W ((hW.cell (p := ⟨Bn, 0, none⟩) hBn).trans hc) h0

theorem infoU8 : (Try.prog.info? 5).map (fun i => (i.zero, i.size, i.bytes)) = some (some (.int .u8 0), 1, 1) := by kernel_rfl

/-- The string of these bytes. -/
def S (l : List UInt8) : ByteArray := ⟨l.toArray⟩
theorem S_list (l : List UInt8) : (S l).data.toList = l := rfl
theorem S_size (l : List UInt8) : (S l).size = l.length := by rw [Lib.size_eq]; rfl
theorem S_eq (s : ByteArray) : S s.data.toList = s := Lib.mk_data s

def zeros10 : Array Value := #[.int .u8 0, .int .u8 0, .int .u8 0, .int .u8 0, .int .u8 0, .int .u8 0, .int .u8 0, .int .u8 0, .int .u8 0, .int .u8 0]
theorem make10 (w : World) : (Instr.makeSlice 44 (.int .i64 0) (.int .i64 10)).run Try.prog w = .ok (.slice (some ⟨w.heap.size, 0, none⟩) 0 10) (w.alloc (.cells zeros10 5)) := by kernel_rfl

/-- The cells of these bytes. -/
def U (l : List UInt8) : List Value := l.map fun b => Value.int .u8 (b.toNat : Int)
theorem U_length (l : List UInt8) : (U l).length = l.length := by simp [U]
theorem U_snoc (l : List UInt8) (b : UInt8) : U (l ++ [b]) = U l ++ [Value.int .u8 (b.toNat : Int)] := by simp [U]

set_option maxRecDepth 100000 in
set_option maxHeartbeats 2000000 in
theorem num_any (m : Int) (hm : Vm.In m) (w : World) :
    Calls Try.prog 14 #[.int .i64 m] w fun e w' => e = .returned (.string (S (Vm.enc m))) ∧ Below w.heap.size w w' := by
  refine (callsIn_wide (n := 4)).1 ?_
  obtain ⟨i0, hi, hz0, hz1, hz2⟩ := info_parts infoU8
  have hmk := make10
  refine callsIn_of_wp_marks Try.func14 rfl trivial ?_ rfl
  simp only [Try.ntmps14, List.size_toArray, List.length_cons, List.length_nil, Nat.reduceAdd, Nat.reduceSub, Array.replicate_succ, Array.replicate_zero, List.push_toArray, List.append_toArray, List.nil_append, List.cons_append]
  gi_wp2_with (refine ⟨trivial, ?_⟩; gi_at_call 31; refine (nbytes_any _ _).mono ?_; rintro e w' ⟨rfl, rfl⟩)
  clear hmk
  have o0 : (w.alloc (.cells zeros10 5)).ownsRow w.heap.size 5 1 (.slice (some ⟨w.heap.size, 0, none⟩) 0 10) 0 [] := by
    have := World.ownsRow_made (base := w.heap.size) (e := 5) (size := 1) w zeros10 10 (Nat.le_refl _) (by decide) (by decide)
    simpa using this
  have bO := Boxed.new (w.alloc (.cells zeros10 5)) 44 (.slice (some ⟨w.heap.size, 0, none⟩) 0 10)
  rw [World.size_alloc] at bO
  have bN := Boxed.new ((w.alloc (.cells zeros10 5)).alloc (.cells #[.slice (some ⟨w.heap.size, 0, none⟩) 0 10] 44)) 3 (.int .i64 m)
  rw [World.size_alloc, World.size_alloc] at bN
  have hB0 : Below w.heap.size w (((w.alloc (.cells zeros10 5)).alloc (.cells #[.slice (some ⟨w.heap.size, 0, none⟩) 0 10] 44)).alloc (.cells #[.int .i64 m] 3)) :=
    (((Below.refl _ w).alloc (Nat.le_refl _) _).alloc (by simp) _).alloc (by simp; omega) _
  have hel := Vm.enc_length m
  refine wpIn_rangeFunc_ownG rfl (by omega) (gf := 36) (lb := #[.pointer (some ⟨w.heap.size + 1 + 1, 0, none⟩)]) rfl trivial (enters_of Try.func36 (by kernel_rfl) rfl)
    (nb_stops (4 - 1) (by omega) (w.heap.size + 1 + 1) w.heap.size m hm _ (by simp) bN.cell) belowK_t (belowK_b (by simp; omega)) (Below.refl _ _) (fun _ => rfl)
    (fun pre W => (∃ v, Boxed W (w.heap.size + 1) 44 v ∧ W.ownsRow w.heap.size 5 1 v pre.length (U pre) ∧ (v = .slice none 0 0 → False)) ∧ Below w.heap.size w W)
    (fun _ _ _ => False)
    (OwnFrom.and (Own.from (holdsRow_own w.heap.size (w.heap.size + 1) 44 5 1 (fun pre : List UInt8 => pre.length) (fun pre => U pre) (fun _ v => v = .slice none 0 0 → False)) _) (ownFrom_below (Nat.le_refl _) (by simp; omega)))
    (fun _ _ _ _ _ hs _ _ => hs)
    ⟨⟨_, (bO.alloc _), (o0.alloc _).alloc _, by simp⟩, hB0⟩
    (fun x => { tmps := #[.int .i64 m, undef, .string { data := #[] }, .pointer (some ⟨w.heap.size + 1, 0, none⟩), .int .u8 (x.toNat : Int), .slice (some ⟨w.heap.size, 0, none⟩) 0 10, .int .i64 m, .func (.func 36) #[] #[.pointer (some ⟨w.heap.size + 1 + 1, 0, none⟩)], .int .u8 (x.toNat : Int), undef, undef, undef, undef, undef, undef], defers := [] }) ?assign ?body ?done ?stop
  case assign =>
    intro l x W K hK
    gi_wp2
    exact hK
  case body =>
    rintro l pre x W ⟨⟨v, hv, hrow, hnil⟩, hB⟩ hlt
    have hc := hv.cell
    gi_wp2_with (gi_at_builtin; refine wpListIn_append_own _ rfl _ _ 44 rfl w.heap.size 5 i0 (.int .u8 0) 1 1 Try.underlying44 hi hz0 hz1 hz2 rfl (by decide) _ _ _ rfl (hrow.alloc _) ⟨W.heap.size, 0, none⟩ 1 1 [.int .u8 (x.toNat : Int)] rfl rfl (cell_one_new _ _ _) (by simp [Value.oneCell']) (by unfold maxLen; omega) (by omega) (by have := hB.size; simp; omega) ?_; intro v' w1 hown' hgrow _; obtain ⟨g', cap', rfl⟩ := ownsRow_succ hown'; obtain ⟨hv1, hv2, hr2, hk2, hb2⟩ := hv.appended (by decide) hrow hB.size (by omega) hown' hgrow; have hc1 := hv1.cell; have hf1 := hv1.frozen)
    exact ⟨hk2.from _, hb2, ⟨_, hv2, by rw [U_snoc]; simpa using hr2, by simp⟩, hB.trans hb2⟩
  case done =>
    rintro D ys W hD rfl ⟨⟨v, hv, hrow, hnil⟩, hB⟩ hK
    obtain ⟨g, cap, rfl⟩ : ∃ g cap, v = .slice (some ⟨g, 0, none⟩) (Vm.enc m).length cap := by
      rcases hrow.2 with ⟨h, _⟩ | ⟨g, cap, _, h, _⟩
      · exact (hnil h).elim
      · exact ⟨g, cap, h⟩
    have hc := hv.cell
    have hcv : (convert 44 9 (.slice (some ⟨g, 0, none⟩) (Vm.enc m).length cap)).run Try.prog W = .ok (.string (S (Vm.enc m))) W :=
      run_convert_bytes_back (P := Try.prog) W 44 9 5 ⟨g, 0, none⟩ cap (Vm.enc m) Try.underlying44 Try.underlying5 Try.underlying9 (fun j hj => by
        have h := hrow.cellAt j (by omega)
        have hp : (⟨g, 0, none⟩ : Addr).add j = ⟨g, j, none⟩ := by unfold Addr.add; split <;> simp_all
        rw [hp, h]
        simp [U, List.getElem?_eq_getElem hj])
    gi_wp2
    refine ⟨by simp, .inl ⟨_, _, rfl, run_takeDeferred hK, ?_⟩⟩
    exact ⟨_, results_tmp rfl _ _ _, rfl, hB.trans (belowK_b (w := w) (Nat.le_refl _) W D _ _ (by simp at hD; omega) hK rfl rfl)⟩
  case stop =>
    rintro D c pre W _ _ h _
    exact h.elim
end Go.Proofs.Ytdnlpjmjhlmjgaa
