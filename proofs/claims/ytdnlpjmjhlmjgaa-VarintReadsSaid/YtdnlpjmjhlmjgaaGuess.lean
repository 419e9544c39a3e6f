/-
  varint.guess: the bytes at the beginning of a text, visited with their places, put together: the number whose encoding the text begins with, if there is one.
-/
import Derived.Lib.IndexBytes
import Derived.Lib.VarintBits
import Derived.Test.YtdnlpjmjhlmjgaaNum
namespace Go.Proofs.Ytdnlpjmjhlmjgaa
open Go.RowKit Go.Shelf
attribute [local go_sem] Oper.semAt_some

/-- The box Bn holds what it held. -/
def Keep1 (Bn : Nat) (W W' : World) : Prop := ∀ v, W.cell? ⟨Bn, 0, none⟩ = some v → W'.cell? ⟨Bn, 0, none⟩ = some v
theorem keep1_t {Bn : Nat} {A B C : World} (h : Keep1 Bn A B) (h' : Keep1 Bn B C) : Keep1 Bn A C := fun v e => h' v (h v e)
theorem keep1_b {Bn : Nat} (W : World) (l : Nat) (o o' : Obj) (hl : W.heap[l]? = some o) (ho : o.isCells = false) : Keep1 Bn W (W.putObj l o') := fun v e => by
  refine (grownBy_putObj' W l o').cell e fun e' => ?_
  obtain rfl : Bn = l := by simpa using e'
  unfold World.cell? at e
  rw [hl] at e
  cases o <;> simp_all [Obj.isCells]

theorem byteAt (s : ByteArray) (k : Nat) (h : k < s.size) : s.data.toList[k]'(by rw [← Lib.size_eq]; exact h) = s[k] := rfl

/-- A byte with its place, one of ten. -/
abbrev At10 := { x : Nat × UInt8 // x.1 < 10 }
def bare (l : List At10) : List (Nat × UInt8) := l.map fun x => x.1

set_option maxRecDepth 100000 in
set_option maxHeartbeats 2000000 in
theorem lead1_in (n : Nat) (hn : 1 ≤ n) (l Bn : Nat) (s : ByteArray) (hs : s.size ≤ 4611686018427387904) (J Jx : List At10 → World → Prop)
    (hY : ∀ pre x W, J pre W → pre.length < 10 → YieldAt Fence.wide (n - 1) Try.prog l #[.int .i64 (x.1.1 : Int), .int .u8 (x.1.2.toNat : Int)] W fun e W' =>
      (e = .returned (.bool true) ∧ J (pre ++ [x]) W' ∧ Keep1 Bn W W') ∨ (e = .returned (.bool false) ∧ Jx (pre ++ [x]) W'))
    (W : World) (hBn : W.cell? ⟨Bn, 0, none⟩ = some (.string s)) (h0 : J [] W) :
    CallsIn Fence.wide n Try.prog 42 #[.func (.yield l) #[] #[], .pointer (some ⟨Bn, 0, none⟩)] W fun e W' => (∃ v, e = .returned v) ∧
      ((∃ ys, bare ys = Vm.placed 0 (Vm.lead 10 s.data.toList) ∧ J ys W') ∨ (∃ pre, True ∧ Jx pre W')) := by
  refine callsIn_of_wp Try.func42 rfl trivial ?_ rfl
  simp only [Try.ntmps42, List.size_toArray, List.length_cons, List.length_nil, Nat.reduceAdd, Nat.reduceSub, Array.replicate_succ, Array.replicate_zero, List.push_toArray, List.append_toArray, List.nil_append, List.cons_append]
  rcases Nat.lt_or_ge 10 s.size with h10 | h10
  all_goals
    gi_wp2
    gi_loopw [3, 7] (fun _ v wr => ∃ (k : Nat) (pre : List At10), v = .int .i64 k ∧ k ≤ s.size ∧ k ≤ 10 ∧ (∀ j (h : j < s.data.toList.length), j < k → ¬ (s.data.toList[j]).toNat < 128) ∧ bare pre = Vm.placed 0 (s.data.toList.take k) ∧ J pre wr ∧ wr.cell? ⟨Bn, 0, none⟩ = some (.string s))
      (fun _ v _ => s.size - (intOf v).toNat)
    case atStart => exact ⟨0, [], rfl, by omega, by omega, fun _ _ h => by omega, rfl, h0, hBn⟩
    case round =>
      obtain ⟨k, pre, rfl, hk1, hk2, hall, hpre, hJ, hB⟩ := hrel
      have HA := Lib.hid hall
      have HR := Lib.hid hpre
      clear hall hpre
      by_cases hlt : k < s.size ∧ k < 10
      · obtain ⟨hl1, hl2⟩ := hlt
        have hll : k < s.data.toList.length := by rw [← Lib.size_eq]; exact hl1
        have htk : s.data.toList.take (k + 1) = s.data.toList.take k ++ [s[k]] := List.take_succ_eq_append_getElem hll
        have hpl : Vm.placed 0 (s.data.toList.take (k + 1)) = Vm.placed 0 (s.data.toList.take k) ++ [(k, s[k])] := by
          rw [htk, Vm.placed_snoc, List.length_take, Nat.zero_add, Nat.min_eq_left (by omega)]
        have HP := Lib.hid hpl
        clear htk hpl
        obtain ⟨fn, tmps, assign, body, hy, hR⟩ := hY pre ⟨(k, s[k]), hl2⟩ wr hJ (by
          have h := congrArg List.length HR.out
          rw [Vm.placed_length, List.length_take, bare, List.length_map] at h
          omega)
        have HN : Hid (bare (pre ++ [⟨(k, s[k]), hl2⟩]) = Vm.placed 0 (s.data.toList.take (k + 1))) := Lib.hid (by rw [HP.out, ← HR.out]; simp [bare])
        dsimp only at hy
        gi_wp2
        refine hR.mono ?_
        rintro e W3 (⟨rfl, hJ3, hk3⟩ | ⟨rfl, hJx3⟩)
        · have hB3 := hk3 _ hB
          clear hy hR hk3
          by_cases hb : (s[k]).toNat < 128
          · have hb' : ((s[k]).toNat : Int) < 128 := by omega
            gi_wp2
            refine bodyPost_ret (results_none rfl _ _ _) rfl ?_
            exact ⟨⟨_, rfl⟩, .inl ⟨_, by rw [Vm.lead_stop 10 s.data.toList k hll (by omega) HA.out hb, HN.out], hJ3⟩⟩
          · have hb' : ¬ ((s[k]).toNat : Int) < 128 := by omega
            gi_wp2
            go_roundw
            case rel =>
              refine ⟨k + 1, _, by go_num, by omega, by omega, fun j h hj => ?_, HN.out, hJ3, hB3⟩
              rcases Nat.lt_or_ge j k with hjk | hjk
              · exact HA.out j h hjk
              · obtain rfl : j = k := by omega
                exact hb
            case measure => simp [intOf]; omega
        · gi_wp2
          refine bodyPost_ret (results_none rfl _ _ _) rfl ?_
          exact ⟨⟨_, rfl⟩, .inr ⟨_, trivial, hJx3⟩⟩
      · have hend : ¬ k < s.size ∨ ¬ k < 10 := by omega
        have hka : s.data.toList.take 10 = s.data.toList.take k := by
          rcases hend with h | h
          · rw [List.take_of_length_le (by rw [← Lib.size_eq]; omega), List.take_of_length_le (by rw [← Lib.size_eq]; omega)]
          · rw [show k = 10 by omega]
        have hle : Vm.lead 10 s.data.toList = s.data.toList.take k := by
          rw [Vm.lead_all 10 _ fun j hj h => HA.out j hj (by rw [← Lib.size_eq] at hj; omega), hka]
        have HL := Lib.hid hle
        clear hka hle hend
        have hge : ¬ k < s.size ∨ ¬ k < 10 := by omega
        gi_wp2
        go_end0
        exact ⟨⟨_, rfl⟩, .inl ⟨_, by rw [HL.out, HR.out], hJ⟩⟩

theorem lead_any (s : ByteArray) (w : World) :
    CallsIn Fence.wide 3 Try.prog 38 #[.string s] w fun e w' => e = .returned (.func (.func 42) #[] #[.pointer (some ⟨w.heap.size, 0, none⟩)]) ∧ w' = w.alloc (.cells #[.string s] 9) := by
  refine callsIn_of_wp Try.func38 rfl trivial ?_ rfl
  simp only [Try.ntmps38, List.size_toArray, List.length_cons, List.length_nil, Nat.reduceAdd, Nat.reduceSub, Array.replicate_succ, Array.replicate_zero, List.push_toArray, List.append_toArray, List.nil_append, List.cons_append]
  gi_wp2
  go_ret
  exact ⟨rfl, rfl⟩

theorem lead_stops (n : Nat) (hn : 1 ≤ n) (Bn : Nat) (s : ByteArray) (hs : s.size ≤ 4611686018427387904) (w : World) (hBn : Bn < w.heap.size)
    (hc : w.cell? ⟨Bn, 0, none⟩ = some (.string s)) :
    SeqStopsK Fence.wide n Try.prog 42 #[.pointer (some ⟨Bn, 0, none⟩)] (fun x : At10 => #[Value.int .i64 (x.1.1 : Int), Value.int .u8 (x.1.2.toNat : Int)]) (Keep1 Bn) (fun ys => bare ys = Vm.placed 0 (Vm.lead 10 s.data.toList)) (fun _ => True) 10 w := fun l J Jx W hW _ _ hY h0 =>
  lead1_in n hn l Bn s hs J Jx hY W ((hW.cell (p := ⟨Bn, 0, none⟩) hBn).trans hc) h0

/-- A byte's seven bits at their place. -/
def shv (i : Nat) (b : UInt8) : Nat := b.toNat % 128 * 2 ^ (7 * i) % 2 ^ 64
theorem shl_at (i : Nat) (hi : i < 10) (b : UInt8) : Op.shift .shl .u64 (IntKind.u64.wrap ((b.toNat : Int).tmod 128)) .i64 (IntKind.i64.wrap (7 * (i : Int))) = pure (.int .u64 (shv i b : Int)) := by
  have e1 : IntKind.i64.wrap (7 * (i : Int)) = 7 * (i : Int) := by rw [IntKind.wrap_i64]; omega
  have e2 : (b.toNat : Int).tmod 128 = ((b.toNat % 128 : Nat) : Int) := by rw [Int.tmod_eq_emod_of_nonneg (by omega)]; omega
  have e3 : IntKind.u64.wrap ((b.toNat % 128 : Nat) : Int) = ((b.toNat % 128 : Nat) : Int) := by rw [IntKind.wrap_u64]; omega
  have e4 : min (7 * (i : Int)).toNat IntKind.u64.bits = 7 * i := by simp [IntKind.bits]; omega
  rw [e1, e2, e3, shift_shl_any _ _ _ _ (by omega), e4, IntKind.wrap_u64]
  unfold shv
  congr 2
theorem or_at (z i : Nat) (b : UInt8) (hz : z < 2 ^ 64) : bits .or .u64 (z : Int) (shv i b : Int) = ((Vm.put z i b : Nat) : Int) :=
  bits_or_u64_nat z (shv i b) hz (Nat.mod_lt _ (by decide))
theorem keep1_set {Bn b : Nat} (W : World) (v : Value) (h : Bn ≠ b) : Keep1 Bn W (W.setCell ⟨b, 0, none⟩ v).drew := fun u e => by
  rw [World.cell?_drew]
  refine (grownBy_setCell' W b v).cell e (by simp [h])

set_option maxRecDepth 100000 in
set_option maxHeartbeats 2000000 in
theorem guess_any (s : ByteArray) (hs : s.size ≤ 4611686018427387904) (w : World) :
    Calls Try.prog 32 #[.string s] w fun e w' => e = .returned (.int .i64 (Vm.guess s.data.toList)) ∧ Below w.heap.size w w' := by
  refine (callsIn_wide (n := 4)).1 ?_
  refine callsIn_of_wp_marks Try.func32 rfl trivial ?_ rfl
  simp only [Try.ntmps32, List.size_toArray, List.length_cons, List.length_nil, Nat.reduceAdd, Nat.reduceSub, Array.replicate_succ, Array.replicate_zero, List.push_toArray, List.append_toArray, List.nil_append, List.cons_append]
  gi_wp2_with (refine ⟨trivial, ?_⟩; gi_at_call 38; refine (lead_any _ _).mono ?_; rintro e w' ⟨rfl, rfl⟩)
  have bZ := Boxed.new w 58 (.int .u64 0)
  have bN := Boxed.new (w.alloc (.cells #[.int .u64 0] 58)) 9 (.string s)
  rw [World.size_alloc] at bN
  have hB0 : Below w.heap.size w ((w.alloc (.cells #[.int .u64 0] 58)).alloc (.cells #[.string s] 9)) :=
    ((Below.refl _ w).alloc (Nat.le_refl _) _).alloc (by simp) _
  refine wpIn_rangeFunc_ownG rfl (by omega) (gf := 42) (lb := #[.pointer (some ⟨w.heap.size + 1, 0, none⟩)]) rfl trivial (enters_of Try.func42 (by kernel_rfl) rfl)
    (lead_stops (4 - 1) (by omega) (w.heap.size + 1) s hs _ (by simp) bN.cell) keep1_t (fun W l o o' _ hl ho _ => keep1_b W l o o' hl ho) (Below.refl _ _) (fun _ => rfl)
    (fun pre W => Boxed W w.heap.size 58 (.int .u64 (Vm.putsP 0 (bare pre))) ∧ Below w.heap.size w W)
    (fun _ _ _ => False)
    (OwnFrom.and (Own.from (boxed_own _ _ _) _) (ownFrom_below (Nat.le_refl _) (by simp; omega)))
    (fun _ _ _ _ _ hs _ _ => hs)
    ⟨bZ.alloc _, hB0⟩
    (fun x => { tmps := #[.string s, undef, .int .i64 0, .pointer (some ⟨w.heap.size, 0, none⟩), .int .i64 (x.1.1 : Int), .int .u8 (x.1.2.toNat : Int), .string s, .func (.func 42) #[] #[.pointer (some ⟨w.heap.size + 1, 0, none⟩)], .int .i64 (x.1.1 : Int), .int .u8 (x.1.2.toNat : Int), undef, undef, undef, undef, undef, undef, undef, undef, undef, undef], defers := [] }) ?assign ?body ?done ?stop
  case assign =>
    intro l x W K hK
    gi_wp2
    exact hK
  case body =>
    rintro l pre ⟨⟨i, b⟩, hi⟩ W ⟨hv, hB⟩ hlt
    dsimp only at hi ⊢
    have hc := hv.cell
    have hf := hv.frozen
    have hi' : (i : Int) < 10 := by omega
    have hi0 : (0 : Int) ≤ 7 * (i : Int) := by omega
    have hb : (b.toNat : Int) < 256 := by have := b.toNat_lt; omega
    have hmx : Try.prog.follows .mixedOrders = true := by kernel_rfl
    have hsh := shl_at i hi b
    have hor := or_at (Vm.putsP 0 (bare pre)) i b (Vm.putsP_lt _ 0 (by decide))
    gi_wp2
    gi_region_with_o (fail)
    all_goals gi_wp2
    all_goals exact ⟨((KeepsOthers.setCell _ _ _).trans (KeepsOthers.drew _)).from _, keep1_set W _ (by omega), by
        have := hv.set (.int .u64 ((Vm.put (Vm.putsP 0 (bare pre)) i b : Nat) : Int))
        have e : bare (pre ++ [⟨(i, b), hi⟩]) = bare pre ++ [(i, b)] := by simp [bare]
        rw [e, Vm.putsP_snoc]; exact this, (hB.setCell (p := ⟨w.heap.size, 0, none⟩) (Nat.le_refl _) _).drew⟩
  case done =>
    rintro D ys W hD hys ⟨hv, hB⟩ hK
    have hc := hv.cell
    have hg : Vm.unzig (Vm.putsP 0 (bare ys)) = Vm.guess s.data.toList := by
      rw [hys, Vm.putsP_placed]; rfl
    have HG := Lib.hid hg
    clear hg hys
    have hz := Vm.putsP_lt (bare ys) 0 (by decide)
    gi_wp2_with (refine ⟨trivial, ?_⟩; gi_at_call 39; refine (callsIn_wide.2 (unzig_any _ _ hz)).mono ?_; rintro e w' ⟨rfl, rfl⟩; rw [HG.out])
    refine ⟨by simp, .inl ⟨_, _, rfl, run_takeDeferred hK, ?_⟩⟩
    exact ⟨_, results_tmp rfl _ _ _, rfl, hB.trans (belowK_b (w := w) (Nat.le_refl _) W D _ _ (by simp at hD; omega) hK rfl rfl)⟩
  case stop =>
    rintro D c pre W _ _ h _
    exact h.elim
end Go.Proofs.Ytdnlpjmjhlmjgaa
