/-
  slices.All over edges, and graph.edges: the edges come with their places.
-/
import Derived.Test.YthchlfoebkachaaMem
namespace Go.Proofs.Ythchlfoebkachaa
open Go.RowKit Gm
attribute [local go_sem] Oper.semAt_some

set_option maxRecDepth 100000 in
set_option maxHeartbeats 2000000 in
theorem all1_in (n : Nat) (hn : 1 ≤ n) (l Bs n₀ : Nat) (a : Option Addr) (len cap : Nat) (es : List E) (J Jx : List (AtOf es) → World → Prop)
    (hY : ∀ pre x W, J pre W → pre.length < len → YieldAt Fence.wide (n - 1) Try.prog l (atV x.1) W fun e W' =>
      (e = .returned (.bool true) ∧ J (pre ++ [x]) W' ∧ Below n₀ W W') ∨ (e = .returned (.bool false) ∧ Jx (pre ++ [x]) W'))
    (W : World) (hn₀ : n₀ ≤ W.heap.size) (hBs : W.cell? ⟨Bs, 0, none⟩ = some (.slice a len cap)) (hE : NetAt n₀ W a len es) (h0 : J [] W) (hJ : AbidesFrom W.heap.size J) :
    CallsIn Fence.wide n Try.prog 54 #[.func (.yield l) #[] #[], .pointer (some ⟨Bs, 0, none⟩)] W fun e W' => (∃ v, e = .returned v) ∧
      ((∃ ys, bare ys = placed es ∧ J ys W') ∨ (∃ pre, True ∧ Jx pre W')) := by
  obtain ⟨hlen, hmax, hE⟩ := hE
  refine callsIn_of_wp Try.func54 rfl trivial ?_ rfl
  simp only [Try.ntmps54, List.size_toArray, List.length_cons, List.length_nil, Nat.reduceAdd, Nat.reduceSub, Array.replicate_succ, Array.replicate_zero, List.push_toArray, List.append_toArray, List.nil_append, List.cons_append]
  gi_wp2
  have HL := Lib.hid hlen
  clear hlen
  gi_loopw [7, 4] (fun i _ wr => ∃ (k : Nat) (pre : List (AtOf es)), k ≤ len ∧ i = .int .i64 k ∧ bare pre = (placed es).take k ∧ J pre wr ∧ Below n₀ W wr) (fun i _ _ => len - (intOf i).toNat)
  case atStart => exact ⟨0, [], Nat.zero_le _, rfl, rfl, h0, Below.refl _ _⟩
  case round =>
    obtain ⟨k, pre, hk, rfl, hpre, hJs, hnx⟩ := hrel
    have HP := Lib.hid hpre
    clear hpre
    by_cases hlt : k < len
    · have hk' : k < es.length := by rw [HL.out]; exact hlt
      obtain ⟨b, off, ha, hc⟩ := hE.below hnx
      obtain ⟨hb, c0, c1, c2⟩ := hc k hk'
      obtain rfl : a = some ⟨b, off, none⟩ := by
        rcases ha with ha | ha
        · omega
        · exact ha
      clear hc ha
      have hJ2 := hJ _ wr (wr.alloc (.cells #[.int .i64 es[k].1, .int .i64 es[k].2.1, .int .i64 es[k].2.2] 50)) none hJs (World.grownBy_alloc wr _ none) (fun r e => by cases e)
      obtain ⟨fn, tmps, assign, body, hy, hR⟩ := hY _ ⟨(k, es[k]), by simp⟩ _ hJ2 (by
        have := congrArg List.length HP.out
        rw [List.length_take, placed_length, HL.out, bare, List.length_map] at this
        omega)
      dsimp only [atV, edgeV] at hy
      have HT := Lib.hid (placed_take es k hk')
      clear hJ2
      gi_wp2
      refine hR.mono ?_
      rintro e W3 (⟨rfl, hJ3, hk3⟩ | ⟨rfl, hJx3⟩)
      · gi_wp2
        go_roundw
        case rel => exact ⟨k + 1, _, by omega, by go_num, by rw [HT.out, bare_snoc, HP.out], hJ3, (hnx.alloc (Nat.le_trans hn₀ hnx.size) _).trans hk3⟩
        case measure => simp [intOf]; omega
      · gi_wp2
        refine bodyPost_ret (results_none rfl _ _ _) rfl ?_
        exact ⟨⟨_, rfl⟩, .inr ⟨_, trivial, hJx3⟩⟩
    · obtain rfl : k = len := by omega
      gi_wp2
      go_end0
      exact ⟨⟨_, rfl⟩, .inl ⟨_, by rw [HP.out, List.take_of_length_le (by rw [placed_length, HL.out]; exact Nat.le_refl _)], hJs⟩⟩

theorem all_any (a : Option Addr) (len cap : Nat) (w : World) :
    CallsIn Fence.wide 3 Try.prog 53 #[.slice a len cap] w fun e w' => e = .returned (.func (.func 54) #[] #[.pointer (some ⟨w.heap.size, 0, none⟩)]) ∧ w' = w.alloc (.cells #[.slice a len cap] 22) := by
  refine callsIn_of_wp Try.func53 rfl trivial ?_ rfl
  simp only [Try.ntmps53, List.size_toArray, List.length_cons, List.length_nil, Nat.reduceAdd, Nat.reduceSub, Array.replicate_succ, Array.replicate_zero, List.push_toArray, List.append_toArray, List.nil_append, List.cons_append]
  gi_wp2
  go_ret
  exact ⟨rfl, rfl⟩
/-- graph.edges: an iterator over the edges; two new blocks. -/
theorem edges_any (v : Int) (a : Option Addr) (len cap : Nat) (w : World) :
    CallsIn Fence.wide 4 Try.prog 46 #[netV v a len cap] w fun e w' => e = .returned (.func (.func 54) #[] #[.pointer (some ⟨w.heap.size + 1, 0, none⟩)]) ∧ w' = (w.alloc (.cells #[.int .i64 v, .slice a len cap] 24)).alloc (.cells #[.slice a len cap] 22) := by
  refine callsIn_of_wp Try.func46 rfl trivial ?_ rfl
  simp only [Try.ntmps46, List.size_toArray, List.length_cons, List.length_nil, Nat.reduceAdd, Nat.reduceSub, Array.replicate_succ, Array.replicate_zero, List.push_toArray, List.append_toArray, List.nil_append, List.cons_append]
  gi_wp2_with (refine ⟨trivial, ?_⟩; gi_at_call 53; refine (all_any _ _ _ _).mono ?_; rintro e w' ⟨rfl, rfl⟩)
  go_ret
  exact ⟨by simp, rfl⟩
theorem all_stops (n : Nat) (hn : 1 ≤ n) (Bs n₀ : Nat) (a : Option Addr) (len cap : Nat) (es : List E) (w : World) (hBs : Bs < w.heap.size) (hn₀ : n₀ ≤ w.heap.size)
    (hc : w.cell? ⟨Bs, 0, none⟩ = some (.slice a len cap)) (hE : NetAt n₀ w a len es) :
    SeqStopsK Fence.wide n Try.prog 54 #[.pointer (some ⟨Bs, 0, none⟩)] (fun x : AtOf es => atV x.1) (Below n₀) (fun ys => bare ys = placed es) (fun _ => True) len w := fun l J Jx W hW hJ _ hY h0 =>
  all1_in n hn l Bs n₀ a len cap es J Jx hY W (Nat.le_trans hn₀ hW.size) ((hW.cell (p := ⟨Bs, 0, none⟩) hBs).trans hc) (hE.below (hW.mono hn₀)) h0 hJ
end Go.Proofs.Ythchlfoebkachaa
