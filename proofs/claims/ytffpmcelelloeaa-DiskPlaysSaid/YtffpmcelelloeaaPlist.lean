/-
  The program's disk: List.
-/
import Derived.Test.YtffpmcelelloeaaSort
import Derived.Test.YtffpmcelelloeaaPset
namespace Go.Proofs.Ytffpmcelelloeaa
open Go.RowKit Gm Go.Sort
open Go.Maps (Keyed)

theorem infoS : (Try.prog.info? 9).map (fun i => (i.zero, i.size, i.bytes)) = some (some (.string ByteArray.empty), 1, 16) := by kernel_rfl
abbrev ptrV (c : Option Nat) : Value := .pointer (c.map fun b => ⟨b, 0, none⟩)
abbrev strV (x : Bs) : Value := .string (S x)
theorem cell_1 (w : World) (x : Value) (t : TypeId) : ∀ j u, [x][j]? = some u → (w.alloc (.cells #[x] t)).cell? ((⟨w.heap.size, 0, none⟩ : Addr).add j) = some u := by
  intro j u hj
  have hadd : (⟨w.heap.size, 0, none⟩ : Addr).add j = ⟨w.heap.size, j, none⟩ := by unfold Addr.add; split <;> simp_all
  rw [hadd, cell_of_row _ _ _ _ _ _ (new_at w _)]
  simpa using hj
/-- What was collected, sorted, are the files' names. -/
theorem sorted_names {D : Dk} (hr : Rise D.fs) {ss : List Bs} (hn : ss.Nodup) (hm : ∀ x, x ∈ ss ↔ (findF D.fs x).isSome = true) : (ss.mergeSort fun x y => decide (x ≤ y)) = listD D := by
  have hnd : (listD D).Nodup := List.pairwise_map.2 (hr.imp fun {a b} h => bs_ne h)
  have hp : ss.Perm (listD D) := (List.perm_ext_iff_of_nodup hn hnd).2 fun x => by
    rw [hm x]
    constructor
    · intro h
      obtain ⟨f, hf⟩ := Option.isSome_iff_exists.1 h
      obtain ⟨h1, h2⟩ := find_mem hf
      exact List.mem_map.2 ⟨f, h1, h2⟩
    · intro h
      obtain ⟨f, h1, h2⟩ := List.mem_map.1 h
      rw [← h2, find_of_mem hr h1]; rfl
  have e := mergeSort_of_perm hp
  have h2 : (listD D).mergeSort leB = listD D := List.mergeSort_of_pairwise (List.pairwise_map.2 (hr.imp fun {a b} h => by
    have : a.nm ≤ b.nm := Std.le_of_lt h
    simpa [leB] using this))
  exact e.trans h2
theorem names_row {w : World} {B g cap : Nat} {l : List Bs} {n : Nat} (h : w.ownsRow B 9 1 (.slice (some ⟨g, 0, none⟩) n cap) n (l.map encStr)) : NamesAt w (some ⟨g, 0, none⟩) n l := by
  have hl : l.length = n := by have := h.1; simpa using this
  refine ⟨hl, g, 0, .inr rfl, fun i hi => ?_⟩
  rcases h.2 with ⟨e, _⟩ | ⟨g', cap', cur, hv, _, hh, _, _, _, ht⟩
  · cases e
  · injection hv with e1 _ _
    injection e1 with e1
    injection e1 with e1
    subst e1
    refine ⟨(Array.getElem?_eq_some_iff.1 hh).1, ?_⟩
    have hi' : i < n * 1 := by omega
    rw [Nat.zero_add, cell_of_row w g i cur 9 (0, 0) hh, ← Array.getElem?_toList, ← List.getElem?_take_of_lt hi', ht]
    simp [hi, encStr, S]

set_option maxRecDepth 100000 in
set_option maxHeartbeats 4000000 in
theorem list_any (p : Nat) (D : Dk) (R : Nat → Prop) (w : World) (h : PDisk w p D R) :
    Calls Try.prog 29 #[.pointer (some ⟨p, 0, none⟩)] w fun e w' => (∃ a len cap, e = .returned (.slice a len cap) ∧ NamesAt w' a len (listD D)) ∧ Below w.heap.size w w' := by
  obtain ⟨ok, m, loc, hR, hp⟩ := h
  obtain ⟨c0, _, _, _, _, hl⟩ := hp.cells
  obtain ⟨Dm, hown, hsz, hhas⟩ := hp.map
  have hl4 := ok.fs.len
  have HK := Lib.hid ok
  have HH := Lib.hid hhas
  have hbl := hown.lt
  obtain ⟨i0, hi0, hz0, hz1, hz2⟩ := info_parts infoS
  obtain ⟨n, hn⟩ : ∃ n, D.fs.length = n := ⟨_, rfl⟩
  rw [hn] at hown hsz hl4
  have HN := Lib.hid hn
  clear ok hR hp hhas hn
  go_enter Try.func29, Try.ntmps29
  go_wp2_with (at_range; refine wpList_range_own _ rfl _ 53 rfl 9 60 slaw Try.underlying53 _ m n Dm rfl hown ?_; intro w0 hrg0 hg0 hs0)
  go_frame
  have hb0 : Below w.heap.size w w0 := (Below.refl _ _).grown hg0 (Nat.le_refl _) (fun j hj => by cases hj)
  have HW0 := Lib.hid hs0
  clear hs0 hg0
  go_loopw [3] (fun v wr => ∃ (left : Lit → Bool) (cnt : Nat) (ss : List Bs), wr.ranges Try.prog 9 fR m w.heap.size n Dm left cnt ∧ ss.length + cnt ≤ n ∧ wr.ownsRow w.heap.size 9 1 v ss.length (ss.map encStr) ∧ Collected Dm left ss ∧ Below w.heap.size w wr) (fun _ wr => wr.rangeLeft m w.heap.size)
  case atStart => exact ⟨_, _, [], hrg0, by simp [hsz], World.ownsRow_nil _ _ _ _, Collected.start Dm, hb0⟩
  case round =>
    obtain ⟨left, cnt, ss, hrg, hcs, hrow, hC, hnx⟩ := hrel
    have hsz1 := hnx.size
    go_wp2_with (at_next; refine wpList_next_ranges _ rfl _ rfl 9 slaw fR strV ptrV (fun key kl hk => by obtain ⟨x, hx, _⟩ := Maps.keyOf_str Try.underlying9 hk; exact ⟨x, hx⟩) (fun v y hv => fR_form hv) m w.heap.size n _ _ _ rfl hrg ?_ ?_)
    · intro hc0 hl0
      have hmem : ∀ x, x ∈ ss ↔ (findF D.fs x).isSome = true := fun x => by rw [hC.2 x, (HH.out x).1, hl0]; simp
      have hsort := sorted_names HK.out.fs.rise hC.1 hmem
      rcases hrow.2 with ⟨hnil, h00⟩ | ⟨g, cap, cur, rfl, hbase, hb, h1, h2, h3, h4⟩
      · subst hnil
        have hss : ss = [] := List.eq_nil_of_length_eq_zero h00
        have HL : Hid (listD D = []) := Lib.hid (by rw [← hsort, hss]; simp)
        clear hmem hsort hss h00 hl0 hc0 hrow hC hrg hcs
        go_wp2_with (go_at_call 43; refine (sort_nil none 0 wr).mono ?_; rintro e w' ⟨rfl, rfl⟩)
        go_ret
        rw [HL.out]
        exact ⟨⟨none, 0, 0, rfl, rfl, 0, 0, .inl rfl, fun i hi => absurd hi (Nat.not_lt_zero i)⟩, hnx⟩
      · have hH : Holds encStr wr g 0 ss.toArray := holds_of_block hb (by simpa using h4)
        have hgl : g < wr.heap.size := (Array.getElem?_eq_some_iff.1 hb).1
        have hc := sort_any g cap ss wr hH hgl (by omega)
        rw [hsort] at hc
        have hle : (listD D).length = ss.length := by rw [← hsort]; simp
        have HO : Hid (∀ k os, (grow (putRow encStr (Sort.ahead wr k) g 0 (listD D).toArray) os).ownsRow w.heap.size 9 1 (.slice (some ⟨g, 0, none⟩) ss.length cap) ss.length ((listD D).map encStr)) := Lib.hid (fun k os => ownsRow_sorted hle hbase hb h1 h2 h3)
        have HB := Lib.hid hbase
        clear hmem hsort hl0 hc0 hrow hC hrg hcs hb h1 h2 h3 h4 hH hle hbase
        go_wp2_with (go_at_call 43; refine hc.mono ?_; rintro e w' ⟨rfl, nn, os, rfl⟩)
        go_ret
        exact ⟨⟨_, _, _, rfl, names_row (HO.out nn os)⟩, hnx.grown (grownBy_sorted _) hnx.size (fun j hj => by cases hj; exact HB.out)⟩
    · intro x c kl yd yp w2 cnt2 hkey hlk hv hat hrg2 hlt hg2 hs2 hen
      obtain ⟨x', ex, hkl, _⟩ := Maps.keyOf_str Try.underlying9 hkey
      obtain rfl : x = x' := encStr_inj ex
      subst hkl
      have hx12 : x.length ≤ 1048576 := by
        have h1 := Maps.has_true_of_atKey hat
        rw [(HH.out x).1] at h1
        obtain ⟨f, hf⟩ := Option.isSome_iff_exists.1 h1
        obtain ⟨h2, h3⟩ := find_mem hf
        have := (okName_iff.1 (HK.out.fs.fit f h2).nm).2
        rw [h3] at this; omega
      have hrow2 := hrow.kept hg2 (Or.inr (row_ne_iter hrow hrg).symm)
      have hnx2 : Below w.heap.size w w2 := hnx.grown hg2 hnx.size (fun j hj => by injection hj with hj; omega)
      have hC2 := hC.step hlk hat
      have hlen : ss.length + 1 + cnt2 ≤ n := by omega
      have HL := Lib.hid hrg.left_eq
      have HLT := Lib.hid hlt
      clear hs2 hlk hat hkey ex hv hC hg2 hrow hrg
      go_wp2_with (first
        | (go_at_call 37; (with_reducible refine (sclone_any x hx12 _).mono ?_); rintro e0 w3 ⟨rfl, hb3⟩
           have hrow3 := hrow2.kept (gbb none hb3) (Classical.em _)
           have hrg3 := hrg2.kept (gbb none hb3) (by simp) (by simp)
           have hnx3 := hnx2.trans (hb3.mono hnx2.size)
           have hz3 := hnx3.size
           clear hrow2 hrg2 hnx2 hb3)
        | (at_builtin
           refine wpList_append_own _ rfl _ _ 41 rfl w.heap.size 9 i0 _ 1 16 Try.underlying41 hi0 hz0 hz1 hz2 rfl (by decide) _ _ _ rfl (hrow3.alloc _) ⟨w3.heap.size, 0, none⟩ 1 1 [.string (S x)] rfl rfl (by have := cell_1 w3 (.string (S x)) 9; simpa using this) (by simp [Value.oneCell']) (by simp [maxLen]; omega) (by omega) (by simp; omega) ?_
           intro v4 w4 hown4 hg4 _))
      have hrg4 := (hrg3.alloc (.cells #[.string (S x)] 9)).kept hg4 (row_ne_low hrow3 hbl) (row_ne_iter hrow3 hrg3)
      have hnx4 := (hnx3.alloc hnx3.size (.cells #[.string (S x)] 9)).grown hg4 (by simp; omega) (fun j hj => (hrow3.lt j hj).1)
      go_roundw
      case rel => exact ⟨_, cnt2, ss ++ [x], hrg4, by simp; omega, by rw [List.map_append, List.length_append]; exact hown4, hC2, hnx4⟩
      case measure => rw [hrg4.left_eq, HL.out]; exact HLT.out
end Go.Proofs.Ytffpmcelelloeaa
