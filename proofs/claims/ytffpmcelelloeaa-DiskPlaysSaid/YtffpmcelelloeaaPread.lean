/-
  The program's disk: Read, Arm, Remove.
-/
import Derived.Test.YtffpmcelelloeaaPturn
namespace Go.Proofs.Ytffpmcelelloeaa
open Go.RowKit Gm

theorem conv_nil (w : World) : (convert 45 9 (.slice none 0 0)).run Try.prog w = .ok (.string (S [])) w := by kernel_rfl
theorem FileAt.conv {w : World} {x : Nat × Value} {f : Fl} (h : FileAt w x f) : (convert 45 9 x.2).run Try.prog w = .ok (.string (S f.tx)) w := by
  rcases h.row.2 with ⟨e, h2⟩ | ⟨g, cap, cur, hv, _, hh, _, _, _, ht⟩
  · have : f.tx = [] := List.eq_nil_of_length_eq_zero h2
    rw [e, this]; exact conv_nil w
  · rw [hv]
    refine str_of (fun j hj => ?_) cap
    rw [cell_of_row w g j cur 5 (0, 0) hh, ← Array.getElem?_toList, ← List.getElem?_take_of_lt (j := f.tx.length * 1) (by omega), ht]
    simp [hj]

set_option maxRecDepth 100000 in
theorem read_any (p : Nat) (D : Dk) (R : Nat → Prop) (k : Bs) (w : World) (h : PDisk w p D R) (hk : k.length ≤ 1048576) :
    Calls Try.prog 26 #[.pointer (some ⟨p, 0, none⟩), .string (S k)] w fun e w' => e = .returned (.tuple #[.string (S (readD D k).1), .int .i64 (readD D k).2]) ∧ Below w.heap.size w w' := by
  obtain ⟨_, m, loc, _, h⟩ := h
  obtain ⟨c0, _, _, c3, _, hl⟩ := h.cells
  have e0 : S [] = { data := #[] } := rfl
  by_cases ho : D.off = true
  · have HR : readD D k = ([], 100) := by unfold readD; rw [if_pos ho]
    rw [ho] at c3
    rw [HR]
    clear h ho HR
    go_enter Try.func26, Try.ntmps26
    go_wp2
    go_ret2
    exact ⟨rfl, Below.refl _ _⟩
  · have ho' : D.off = false := by simpa using ho
    rw [ho'] at c3
    rcases hf : findF D.fs k with _ | f
    · have HR : readD D k = ([], 101) := by unfold readD; rw [if_neg ho, hf]
      have hlk := h.map.look_no k hk hf
      rw [HR]
      clear h ho ho' HR hf
      go_enter Try.func26, Try.ntmps26
      go_wp2
      go_ret2
      exact ⟨rfl, Below.refl _ _⟩
    · have HR : readD D k = (f.tx, 0) := by unfold readD; rw [if_neg ho, hf]
      have hlk := h.map.look k hk hf
      obtain ⟨h1, h2⟩ := find_mem hf
      subst h2
      have hfa := h.file f h1
      obtain ⟨d0, _, _, dl⟩ := hfa.cells
      have hcv := hfa.conv
      rw [HR]
      clear h ho ho' HR hf hfa
      go_enter Try.func26, Try.ntmps26
      go_wp2
      go_ret2
      exact ⟨rfl, Below.refl _ _⟩

theorem arm_any (p : Nat) (D : Dk) (R : Nat → Prop) (n : Int) (w : World) (h : PDisk w p D R) (_ha : D.acts ≤ 1099511627776) (_hn : I64 n) :
    Calls Try.prog 22 #[.pointer (some ⟨p, 0, none⟩), .int .i64 n] w fun e w' => e = .returned (.int .i64 (armD D n).2) ∧ Turn PDisk w w' p (armD D n).1 R := by
  obtain ⟨ok, m, loc, hR, h⟩ := h
  obtain ⟨c0, c1, c2, c3, hf, hl⟩ := h.cells
  have f2 := hf 2
  have hok' := ok.armed n
  by_cases hb : n < 0 ∨ 1099511627776 < n
  · have HR : armD D n = (D, 1) := by unfold armD; rw [if_pos hb]
    rw [HR] at hok' ⊢
    have HT : Hid (Turn PDisk w w p D R) := Lib.hid (p_same hR hok' h rfl (gbb _ (Below.refl _ _)))
    by_cases h0 : n < 0
    · have i1 : decide (n < 0) = true := decide_eq_true h0
      clear h hf ok hok' hb HR hR h0
      go_enter Try.func22, Try.ntmps22
      go_wp2
      go_ret
      exact ⟨rfl, HT.out⟩
    · have i1 : decide (n < 0) = false := decide_eq_false h0
      have i2 : decide ((1099511627776 : Int) < n) = true := decide_eq_true (by omega)
      clear h hf ok hok' hb HR hR h0
      go_enter Try.func22, Try.ntmps22
      go_wp2
      go_ret
      exact ⟨rfl, HT.out⟩
  · have HR : armD D n = ({ D with arm := if n = 0 then 0 else D.acts + n.toNat }, 0) := by unfold armD; rw [if_neg hb]
    rw [HR] at hok' ⊢
    have i1 : decide (n < 0) = false := decide_eq_false (by omega)
    have i2 : decide ((1099511627776 : Int) < n) = false := decide_eq_false (by omega)
    have HT : Hid (Turn PDisk w (w.setCell ⟨p, 2, none⟩ (.int .i64 n)) p { D with arm := if n = 0 then 0 else D.acts + n.toNat } R) := Lib.hid (by
      refine p_same hR hok' (h.setp rfl (gbs _ _ _ _) ?_) rfl (gbs _ _ _ _)
      rw [(setp_heap h.blk).2.1]
      have e : (((if n = 0 then 0 else D.acts + n.toNat) - D.acts : Nat) : Int) = n := by split <;> omega
      dsimp only
      rw [e])
    obtain ⟨D', hD'⟩ : ∃ D' : Dk, { D with arm := if n = 0 then 0 else D.acts + n.toNat } = D' := ⟨_, rfl⟩
    rw [hD'] at HT ⊢
    clear h hf ok hok' hb HR hR hD'
    go_enter Try.func22, Try.ntmps22
    go_wp2
    go_ret
    exact ⟨rfl, HT.out⟩

set_option maxRecDepth 100000 in
set_option maxHeartbeats 1000000 in
theorem remove_any (p : Nat) (D : Dk) (R : Nat → Prop) (k : Bs) (w : World) (h : PDisk w p D R) (ha : D.acts ≤ 1099511627776) (hk : k.length ≤ 1048576) :
    Calls Try.prog 20 #[.pointer (some ⟨p, 0, none⟩), .string (S k)] w fun e w' => e = .returned (.int .i64 (removeD D k).2) ∧ Turn PDisk w w' p (removeD D k).1 R := by
  obtain ⟨ok, m, loc, hR, hp⟩ := h
  have HR := Lib.hid hR
  have HP := Lib.hid hp
  have HK := Lib.hid ok
  have hok' := ok.remove k
  unfold removeD at hok' ⊢
  rcases hg : goesD D with _ | _
  · rw [done_no hg] at hok' ⊢
    have HG := Lib.hid hg
    have HO := Lib.hid hok'
    clear hg hok' hR hp ok
    go_enter Try.func20, Try.ntmps20
    go_wp2_with (go_at_call 35; (have hc := pact_any p m loc D w HP.out HK.out ha; rw [HG.out] at hc; with_reducible refine hc.mono ?_); rintro e w1 ⟨rfl, q1, g1⟩; have Q1 := Lib.hid q1; clear q1)
    go_ret
    exact ⟨rfl, p_same HR.out HO.out Q1.out (by rw [act_fs]) g1⟩
  · rw [done_ok hg] at hok' ⊢
    have HG := Lib.hid hg
    have HO := Lib.hid hok'
    rcases hf : findF D.fs k with _ | f
    · have hr : removeF D.fs k = (D.fs, 101) := by unfold removeF; rw [hf]
      rw [hr] at HO ⊢
      have HF := Lib.hid hf
      clear hg hok' hR hp ok hr hf
      go_enter Try.func20, Try.ntmps20
      go_wp2_with (go_at_call 35; (have hc := pact_any p m loc D w HP.out HK.out ha; rw [HG.out, goes_act HG.out] at hc; with_reducible refine hc.mono ?_); rintro e w1 ⟨rfl, q1, g1⟩; have Q1 := Lib.hid q1
                   obtain ⟨c0, _, _, _, _, hl⟩ := q1.cells
                   have hlk := q1.map.look_no k hk HF.out
                   clear q1)
      go_ret
      exact ⟨rfl, p_same HR.out HO.out Q1.out rfl g1⟩
    · have hr : removeF D.fs k = (dropF D.fs k, 0) := by unfold removeF; rw [hf]
      rw [hr] at HO ⊢
      have HF := Lib.hid hf
      clear hg hok' hR hp ok hr hf
      go_enter Try.func20, Try.ntmps20
      go_wp2_with (go_at_call 35; (have hc := pact_any p m loc D w HP.out HK.out ha; rw [HG.out, goes_act HG.out] at hc; with_reducible refine hc.mono ?_); rintro e w1 ⟨rfl, q1, g1⟩; have Q1 := Lib.hid q1
                   obtain ⟨c0, _, _, _, _, hl⟩ := q1.cells
                   have hlk := q1.map.look k hk HF.out
                   obtain ⟨w2, hdr, hm2, hg2⟩ := q1.map.drop (gs := dropF D.fs k) k hk (fun j => drop_some k j) (drop_len_eq HK.out.fs.rise k) 0
                   have M2 := Lib.hid hm2
                   have G2 := Lib.hid hg2
                   clear q1 hm2 hg2)
      go_ret
      refine ⟨rfl, p_turn HR.out HO.out (Q1.out.dropped k M2.out G2.out) ((beside_p HR.out (.inl rfl) g1).trans (beside_p (R := R) HR.out (.inr (.inl rfl)) G2.out) fun b hb _ => hb) fun b e => .inl ?_⟩
      rcases e with e | e | ⟨g, hg, e⟩
      · exact .inl e
      · exact .inr (.inl e)
      · exact .inr (.inr ⟨g, (drop_mem.1 hg).1, e⟩)
end Go.Proofs.Ytffpmcelelloeaa
