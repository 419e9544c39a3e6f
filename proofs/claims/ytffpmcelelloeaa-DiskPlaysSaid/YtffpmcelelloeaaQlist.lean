/-
  The document's own disk: List.
-/
import Derived.Test.YtffpmcelelloeaaQdrop
namespace Go.Proofs.Ytffpmcelelloeaa
open Go.RowKit Gm

abbrev strsV (l : List Bs) : List Value := l.map (fun k => Value.string (S k))
theorem infoStr : (Try.prog.info? 9).map (fun i => (i.zero, i.size, i.bytes)) = some (some (.string ByteArray.empty), 1, 16) := by kernel_rfl
theorem cell_one (w : World) (x : Value) (t : TypeId) : ∀ j u, [x][j]? = some u → (w.alloc (.cells #[x] t)).cell? ((⟨w.heap.size, 0, none⟩ : Addr).add j) = some u := by
  intro j u hj
  have hadd : (⟨w.heap.size, 0, none⟩ : Addr).add j = ⟨w.heap.size, j, none⟩ := by unfold Addr.add; split <;> simp_all
  rw [hadd, cell_of_row _ _ _ _ _ _ (new_at w _)]
  simpa using hj
/-- Behind some files, the row ov of names is out. -/
structure ListB (w wr : World) (p : Nat) (v : Value) (D : Dk) (out : List Bs) (ov : Value) : Prop where
  q : QAt wr p v D
  own : wr.ownsRow w.heap.size 9 1 ov out.length (strsV out)
  low : Below w.heap.size w wr
theorem ListB.more {w wr w1 w2 : World} {p : Nat} {v : Value} {D : Dk} {x : Bs} {out : List Bs} {ov ov' : Value} (h : ListB w wr p v D out ov) (hq : QAt w p v D) (h1 : w1 = wr.alloc (.cells #[.string (S x)] 9)) (ho : w2.ownsRow w.heap.size 9 1 ov' (out.length + 1) (strsV out ++ [.string (S x)])) (hg : w1.grownBy w2 ov.ownBlock) : ListB w w2 p v D (out ++ [x]) ov' := by
  have hz := h.low.size
  have hb1 : Below w.heap.size wr w1 := by rw [h1]; exact (Below.refl _ wr).alloc hz _
  have hb2 : Below w.heap.size wr w2 := hb1.grown hg (Nat.le_trans hz hb1.size) (fun k e => (h.own.lt k e).1)
  have hb := h.low.trans hb2
  refine ⟨hq.below hb, ?_, hb⟩
  rw [strsV, List.map_append, List.length_append]
  exact ho
theorem ListB.names {w wr : World} {p : Nat} {v : Value} {D : Dk} {out : List Bs} {a : Option Addr} {n cap : Nat} (h : ListB w wr p v D out (.slice a n cap)) (_hn : n = out.length) : NamesAt wr a out.length out := by
  refine ⟨rfl, ?_⟩
  rcases h.own.2 with ⟨h1, h2⟩ | ⟨g, cap', cur, hv, hb, hg, hle, hm, hs, ht⟩
  · exact ⟨0, 0, .inl h2, fun i hi => by omega⟩
  · injection hv with e1 e2 e3
    subst e1
    refine ⟨g, 0, .inr rfl, fun i hi => ⟨(Array.getElem?_eq_some_iff.1 hg).1, ?_⟩⟩
    have hi' : i < out.length * 1 := by omega
    rw [Nat.zero_add, cell_of_row wr g i cur 9 (0, 0) hg, ← Array.getElem?_toList, ← List.getElem?_take_of_lt hi', ht]
    simp [hi]

set_option maxRecDepth 100000 in
set_option maxHeartbeats 4000000 in
theorem qlist_any (p : Nat) (v : Value) (D : Dk) (w : World) (h : QAt w p v D) (hl4 : D.fs.length ≤ 4) :
    Calls Try.prog 30 #[.pointer (some ⟨p, 0, none⟩)] w fun e w' => (∃ a len cap, e = .returned (.slice a len cap) ∧ NamesAt w' a len (listD D)) ∧ Below w.heap.size w w' := by
  have HQ := Lib.hid h
  obtain ⟨a, cap, hv⟩ := h.form
  subst hv
  obtain ⟨n, hn⟩ : ∃ n, D.fs.length = n := ⟨_, rfl⟩
  rw [hn] at hl4
  have hvn : (Value.slice a D.fs.length cap) = .slice a n cap := by rw [hn]
  rw [hvn] at HQ
  have HN := Lib.hid hn
  obtain ⟨i0, hi0, hz0, hz1, hz2⟩ := info_parts infoStr
  have HP0 : Hid (ListB w w p (.slice a n cap) D ((D.fs.take 0).map (·.nm)) (.slice none 0 0)) := Lib.hid ⟨HQ.out, World.ownsRow_nil _ _ _ _, Below.refl _ _⟩
  clear h hn hvn
  go_enter Try.func30, Try.ntmps30
  go_wp2
  go_loopw [3, 4] (fun ov iv wr => ∃ i : Nat, i ≤ n ∧ iv = .int .i64 (i : Int) ∧ ListB w wr p (.slice a n cap) D ((D.fs.take i).map (·.nm)) ov) (fun _ iv _ => n - (intOf iv).toNat)
  case atStart => exact ⟨0, Nat.zero_le _, rfl, HP0.out⟩
  case round =>
    obtain ⟨i, hi, rfl, hp⟩ := hrel
    clear HP0
    have hsz := hp.low.size
    have HP := Lib.hid hp
    obtain ⟨c0, _, _, _, hfz, hpl⟩ := hp.q.cells
    by_cases hlt : i < n
    · have hil : i < D.fs.length := by rw [HN.out]; exact hlt
      obtain ⟨g, cap', hv, hrest⟩ := hp.q.file hil
      clear hrest
      have hva : a = some ⟨g, 0, none⟩ := by injection hv
      subst hva
      obtain ⟨x, hx⟩ : ∃ x, D.fs[i] = x := ⟨_, rfl⟩
      obtain ⟨hg, hgp, f0, f1, f2⟩ := hp.q.fileg hil hx
      have hi0' : (0 : Int) ≤ (i : Int) := by omega
      have hi1 : (i : Int) < (n : Int) := by omega
      have hE : (D.fs.take (i + 1)).map (·.nm) = (D.fs.take i).map (·.nm) ++ [x.nm] := by
        rw [List.take_succ_eq_append_getElem hil, List.map_append, hx]; rfl
      have HE := Lib.hid hE
      have hol4 : ((D.fs.take i).map (·.nm)).length ≤ 4 := by rw [List.length_map, List.length_take]; omega
      obtain ⟨out, ho⟩ : ∃ o, (D.fs.take i).map (·.nm) = o := ⟨_, rfl⟩
      rw [ho] at HP HE hol4
      obtain ⟨sA, sC, hsf⟩ := own_form HP.out.own
      subst hsf
      clear hv hx hE hp ho hfz
      go_wp2_with (
         at_builtin
         refine wpList_append_own _ rfl _ _ 41 rfl w.heap.size 9 i0 _ 1 16 Try.underlying41 hi0 hz0 hz1 hz2 rfl (by decide) _ _ _ rfl (HP.out.own.alloc _) ⟨wr.heap.size, 0, none⟩ 1 1 [.string (S x.nm)] rfl rfl (by have := cell_one wr (.string (S x.nm)) 9; simpa using this) (by simp [Value.oneCell']) (by simp [maxLen]; omega) (by omega) (by simp; omega) ?_
         intro v3 w3 hown3 hgrow3 hnil3)
      have HP3 := Lib.hid (HP.out.more HQ.out rfl hown3 hgrow3)
      clear hown3 hgrow3 hnil3
      go_roundw
      case rel => exact ⟨i + 1, by omega, by go_num, by rw [HE.out]; exact HP3.out⟩
      case measure => simp [intOf]; omega
    · obtain rfl : i = n := by omega
      have hE : (D.fs.take i).map (·.nm) = listD D := by rw [← HN.out, List.take_length]; rfl
      obtain ⟨out, ho⟩ : ∃ o, (D.fs.take i).map (·.nm) = o := ⟨_, rfl⟩
      rw [ho] at HP hE
      have HE := Lib.hid hE
      obtain ⟨sA, sC, hsf⟩ := own_form HP.out.own
      subst hsf
      clear hfz hp hlt hE ho
      go_wp2
      go_ret
      rw [← HE.out]
      exact ⟨⟨_, _, _, rfl, HP.out.names rfl⟩, HP.out.low⟩
end Go.Proofs.Ytffpmcelelloeaa
