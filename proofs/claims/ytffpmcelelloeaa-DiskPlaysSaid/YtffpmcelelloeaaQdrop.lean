/-
  The document's own disk: drop.
-/
import Derived.Test.YtffpmcelelloeaaQput2
namespace Go.Proofs.Ytffpmcelelloeaa
open Go.RowKit Gm

/-- Behind some files, the row ov is out. -/
structure DropB (w wr : World) (p : Nat) (v : Value) (D : Dk) (out : List Fl) (ov : Value) : Prop where
  q : QAt wr p v D
  own : wr.ownsRow w.heap.size 67 3 ov out.length (filesV out)
  low : Below w.heap.size w wr
  small : out.length ≤ 10
theorem DropB.more {w wr w1 w2 : World} {p : Nat} {v : Value} {D : Dk} {x : Fl} {out : List Fl} {ov ov' : Value} (h : DropB w wr p v D out ov) (hq : QAt w p v D) (h1 : w1 = wr.alloc (.cells #[.string (S x.nm), .string (S x.tx), .int .i64 (x.sy : Int)] 67)) (ho : w2.ownsRow w.heap.size 67 3 ov' (out.length + 1) (filesV out ++ [.string (S x.nm), .string (S x.tx), .int .i64 (x.sy : Int)])) (hg : w1.grownBy w2 ov.ownBlock) (hs : out.length < 10) : DropB w w2 p v D (out ++ [x]) ov' := by
  have hz := h.low.size
  have hb1 : Below w.heap.size wr w1 := by rw [h1]; exact (Below.refl _ wr).alloc hz _
  have hb2 : Below w.heap.size wr w2 := hb1.grown hg (Nat.le_trans hz hb1.size) (fun k e => (h.own.lt k e).1)
  have hb := h.low.trans hb2
  refine ⟨hq.below hb, ?_, hb, by rw [List.length_append]; simp; omega⟩
  rw [filesV_app, List.length_append]
  exact ho
theorem drop_take {l : List Fl} {k : Bs} {i : Nat} (h : i < l.length) : dropF (l.take (i + 1)) k = if l[i].nm = k then dropF (l.take i) k else dropF (l.take i) k ++ [l[i]] := by
  rw [List.take_succ_eq_append_getElem h]
  unfold dropF
  rw [List.filter_append]
  by_cases e : l[i].nm = k
  · rw [if_pos e, List.filter_cons_of_neg (by simpa using e)]; simp
  · rw [if_neg e, List.filter_cons_of_pos (by simpa using e)]; rfl

set_option maxRecDepth 100000 in
set_option maxHeartbeats 4000000 in
theorem qdrop_any (p : Nat) (v : Value) (D : Dk) (k : Bs) (w : World) (h : QAt w p v D) (hl4 : D.fs.length ≤ 4) :
    Calls Try.prog 41 #[.pointer (some ⟨p, 0, none⟩), .string (S k)] w fun e w' => e = .returned (.tuple #[]) ∧ ∃ v', QAt w' p v' { D with fs := dropF D.fs k } ∧ w.grownBy w' (some p) ∧ (∀ b, v'.ownBlock = some b → w.heap.size ≤ b) := by
  have HQ := Lib.hid h
  obtain ⟨a, cap, hv⟩ := h.form
  subst hv
  have hcl := h.lt.1
  obtain ⟨n, hn⟩ : ∃ n, D.fs.length = n := ⟨_, rfl⟩
  rw [hn] at hl4
  have hvn : (Value.slice a D.fs.length cap) = .slice a n cap := by rw [hn]
  rw [hvn] at HQ
  have HN := Lib.hid hn
  obtain ⟨i0, hi0, hz0, hz1, hz2⟩ := info_parts infoFile
  have HP0 : Hid (DropB w w p (.slice a n cap) D (dropF (D.fs.take 0) k) (.slice none 0 0)) := Lib.hid ⟨HQ.out, World.ownsRow_nil _ _ _ _, Below.refl _ _, by simp [dropF]⟩
  clear h hn hvn
  go_enter Try.func41, Try.ntmps41
  go_wp2
  go_loopw [4, 5] (fun ov iv wr => ∃ i : Nat, i ≤ n ∧ iv = .int .i64 (i : Int) ∧ DropB w wr p (.slice a n cap) D (dropF (D.fs.take i) k) ov) (fun _ iv _ => n - (intOf iv).toNat)
  case atStart => exact ⟨0, Nat.zero_le _, rfl, HP0.out⟩
  case round =>
    obtain ⟨i, hi, rfl, hp⟩ := hrel
    clear HP0
    have hsz := hp.low.size
    have HP := Lib.hid hp
    obtain ⟨c0, _, _, _, hfz, hpl⟩ := hp.q.cells
    by_cases hlt : i < n
    · have hil : i < D.fs.length := by rw [HN.out]; exact hlt
      obtain ⟨g, cap', hv, hrest⟩ := hp.q.file hil
      clear hrest
      have hva : a = some ⟨g, 0, none⟩ := by injection hv
      subst hva
      obtain ⟨x, hx⟩ : ∃ x, D.fs[i] = x := ⟨_, rfl⟩
      obtain ⟨hg, hgp, f0, f1, f2⟩ := hp.q.fileg hil hx
      have hi0' : (0 : Int) ≤ (i : Int) := by omega
      have hi1 : (i : Int) < (n : Int) := by omega
      have hD := drop_take (k := k) hil
      rw [hx] at hD
      have HD := Lib.hid hD
      have hol := hp.small
      have hol4 : (dropF (D.fs.take i) k).length ≤ 4 := by
        have := drop_len (D.fs.take i) k
        rw [List.length_take] at this; omega
      obtain ⟨out, ho⟩ : ∃ o, dropF (D.fs.take i) k = o := ⟨_, rfl⟩
      rw [ho] at HP HD hol hol4
      clear hv hx hD hp ho hfz
      by_cases hxk : x.nm = k
      · have t2 : ((S x.nm).toList == (S k).toList) = true := by rw [S_beq]; simpa using hxk
        have HE := Lib.hid (HD.out.trans (if_pos hxk))
        clear hxk
        go_wp2
        go_roundw
        case rel => exact ⟨i + 1, by omega, by go_num, by rw [HE.out]; exact HP.out⟩
        case measure => simp [intOf]; omega
      · have t2 : ((S x.nm).toList == (S k).toList) = false := by rw [S_beq]; simpa using hxk
        have HE := Lib.hid (HD.out.trans (if_neg hxk))
        clear hxk
        obtain ⟨sA, sC, hsf⟩ := own_form HP.out.own
        subst hsf
        go_wp2_with (
           at_builtin
           refine wpList_append_own _ rfl _ _ 56 rfl w.heap.size 67 i0 _ 3 40 Try.underlying56 hi0 hz0 hz1 hz2 rfl (by decide) _ _ _ rfl (HP.out.own.alloc _) ⟨wr.heap.size, 0, none⟩ 1 1 [.string (S x.nm), .string (S x.tx), .int .i64 (x.sy : Int)] rfl rfl (by have := cells_three wr (.string (S x.nm)) (.string (S x.tx)) (.int .i64 (x.sy : Int)) 67; simpa using this) (by simp [Value.oneCell']) (by simp [maxLen]; omega) (by omega) (by simp; omega) ?_
           intro v3 w3 hown3 hgrow3 hnil3)
        have HP3 := Lib.hid (HP.out.more HQ.out rfl hown3 hgrow3 (by omega))
        clear hown3 hgrow3 hnil3
        go_roundw
        case rel => exact ⟨i + 1, by omega, by go_num, by rw [HE.out]; exact HP3.out⟩
        case measure => simp [intOf]; omega
    · obtain rfl : i = n := by omega
      have hE : dropF (D.fs.take i) k = dropF D.fs k := by rw [← HN.out, List.take_length]
      have hf0 := hfz 0
      obtain ⟨out, ho⟩ : ∃ o, dropF (D.fs.take i) k = o := ⟨_, rfl⟩
      rw [ho] at HP hE
      have HE := Lib.hid hE
      obtain ⟨sA, sC, hsf⟩ := own_form HP.out.own
      subst hsf
      clear hfz hp hlt hE ho
      go_wp2
      go_end0
      have h := HP.out
      have hq := h.q.set0 (own_base0 h.own) (fun e => by have := (h.own.lt p e).1; omega)
      rw [← HE.out]
      exact ⟨rfl, _, hq, gbt (gbb _ h.low) (gbs _ _ _ _), fun b e => (h.own.lt b e).1⟩
end Go.Proofs.Ytffpmcelelloeaa
