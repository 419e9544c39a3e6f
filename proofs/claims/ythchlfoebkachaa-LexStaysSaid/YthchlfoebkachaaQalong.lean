/-
  The document's own legs of a way, walked.
-/
import Derived.Test.YthchlfoebkachaaOwn
import Derived.Test.YthchlfoebkachaaQway
namespace Go.Proofs.Ythchlfoebkachaa
open Go.RowKit Gm

def legE (l : List Leg) : List Int := l.map fun p => (p.1 : Int)
def legW (l : List Leg) : List Bool := l.map fun p => p.2
def AlongPost (l : List Leg) (w : World) (e : Ending) (w' : World) : Prop :=
  ∃ ea ec wa wc, e = .returned (.tuple #[.slice ea l.length ec, .slice wa l.length wc]) ∧ w'.ownsRow (w.heap.size + 1) 3 1 (.slice ea l.length ec) l.length (ints (legE l)) ∧ w'.ownsRow (w.heap.size + 1) 4 1 (.slice wa l.length wc) l.length (bools (legW l)) ∧ Below w.heap.size w w'
def QAlongAt (w : World) (n : Nat) (a : Option Addr) (len cap : Nat) (d : List Leg) (ev wv : Value) (wr : World) : Prop :=
  Blk wr w.heap.size 24 #[.int .i64 (n : Int), .slice a len cap] ∧ wr.ownsRow (w.heap.size + 1) 3 1 ev d.length (ints (legE d)) ∧ wr.ownsRow (w.heap.size + 1) 4 1 wv d.length (bools (legW d)) ∧ Below w.heap.size w wr
theorem along_step {es : List E} {by_ : List Int} {s v : Int} {k i : Nat} (hv : v ≠ s) (hb : by_[v.toNat]? = some (i : Int)) : along es by_ s (k + 1) v = (i, (ed es i).2.1 == v) :: along es by_ s k (if (ed es i).2.1 = v then (ed es i).1 else (ed es i).2.1) := by
  have h : (by_[v.toNat]?.getD 0).toNat = i := by rw [hb]; simp
  simp only [along, if_neg hv, h]
theorem along_end {es : List E} {by_ : List Int} {s : Int} (k : Nat) : along es by_ s k s = [] := by
  cases k with
  | zero => rfl
  | succ k => simp [along]
theorem cell_keep {W W' : World} {row : Option Nat} {o : Obj} (hg : (W.alloc o).grownBy W' row) {b i : Nat} {v : Value} (hlt : b < W.heap.size) (hne : some b ≠ row) (h : W.cell? ⟨b, i, none⟩ = some v) : W'.cell? ⟨b, i, none⟩ = some v :=
  (hg.cell_far ⟨b, i, none⟩ (by simp; omega) hne).trans ((World.cell?_alloc_lt W o ⟨b, i, none⟩ hlt).trans h)
theorem infoBoolP : (Try.prog.info? 4).map (fun i => (i.zero, i.size, i.bytes)) = some (some (.bool false), 1, 1) := by kernel_rfl

set_option maxRecDepth 100000 in
set_option maxHeartbeats 4000000 in
theorem qalong_any (n : Nat) (a : Option Addr) (len cap : Nat) (es : List E) (ba : Option Addr) (blen bcap : Nat) (fl : List Int) (S : Srch) (s t : Int) (w : World) (hE : NetAt w.heap.size w a len es) (hF : FlowAt w.heap.size w ba blen S.by_) (hi : Inv n es fl s S) (ht : t ∈ S.todo) (hr : right n es = true) :
    Calls Try.prog 45 #[netV n a len cap, .slice ba blen bcap, .int .i64 s, .int .i64 t] w (AlongPost (along es S.by_ s 64 t) w) := by
  have hri := right_iff.1 hr
  have hn64 : n ≤ 64 := by omega
  have hlen : len ≤ 256 := by have := hri.2.2.1; rw [hE.1] at this; exact this
  have HlE := Lib.hid hE.1
  have hbl : blen = n := by rw [← hF.1]; exact hi.bl
  have HE := Lib.hid hE
  have HF := Lib.hid hF
  have HI := Lib.hid hi
  have hsh := hi.short
  obtain ⟨p0, hp0, hp0e⟩ := List.getElem_of_mem ht
  have hpt : S.todo[p0]? = some t := (List.getElem?_eq_getElem hp0).trans (congrArg some hp0e)
  have hp63 : p0 ≤ 63 := by omega
  have HPT := Lib.hid hpt
  have HES : Hid (∀ e ∈ es, okE n e = true) := Lib.hid hri.2.2.2
  obtain ⟨i0, hi0, hx0, hx1, hx2⟩ := info_parts infoInt
  obtain ⟨j0, hj0, hy0, hy1, hy2⟩ := info_parts infoBoolP
  clear hri hE hF hi hr hpt hp0e ht
  subst hbl
  go_enter Try.func45, Try.ntmps45
  go_wp2
  go_loopw [10, 11, 12, 13] (fun ev wv vv kv wr => ∃ (k p : Nat) (v : Int) (d : List Leg), kv = .int .i64 k ∧ vv = .int .i64 v ∧ Hid (S.todo[p]? = some v ∧ along es S.by_ s 64 t = d ++ along es S.by_ s (64 - k) v) ∧ p + k ≤ 63 ∧ d.length = k ∧ QAlongAt w blen a len cap d ev wv wr) (fun _ _ _ kv _ => 64 - (intOf kv).toNat)
  case atStart => exact ⟨0, p0, t, [], rfl, rfl, Lib.hid ⟨HPT.out, by simp⟩, by omega, rfl, Blk.new w _ _, ⟨rfl, .inl ⟨rfl, rfl⟩⟩, ⟨rfl, .inl ⟨rfl, rfl⟩⟩, (Below.refl _ w).alloc (Nat.le_refl _) _⟩
  case round =>
    obtain ⟨k, p, v, d, rfl, rfl, hin, hpk, hdk, bN, hoE, hoW, hB⟩ := hrel
    obtain ⟨w1, rfl⟩ : ∃ w', w' = wr := ⟨_, rfl⟩
    have hv0 := (HI.out.td v).1 (List.mem_of_getElem? hin.out.1)
    have hv1 := hv0.1
    have hv2 := hv0.2.1
    have HD := Lib.hid hdk
    obtain ⟨ea, ec, rfl⟩ := own_form hoE
    obtain ⟨wa, wc, rfl⟩ := own_form hoW
    have hk64 : (k : Int) < 64 := by omega
    have hBs := hB.size
    clear hv0 hdk
    by_cases hvs : v = s
    · have t1 : (v == s) = true := by simp [hvs]
      have t2 : (v != s) = false := by simp [hvs]
      have HL : Hid (along es S.by_ s 64 t = d) := Lib.hid (by rw [hin.out.2, hvs, along_end]; simp)
      have hd63 : d.length ≤ 63 := by have := HD.out; omega
      clear hvs
      go_wp2
      go_ret2
      exact ⟨ea, ec, wa, wc, by rw [HL.out]; rfl, by rw [HL.out]; exact hoE, by rw [HL.out]; exact hoW, hB⟩
    · have t1 : (v == s) = false := by simp [hvs]
      have t2 : (v != s) = true := by simp [hvs]
      have hpre := HI.out.pre p v hin.out.1
      have hp : p ≠ 0 := fun e => by
        subst e
        have := hin.out.1.symm.trans HI.out.head
        exact hvs (Option.some.inj this)
      rcases hpre with h | ⟨i, hil, hby, p', u, hp', hpu, hne, hhop⟩
      · exact absurd h hp
      have hst := along_step (es := es) (k := 64 - (k + 1)) hvs hby
      have hfuel : 64 - k = 64 - (k + 1) + 1 := by omega
      have hhn : hop (ed es i) (Gm.fa fl i) u ≠ u := by rw [hhop]; exact fun e => hne e.symm
      have hnx : (if (ed es i).2.1 = v then (ed es i).1 else (ed es i).2.1) = u := by
        rcases hop_ne hhn with ⟨a1, _, c1⟩ | ⟨a1, _, c1⟩
        · rw [if_pos (by rw [← c1, hhop]), a1]
        · rw [if_neg (by rw [a1]; exact hne), a1]
      have HIN : Hid (along es S.by_ s 64 t = (d ++ [(i, (ed es i).2.1 == v)]) ++ along es S.by_ s (64 - (k + 1)) u) := Lib.hid (by
        rw [hin.out.2, hfuel, hst, hnx]; simp)
      have HPU := Lib.hid hpu
      obtain ⟨gb, go, hga, hgc⟩ := (HF.out.below hB).2.2.int
      obtain ⟨hgb, cb⟩ := hgc v.toNat (by rw [HI.out.bl]; omega)
      obtain rfl : ba = some ⟨gb, go, none⟩ := by
        rcases hga with h | h
        · rw [HI.out.bl] at h; omega
        · exact h
      rw [hby] at cb
      obtain ⟨b, off, ha, hc⟩ := (HE.out.below hB).2.2
      obtain ⟨hb, c0, c1, c2⟩ := hc i hil
      obtain rfl : a = some ⟨b, off, none⟩ := by
        rcases ha with h | h
        · omega
        · exact h
      have hed : ed es i = es[i] := by unfold ed; rw [List.getElem?_eq_getElem hil]; rfl
      rw [← hed] at c0 c1 c2
      obtain ⟨x, hx⟩ : ∃ x, ed es i = x := ⟨_, rfl⟩
      rw [hx] at c0 c1 c2 hnx HIN
      have hilen : i < len := by rw [← HlE.out]; exact hil
      have hii : (i : Int) < (len : Int) := by omega
      have hb1 : b < w1.heap.size := by omega
      have hgb1 : gb < w1.heap.size := by omega
      simp only [Option.getD_some] at cb
      clear hga hgc ha hc hed hx hst hfuel hhn hhop hby hpu hvs hil
      obtain ⟨lN, n0, n1⟩ := bN.two
      have hw : ((x.2.1 == v) = true ∧ x.1 = u) ∨ ((x.2.1 == v) = false ∧ x.2.1 = u) := by
        by_cases e : x.2.1 = v
        · rw [if_pos e] at hnx; exact .inl ⟨by simpa using e, hnx⟩
        · rw [if_neg e] at hnx; exact .inr ⟨by simpa using e, hnx⟩
      have hbw : b < w.heap.size + 1 := by omega
      have hd64 : d.length ≤ 63 := by have := HD.out; omega
      clear hnx
      rcases hw with ⟨g1, hu⟩ | ⟨g1, hu⟩
      all_goals
        rw [g1] at HIN
        have HU := Lib.hid hu
        clear hu
        go_wp2_with (first
          | (at_builtin
             refine wpList_append_own _ rfl _ _ 25 rfl (w.heap.size + 1) 3 i0 _ 1 8 Try.underlying25 hi0 hx0 hx1 hx2 rfl (by decide) _ d.length (ints (legE d)) rfl (hoE.alloc _) ⟨w1.heap.size, 0, none⟩ 1 1 [.int .i64 (i : Int)] rfl rfl (cell_one_new _ _ _) (by simp [Value.oneCell']) (by simp [maxLen]; omega) (by omega) (by simp; omega) ?_
             intro v2 w2 oE2 hg2 _
             have oW2 := own_kept (hoW.alloc _) hg2 (fun g e e' => own_ne hoE hoW (by decide) g e' e)
             have bN2 := (bN.alloc _).kept hg2 (own_blk_ne hoE bN (by decide)).symm
             have hB2 := (hB.alloc hBs _).grown hg2 (by simp; omega) (fun j e => by have := (hoE.lt j e).1; omega)
             have d0 := cell_keep hg2 hb1 (fun e => by have := (hoE.lt b e.symm).1; omega) c0
             have d1 := cell_keep hg2 hb1 (fun e => by have := (hoE.lt b e.symm).1; omega) c1
             have hb2 : b < w2.heap.size := by have := hg2.size; simp at this; omega
             have hz2 : w.heap.size + 1 ≤ w2.heap.size := by have h1 := hg2.size; have h2 := bN.lt; simp at h1; omega
             obtain ⟨lN2, n20, n21⟩ := bN2.two
             obtain ⟨ea2, ec2, rfl⟩ := own_form oE2
             clear hg2)
          | (at_builtin
             refine wpList_append_own _ rfl _ _ 58 rfl (w.heap.size + 1) 4 j0 _ 1 1 Try.underlying58 hj0 hy0 hy1 hy2 rfl (by decide) _ d.length (bools (legW d)) rfl (oW2.alloc _) ⟨w2.heap.size, 0, none⟩ 1 1 [.bool (x.2.1 == v)] rfl rfl (by rw [g1]; exact cell_one_new _ _ _) (by simp [Value.oneCell']) (by simp [maxLen]; omega) (by omega) (by simp; omega) ?_
             intro v3 w3 oW3 hg3 _
             have oE3 := own_kept (oE2.alloc _) hg3 (fun g e e' => own_ne oE2 oW2 (by decide) g e e')
             have bN3 := (bN2.alloc _).kept hg3 (own_blk_ne oW2 bN2 (by decide)).symm
             have hB3 := (hB2.alloc hB2.size _).grown hg3 (by have := hB2.size; simp; omega) (fun j e => by have := (oW2.lt j e).1; omega)
             have k0 := cell_keep hg3 hb2 (fun e => by have := (oW2.lt b e.symm).1; omega) d0
             have k1 := cell_keep hg3 hb2 (fun e => by have := (oW2.lt b e.symm).1; omega) d1
             have hb3 : b < w3.heap.size := by have := hg3.size; simp at this; omega
             obtain ⟨lN3, n30, n31⟩ := bN3.two
             obtain ⟨wa3, wc3, rfl⟩ := own_form oW3
             clear hg3))
        go_roundw
        case rel =>
          refine ⟨k + 1, p', u, _, by go_num, by rw [HU.out], Lib.hid ⟨HPU.out, HIN.out⟩, by omega, by rw [List.length_append, HD.out]; rfl, bN3, ?_, ?_, hB3⟩
          · rw [List.length_append, legE, List.map_append]; simpa [legE] using oE3
          · rw [List.length_append, legW, List.map_append]; simpa [legW, g1] using oW3
        case measure => simp [intOf]; omega
end Go.Proofs.Ythchlfoebkachaa
