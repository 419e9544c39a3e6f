/-
  The laws' own helper Flow: raw numbers brought to flows that are good from 0 to 1.
-/
import Derived.Deep.LoopGhost
import Derived.Test.YtcbfgdiddhhhcaaFit
import Derived.Test.YtcbfgdiddhhhcaaHold
import Derived.Test.YtcbfgdiddhhhcaaMath3
namespace Go.Proofs.Ytcbfgdiddhhhcaa
open Go.RowKit Gm

/-- What Flow answers. -/
def FlowPost (n : Nat) (es : List E) (w : World) (e : Ending) (w' : World) : Prop :=
  ∃ g fl, e = .returned (.slice (some ⟨g, 0, none⟩) es.length es.length) ∧ GoodF n es fl ∧ FlowAt w'.heap.size w' (some ⟨g, 0, none⟩) es.length fl ∧ Below w.heap.size w w'
def natsV (l : List Nat) : List Value := l.map fun j : Nat => Value.int .i64 (j : Int)
theorem idx_snoc (l : List Nat) (j : Nat) : natsV (l ++ [j]) = natsV l ++ [.int .i64 (j : Int)] := by simp [natsV]
theorem idx_length (l : List Nat) : (natsV l).length = l.length := by simp [natsV]
/-- An edge by which a walk may go on. -/
def May (es : List E) (fl : List Int) (seen : List Bool) (u : Int) (q : Nat) : Prop := q < es.length ∧ (ed es q).1 = u ∧ has seen (ed es q).2.1 = false ∧ fa fl q < (ed es q).2.2
def FlowRel (w : World) (n : Nat) (a : Option Addr) (len cap : Nat) (es : List E) (wr : World) : Prop :=
  Blk wr w.heap.size 24 #[.int .i64 (n : Int), .slice a len cap] ∧ (∃ fl, Blk wr (w.heap.size + 1) 3 (ints fl).toArray ∧ GoodF n es fl) ∧ Below w.heap.size w wr
def PathRel (n : Nat) (es : List E) (fl : List Int) (S : Nat) (W1 : World) (g : Nat) (wv uv cv : Value) (wr : World) : Prop :=
  ∃ (way : List Nat) (u c : Int) (seen : List Bool), uv = .int .i64 u ∧ cv = .int .i64 c ∧ 0 ≤ c ∧ c ≤ 1048576 ∧ Path n es fl way seen u ∧ n - cnt seen ≤ g ∧ wr.ownsRow (S + 1) 3 1 wv way.length (natsV way) ∧ Blk wr S 4 (boolsA seen) ∧ Below S W1 wr ∧ S + 1 ≤ wr.heap.size
def MayRel (es : List E) (fl : List Int) (seen : List Bool) (u : Int) (W2 : World) (j : Nat) (mv : Value) (wr : World) : Prop :=
  ∃ may : List Nat, (∀ q ∈ may, May es fl seen u q) ∧ wr.ownsRow W2.heap.size 3 1 mv may.length (natsV may) ∧ Below W2.heap.size W2 wr ∧ may.length ≤ j
theorem zip_ed {es : List E} {fl : List Int} (h : fl.length = es.length) {q : Nat} (hq : q < es.length) : (ed es q, fa fl q) ∈ es.zip fl := by
  have e1 : ed es q = es[q] := by unfold ed; rw [List.getElem?_eq_getElem hq]; rfl
  have e2 : fa fl q = fl[q]'(by omega) := by unfold fa; rw [List.getElem?_eq_getElem (by omega)]; rfl
  rw [e1, e2]
  exact List.mem_iff_getElem.2 ⟨q, by rw [List.length_zip]; omega, by rw [List.getElem_zip]⟩
theorem own_below {W W' : World} {base size n : Nat} {e : TypeId} {v : Value} {xs : List Value} (h : W.ownsRow base e size v n xs) (hb : Below W.heap.size W W') : W'.ownsRow base e size v n xs := by
  obtain ⟨h1, h2⟩ := h
  refine ⟨h1, ?_⟩
  rcases h2 with h2 | ⟨g, cap, cur, hv, hg, hh, r⟩
  · exact .inl h2
  · exact .inr ⟨g, cap, cur, hv, hg, (hb.block g (Array.getElem?_eq_some_iff.1 hh).1).trans hh, r⟩
def AlongRel (w : World) (n : Nat) (a : Option Addr) (len cap : Nat) (fl : List Int) (way : List Nat) (S : Nat) (sv : Value) (j : Nat) (wr : World) : Prop :=
  Blk wr w.heap.size 24 #[.int .i64 (n : Int), .slice a len cap] ∧ Blk wr (w.heap.size + 1) 3 (ints (incs fl (way.take j))).toArray ∧ wr.ownsRow (S + 1) 3 1 sv way.length (natsV way) ∧ Below w.heap.size w wr
theorem ints_set (l : List Int) (i : Nat) (x : Int) : ((ints l).toArray).setIfInBounds i (.int .i64 x) = (ints (l.set i x)).toArray := by
  apply Array.toList_inj.1
  simp [List.map_set]
theorem ints_at (l : List Int) (i : Nat) (h : i < l.length) : (ints l).toArray[i]? = some (.int .i64 (fa l i)) := by simp [fa, h]
theorem path_len {n : Nat} {es : List E} {fl : List Int} {way : List Nat} {seen : List Bool} {u : Int} (h : Path n es fl way seen u) : way.length ≤ es.length := by
  have := List.Nodup.length_le_of_subset h.nodup (l₂ := List.range es.length) (fun x hx => by simpa using (h.each x hx).1)
  simpa using this

set_option maxRecDepth 100000 in
set_option maxHeartbeats 4000000 in
theorem flow_any (n : Nat) (a : Option Addr) (len cap : Nat) (es : List E) (ra : Option Addr) (rlen rcap : Nat) (raw : List Int) (w : World) (hE : NetAt w.heap.size w a len es) (hR : FlowAt w.heap.size w ra rlen raw) (hraw : ∀ x ∈ raw, I64 x) (hok : right n es = true) :
    Calls Try.prog 18 #[netV n a len cap, .slice ra rlen rcap] w (FlowPost n es w) := by
  have hri := right_iff.1 hok
  have hn2 : 2 ≤ n := by omega
  have hn64 : n ≤ 64 := by omega
  have HlE := Lib.hid hE.1
  have HlR := Lib.hid hR.1
  have h256 : len ≤ 256 := by have := hri.2.2.1; rw [hE.1] at this; exact this
  have HOK : Hid (∀ e ∈ es, okE n e = true) := Lib.hid hri.2.2.2
  have HRT := Lib.hid hok
  have HRAW := Lib.hid hraw
  have HE := Lib.hid hE
  have HR := Lib.hid hR
  have hmk := make_ints len (by omega)
  have hmb := make_bools n (by omega)
  obtain ⟨i0, hi0, hz0, hz1, hz2⟩ := info_parts infoInt
  clear hri hok hraw hE hR
  go_enter Try.func18, Try.ntmps18
  go_wp2
  clear hmk
  go_loopw [6] (fun i wr => ∃ k : Nat, k ≤ rlen ∧ i = .int .i64 k ∧ FlowRel w n a len cap es wr) (fun i _ => rlen - (intOf i).toNat)
  case atStart =>
    refine ⟨0, Nat.zero_le _, rfl, (Blk.new w _ _).alloc _, ⟨List.replicate len 0, ?_, ?_⟩, ((Below.refl _ w).alloc (Nat.le_refl _) _).alloc (by simp) _⟩
    · have := Blk.new (w.alloc (.cells #[.int .i64 (n : Int), .slice a len cap] 24)) 3 (Array.replicate len (.int .i64 0))
      simp only [World.size_alloc] at this
      have e : (ints (List.replicate len 0)).toArray = Array.replicate len (Value.int .i64 0) := by
        apply Array.toList_inj.1; simp
      rw [e]; exact this
    · have := GoodF.none HRT.out
      rw [HlE.out] at this; exact this
  case round =>
    obtain ⟨k, hk, rfl, bN, ⟨fl, bF, hG⟩, hB⟩ := hrel
    obtain ⟨w1, rfl⟩ : ∃ w', w' = wr := ⟨_, rfl⟩
    obtain ⟨lN, n0, n1⟩ := bN.two
    by_cases hlt : k < rlen ∧ k < 30
    · obtain ⟨h1, h2⟩ := hlt
      obtain ⟨rb, ro, hra, hrc⟩ := (HR.out.below hB).2.2.int
      have hkr : k < raw.length := by rw [HlR.out]; exact h1
      obtain ⟨hrb, rc⟩ := hrc k hkr
      obtain rfl : ra = some ⟨rb, ro, none⟩ := by
        rcases hra with h | h
        · omega
        · exact h
      have hxr : I64 (raw[k]?.getD 0) := by rw [List.getElem?_eq_getElem hkr]; exact HRAW.out _ (List.getElem_mem hkr)
      obtain ⟨x, hx⟩ : ∃ x, raw[k]?.getD 0 = x := ⟨_, rfl⟩
      rw [hx] at rc hxr
      clear hx hkr hra hrc
      have hki : (k : Int) < (rlen : Int) := by omega
      have hBs := hB.size
      have hn0 : 0 < n := by omega
      have hn0i : (0 : Int) < (n : Int) := by omega
      have hrn1 : ¬ rb = w1.heap.size := by omega
      have hrn2 : ¬ w1.heap.size = rb := by omega
      have hrn3 : rb < w1.heap.size := by omega
      go_wp2_with (go_at_call 32; refine (pick_any _ _ _ hxr (by omega) (by omega)).mono ?_; rintro e w5 ⟨rfl, rfl⟩)
      obtain ⟨W1, hW1⟩ : ∃ W1, w1.alloc (.cells ((Array.replicate n (Value.bool false)).setIfInBounds 0 (.bool true)) 4) = W1 := ⟨_, rfl⟩
      have bS : Blk W1 w1.heap.size 4 (boolsA (Gm.start n 0)) := by
        have e : boolsA (Gm.start n 0) = (Array.replicate n (Value.bool false)).setIfInBounds 0 (.bool true) := by
          unfold Gm.start; rw [← boolsA_set, boolsA_rep]; simp
        rw [e, ← hW1]; exact Blk.new w1 _ _
      have bN1 : Blk W1 w.heap.size 24 #[.int .i64 (n : Int), .slice a len cap] := by rw [← hW1]; exact bN.alloc _
      have bF1 : Blk W1 (w.heap.size + 1) 3 (ints fl).toArray := by rw [← hW1]; exact bF.alloc _
      have hB1 : Below w.heap.size w W1 := by rw [← hW1]; exact hB.alloc hB.size _
      have hZ1 : Below w1.heap.size w1 W1 := by rw [← hW1]; exact (Below.refl _ w1).alloc (Nat.le_refl _) _
      have hlF : w.heap.size + 1 < w1.heap.size := bF.lt
      have hz1 : w1.heap.size < W1.heap.size := bS.lt
      have hpk := pk_bd x 1048576 (by omega)
      rw [hW1]
      obtain ⟨c0, hc0⟩ : ∃ c, pk x 1048576 = c := ⟨_, rfl⟩
      rw [hc0] at hpk ⊢
      clear hW1 hc0 n0 n1 rc hxr
      have BN := Lib.hid bN
      have BF := Lib.hid bF
      have HG := Lib.hid hG
      have HB := Lib.hid hB
      clear bN bF hG hB bN1 bF1 hB1
      go_loopg [7, 9, 10] n (fun g wv uv cv wr => PathRel n es fl w1.heap.size w1 g wv uv cv wr)
      case atStart => exact ⟨[], 0, c0, Gm.start n 0, rfl, rfl, by omega, by omega, Path.start (by omega) es fl, by omega, ⟨by simp [natsV], .inl ⟨rfl, rfl⟩⟩, bS, hZ1, by omega⟩
      case round =>
        clear bS hZ1 hz1 hpk
        obtain ⟨way, u, c, seen, rfl, rfl, hc1, hc2, hP, hgk, hown, bS, hBw, hsz⟩ := hrel
        obtain ⟨w2, rfl⟩ : ∃ w', w' = wr := ⟨_, rfl⟩
        have bN2 := BN.out.below hBw BN.out.lt
        have bF2 := BF.out.below hBw BF.out.lt
        obtain ⟨lN, n0, n1⟩ := bN2.two
        have HP := Lib.hid hP
        have HGK := Lib.hid hgk
        clear hP hgk
        by_cases hu1 : u = 1
        · have t1 : (u != 1) = false := by simp [hu1]
          have t2 : (u == 1) = true := by simp [hu1]
          obtain ⟨sa, sc, rfl⟩ := own_form hown
          subst hu1
          have hm256 : way.length ≤ 256 := by have := path_len HP.out; have := HlE.out; omega
          go_wp2
          go_loopw [14] (fun i wr => ∃ j : Nat, j ≤ way.length ∧ i = .int .i64 j ∧ AlongRel w n a len cap fl way w1.heap.size (.slice sa way.length sc) j wr) (fun i _ => way.length - (intOf i).toNat)
          case atStart => exact ⟨0, Nat.zero_le _, rfl, bN2, by simpa [incs] using bF2, hown, HB.out.trans (hBw.mono HB.out.size)⟩
          case round =>
            clear bN2 bF2 hown bS hsz lN n0 n1
            obtain ⟨j, hj, rfl, bN3, bF3, hown3, hB3⟩ := hrel
            obtain ⟨w3, rfl⟩ : ∃ w', w' = wr := ⟨_, rfl⟩
            by_cases hjm : j < way.length
            · obtain ⟨q, hq⟩ : ∃ q, way[j] = q := ⟨_, rfl⟩
              have hqm : q ∈ way := by rw [← hq]; exact List.getElem_mem hjm
              have hqe := HP.out.each q hqm
              obtain ⟨g, rfl⟩ : ∃ g, sa = some ⟨g, 0, none⟩ := by
                rcases hown3.2 with ⟨_, h⟩ | ⟨g, cap', cur, h, _⟩
                · omega
                · injection h with h; exact ⟨g, h⟩
              have cq := hown3.cellAt j (by omega)
              have hnq : (natsV way)[j]? = some (.int .i64 (q : Int)) := by simp [natsV, hjm, hq]
              rw [hnq] at cq
              have hql : q < (incs fl (way.take j)).length := by rw [incs_length, HG.out.len]; exact hqe.1
              have cf := bF3.cell q
              rw [ints_at _ _ hql] at cf
              have ff := bF3.frozen q
              have hfi := incs_at (way.take j) fl q (fun i hi => by rw [HG.out.len]; exact (HP.out.each i (List.mem_of_mem_take hi)).1) (HP.out.nodup.sublist (List.take_sublist _ _))
              have hcap := okE_iff.1 (HOK.out _ (ed_mem hqe.1))
              have hf0 : -1 ≤ fa fl q := by
                have := HG.out.fit _ (zip_ed HG.out.len hqe.1)
                dsimp only at this; omega
              have hf1 := hqe.2.2
              obtain ⟨f, hfe⟩ : ∃ f, fa (incs fl (way.take j)) q = f := ⟨_, rfl⟩
              have hfb : -1 ≤ f ∧ f ≤ 1001 := by
                rw [← hfe, hfi]; split <;> omega
              rw [hfe] at cf
              have hqlen : q < len := by rw [← HlE.out]; exact hqe.1
              have hq64 : (q : Int) < (len : Int) := by omega
              have HN : Hid ((ints (incs fl (way.take (j + 1)))).toArray = ((ints (incs fl (way.take j))).toArray).setIfInBounds q (.int .i64 (f + 1))) := Lib.hid (by
                rw [List.take_succ_eq_append_getElem hjm, hq, incs_snoc, ints_set]; unfold inc; rw [hfe])
              have hgne : w.heap.size + 1 ≠ g := by
                have := (hown3.lt g (by rfl)).1
                have := BF.out.lt
                omega
              have HFE := Lib.hid hfe
              clear hq hqm hqe hnq hql hfi hcap hf0 hf1 hfe
              obtain ⟨hfb0, hfb1⟩ := hfb
              have hji : (j : Int) < (way.length : Int) := by omega
              have lF3 := bF3.lt
              go_wp2
              go_roundw
              case rel => exact ⟨j + 1, by omega, by go_num, bN3.far (p := ⟨w.heap.size + 1, q, none⟩) (by simp) _, by rw [HN.out]; exact bF3.set q _, ownsRow_setCell_other hown3 (a := ⟨w.heap.size + 1, q, none⟩) (by simp [Value.ownBlock]; omega) _, hB3.setCell (p := ⟨w.heap.size + 1, q, none⟩) (by simp) _⟩
              case measure => simp [intOf]; omega
            · obtain rfl : j = way.length := by omega
              have HT : Hid (way.take way.length = way) := Lib.hid (List.take_length)
              go_wp2
              go_roundw
              case rel => exact ⟨k + 1, by omega, by go_num, bN3, ⟨_, by rw [HT.out] at bF3; exact bF3, HG.out.along HP.out⟩, hB3⟩
              case measure => simp [intOf]; omega
        · have t1 : (u != 1) = true := by simp [hu1]
          have t2 : (u == 1) = false := by simp [hu1]
          clear hu1
          obtain ⟨sa, sc, rfl⟩ := own_form hown
          go_wp2
          go_loopw [11, 12] (fun mv jv wr => ∃ j : Nat, j ≤ len ∧ jv = .int .i64 j ∧ MayRel es fl seen u w2 j mv wr) (fun _ jv _ => len - (intOf jv).toNat)
          case atStart => exact ⟨0, Nat.zero_le _, rfl, [], by simp, ⟨by simp [natsV], .inl ⟨rfl, rfl⟩⟩, Below.refl _ _, by simp⟩
          case round =>
            obtain ⟨j, hj, rfl, may, hmay, hownM, hBm, hml⟩ := hrel
            obtain ⟨w3, rfl⟩ : ∃ w', w' = wr := ⟨_, rfl⟩
            have bN3 := bN2.below hBm bN2.lt
            have bF3 := bF2.below hBm bF2.lt
            have bS3 := bS.below hBm bS.lt
            clear lN n0 n1
            obtain ⟨lN, n0, n1⟩ := bN3.two
            have hBz := HB.out.size
            have hB3 : Below w.heap.size w w3 := (HB.out.trans (hBw.mono hBz)).trans (hBm.mono (by omega))
            by_cases hjl : j < len
            · obtain ⟨b, off, ha, hc⟩ := (HE.out.below hB3).2.2
              have hje : j < es.length := by rw [HlE.out]; exact hjl
              obtain ⟨hb, e0, e1, e2⟩ := hc j hje
              obtain rfl : a = some ⟨b, off, none⟩ := by
                rcases ha with h | h
                · omega
                · exact h
              have hed : ed es j = es[j] := by unfold ed; rw [List.getElem?_eq_getElem hje]; rfl
              rw [← hed] at e0 e1 e2
              have ho := okE_iff.1 (HOK.out _ (ed_mem hje))
              have cs := bS3.cell (ed es j).2.1.toNat
              rw [boolsA_at _ _ (by rw [HP.out.slen]; omega)] at cs
              have cf := bF3.cell j
              rw [ints_at _ _ (by rw [HG.out.len]; exact hje)] at cf
              have cs' : w3.cell? ⟨w1.heap.size, (ed es j).2.1.toNat, none⟩ = some (.bool (has seen (ed es j).2.1)) := cs
              obtain ⟨y, hy⟩ : ∃ y, ed es j = y := ⟨_, rfl⟩
              have HY := Lib.hid hy
              rw [hy] at e0 e1 e2 cs' ho
              obtain ⟨u0, u1, v0, v1, hne, k0, k1⟩ := ho
              obtain ⟨f, hfe⟩ : ∃ f, fa fl j = f := ⟨_, rfl⟩
              rw [hfe] at cf
              have HFE := Lib.hid hfe
              have HJE := Lib.hid hje
              have HNE := Lib.hid hne
              have hji : (j : Int) < (len : Int) := by omega
              have hj0 : (0 : Int) ≤ (j : Int) := by omega
              clear ha hc hed cs hy hfe hje hne bN3 bF3 bS3
              have hcase : ((y.1 == u) = false ∨ ((y.1 == u) = true ∧ has seen y.2.1 = true) ∨ ((y.1 == u) = true ∧ has seen y.2.1 = false ∧ decide (f < y.2.2) = false)) ∨ ((y.1 == u) = true ∧ has seen y.2.1 = false ∧ decide (f < y.2.2) = true) := by
                rcases (y.1 == u) with _ | _ <;> rcases has seen y.2.1 with _ | _ <;> rcases decide (f < y.2.2) with _ | _ <;> simp
              rcases hcase with hno | ⟨g1, g2, g3⟩
              · rcases hno with g1 | ⟨g1, g2⟩ | ⟨g1, g2, g3⟩
                · go_wp2
                  go_quiet (fail)
                  go_wp2
                  go_roundw
                  case rel => exact ⟨j + 1, by omega, by go_num, may, hmay, hownM, below_drewN hBm _, by omega⟩
                  case measure => simp [intOf]; omega
                · rw [g2] at cs'
                  go_wp2
                  go_quiet (fail)
                  go_wp2
                  go_roundw
                  case rel => exact ⟨j + 1, by omega, by go_num, may, hmay, hownM, below_drewN hBm _, by omega⟩
                  case measure => simp [intOf]; omega
                · rw [g2] at cs'
                  go_wp2
                  go_quiet (fail)
                  go_wp2
                  go_roundw
                  case rel => exact ⟨j + 1, by omega, by go_num, may, hmay, hownM, below_drewN hBm _, by omega⟩
                  case measure => simp [intOf]; omega
              · have HMAY : Hid (May es fl seen u j) := Lib.hid ⟨HJE.out, by rw [HY.out]; simpa using g1, by rw [HY.out]; exact g2, by rw [HY.out, HFE.out]; simpa using g3⟩
                rw [g2] at cs'
                go_wp2
                go_quiet (fail)
                have hownD : (w3.drewN nq).ownsRow w2.heap.size 3 1 u11 may.length (natsV may) := hownM
                have hBD := below_drewN hBm nq
                have hszD : w2.heap.size ≤ (w3.drewN nq).heap.size := hBD.size
                obtain ⟨w4, hw4⟩ : ∃ w4, w3.drewN nq = w4 := ⟨_, rfl⟩
                rw [hw4] at hownD hBD hszD ⊢
                clear hw4 hownM hBm
                go_wp2_with (
                  at_builtin
                  refine wpList_append_own _ rfl _ _ 25 rfl w2.heap.size 3 i0 _ 1 8 Try.underlying25 hi0 hz0 hz1 hz2 rfl (by decide) _ may.length (natsV may) rfl (hownD.alloc _) ⟨w4.heap.size, 0, none⟩ 1 1 [.int .i64 (j : Int)] rfl rfl (cell_one_new _ _ _) (by simp [Value.oneCell']) (by simp [maxLen]; omega) (by omega) (by simp; omega) ?_
                  intro v' w5 hown' hgrow hnil)
                go_roundw
                case rel =>
                  refine ⟨j + 1, by omega, by go_num, may ++ [j], fun q hq => ?_, ?_, (hBD.alloc hszD _).grown hgrow (by simp; omega) (fun i e => (hownD.lt i e).1), by simp; omega⟩
                  · rcases List.mem_append.1 hq with h | h
                    · exact hmay q h
                    · obtain rfl : q = j := by simpa using h
                      exact HMAY.out
                  · rw [idx_snoc]; simpa using hown'
                case measure => simp [intOf]; omega
            · obtain rfl : j = len := by omega
              obtain ⟨ma, mc, rfl⟩ := own_form hownM
              by_cases hm0 : may.length = 0
              · have z1 : ((may.length : Int) == 0) = true := by simp; simpa using hm0
                go_wp2
                go_roundw
                case rel => exact ⟨k + 1, by omega, by go_num, bN3, ⟨fl, bF3, HG.out⟩, hB3⟩
                case measure => simp [intOf]; omega
              · have z1 : ((may.length : Int) == 0) = false := by simp; simpa using hm0
                have hr0 : 0 ≤ c % (may.length : Int) := Int.emod_nonneg _ (by omega)
                have hr1 : c % (may.length : Int) < (may.length : Int) := Int.emod_lt_of_pos _ (by omega)
                obtain ⟨r, hr⟩ : ∃ r : Nat, c % (may.length : Int) = r := ⟨(c % (may.length : Int)).toNat, by omega⟩
                have hrm : r < may.length := by omega
                obtain ⟨q, hq⟩ : ∃ q, may[r] = q := ⟨_, rfl⟩
                have hQ := hmay q (by rw [← hq]; exact List.getElem_mem hrm)
                obtain ⟨g, rfl⟩ : ∃ g, ma = some ⟨g, 0, none⟩ := by
                  rcases hownM.2 with ⟨_, h⟩ | ⟨g, cap', cur, h, _⟩
                  · omega
                  · injection h with h; exact ⟨g, h⟩
                have cm := hownM.cellAt r (by omega)
                have hnr : (natsV may)[r]? = some (.int .i64 (q : Int)) := by simp [natsV, hrm, hq]
                rw [hnr] at cm
                have hm0' : (0 : Int) < (may.length : Int) := by omega
                have hri : (r : Int) < (may.length : Int) := by omega
                have hown3 := own_below hown hBm
                have hBw3 : Below w1.heap.size w1 w3 := hBw.trans (hBm.mono (by omega))
                have HQ := Lib.hid hQ
                have hqj : q < j := by have := hQ.1; have := HlE.out; omega
                have hqi : (q : Int) < (j : Int) := by omega
                have hq0 : (0 : Int) ≤ (q : Int) := by omega
                have hml' : way.length ≤ 256 := by have := path_len HP.out; have := HlE.out; omega
                have hz3 : w1.heap.size + 1 ≤ w3.heap.size := by have := hBm.size; omega
                obtain ⟨b, off, ha, hc⟩ := (HE.out.below hB3).2.2
                have hqe : q < es.length := HQ.out.1
                obtain ⟨hbl, e0, e1, e2⟩ := hc q hqe
                obtain rfl : a = some ⟨b, off, none⟩ := by
                  rcases ha with h | h
                  · omega
                  · exact h
                have hed : ed es q = es[q] := by unfold ed; rw [List.getElem?_eq_getElem hqe]; rfl
                rw [← hed] at e1
                have ho := okE_iff.1 (HOK.out _ (ed_mem hqe))
                obtain ⟨to, hto⟩ : ∃ t, (ed es q).2.1 = t := ⟨_, rfl⟩
                rw [hto] at e1 ho
                have HTO := Lib.hid hto
                have ho0 := ho.2.2.1
                have ho1 := ho.2.2.2.1
                have HRR := Lib.hid hr
                have HNR := Lib.hid hnr
                clear hr0 hr1 hrm hq hQ hnr hc ha hed ho hto e0 e2 hqe hmay
                go_wp2_with (first
                  | (at_builtin
                     refine wpList_append_own _ rfl _ _ 25 rfl (w1.heap.size + 1) 3 i0 _ 1 8 Try.underlying25 hi0 hz0 hz1 hz2 rfl (by decide) _ way.length (natsV way) rfl (hown3.alloc _) ⟨w3.heap.size, 0, none⟩ 1 1 [.int .i64 (q : Int)] rfl rfl (cell_one_new _ _ _) (by simp [Value.oneCell']) (by simp [maxLen]; omega) (by omega) (by simp; omega) ?_
                     intro v' w5 hown' hgrow hnil
                     have bN5 := (bN3.alloc _).kept hgrow (own_blk_ne hown3 bN3 (by decide)).symm
                     have bS5 := (bS3.alloc _).kept hgrow (own_blk_ne hown3 bS3 (by decide)).symm
                     have hB5 := (hB3.alloc hB3.size _).grown hgrow (by have := hB3.size; simp; omega) (fun i e => by have := (hown3.lt i e).1; omega)
                     have hBw5 := (hBw3.alloc hBw3.size _).grown hgrow (by have := hBw3.size; simp; omega) (fun i e => by have := (hown3.lt i e).1; omega)
                     have hz5 : w1.heap.size + 1 ≤ w5.heap.size := by have := hgrow.size; simp at this; omega
                     have e5 := (hgrow.cell (a := ⟨b, off + q * 3 + 1, none⟩) ((World.cell?_alloc_lt w3 _ ⟨b, off + q * 3 + 1, none⟩ (by show b < _; have := hB3.size; omega)).trans e1) (fun e => by have := (hown3.lt b e.symm).1; omega))
                     obtain ⟨lN5, p0, p1⟩ := bN5.two
                     have sf := bS5.frozen to.toNat
                     have ss := bS5.cell to.toNat
                     rw [boolsA_at _ _ (by rw [HP.out.slen]; omega)] at ss
                     generalize seen[to.toNat]?.getD false = sb at ss
                     clear hnil hgrow bS3 bN3 cm n0 n1 e1 lN hB3 hBw3 hown3 hown))
                have hmore := HP.out.more HOK.out HQ.out.1 HQ.out.2.2.1
                rw [HTO.out] at hmore
                have hcl := cnt_le (seen.set to.toNat true)
                rw [List.length_set, HP.out.slen] at hcl
                have hgk := HGK.out
                go_roundg (n - cnt (seen.set to.toNat true))
                case rel =>
                  refine ⟨way ++ [q], to, c / 2, seen.set to.toNat true, rfl, rfl, by omega, by omega, ?_, Nat.le_refl _, ?_, ?_, hBw5.setCell (p := ⟨w1.heap.size, to.toNat, none⟩) (Nat.le_refl _) _, by simpa using hz5⟩
                  · have := HP.out.next HOK.out HQ.out.1 HQ.out.2.1 HQ.out.2.2.1 HQ.out.2.2.2
                    rw [HTO.out] at this; exact this
                  · rw [idx_snoc, List.length_append]
                    exact ownsRow_setCell_other hown' (own_blk_ne hown' bS5 (by decide)) _
                  · rw [← boolsA_set]; exact bS5.set to.toNat _
                case measure => omega
    · have hex : ¬ k < rlen ∨ (k < rlen ∧ ¬ k < 30) := by omega
      have HL := Lib.hid hG.len
      have hpost : FlowPost n es w (.returned (.slice (some ⟨w.heap.size + 1, 0, none⟩) len len)) w1 := by
        refine ⟨w.heap.size + 1, fl, by rw [HlE.out], hG, ?_, hB⟩
        have := flow_blk bF (by rw [HL.out, HlE.out]; omega)
        rw [HL.out] at this; exact this
      rcases hex with hex | ⟨hex, hex'⟩
      all_goals
        go_wp2
        go_ret
        exact hpost
end Go.Proofs.Ytcbfgdiddhhhcaa
