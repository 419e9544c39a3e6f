/-
  The document's own next way, walked.
-/
import Derived.Deep.LoopGhost
import Derived.Deep.DeepCutAuto
import Derived.Test.YthchlfoebkachaaRef2
import Derived.Test.YthchlfoebkachaaPush
namespace Go.Proofs.Ythchlfoebkachaa
open Go.RowKit Gm

theorem intsA_rep (n k : Nat) (h : k < n) : ((ints (List.replicate k (-1) ++ List.replicate (n - k) 0)).toArray).setIfInBounds k (.int .i64 (-1)) = (ints (List.replicate (k + 1) (-1) ++ List.replicate (n - (k + 1)) 0)).toArray := by
  rw [ints_set]
  congr 2
  apply List.ext_getElem?
  intro i
  rw [List.getElem?_set]
  by_cases e : k = i
  · subst e
    rw [if_pos rfl, if_pos (by simp; omega), List.getElem?_append_left (by simp)]
    simp
  · rw [if_neg e]
    by_cases h1 : i < k
    · rw [List.getElem?_append_left (by simpa using h1), List.getElem?_append_left (by simp; omega), List.getElem?_replicate, List.getElem?_replicate, if_pos h1, if_pos (by omega)]
    · rw [List.getElem?_append_right (by simp; omega), List.getElem?_append_right (by simp; omega)]
      simp only [List.length_replicate, List.getElem?_replicate]
      by_cases h2 : i < n
      · rw [if_pos (by omega), if_pos (by omega)]
      · rw [if_neg (by omega), if_neg (by omega)]
/-- A block of one number, just made, is owned. -/
theorem own_one (W : World) (base : Nat) (x : Int) (h : base ≤ W.heap.size) : (W.alloc (.cells #[.int .i64 x] 3)).ownsRow base 3 1 (.slice (some ⟨W.heap.size, 0, none⟩) 1 1) 1 (ints [x]) :=
  ⟨rfl, .inr ⟨W.heap.size, 1, #[.int .i64 x], rfl, h, World.alloc_heap_new W _, Nat.le_refl _, by simp [maxLen], rfl, rfl⟩⟩
theorem own_int {W : World} {base : Nat} {a : Option Addr} {n c : Nat} {l : List Int} (h : W.ownsRow base 3 1 (.slice a n c) l.length (ints l)) {k : Nat} (hk : k < l.length) : ∃ g, a = some ⟨g, 0, none⟩ ∧ base ≤ g ∧ g < W.heap.size ∧ W.cell? ⟨g, k, none⟩ = some (.int .i64 (l[k]?.getD 0)) := by
  rcases h.2 with ⟨_, h2⟩ | ⟨g, cap, cur, hv, hb, hg, _⟩
  · omega
  · injection hv with e1 e2 e3
    subst e1 e2
    have hc := h.cellAt (g := g) k (by omega)
    refine ⟨g, rfl, hb, (Array.getElem?_eq_some_iff.1 hg).1, ?_⟩
    rw [hc]; simp [hk]

def WayPost (n : Nat) (S : Srch) (t : Int) (w : World) (e : Ending) (w' : World) : Prop :=
  ∃ g, e = .returned (.tuple #[.slice (some ⟨g, 0, none⟩) n n, .bool (has S.seen t)]) ∧ Blk w' g 3 (ints S.by_).toArray ∧ w.heap.size ≤ g ∧ Below w.heap.size w w'
def QWayAt (w : World) (n : Nat) (a : Option Addr) (len cap : Nat) (S : Srch) (tv : Value) (wr : World) : Prop :=
  Blk wr w.heap.size 24 #[.int .i64 (n : Int), .slice a len cap] ∧ Blk wr (w.heap.size + 1) 3 (ints S.by_).toArray ∧ Blk wr (w.heap.size + 1 + 1) 4 (boolsA S.seen) ∧ wr.ownsRow (w.heap.size + 1 + 1 + 1) 3 1 tv S.todo.length (ints S.todo) ∧ Below w.heap.size w wr

set_option maxRecDepth 100000 in
set_option maxHeartbeats 4000000 in
theorem qway_any (n : Nat) (a : Option Addr) (len cap : Nat) (es : List E) (fa : Option Addr) (flen fcap : Nat) (fl : List Int) (s t : Int) (w : World) (hE : NetAt w.heap.size w a len es) (hF : FlowAt w.heap.size w fa flen fl) (hr : right n es = true) (hl : fl.length = es.length) (s0 : 0 ≤ s) (s1 : s < n) (t0 : 0 ≤ t) (t1 : t < n) :
    Calls Try.prog 44 #[netV n a len cap, .slice fa flen fcap, .int .i64 s, .int .i64 t] w (WayPost n (bfs n es fl s) t w) := by
  have hri := right_iff.1 hr
  have hn2 : 2 ≤ n := by omega
  have hn64 : n ≤ 64 := by omega
  have HQ := Lib.hid hl
  have HOK : Hid (∀ e ∈ es, okE n e = true) := Lib.hid hri.2.2.2
  have HlE := Lib.hid hE.1
  have HlF := Lib.hid hF.1
  have hql : flen = len := by rw [← hF.1, ← hE.1]; exact hl
  have hlen : flen ≤ 256 := by have := hri.2.2.1; rw [hE.1] at this; omega
  have HE := Lib.hid hE
  have HF := Lib.hid hF
  have HB := Lib.hid (fun k => bfs_is hri.2.2.2 s0 s1 k (fl := fl))
  have HBE : Hid (∀ {k : Nat}, (bfsK n es fl s k).todo.length ≤ k → bfsK n es fl s k = bfs n es fl s) := Lib.hid (fun hk => bfs_end hri.2.2.2 s0 s1 hk)
  have hmk := make_ints n (by omega)
  have hmb := make_bools n (by omega)
  obtain ⟨i0, hi0, hx0, hx1, hx2⟩ := info_parts infoInt
  clear hri hE hF hl hr
  subst hql
  go_enter Try.func44, Try.ntmps44
  go_wp2
  clear hmk hmb
  go_loopw [12] (fun i wr => ∃ k : Nat, k ≤ n ∧ i = .int .i64 k ∧ Blk wr w.heap.size 24 #[.int .i64 (n : Int), .slice a flen cap] ∧ Blk wr (w.heap.size + 1) 3 (ints (List.replicate k (-1) ++ List.replicate (n - k) 0)).toArray ∧ Blk wr (w.heap.size + 1 + 1) 4 (boolsA (List.replicate n false)) ∧ Below w.heap.size w wr) (fun i _ => n - (intOf i).toNat)
  case atStart =>
    refine ⟨0, Nat.zero_le _, rfl, ((Blk.new w _ _).alloc _).alloc _, ?_, ?_, (((Below.refl _ w).alloc (Nat.le_refl _) _).alloc (by simp) _).alloc (by simp; omega) _⟩
    · have := (Blk.new (w.alloc (.cells #[.int .i64 (n : Int), .slice a flen cap] 24)) 3 (Array.replicate n (.int .i64 0))).alloc (.cells (Array.replicate n (.bool false)) 4)
      have e : (ints (List.replicate 0 (-1) ++ List.replicate (n - 0) 0)).toArray = Array.replicate n (Value.int .i64 0) := by apply Array.toList_inj.1; simp
      rw [e]; simpa using this
    · have := Blk.new ((w.alloc (.cells #[.int .i64 (n : Int), .slice a flen cap] 24)).alloc (.cells (Array.replicate n (.int .i64 0)) 3)) 4 (Array.replicate n (.bool false))
      rw [boolsA_rep]; simpa using this
  case round =>
    obtain ⟨k, hk, rfl, bN, bY, bS, hB⟩ := hrel
    obtain ⟨w1, rfl⟩ : ∃ w', w' = wr := ⟨_, rfl⟩
    obtain ⟨lN, n0, n1⟩ := bN.two
    by_cases hlt : k < n
    · have ck := bY.cell k
      rw [ints_at _ _ (by simp; omega)] at ck
      have cf := bY.frozen k
      have lY := bY.lt
      have hki : (k : Int) < (n : Int) := by omega
      have HMO := Lib.hid (intsA_rep n k hlt)
      go_wp2
      go_roundw
      case rel => exact ⟨k + 1, by omega, by go_num, bN.far (p := ⟨w.heap.size + 1, k, none⟩) (by simp) _, by rw [← HMO.out]; exact bY.set k _, bS.far (p := ⟨w.heap.size + 1, k, none⟩) (by simp) _, hB.setCell (p := ⟨w.heap.size + 1, k, none⟩) (by simp) _⟩
      case measure => simp [intOf]; omega
    · obtain rfl : k = n := by omega
      have bY' : Blk w1 (w.heap.size + 1) 3 (ints (List.replicate k (-1))).toArray := by simpa using bY
      have cs := bS.cell s.toNat
      rw [boolsA_at _ _ (by simp; omega)] at cs
      generalize (List.replicate k false)[s.toNat]?.getD false = z at cs
      have csf := bS.frozen s.toNat
      have lS := bS.lt
      have hBs := hB.size
      clear bY
      go_wp2
      clear lN n0 n1 cs csf
      obtain ⟨w2, hw2⟩ : ∃ W, w1.setCell ⟨w.heap.size + 1 + 1, s.toNat, none⟩ (.bool true) = W := ⟨_, rfl⟩
      have hz2 : w2.heap.size = w1.heap.size := by rw [← hw2]; simp
      have bN2 : Blk w2 w.heap.size 24 #[.int .i64 (k : Int), .slice a flen cap] := by rw [← hw2]; exact bN.far (p := ⟨w.heap.size + 1 + 1, s.toNat, none⟩) (by simp; omega) _
      have bY2 : Blk w2 (w.heap.size + 1) 3 (ints (srch0 k s).by_).toArray := by rw [← hw2]; exact bY'.far (p := ⟨w.heap.size + 1 + 1, s.toNat, none⟩) (by simp) _
      have bS2 : Blk w2 (w.heap.size + 1 + 1) 4 (boolsA (srch0 k s).seen) := by
        have e : (srch0 k s).seen = (List.replicate k false).set s.toNat true := by simp [srch0, Gm.start]
        rw [e, ← hw2, ← boolsA_set]; exact bS.set _ _
      have hB2 : Below w.heap.size w w2 := by rw [← hw2]; exact hB.setCell (p := ⟨w.heap.size + 1 + 1, s.toNat, none⟩) (by simp; omega) _
      rw [hw2]
      clear hw2 bN bY' bS hB
      have hbase : w.heap.size + 1 + 1 + 1 ≤ w2.heap.size := by omega
      go_loopw [13, 14] (fun tv kv wr => ∃ j : Nat, j ≤ 64 ∧ kv = .int .i64 j ∧ QWayAt w k a flen cap (bfsK k es fl s j) tv wr) (fun _ kv _ => 64 - (intOf kv).toNat)
      case atStart => exact ⟨0, Nat.zero_le _, rfl, bN2.alloc _, bY2.alloc _, bS2.alloc _, by rw [← hz2]; exact own_one w2 _ s hbase, hB2.alloc hB2.size _⟩
      case round =>
        clear bN2 bY2 bS2 hB2 hbase lS
        obtain ⟨j, hj, rfl, bN, bY, bS, hown, hB⟩ := hrel
        obtain ⟨w3, rfl⟩ : ∃ w', w' = wr := ⟨_, rfl⟩
        have hbj := HB.out j
        obtain ⟨S, hS⟩ : ∃ S, bfsK k es fl s j = S := ⟨_, rfl⟩
        rw [hS] at bY bS hown hbj
        have hsh := hbj.inv.short
        obtain ⟨sa, sc, rfl⟩ := own_form hown
        have HS := Lib.hid hS
        have HINV := Lib.hid hbj.inv
        clear hS hbj
        by_cases hlt : j < S.todo.length
        · obtain ⟨tg, rfl, htb, htl, ct⟩ := own_int hown hlt
          obtain ⟨u, hu⟩ : ∃ u, S.todo[j]?.getD 0 = u := ⟨_, rfl⟩
          rw [hu] at ct
          have hum : u ∈ S.todo := by rw [← hu, List.getElem?_eq_getElem hlt]; exact List.getElem_mem hlt
          have hu0 := (HINV.out.td u).1 hum
          have HSC : Hid (∀ i, i ≤ es.length → Scan k es fl s u S (scanK es fl u S i) i) := Lib.hid (scan_is HOK.out HINV.out hum)
          have HUS := Lib.hid hu0.2.2
          have HNX : Hid (bfsK k es fl s (j + 1) = scanK es fl u S es.length) := Lib.hid (by
            have h1 : bfsK k es fl s (j + 1) = if j < (bfsK k es fl s j).todo.length then scanK es fl ((bfsK k es fl s j).todo[j]?.getD 0) (bfsK k es fl s j) es.length else bfsK k es fl s j := rfl
            rw [h1, HS.out, if_pos hlt, hu])
          have hu1 := hu0.1
          have hu2 := hu0.2.1
          have hj64 : j < 64 := by omega
          have hj64i : (j : Int) < 64 := by omega
          have hji : (j : Int) < (S.todo.length : Int) := by omega
          have hslen : S.todo.length ≤ 64 := by omega
          clear hu hum hu0
          go_wp2
          go_loopw [13, 16] (fun tv iv wr => ∃ i : Nat, i ≤ flen ∧ iv = .int .i64 i ∧ QWayAt w k a flen cap (scanK es fl u S i) tv wr) (fun _ iv _ => flen - (intOf iv).toNat)
          case atStart => exact ⟨0, Nat.zero_le _, rfl, bN, bY, bS, hown, hB⟩
          case round =>
            clear bN bY bS hown hB ct htb htl
            obtain ⟨i, hi, rfl, bN, bY, bS, hown, hB⟩ := hrel
            obtain ⟨w4, rfl⟩ : ∃ w', w' = wr := ⟨_, rfl⟩
            obtain ⟨X, hX⟩ : ∃ X, scanK es fl u S i = X := ⟨_, rfl⟩
            have hsc := HSC.out i (by rw [HlE.out]; exact hi)
            rw [hX] at bY bS hown hsc
            have hXs := hsc.inv.short
            have hXu := hsc.mono u hu1 HUS.out
            obtain ⟨sa, sc', rfl⟩ := own_form hown
            have HX := Lib.hid hX
            have HXI := Lib.hid hsc.inv
            have HXU := Lib.hid hXu
            have hBs := hB.size
            obtain ⟨lN, n0, n1⟩ := bN.two
            clear hX hsc hXu
            by_cases hlt2 : i < flen
            · have hkl : i < es.length := by rw [HlE.out]; exact hlt2
              obtain ⟨b, off, ha, hc⟩ := (HE.out.below hB).2.2
              obtain ⟨hb, c0, c1, c2⟩ := hc i hkl
              obtain rfl : a = some ⟨b, off, none⟩ := by
                rcases ha with h | h
                · omega
                · exact h
              obtain ⟨gb, go, hga, hgc⟩ := (HF.out.below hB).2.2.int
              obtain ⟨hgb, cf⟩ := hgc i (by rw [HQ.out]; exact hkl)
              obtain rfl : fa = some ⟨gb, go, none⟩ := by
                rcases hga with h | h
                · rw [HQ.out] at h; omega
                · exact h
              have hed : ed es i = es[i] := by unfold ed; rw [List.getElem?_eq_getElem hkl]; rfl
              have ho := HOK.out _ (ed_mem hkl)
              have cf' : w4.cell? ⟨gb, go + i, none⟩ = some (.int .i64 (Gm.fa fl i)) := cf
              rw [← hed] at c0 c1 c2
              have hin := hop_in (f := Gm.fa fl i) ho hu1 hu2
              have HST : Hid (scanK es fl u S (i + 1) = Gm.look X i (hop (ed es i) (Gm.fa fl i) u)) := Lib.hid (by rw [← HX.out]; rfl)
              obtain ⟨f, hf⟩ : ∃ f, Gm.fa fl i = f := ⟨_, rfl⟩
              obtain ⟨x, hx⟩ : ∃ x, ed es i = x := ⟨_, rfl⟩
              rw [hf] at cf' hin HST
              rw [hx] at c0 c1 c2 ho hin HST
              have hne := (okE_iff.1 ho).2.2.2.2.1
              have hways : (hop x f u = x.2.1 ∧ (x.1 == u) = true ∧ decide (f < x.2.2) = true ∧ f < x.2.2) ∨
                  (hop x f u = x.1 ∧ (x.1 == u) = false ∧ (x.2.1 == u) = true ∧ decide (0 < f) = true ∧ 0 < f) ∨
                  (hop x f u = u ∧ (((x.1 == u) = true ∧ decide (f < x.2.2) = false ∧ ¬ f < x.2.2 ∧ (x.2.1 == u) = false) ∨ ((x.1 == u) = false ∧ (x.2.1 == u) = true ∧ decide (0 < f) = false ∧ ¬ 0 < f) ∨ ((x.1 == u) = false ∧ (x.2.1 == u) = false))) := by
                unfold hop
                by_cases e1 : x.1 = u
                · have e2 : ¬ x.2.1 = u := fun h => hne (e1.trans h.symm)
                  by_cases e3 : f < x.2.2
                  · left; simp [e1, e3]
                  · right; right; simp [e1, e2, e3]
                · by_cases e2 : x.2.1 = u
                  · by_cases e3 : 0 < f
                    · right; left; simp [e1, e2, e3]
                    · right; right; simp [e1, e2, e3]
                  · right; right; simp [e1, e2]
              obtain ⟨y, hy⟩ : ∃ y, hop x f u = y := ⟨_, rfl⟩
              rw [hy] at hin hways
              have HST' : Hid (scanK es fl u S (i + 1) = Gm.look X i y) := Lib.hid (by rw [HST.out, hy])
              obtain ⟨hy0, hy1⟩ := hin
              have cs := bS.cell y.toNat
              rw [boolsA_at _ _ (by rw [HXI.out.sl]; omega)] at cs
              have cs' : w4.cell? ⟨w.heap.size + 1 + 1, y.toNat, none⟩ = some (.bool (has X.seen y)) := cs
              have hpre : ∀ (W : World), w4.alloc (.cells #[.int .i64 x.1, .int .i64 x.2.1, .int .i64 x.2.2] 50) = W → Blk W w.heap.size 24 #[.int .i64 (k : Int), .slice (some ⟨b, off, none⟩) flen cap] ∧ Blk W (w.heap.size + 1) 3 (ints X.by_).toArray ∧ Blk W (w.heap.size + 1 + 1) 4 (boolsA X.seen) ∧ W.ownsRow (w.heap.size + 1 + 1 + 1) 3 1 (.slice sa X.todo.length sc') X.todo.length (ints X.todo) ∧ Below w.heap.size w W ∧ Blk W w4.heap.size 50 #[.int .i64 x.1, .int .i64 x.2.1, .int .i64 x.2.2] ∧ (∀ q : Nat, ∀ i v, q < w4.heap.size → w4.cell? ⟨q, i, none⟩ = some v → W.cell? ⟨q, i, none⟩ = some v) := fun W h => by
                subst h
                refine ⟨bN.alloc _, bY.alloc _, bS.alloc _, hown.alloc _, hB.alloc hBs _, Blk.new w4 _ _, fun q i v h1 h2 => ?_⟩
                rw [← h2]; exact World.cell?_alloc_lt w4 _ ⟨q, i, none⟩ h1
              have HPRE := Lib.hid hpre
              have hb4 : b < w4.heap.size := by omega
              have hgb4 : gb < w4.heap.size := by omega
              have lS := bS.lt
              have hii : (i : Int) < (flen : Int) := by omega
              have HKL := Lib.hid hkl
              have hXs' : X.todo.length ≤ 64 := by omega
              clear ha hc hga hgc cf hf hx hed ho hne hy hpre cs HST hkl hXs
              have hall : (has X.seen y = true ∧ ((y = x.2.1 ∧ (x.1 == u) = true ∧ decide (f < x.2.2) = true ∧ f < x.2.2) ∨ (y = x.1 ∧ (x.1 == u) = false ∧ (x.2.1 == u) = true ∧ decide (0 < f) = true ∧ 0 < f) ∨ (y = u ∧ (x.1 == u) = true ∧ decide (f < x.2.2) = false ∧ ¬ f < x.2.2 ∧ (x.2.1 == u) = false) ∨ (y = u ∧ (x.1 == u) = false ∧ (x.2.1 == u) = true ∧ decide (0 < f) = false ∧ ¬ 0 < f) ∨ (y = u ∧ (x.1 == u) = false ∧ (x.2.1 == u) = false))) ∨
                  (has X.seen y = false ∧ ((y = x.2.1 ∧ (x.1 == u) = true ∧ decide (f < x.2.2) = true ∧ f < x.2.2) ∨ (y = x.1 ∧ (x.1 == u) = false ∧ (x.2.1 == u) = true ∧ decide (0 < f) = true ∧ 0 < f))) := by
                rcases hb : has X.seen y with _ | _
                · right
                  refine ⟨rfl, ?_⟩
                  rcases hways with h | h | ⟨h, _⟩
                  · exact .inl h
                  · exact .inr h
                  · rw [h, HXU.out] at hb; cases hb
                · left
                  refine ⟨rfl, ?_⟩
                  rcases hways with h | h | ⟨h, h1 | h1 | h1⟩
                  · exact .inl h
                  · exact .inr (.inl h)
                  · exact .inr (.inr (.inl ⟨h, h1⟩))
                  · exact .inr (.inr (.inr (.inl ⟨h, h1⟩)))
                  · exact .inr (.inr (.inr (.inr ⟨h, h1⟩)))
              clear hways
              rcases hall with ⟨hsn, hw⟩ | ⟨hsn, hw⟩
              · have HLK : Hid (scanK es fl u S (i + 1) = X) := Lib.hid (by rw [HST'.out]; unfold Gm.look; rw [if_pos hsn])
                rw [hsn] at cs'
                clear hsn HST'
                rcases hw with ⟨hyy, g1, g2, g3⟩ | ⟨hyy, g1, g2, g3, g4⟩ | ⟨hyy, g1, g2, g3, g4⟩ | ⟨hyy, g1, g2, g3, g4⟩ | ⟨hyy, g1, g2⟩
                all_goals
                  subst hyy
                  go_wp2
                  obtain ⟨w5, hw5⟩ : ∃ W, w4.alloc (.cells #[.int .i64 x.1, .int .i64 x.2.1, .int .i64 x.2.2] 50) = W := ⟨_, rfl⟩
                  obtain ⟨bN5, bY5, bS5, hown5, hB5, bE5, hc5⟩ := HPRE.out _ hw5
                  rw [hw5]
                  replace cs' := hc5 _ _ _ lS cs'
                  replace cf' := hc5 _ _ _ hgb4 cf'
                  obtain ⟨lE, q0, q1, q2⟩ := bE5.three
                  clear hw5 hc5 c0 c1 c2 lN n0 n1
                  go_quiet (fail)
                  go_wp2
                  go_roundw
                  case rel => exact ⟨i + 1, by omega, by go_num, by rw [HLK.out]; exact ⟨bN5.drewN _, bY5.drewN _, bS5.drewN _, hown5, below_drewN hB5 _⟩⟩
                  case measure => simp [intOf]; omega
              · have HLK : Hid (scanK es fl u S (i + 1) = ⟨X.seen.set y.toNat true, X.by_.set y.toNat i, X.todo ++ [y]⟩) := Lib.hid (by rw [HST'.out]; unfold Gm.look; rw [if_neg (by rw [hsn]; exact Bool.false_ne_true)])
                rw [hsn] at cs'
                clear hsn HST'
                rcases hw with ⟨hyy, g1, g2, g3⟩ | ⟨hyy, g1, g2, g3, g4⟩
                · subst hyy
                  go_wp2
                  obtain ⟨w5, hw5⟩ : ∃ W, w4.alloc (.cells #[.int .i64 x.1, .int .i64 x.2.1, .int .i64 x.2.2] 50) = W := ⟨_, rfl⟩
                  obtain ⟨bN5, bY5, bS5, hown5, hB5, bE5, hc5⟩ := HPRE.out _ hw5
                  rw [hw5]
                  replace cs' := hc5 _ _ _ lS cs'
                  replace cf' := hc5 _ _ _ hgb4 cf'
                  obtain ⟨lE, q0, q1, q2⟩ := bE5.three
                  have sf := bS5.frozen x.2.1.toNat
                  have lS5 := bS5.lt
                  have cy := bY5.cell x.2.1.toNat
                  rw [ints_at _ _ (by rw [HXI.out.bl]; omega)] at cy
                  have yf := bY5.frozen x.2.1.toNat
                  have lY5 := bY5.lt
                  clear hw5 hc5 c0 c1 c2 lN n0 n1
                  go_quiet (fail)
                  go_upto_region 25 with fail
                  have hown6 := ownsRow_setCell_other (ownsRow_setCell_other (w := w5.drewN nq) hown5 (a := ⟨w.heap.size + 1 + 1, x.2.1.toNat, none⟩) (fun e => by have := (hown5.lt _ e).1; simp at this; omega) (.bool true)) (a := ⟨w.heap.size + 1, x.2.1.toNat, none⟩) (fun e => by have := (hown5.lt _ e).1; simp at this; omega) (.int .i64 (i : Int))
                  have bN6 := ((bN5.drewN nq).far (p := ⟨w.heap.size + 1 + 1, x.2.1.toNat, none⟩) (by simp; omega) (.bool true)).far (p := ⟨w.heap.size + 1, x.2.1.toNat, none⟩) (by simp) (.int .i64 (i : Int))
                  have bY6 := ((bY5.drewN nq).far (p := ⟨w.heap.size + 1 + 1, x.2.1.toNat, none⟩) (by simp) (.bool true)).set x.2.1.toNat (.int .i64 (i : Int))
                  have bS6 := ((bS5.drewN nq).set x.2.1.toNat (.bool true)).far (p := ⟨w.heap.size + 1, x.2.1.toNat, none⟩) (by simp) (.int .i64 (i : Int))
                  have hB6 := ((below_drewN hB5 nq).setCell (p := ⟨w.heap.size + 1 + 1, x.2.1.toNat, none⟩) (by simp; omega) (.bool true)).setCell (p := ⟨w.heap.size + 1, x.2.1.toNat, none⟩) (by simp) (.int .i64 (i : Int))
                  have hz6 : w.heap.size + 1 + 1 + 1 ≤ (((w5.drewN nq).setCell ⟨w.heap.size + 1 + 1, x.2.1.toNat, none⟩ (.bool true)).setCell ⟨w.heap.size + 1, x.2.1.toNat, none⟩ (.int .i64 (i : Int))).heap.size := by
                    have h1 : w5.heap.size = (w5.drewN nq).heap.size := rfl
                    simp; omega
                  rw [boolsA_set] at bS6
                  rw [ints_set] at bY6
                  clear bN5 bY5 bS5 hown5 hB5 bE5 cs' cf' lE q0 q1 q2 sf lS5 cy yf lY5
                  generalize ((w5.drewN nq).setCell ⟨w.heap.size + 1 + 1, x.2.1.toNat, none⟩ (.bool true)).setCell ⟨w.heap.size + 1, x.2.1.toNat, none⟩ (.int .i64 (i : Int)) = w6 at *
                  go_wp2_with (
                    at_builtin
                    refine wpList_append_own _ rfl _ _ 25 rfl (w.heap.size + 1 + 1 + 1) 3 i0 _ 1 8 Try.underlying25 hi0 hx0 hx1 hx2 rfl (by decide) _ X.todo.length (ints X.todo) rfl (hown6.alloc _) ⟨w6.heap.size, 0, none⟩ 1 1 [.int .i64 x.2.1] rfl rfl (cell_one_new _ _ _) (by simp [Value.oneCell']) (by simp [maxLen]; omega) (by omega) (by simp; omega) ?_
                    intro v' w7 hown' hgrow hnil)
                  go_roundw
                  case rel =>
                    refine ⟨i + 1, by omega, by go_num, ?_⟩
                    rw [HLK.out]
                    refine ⟨(bN6.alloc _).kept hgrow (fun e => by have := (hown6.lt _ e.symm).1; omega), (bY6.alloc _).kept hgrow (fun e => by have := (hown6.lt _ e.symm).1; omega), (bS6.alloc _).kept hgrow (fun e => by have := (hown6.lt _ e.symm).1; omega), ?_, (hB6.alloc hB6.size _).grown hgrow (by have := hB6.size; simp; omega) (fun g e => by have := (hown6.lt _ e).1; omega)⟩
                    have e1 : (X.todo ++ [x.2.1]).length = X.todo.length + 1 := by simp
                    have e2 : ints (X.todo ++ [x.2.1]) = ints X.todo ++ [.int .i64 x.2.1] := by simp
                    show w7.ownsRow _ _ _ _ (X.todo ++ [x.2.1]).length (ints (X.todo ++ [x.2.1]))
                    rw [e1, e2]; exact hown'
                  case measure => simp [intOf]; omega
                · subst hyy
                  go_wp2
                  obtain ⟨w5, hw5⟩ : ∃ W, w4.alloc (.cells #[.int .i64 x.1, .int .i64 x.2.1, .int .i64 x.2.2] 50) = W := ⟨_, rfl⟩
                  obtain ⟨bN5, bY5, bS5, hown5, hB5, bE5, hc5⟩ := HPRE.out _ hw5
                  rw [hw5]
                  replace cs' := hc5 _ _ _ lS cs'
                  replace cf' := hc5 _ _ _ hgb4 cf'
                  obtain ⟨lE, q0, q1, q2⟩ := bE5.three
                  have sf := bS5.frozen x.1.toNat
                  have lS5 := bS5.lt
                  have cy := bY5.cell x.1.toNat
                  rw [ints_at _ _ (by rw [HXI.out.bl]; omega)] at cy
                  have yf := bY5.frozen x.1.toNat
                  have lY5 := bY5.lt
                  clear hw5 hc5 c0 c1 c2 lN n0 n1
                  go_quiet (fail)
                  go_upto_region 25 with fail
                  have hown6 := ownsRow_setCell_other (ownsRow_setCell_other (w := w5.drewN nq) hown5 (a := ⟨w.heap.size + 1 + 1, x.1.toNat, none⟩) (fun e => by have := (hown5.lt _ e).1; simp at this; omega) (.bool true)) (a := ⟨w.heap.size + 1, x.1.toNat, none⟩) (fun e => by have := (hown5.lt _ e).1; simp at this; omega) (.int .i64 (i : Int))
                  have bN6 := ((bN5.drewN nq).far (p := ⟨w.heap.size + 1 + 1, x.1.toNat, none⟩) (by simp; omega) (.bool true)).far (p := ⟨w.heap.size + 1, x.1.toNat, none⟩) (by simp) (.int .i64 (i : Int))
                  have bY6 := ((bY5.drewN nq).far (p := ⟨w.heap.size + 1 + 1, x.1.toNat, none⟩) (by simp) (.bool true)).set x.1.toNat (.int .i64 (i : Int))
                  have bS6 := ((bS5.drewN nq).set x.1.toNat (.bool true)).far (p := ⟨w.heap.size + 1, x.1.toNat, none⟩) (by simp) (.int .i64 (i : Int))
                  have hB6 := ((below_drewN hB5 nq).setCell (p := ⟨w.heap.size + 1 + 1, x.1.toNat, none⟩) (by simp; omega) (.bool true)).setCell (p := ⟨w.heap.size + 1, x.1.toNat, none⟩) (by simp) (.int .i64 (i : Int))
                  have hz6 : w.heap.size + 1 + 1 + 1 ≤ (((w5.drewN nq).setCell ⟨w.heap.size + 1 + 1, x.1.toNat, none⟩ (.bool true)).setCell ⟨w.heap.size + 1, x.1.toNat, none⟩ (.int .i64 (i : Int))).heap.size := by
                    have h1 : w5.heap.size = (w5.drewN nq).heap.size := rfl
                    simp; omega
                  rw [boolsA_set] at bS6
                  rw [ints_set] at bY6
                  clear bN5 bY5 bS5 hown5 hB5 bE5 cs' cf' lE q0 q1 q2 sf lS5 cy yf lY5
                  generalize ((w5.drewN nq).setCell ⟨w.heap.size + 1 + 1, x.1.toNat, none⟩ (.bool true)).setCell ⟨w.heap.size + 1, x.1.toNat, none⟩ (.int .i64 (i : Int)) = w6 at *
                  go_wp2_with (
                    at_builtin
                    refine wpList_append_own _ rfl _ _ 25 rfl (w.heap.size + 1 + 1 + 1) 3 i0 _ 1 8 Try.underlying25 hi0 hx0 hx1 hx2 rfl (by decide) _ X.todo.length (ints X.todo) rfl (hown6.alloc _) ⟨w6.heap.size, 0, none⟩ 1 1 [.int .i64 x.1] rfl rfl (cell_one_new _ _ _) (by simp [Value.oneCell']) (by simp [maxLen]; omega) (by omega) (by simp; omega) ?_
                    intro v' w7 hown' hgrow hnil)
                  go_roundw
                  case rel =>
                    refine ⟨i + 1, by omega, by go_num, ?_⟩
                    rw [HLK.out]
                    refine ⟨(bN6.alloc _).kept hgrow (fun e => by have := (hown6.lt _ e.symm).1; omega), (bY6.alloc _).kept hgrow (fun e => by have := (hown6.lt _ e.symm).1; omega), (bS6.alloc _).kept hgrow (fun e => by have := (hown6.lt _ e.symm).1; omega), ?_, (hB6.alloc hB6.size _).grown hgrow (by have := hB6.size; simp; omega) (fun g e => by have := (hown6.lt _ e).1; omega)⟩
                    have e1 : (X.todo ++ [x.1]).length = X.todo.length + 1 := by simp
                    have e2 : ints (X.todo ++ [x.1]) = ints X.todo ++ [.int .i64 x.1] := by simp
                    show w7.ownsRow _ _ _ _ (X.todo ++ [x.1]).length (ints (X.todo ++ [x.1]))
                    rw [e1, e2]; exact hown'
                  case measure => simp [intOf]; omega
            · obtain rfl : i = flen := by omega
              have HFX : Hid (bfsK k es fl s (j + 1) = X) := Lib.hid (by rw [HNX.out, HlE.out, HX.out])
              go_wp2
              go_roundw
              case rel => exact ⟨j + 1, by omega, by go_num, by rw [HFX.out]; exact ⟨bN, bY, bS, hown, hB⟩⟩
              case measure => simp [intOf]; omega
        · have HEND : Hid (bfs k es fl s = S) := Lib.hid (by rw [← HBE.out (k := j) (by rw [HS.out]; omega), HS.out])
          have ct := bS.cell t.toNat
          rw [boolsA_at _ _ (by rw [HINV.out.sl]; omega)] at ct
          have ct' : w3.cell? ⟨w.heap.size + 1 + 1, t.toNat, none⟩ = some (.bool (has S.seen t)) := ct
          generalize hT : has S.seen t = T at ct'
          have HT := Lib.hid hT
          have lS := bS.lt
          have hnot : ¬ j < S.todo.length := hlt
          clear ct hT
          go_wp2
          go_quiet (fail)
          go_wp2
          go_ret2
          exact ⟨w.heap.size + 1, by rw [HEND.out, HT.out]; rfl, by rw [HEND.out]; exact bY.drewN _, by omega, below_drewN hB _⟩
end Go.Proofs.Ythchlfoebkachaa
