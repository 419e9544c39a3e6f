/-
  The law package's mirrored: a network whose edges all lead the other way.
-/
import Derived.Test.YthaioeebnpjajaaTurned
import Derived.Deep.AppendLies
import Derived.Test.YthaioeebnpjajaaMix
import Derived.Deep.RegionLaw
import Derived.RegionTactic
namespace Go.Proofs.Ythaioeebnpjajaa
open Go.RowKit Gm

def MirPost (N : Int) (es : List E) (w : World) (e : Ending) (w' : World) : Prop :=
  ∃ a cap, e = .returned (netV N a es.length cap) ∧ NetAt w'.heap.size w' a es.length (es.map flip) ∧ Below w.heap.size w w'
def MirAt (w : World) (N : Int) (a : Option Addr) (len cap : Nat) (es : List E) (k : Nat) (wr : World) : Prop :=
  (Blk wr w.heap.size 24 #[.int .i64 N, .slice a len cap] ∧ Blk wr (w.heap.size + 1) 24 #[.int .i64 0, .slice none 0 0]) ∧ (∃ sl, Blk wr (w.heap.size + 1 + 1) 24 #[.int .i64 N, sl] ∧ wr.ownsRow w.heap.size 41 3 sl k (flat ((es.take k).map flip))) ∧ Below w.heap.size w wr

set_option maxRecDepth 100000 in
set_option maxHeartbeats 1000000 in
theorem mir_any (N : Int) (a : Option Addr) (len cap : Nat) (es : List E) (w : World) (hE : NetAt w.heap.size w a len es) (hl : len ≤ 300) :
    Calls Try.prog 25 #[netV N a len cap] w (MirPost N es w) := by
  have HlE := Lib.hid hE.1
  have HE := Lib.hid hE
  clear hE
  obtain ⟨i0, hi0, hz0, hz1, hz2⟩ := info_parts infoEdge
  go_enter Try.func25, Try.ntmps25
  go_wp2
  go_loopw [4] (fun i wr => ∃ k : Nat, k ≤ len ∧ i = .int .i64 k ∧ MirAt w N a len cap es k wr) (fun i _ => len - (intOf i).toNat)
  case atStart =>
    refine ⟨0, Nat.zero_le _, rfl, ⟨((Blk.new w _ _).alloc _).alloc _, ?_⟩, ⟨.slice none 0 0, ?_, by simp [flat], .inl ⟨rfl, rfl⟩⟩, (((Below.refl _ w).alloc (Nat.le_refl _) _).alloc (by simp) _).alloc (by simp; omega) _⟩
    · have := (Blk.new (w.alloc (.cells #[.int .i64 N, .slice a len cap] 24)) 24 #[.int .i64 0, .slice none 0 0]).alloc (.cells #[.int .i64 N, .slice none 0 0] 24)
      simp only [World.size_alloc] at this; exact this
    · have := Blk.new ((w.alloc (.cells #[.int .i64 N, .slice a len cap] 24)).alloc (.cells #[.int .i64 0, .slice none 0 0] 24)) 24 #[.int .i64 N, .slice none 0 0]
      simp only [World.size_alloc] at this; exact this
  case round =>
    obtain ⟨k, hk, rfl, ⟨bN, bR⟩, ⟨sl, bM, hown⟩, hB⟩ := hrel
    obtain ⟨lN, n0, n1⟩ := bN.two
    obtain ⟨lM, m0, m1⟩ := bM.two
    have mf := bM.frozen 1
    by_cases hlt : k < len
    · have hkl : k < es.length := by rw [HlE.out]; exact hlt
      obtain ⟨b, off, ha, hc⟩ := (HE.out.below hB).2.2
      obtain ⟨hb, c0, c1, c2⟩ := hc k hkl
      obtain rfl : a = some ⟨b, off, none⟩ := by
        rcases ha with h | h
        · omega
        · exact h
      clear ha hc
      obtain ⟨x, hx⟩ : ∃ x, es[k] = x := ⟨_, rfl⟩
      rw [hx] at c0 c1 c2
      have HT : Hid ((es.take (k + 1)).map flip = (es.take k).map flip ++ [flip x]) := Lib.hid (by
        rw [List.take_succ_eq_append_getElem hkl, hx, List.map_append]; rfl)
      have hki : (k : Int) < (len : Int) := by omega
      clear hx hkl
      go_wp2
      have hwr := hB.size
      have bM1 := (bM.alloc (.cells #[.int .i64 x.2.1, .int .i64 x.1, .int .i64 x.2.2] 41)).drew
      have bN1 := (bN.alloc (.cells #[.int .i64 x.2.1, .int .i64 x.1, .int .i64 x.2.2] 41)).drew
      have bR1 := (bR.alloc (.cells #[.int .i64 x.2.1, .int .i64 x.1, .int .i64 x.2.2] 41)).drew
      have hB1 := below_drew (hB.alloc hB.size (.cells #[.int .i64 x.2.1, .int .i64 x.1, .int .i64 x.2.2] 41))
      have hown1 := (hown.alloc (.cells #[.int .i64 x.2.1, .int .i64 x.1, .int .i64 x.2.2] 41)).drew
      have cuts := cells_three wr (.int .i64 x.2.1) (.int .i64 x.1) (.int .i64 x.2.2) 41
      have q0 := n1
      have q1 := m1
      refine region_mix (fun W => (W.cell? ⟨w.heap.size, 1, none⟩ = some (.slice (some ⟨b, off, none⟩) len cap) ∧ W.cell? ⟨w.heap.size + 1 + 1, 1, none⟩ = some sl ∧ W.cell? ⟨b, off + k * 3, none⟩ = some (.int .i64 x.1) ∧ W.cell? ⟨b, off + k * 3 + 1, none⟩ = some (.int .i64 x.2.1) ∧ W.cell? ⟨b, off + k * 3 + 2, none⟩ = some (.int .i64 x.2.2))) (22) (.reads [0, 1, 2, 3, 4, 5, 6, 7, 8, 9, 10, 11, 12, 13, 14, 15, 16, 17, 18, 19, 20] (.only 21 (.only 22 (.only 23 (.only 24 (.stop)))))) (by kernel_rfl) (by kernel_rfl) (⟨n1, m1, c0, c1, c2⟩) ?_
      repeat (
        refine plan_read rfl (fun K hK => ?_)
        first
          | (refine plan_neg ?_ ?_
             focus (go_simp; done)
             go_simp
             refine hK _ ?_
             clear hK K)
          | (apply plan_pos
             focus (go_simp; done)
             focus (
               intro W hW
               (obtain ⟨d0, d1, d2, d3, d4⟩ := hW)
               go_simp
               first
                 | done
                 | exact rfl)
             go_simp
             refine hK _ ?_
             clear hK K))
      refine plan_only rfl (fun Q hQ => ?_)
      go_wp2
      have hz2' : ((wr.alloc (.cells #[.int .i64 x.2.1, .int .i64 x.1, .int .i64 x.2.2] 41)).drew).heap.size = wr.heap.size + 1 := by simp
      have hcl : ∀ g i v, g < wr.heap.size → wr.cell? ⟨g, i, none⟩ = some v → ((wr.alloc (.cells #[.int .i64 x.2.1, .int .i64 x.1, .int .i64 x.2.2] 41)).drew).cell? ⟨g, i, none⟩ = some v := fun g i v h1 h2 => by
        rw [show ((wr.alloc (.cells #[.int .i64 x.2.1, .int .i64 x.1, .int .i64 x.2.2] 41)).drew).cell? ⟨g, i, none⟩ = (wr.alloc (.cells #[.int .i64 x.2.1, .int .i64 x.1, .int .i64 x.2.2] 41)).cell? ⟨g, i, none⟩ from rfl, World.cell?_alloc_lt wr _ ⟨g, i, none⟩ h1]; exact h2
      have cuts2 : ∀ j u, [Value.int .i64 x.2.1, .int .i64 x.1, .int .i64 x.2.2][j]? = some u → ((wr.alloc (.cells #[.int .i64 x.2.1, .int .i64 x.1, .int .i64 x.2.2] 41)).drew).cell? ((⟨wr.heap.size, 0, none⟩ : Addr).add j) = some u := cuts
      have hbw : b < wr.heap.size := by omega
      refine hQ _ _ (fun _ => ⟨hcl _ _ _ lN n1, hcl _ _ _ lM m1, hcl _ _ _ hbw c0, hcl _ _ _ hbw c1, hcl _ _ _ hbw c2⟩) ?_
      clear hQ Q
      generalize (wr.alloc (.cells #[.int .i64 x.2.1, .int .i64 x.1, .int .i64 x.2.2] 41)).drew = w2 at *
      refine plan_only rfl (fun Q hQ => ?_)
      refine wpList_append_lies _ (by rfl) (.tmp 16) (.tmp 36) 22 (by rfl) w.heap.size 41 i0 _ 3 24 Try.underlying22 hi0 hz0 hz1 hz2 rfl (by decide) sl k (flat ((es.take k).map flip)) (by rfl) hown1 ⟨wr.heap.size, 0, none⟩ 1 1 [.int .i64 x.2.1, .int .i64 x.1, .int .i64 x.2.2] (by rfl) (by rfl) cuts2 (by simp [Value.oneCell']) (by omega) (by simp [maxLen]; omega) (by omega) (by omega) w2.heap.size rfl ?_
      intro gg cap' w3 hown' hgrow hat hlt'
      have bM3 := bM1.kept hgrow (own_blk_ne hown1 bM1 (by decide)).symm
      have bN3 := bN1.kept hgrow (own_blk_ne hown1 bN1 (by decide)).symm
      have bR3 := bR1.kept hgrow (own_blk_ne hown1 bR1 (by decide)).symm
      have hB3 := hB1.grown hgrow (by have := hB1.size; omega) (fun j e => (hown1.lt j e).1)
      obtain ⟨lM3, q0, q1⟩ := bM3.two
      have qf := bM3.frozen 1
      clear hcl n0 n1 m0 m1 c0 c1 c2 hown hown1 cuts2 bM bN bR bM1 bN1 bR1 hat lN lM mf
      go_wp2
      refine hQ _ _ (fun h => absurd h (by omega)) ?_
      clear hQ Q
      refine plan_only rfl (fun Q hQ => ?_)
      go_wp2
      refine hQ _ _ (fun h => absurd h (by omega)) ?_
      clear hQ Q
      refine plan_only rfl (fun Q hQ => ?_)
      go_wp2
      refine hQ _ _ (fun h => absurd h (by omega)) ?_
      clear hQ Q
      unfold Plan.wp
      go_wp2
      go_roundw
      case rel =>
        refine ⟨k + 1, by omega, by go_num, ⟨bN3.far (p := ⟨w.heap.size + 1 + 1, 1, none⟩) (by simp; omega) _, bR3.far (p := ⟨w.heap.size + 1 + 1, 1, none⟩) (by simp) _⟩, ⟨_, bM3.set 1 _, ?_⟩, hB3.setCell (p := ⟨w.heap.size + 1 + 1, 1, none⟩) (by simp; omega) _⟩
        rw [HT.out, flat_snoc]
        exact ownsRow_setCell_other hown' (own_blk_ne hown' bM3 (by decide)) _
      case measure => simp [intOf]; omega
    · obtain rfl : k = es.length := by have := HlE.out; omega
      have HFE : Hid (flat ((es.take es.length).map flip) = flat (es.map flip)) := Lib.hid (by rw [List.take_length])
      obtain ⟨lR, r0, r1⟩ := bR.two
      have rf0 := bR.frozen 0
      have rf1 := bR.frozen 1
      obtain ⟨sa, sc, rfl⟩ := own_form hown
      have hR2 := ((bR.set 0 (.int .i64 N)).set 1 (.slice sa es.length sc))
      obtain ⟨_, z0, z1⟩ := hR2.two
      have hown2 : ((wr.setCell ⟨w.heap.size + 1, 0, none⟩ (.int .i64 N)).setCell ⟨w.heap.size + 1, 1, none⟩ (.slice sa es.length sc)).ownsRow w.heap.size 41 3 (.slice sa es.length sc) es.length (flat ((es.take es.length).map flip)) :=
        ownsRow_setCell_other (ownsRow_setCell_other hown (a := ⟨w.heap.size + 1, 0, none⟩) (own_blk_ne hown bR (by decide)) _) (a := ⟨w.heap.size + 1, 1, none⟩) (own_blk_ne hown bR (by decide)) _
      have hB2 := (hB.setCell (p := ⟨w.heap.size + 1, 0, none⟩) (by simp) (.int .i64 N)).setCell (p := ⟨w.heap.size + 1, 1, none⟩) (by simp) (.slice sa es.length sc)
      go_wp2
      refine bodyPost_ret (v := netV N sa es.length sc) (by simp [results, Try.results25, go_sem, z0, z1]) rfl ?_
      rw [HFE.out] at hown2
      have hE2 := edges_own (es := es.map flip) (by simpa using hown2) (by simp; omega)
      exact ⟨sa, sc, rfl, by simpa using hE2.2, hB2⟩
end Go.Proofs.Ythaioeebnpjajaa
