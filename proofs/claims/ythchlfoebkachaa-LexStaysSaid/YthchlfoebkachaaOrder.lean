/-
  The laws' own Order, walked: the sources of a network, each once.
-/
import Derived.Deep.AppendLies
import Derived.Deep.DeepCutAuto
import Derived.Test.YthchlfoebkachaaMix
import Derived.Test.YthchlfoebkachaaQway
import Derived.Test.YthchlfoebkachaaSlices7
import Derived.Test.YthchlfoebkachaaNumbers7
namespace Go.Proofs.Ythchlfoebkachaa
open Go.RowKit Gm

/-- The first sources of a network, in its order. -/
def srcs (es : List E) : Nat → List Int
  | 0 => []
  | k + 1 => if (ed es k).1 = 0 then srcs es k ++ [(k : Int)] else srcs es k
theorem srcs_len (es : List E) : ∀ k, (srcs es k).length ≤ k
  | 0 => Nat.le_refl _
  | k + 1 => by
    have := srcs_len es k
    unfold srcs
    split
    · rw [List.length_append]; simp; omega
    · omega
theorem srcs_mem {es : List E} : ∀ {k : Nat} {x : Int}, x ∈ srcs es k ↔ 0 ≤ x ∧ x < k ∧ (ed es x.toNat).1 = 0
  | 0, x => by simp [srcs]; omega
  | k + 1, x => by
    have ih := srcs_mem (es := es) (k := k) (x := x)
    unfold srcs
    by_cases h : (ed es k).1 = 0
    · rw [if_pos h, List.mem_append, ih, List.mem_singleton]
      constructor
      · rintro (⟨a, b, c⟩ | rfl)
        · exact ⟨a, by omega, c⟩
        · exact ⟨by omega, by omega, by simpa using h⟩
      · rintro ⟨a, b, c⟩
        by_cases e : x = (k : Int)
        · exact .inr e
        · exact .inl ⟨a, by omega, c⟩
    · rw [if_neg h, ih]
      constructor
      · rintro ⟨a, b, c⟩; exact ⟨a, by omega, c⟩
      · rintro ⟨a, b, c⟩
        refine ⟨a, ?_, c⟩
        by_cases e : x = (k : Int)
        · subst e; exact absurd (by simpa using c) h
        · omega
theorem srcs_nodup (es : List E) : ∀ k, (srcs es k).Nodup
  | 0 => by simp [srcs]
  | k + 1 => by
    have ih := srcs_nodup es k
    unfold srcs
    split
    · refine List.nodup_append.2 ⟨ih, by simp, fun a ha b hb e => ?_⟩
      have := (srcs_mem.1 ha).2.1
      rw [List.mem_singleton.1 hb] at e
      omega
    · exact ih
theorem own_less {W : World} {b b' size n : Nat} {e : TypeId} {v : Value} {xs : List Value} (h : W.ownsRow b e size v n xs) (hb : b' ≤ b) : W.ownsRow b' e size v n xs := by
  obtain ⟨h1, h2⟩ := h
  refine ⟨h1, ?_⟩
  rcases h2 with h2 | ⟨g, cap, cur, hv, hg, r⟩
  · exact .inl h2
  · exact .inr ⟨g, cap, cur, hv, by omega, r⟩
theorem own_cap {W : World} {base size n c : Nat} {e : TypeId} {a : Option Addr} {xs : List Value} (h : W.ownsRow base e size (.slice a n c) n xs) : n ≤ c := by
  rcases h.2 with ⟨h1, h2⟩ | ⟨g, cap, cur, hv, _, _, hnc, _⟩
  · injection h1 with e1 e2 e3; omega
  · injection hv with e1 e2 e3; omega
def OrderPost (es : List E) (w : World) (e : Ending) (w' : World) : Prop :=
  ∃ a c o, e = .returned (.slice a o.length c) ∧ FlowAt w'.heap.size w' a o.length o ∧ o.length ≤ c ∧ o.Perm (srcs es es.length) ∧ Below w.heap.size w w'

set_option maxRecDepth 100000 in
set_option maxHeartbeats 8000000 in
theorem order_any (n : Nat) (a : Option Addr) (len cap : Nat) (es : List E) (ra : Option Addr) (rlen rcap : Nat) (raw : List Int) (w : World) (hE : NetAt w.heap.size w a len es) (hR0 : FlowAt w.heap.size w ra rlen raw) (hraw : ∀ x ∈ raw, I64 x) (h300 : len ≤ 300) :
    Calls Try.prog 14 #[netV n a len cap, .slice ra rlen rcap] w (OrderPost es w) := by
  have HlE := Lib.hid hE.1
  have HlR := Lib.hid hR0.1
  have hrl := hR0.2.1
  have HE := Lib.hid hE
  have HRR := Lib.hid hR0
  have HRAW := Lib.hid hraw
  clear hE hR0 hraw
  obtain ⟨i0, hi0, hz0, hz1, hz2⟩ := info_parts infoInt
  go_enter Try.func14, Try.ntmps14
  go_wp2
  go_loopw [5, 6] (fun rv kv wr => ∃ k : Nat, k ≤ len ∧ kv = .int .i64 k ∧ wr.ownsRow (w.heap.size + 1) 3 1 rv (srcs es k).length (ints (srcs es k)) ∧ Blk wr w.heap.size 24 #[.int .i64 (n : Int), .slice a len cap] ∧ Below w.heap.size w wr) (fun _ kv _ => len - (intOf kv).toNat)
  case atStart => exact ⟨0, Nat.zero_le _, rfl, World.ownsRow_nil _ _ _ _, Blk.new w _ _, (Below.refl _ w).alloc (Nat.le_refl _) _⟩
  case round =>
    obtain ⟨k, hk, rfl, hO, bN, hB⟩ := hrel
    obtain ⟨w1, rfl⟩ : ∃ w', w' = wr := ⟨_, rfl⟩
    obtain ⟨lN, n0, n1⟩ := bN.two
    have hz1' := hB.size
    obtain ⟨sa, sc, rfl⟩ := own_form hO
    have hsl := srcs_len es k
    by_cases hlt : k < len
    · have hkl : k < es.length := by rw [HlE.out]; exact hlt
      obtain ⟨b, off, ha, hc⟩ := (HE.out.below hB).2.2
      obtain ⟨hb, c0, c1, c2⟩ := hc k hkl
      obtain rfl : a = some ⟨b, off, none⟩ := by
        rcases ha with h | h
        · omega
        · exact h
      have hed : ed es k = es[k] := by unfold ed; rw [List.getElem?_eq_getElem hkl]; rfl
      rw [← hed] at c0
      obtain ⟨x, hx⟩ : ∃ x, (ed es k).1 = x := ⟨_, rfl⟩
      rw [hx] at c0
      have hki : (k : Int) < (len : Int) := by omega
      have hb1 : b < w1.heap.size := by omega
      have hst : srcs es (k + 1) = if x = 0 then srcs es k ++ [(k : Int)] else srcs es k := by rw [← hx]; rfl
      obtain ⟨r, hr⟩ : ∃ r, srcs es k = r := ⟨_, rfl⟩
      rw [hr] at hst hO hsl ⊢
      clear ha hc hed hx hkl c1 c2 hr
      by_cases hx0 : x = 0
      · have HST : Hid (srcs es (k + 1) = r ++ [(k : Int)]) := Lib.hid (by rw [hst, if_pos hx0])
        have t1 : (x == 0) = true := by simp [hx0]
        have hOT := hO.alloc (.cells #[.int .i64 (k : Int)] 3)
        clear hst hx0
        go_wp2_with (
          at_builtin
          refine wpList_append_lies _ (by rfl) (.tmp 24) (.tmp 26) 25 (by rfl) (w.heap.size + 1) 3 i0 _ 1 8 Try.underlying25 hi0 hz0 hz1 hz2 rfl (by decide) _ r.length (ints r) (by rfl) hOT ⟨w1.heap.size, 0, none⟩ 1 1 [.int .i64 (k : Int)] (by rfl) (by rfl) (cell_one_new _ _ _) (by simp [Value.oneCell']) (by omega) (by simp [maxLen]; omega) (by omega) (by simp; omega) (w1.heap.size + 1) (by simp) ?_
          intro g2 cap2' w4 hoT4 hg4 hloc4 hlt4)
        go_roundw
        case rel =>
          refine ⟨k + 1, by omega, by go_num, ?_, (bN.alloc _).kept hg4 (fun e => by have := (hOT.lt _ e.symm).1; omega), (hB.alloc hB.size _).grown hg4 (by have := hB.size; simp; omega) (fun j e => by have := (hOT.lt j e).1; omega)⟩
          rw [HST.out, List.length_append, show ints (r ++ [(k : Int)]) = ints r ++ [.int .i64 (k : Int)] by simp]; exact hoT4
        case measure => simp [intOf]; omega
      · have HST : Hid (srcs es (k + 1) = r) := Lib.hid (by rw [hst, if_neg hx0])
        have t1 : (x == 0) = false := by simp [hx0]
        clear hst hx0
        go_wp2
        go_roundw
        case rel => exact ⟨k + 1, by omega, by go_num, by rw [HST.out]; exact hO, bN, hB⟩
        case measure => simp [intOf]; omega
    · obtain rfl : k = len := by omega
      have HS : Hid (srcs es k = srcs es es.length) := Lib.hid (by rw [HlE.out])
      obtain ⟨r0, hr0⟩ : ∃ r, srcs es k = r := ⟨_, rfl⟩
      rw [hr0] at hO hsl ⊢
      have HR0 := Lib.hid hr0
      clear hlt hr0
      go_wp2
      go_loopw [5, 7, 8] (fun rv ov kv wr => ∃ (i : Nat) (r o : List Int), kv = .int .i64 i ∧ i + r.length = r0.length ∧ Hid ((o ++ r).Perm (srcs es es.length)) ∧ o.length = i ∧ wr.ownsRow (w.heap.size + 1) 3 1 rv r.length (ints r) ∧ wr.ownsRow (w.heap.size + 1) 3 1 ov o.length (ints o) ∧ Hid (∀ g, rv.ownBlock = some g → ov.ownBlock ≠ some g) ∧ Blk wr w.heap.size 24 #[.int .i64 (n : Int), .slice a k cap] ∧ Below w.heap.size w wr) (fun rv _ _ _ => match rv with | .slice _ l _ => l | _ => 0)
      case atStart => exact ⟨0, r0, [], rfl, by simp, Lib.hid (by rw [List.nil_append, ← HR0.out, HS.out]), rfl, hO, World.ownsRow_nil _ _ _ _, Lib.hid (by simp [Value.ownBlock]), bN, hB⟩
      case round =>
        clear hO bN hB lN n0 n1 hz1'
        obtain ⟨i, r, o, rfl, hir, hperm, hol, hR, hO, hdis, bN, hB⟩ := hrel
        obtain ⟨w2, rfl⟩ : ∃ w', w' = wr := ⟨_, rfl⟩
        have hob : o.length ≤ 300 := by omega
        have hrb : r.length ≤ 300 := by omega
        have HIR := Lib.hid hir
        have HOL := Lib.hid hol
        clear hir hol
        obtain ⟨ra', rc, rfl⟩ := own_form hR
        obtain ⟨oa, oc, rfl⟩ := own_form hO
        have hz2' := hB.size
        have lN := bN.lt
        by_cases hr : 0 < r.length
        · have hrc : r.length ≤ rc := own_cap hR
          have hri : (0 : Int) < (r.length : Int) := by omega
          go_upto_if 36 with fail
          go_cut [9] from 36 to 43 (fun s9 wx => ∃ kk : Nat, kk < r.length ∧ s9 = .int .i64 kk ∧ w2 = wx)
          case first =>
            by_cases hi : i < rlen
            · have hpk := pk_bd (raw[i]?.getD 0) r.length (by omega)
              obtain ⟨kk, hkke⟩ : ∃ kk : Nat, pk (raw[i]?.getD 0) r.length = kk := ⟨(pk (raw[i]?.getD 0) r.length).toNat, by omega⟩
              have HPK := Lib.hid hkke
              rw [hkke] at hpk
              have hkk : kk < r.length := by omega
              obtain ⟨wb, wo, hwa, hwc⟩ := (HRR.out.below hB).2.2.int
              obtain ⟨hwb, cr⟩ := hwc i (by rw [HlR.out]; exact hi)
              obtain rfl : ra = some ⟨wb, wo, none⟩ := by
                rcases hwa with h | h
                · rw [HlR.out] at h; omega
                · exact h
              have HI : Hid (I64 (raw[i]?.getD 0)) := Lib.hid (by
                have h : i < raw.length := by rw [HlR.out]; exact hi
                rw [List.getElem?_eq_getElem h]; exact HRAW.out _ (List.getElem_mem h))
              obtain ⟨rw_, hrw⟩ : ∃ y, raw[i]?.getD 0 = y := ⟨_, rfl⟩
              rw [hrw] at cr HI HPK
              have hii : (i : Int) < (rlen : Int) := by omega
              have hwb2 : wb < w2.heap.size := by omega
              clear hwa hwc hrw hkke hpk
              go_wp2_with (go_at_call 29; (with_reducible refine (pick7_any _ _ _ HI.out (by omega) (by omega)).mono ?_); rw [HPK.out]; rintro e wp ⟨rfl, rfl⟩)
              go_meet
              first | exact ⟨kk, hkk, rfl, rfl⟩ | exact ⟨kk, hkk, rfl, trivial⟩ | exact ⟨kk, hkk, rfl⟩
            · have hii : ¬ (i : Int) < (rlen : Int) := by omega
              go_wp2
              go_meet
              first | exact ⟨0, hr, rfl, rfl⟩ | exact ⟨0, hr, rfl, trivial⟩ | exact ⟨0, hr, rfl⟩ | trace_state
          case rest =>
            obtain ⟨kk, hkk, rfl, rfl⟩ := hcut
            obtain ⟨x, hx⟩ : ∃ x, r[kk]'hkk = x := ⟨_, rfl⟩
            have hxr : r[kk]?.getD 0 = x := by rw [List.getElem?_eq_getElem hkk]; exact hx
            have HPERM : Hid (((o ++ [x]) ++ (r.take kk ++ r.drop (kk + 1))).Perm (srcs es es.length)) := Lib.hid (by
              refine List.Perm.trans ?_ hperm.out
              have e : r = r.take kk ++ x :: r.drop (kk + 1) := by
                rw [← hx, ← List.drop_eq_getElem_cons hkk, List.take_append_drop]
              have h1 : (o ++ r).Perm (o ++ (r.take kk ++ x :: r.drop (kk + 1))) := by rw [← e]
              refine List.Perm.trans ?_ h1.symm
              rw [List.append_assoc]
              exact List.Perm.append_left o (show ([x] ++ (r.take kk ++ r.drop (kk + 1))).Perm (r.take kk ++ x :: r.drop (kk + 1)) by rw [List.singleton_append]; exact List.perm_middle.symm))
            have HRL : Hid ((r.take kk ++ r.drop (kk + 1)).length = r.length - 1) := Lib.hid (by
              rw [List.length_append, List.length_take, List.length_drop]; omega)
            obtain ⟨rg, hrg, hrg0, hrg1, cx⟩ := own_int hR hkk
            rw [hxr] at cx
            subst hrg
            have HKK := Lib.hid hkk
            have hki : (kk : Int) < (r.length : Int) := by omega
            have hoT := hO.alloc (.cells #[.int .i64 x] 3)
            have hrT := hR.alloc (.cells #[.int .i64 x] 3)
            have bNT := bN.alloc (.cells #[.int .i64 x] 3)
            have hBT := hB.alloc hB.size (.cells #[.int .i64 x] 3)
            clear hx hxr
            go_upto_region 15 with (
              at_builtin
              refine wpList_append_lies _ (by rfl) (.tmp 44) (.tmp 49) 25 (by rfl) (w.heap.size + 1) 3 i0 _ 1 8 Try.underlying25 hi0 hz0 hz1 hz2 rfl (by decide) _ o.length (ints o) (by rfl) hoT ⟨w2.heap.size, 0, none⟩ 1 1 [.int .i64 x] (by rfl) (by rfl) (cell_one_new _ _ _) (by simp [Value.oneCell']) (by omega) (by simp [maxLen]; omega) (by omega) (by simp; omega) (w2.heap.size + 1) (by simp) ?_
              intro g2 cap2' w4 hoT4 hg4 hloc4 hlt4)
            have hR4 := own_kept hrT hg4 (fun g e e2 => hdis.out g e e2)
            have bN4 : Blk w4 w.heap.size 24 #[.int .i64 (n : Int), .slice a k cap] := bNT.kept hg4 (fun e => by have := (hoT.lt _ e.symm).1; omega)
            have hB4 := hBT.grown hg4 (by have := hBT.size; omega) (fun j e => by have := (hoT.lt j e).1; omega)
            have hz4 := hB4.size
            have hO4 : w4.ownsRow (w.heap.size + 1) 3 1 (.slice (some ⟨g2, 0, none⟩) (o.length + 1) cap2') (o ++ [x]).length (ints (o ++ [x])) := by
              rw [List.length_append, show ints (o ++ [x]) = ints o ++ [.int .i64 x] by simp]; exact hoT4
            have HG2 := Lib.hid hlt4
            have hbase4 : w.heap.size + 1 ≤ w4.heap.size := by have := bN4.lt; omega
            clear hO hR bN hB hoT hrT bNT hBT hoT4 hg4 hloc4 hlt4 cx
            -- the rest without that one
            have hFR : FlowAt w4.heap.size w4 (some ⟨rg, 0, none⟩) r.length r := (ints_own hR4 (by omega)).2
            have HFR := Lib.hid hFR
            have hct := cut_to (some ⟨rg, 0, none⟩) r.length rc kk (by omega)
            have hcf := cut_from (some ⟨rg, 0, none⟩) r.length rc (kk + 1) (by omega)
            have hcf' : ∀ w, (Instr.slice 25 (.slice (some ⟨rg, 0, none⟩) r.length rc) (some (.int .i64 ((kk : Int) + 1))) none none).run Try.prog w = .ok (.slice (cutA (some ⟨rg, 0, none⟩) rc (kk + 1)) (r.length - (kk + 1)) (rc - (kk + 1))) w := fun w => by
              have := hcf w
              rwa [show (((kk + 1 : Nat) : Int)) = (kk : Int) + 1 by omega] at this
            clear hcf hFR
            have hB := below_drew (Below.refl w4.heap.size w4)
            have hwk : IntKind.i64.wrap ((kk : Int) + 1) = (kk : Int) + 1 := IntWalk.i64_in _ (by omega)
            refine region_mix (fun W => Below w4.heap.size w4 W) (8) (.reads [0, 1, 2, 4, 5, 6, 7] (.only 3 (.only 8 (.only 9 (.stop))))) (by kernel_rfl) (by kernel_rfl) (hB) ?_
            obtain ⟨wc, hwc⟩ : ∃ W, w4.drew = W := ⟨_, rfl⟩
            rw [hwc] at hB ⊢
            clear hwc
            repeat (
              refine plan_read rfl (fun K hK => ?_)
              first
                | (refine plan_neg ?_ ?_
                   focus (go_simp; done)
                   go_simp
                   refine hK _ ?_
                   clear hK K)
                | (apply plan_pos
                   focus (go_simp; done)
                   focus (
                     intro W hW
                     (skip)
                     go_simp
                     first
                       | done
                       | exact rfl)
                   go_simp
                   refine hK _ ?_
                   clear hK K))
            refine plan_only rfl (fun Q hQ => ?_)
            obtain ⟨v1, wd, hr1, ho1, hg1, hl1⟩ := append_ints (v := .slice none 0 0) (n := 0) (xs := []) (c := rc) (base := w4.heap.size) (World.ownsRow_nil wc w4.heap.size _ _) (flow_take ((flow_on HFR.out hB)) (show kk ≤ r.length by omega)) (by omega) hB.size 25
            refine wpList_append_run (by rfl) (.const (.slice none 0 0)) (.tmp 53) 25 25 (by rfl) (by rfl) (by rfl) hr1 ?_
            have hBd := hB.grown hg1 hB.size (fun j e => by simp [Value.ownBlock] at e)
            clear hr1
            go_wp2
            refine hQ _ _ (fun _ => hBd) ?_
            clear hQ Q
            refine plan_only rfl (fun Q hQ => ?_)
            obtain ⟨v2, we, hr2, ho2, hg2, hl2⟩ := append_ints (c := rc - (kk + 1)) ho1 (flow_drop (cap := rc) ((flow_on HFR.out hBd)) (show kk + 1 ≤ r.length by omega) (by omega)) (by omega) hBd.size 25
            refine wpList_append_run (by rfl) (.tmp 54) (.tmp 58) 25 25 (by rfl) (by rfl) (by rfl) hr2 ?_
            have hBe := hBd.grown hg2 hBd.size (fun j e => (ho1.lt j e).1)
            obtain ⟨va2, vc2, rfl⟩ := own_form ho2
            clear hr2
            go_wp2
            refine hQ _ _ (fun h => absurd h (by omega)) ?_
            clear hQ Q
            refine plan_only rfl (fun Q hQ => ?_)
            go_wp2
            refine hQ _ _ (fun h => absurd h (by omega)) ?_
            clear hQ Q
            unfold Plan.wp
            go_wp2
            go_roundw
            case rel =>
              have hn : (r.take kk ++ r.drop (kk + 1)).length = kk + (r.length - (kk + 1)) := by rw [HRL.out]; have := HKK.out; omega
              refine ⟨i + 1, r.take kk ++ r.drop (kk + 1), o ++ [x], by have := HOL.out; have e : wrap64 ((i : Int) + 1) = (i : Int) + 1 := IntWalk.wrap64_in _ ⟨by omega, by omega⟩; rw [e]; rfl, by rw [HRL.out]; have := HIR.out; have := HKK.out; omega, HPERM, by rw [List.length_append, HOL.out]; rfl, ?_, own_below hO4 hBe, Lib.hid (fun g e1 e2 => ?_), bN4.below hBe bN4.lt, hB4.trans (hBe.mono hz4)⟩
              · rw [hn]
                exact own_less (show we.ownsRow w4.heap.size 3 1 _ _ (ints (r.take kk ++ r.drop (kk + 1))) from (by simpa only [Nat.zero_add, List.nil_append, ints, List.map_append] using ho2)) hbase4
              · have h1 := (ho2.lt g (by simpa only [Nat.zero_add] using e1)).1
                obtain rfl : g2 = g := by simpa [Value.ownBlock] using e2
                have := HG2.out
                omega
            case measure => have := HKK.out; show kk + (r.length - (kk + 1)) < r.length; omega
        · have hr0' : r = [] := List.eq_nil_of_length_eq_zero (by omega)
          subst hr0'
          have HP : Hid (o.Perm (srcs es es.length)) := Lib.hid (by have := hperm.out; rwa [List.append_nil] at this)
          have hoc : o.length ≤ oc := own_cap hO
          have hFO := (ints_own hO (by omega)).2
          go_wp2
          go_ret
          exact ⟨oa, oc, o, rfl, hFO, hoc, HP.out, hB⟩
end Go.Proofs.Ythchlfoebkachaa
