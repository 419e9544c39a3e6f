/-
  The document's own Push, walked.
-/
import Derived.Test.YthchlfoebkachaaQalong
import Derived.Test.YthchlfoebkachaaRef3
import Derived.Test.YthchlfoebkachaaMix
import Derived.Deep.DeepCutAuto
namespace Go.Proofs.Ythchlfoebkachaa
open Go.RowKit Gm

/-- What Push answers: a flow, how much more it is, an error's number. -/
def pushF (v : Int) (es : List E) (fl : List Int) (s t most : Int) : List Int × Int × Int :=
  if good v es fl s t && decide (0 ≤ most) then ((pushed v.toNat es s t most (fl, 0)).1, (pushed v.toNat es s t most (fl, 0)).2, 0) else ([], 0, 50)
def PushPost (r : List Int × Int × Int) (w : World) (e : Ending) (w' : World) : Prop :=
  ∃ a l c, e = .returned (.tuple #[.slice a l c, .int .i64 r.2.1, .int .i64 r.2.2]) ∧ FlowAt w'.heap.size w' a l r.1 ∧ Below w.heap.size w w'
/-- .. and the flow is a row of the call's own. -/
def PushOwn (r : List Int × Int × Int) (w : World) (e : Ending) (w' : World) : Prop :=
  ∃ a l c, e = .returned (.tuple #[.slice a l c, .int .i64 r.2.1, .int .i64 r.2.2]) ∧ FlowAt w'.heap.size w' a l r.1 ∧ w'.ownsRow w.heap.size 3 1 (.slice a l c) r.1.length (ints r.1) ∧ Below w.heap.size w w'
theorem PushOwn.post {r : List Int × Int × Int} {w : World} {e : Ending} {w' : World} (h : PushOwn r w e w') : PushPost r w e w' := by
  obtain ⟨a, l, c, h1, h2, _, h3⟩ := h
  exact ⟨a, l, c, h1, h2, h3⟩
theorem own_base {W : World} {b size n : Nat} {e : TypeId} {v : Value} {xs : List Value} (h : W.ownsRow (b + 1) e size v n xs) : W.ownsRow b e size v n xs := by
  obtain ⟨h1, h2⟩ := h
  refine ⟨h1, ?_⟩
  rcases h2 with h2 | ⟨g, cap, cur, hv, hg, r⟩
  · exact .inl h2
  · exact .inr ⟨g, cap, cur, hv, by omega, r⟩
def QPushAt (w : World) (v : Int) (a : Option Addr) (len cap : Nat) (cur : List Int) (fv : Value) (wr : World) : Prop :=
  Blk wr w.heap.size 24 #[.int .i64 v, .slice a len cap] ∧ wr.ownsRow (w.heap.size + 1) 3 1 fv cur.length (ints cur) ∧ Below w.heap.size w wr
theorem min_if (a b : Int) : (if b < a then b else a) = min a b := by
  have : min a b = if a ≤ b then a else b := rfl
  rw [this]; split <;> split <;> omega
theorem own_bool {W : World} {base : Nat} {a : Option Addr} {n c : Nat} {l : List Bool} (h : W.ownsRow base 4 1 (.slice a n c) l.length (bools l)) {k : Nat} (hk : k < l.length) : ∃ g, a = some ⟨g, 0, none⟩ ∧ base ≤ g ∧ g < W.heap.size ∧ W.cell? ⟨g, k, none⟩ = some (.bool (l[k]?.getD false)) := by
  rcases h.2 with ⟨_, h2⟩ | ⟨g, cap, cur, hv, hb, hg, _⟩
  · omega
  · injection hv with e1 e2 e3
    subst e1 e2
    have hc := h.cellAt (g := g) k (by omega)
    refine ⟨g, rfl, hb, (Array.getElem?_eq_some_iff.1 hg).1, ?_⟩
    rw [hc]; simp [hk]
theorem nodup_take {l : List Nat} (h : l.Nodup) {k : Nat} (hk : k < l.length) : l[k] ∉ l.take k := fun hm => by
  obtain ⟨m, hm1, hm2⟩ := List.getElem_of_mem hm
  rw [List.length_take] at hm1
  rw [List.getElem_take] at hm2
  have := (List.getElem_inj h).1 hm2
  omega
def TurnAt (w w4 : World) (n : Nat) (a : Option Addr) (len cap : Nat) (cur : List Int) (fv ev wv : Value) (l : List Leg) (wr : World) : Prop :=
  Blk wr w.heap.size 24 #[.int .i64 (n : Int), .slice a len cap] ∧ wr.ownsRow (w.heap.size + 1) 3 1 fv cur.length (ints cur) ∧ wr.ownsRow (w4.heap.size + 1) 3 1 ev l.length (ints (legE l)) ∧ wr.ownsRow (w4.heap.size + 1) 4 1 wv l.length (bools (legW l)) ∧ Below w.heap.size w wr
theorem puts_take {fl : List Int} {l : List Leg} {d : Int} {k : Nat} (hk : k < l.length) : puts fl (l.take (k + 1)) d = put (puts fl (l.take k) d) l[k].1 (sgn l[k].2 d) := by
  rw [List.take_succ_eq_append_getElem hk, puts_snoc]
theorem room_take {es : List E} {fl : List Int} {l : List Leg} {d : Int} {k : Nat} (hk : k < l.length) : roomOf es fl (l.take (k + 1)) d = min (roomOf es fl (l.take k) d) (spare es fl l[k]) := by
  rw [List.take_succ_eq_append_getElem hk, roomOf_snoc]

set_option maxRecDepth 100000 in
set_option maxHeartbeats 4000000 in
theorem qpush_own (v : Int) (a : Option Addr) (len cap : Nat) (es : List E) (fa : Option Addr) (flen fcap : Nat) (fl : List Int) (s t most : Int) (w : World) (hE : NetAt w.heap.size w a len es) (hF : FlowAt w.heap.size w fa flen fl) (hmI : I64 most) :
    Calls Try.prog 27 #[netV v a len cap, .slice fa flen fcap, .int .i64 s, .int .i64 t, .int .i64 most] w (PushOwn (pushF v es fl s t most) w) := by
  obtain ⟨W0, hW0⟩ : ∃ W0, w.alloc (.cells #[.int .i64 v, .slice a len cap] 24) = W0 := ⟨_, rfl⟩
  have hB0 : Below w.heap.size w W0 := by rw [← hW0]; exact (Below.refl _ w).alloc (Nat.le_refl _) _
  have bN : Blk W0 w.heap.size 24 #[.int .i64 v, .slice a len cap] := by rw [← hW0]; exact Blk.new w _ _
  have HW0 := Lib.hid hW0
  have HE0 := Lib.hid ((hE.below hB0).more hB0.size)
  have HF0 := Lib.hid ((hF.below hB0).more hB0.size)
  have HlE := Lib.hid hE.1
  have HlF := Lib.hid hF.1
  have HE := Lib.hid hE
  have HF := Lib.hid hF
  have hz0 := hB0.size
  obtain ⟨hm1, hm2⟩ := hmI
  clear hW0 hE hF
  obtain ⟨g, hg⟩ : ∃ g, good v es fl s t = g := ⟨_, rfl⟩
  have HGD := Lib.hid hg
  clear hg
  by_cases hs : g = true ∧ 0 ≤ most
  · obtain ⟨rfl, hm0⟩ := hs
    have hG := goodG_iff.1 HGD.out
    have hvv := right_iff.1 hG.net
    have hv1 : 2 ≤ v := hvv.1
    have hv2 : v ≤ 64 := hvv.2.1
    have hlen : len ≤ 256 := by have := hvv.2.2.1; rw [HlE.out] at this; exact this
    have hql : flen = len := by rw [← HlE.out, ← HlF.out]; exact hG.len
    obtain ⟨n, rfl⟩ : ∃ n : Nat, v = n := ⟨v.toNat, by omega⟩
    have HPF : Hid (pushF n es fl s t most = ((pushed n es s t most (fl, 0)).1, (pushed n es s t most (fl, 0)).2, 0)) := Lib.hid (by
      unfold pushF; rw [HGD.out]; simp [hm0])
    have HG := Lib.hid hG
    have hs0 := hG.s0
    have hs1 := hG.s1
    have ht0 := hG.t0
    have ht1 := hG.t1
    clear hG hvv
    subst hql
    go_enter Try.func27, Try.ntmps27
    go_wp2_with (first
      | (go_at_call 16; rw [HW0.out]; (with_reducible refine (qgood_any _ _ _ _ es _ _ _ fl s t _ HE0.out HF0.out).mono ?_); rw [HGD.out]; rintro e w1 ⟨rfl, hb1⟩
         have bN1 := bN.below hb1 bN.lt
         have hB1 : Below w.heap.size w w1 := hB0.trans (hb1.mono hz0)
         have hz1 := hB1.size
         have lN1 := bN1.lt
         have HF1 := Lib.hid ((HF.out.below hB1).more hz1)
         clear hb1)
      | (obtain ⟨v2, w2, hr2, h9, hg2⟩ := append_nil_ints (cap := fcap) HF1.out (by omega) 25 (w.heap.size + 1) (by omega)
         refine wpList_append_run (by rfl) (.tmp 34) (.tmp 35) 25 25 (by rfl) (by rfl) (by rfl) hr2 ?_
         obtain ⟨oa, oc, rfl⟩ := own_form h9
         have bN2 := bN1.kept hg2 (by simp)
         have hB2 := hB1.grown hg2 hz1 (fun j e => by cases e)
         have hz2 := hB2.size
         clear hr2 hg2))
    have h9' : w2.ownsRow (w.heap.size + 1) 3 1 (.slice oa flen oc) fl.length (ints fl) := by rw [HlF.out]; exact h9
    clear h9 bN bN1 hB0 hB1 hz0 hz1 lN1
    go_loopw [15] (fun sv wr => ∃ (cur : List Int) (sum : Int), sv = .int .i64 sum ∧ 0 ≤ sum ∧ sum ≤ most ∧ QPushAt w n a flen cap cur (.slice oa flen oc) wr ∧ Hid (GoodG n es cur s t ∧ pushed n es s t most (fl, 0) = pushed n es s t most (cur, sum))) (fun sv _ => (most - intOf sv).toNat)
    case atStart => exact ⟨fl, 0, rfl, Int.le_refl _, hm0, ⟨bN2, h9', hB2⟩, Lib.hid ⟨HG.out, rfl⟩⟩
    case round =>
      clear bN2 h9' hB2 hz2
      obtain ⟨cur, sum, rfl, hsum0, hsum1, ⟨bN, hown, hB⟩, hin⟩ := hrel
      obtain ⟨w3, rfl⟩ : ∃ w', w' = wr := ⟨_, rfl⟩
      have hcl : cur.length = flen := by rw [hin.out.1.len, HlE.out]
      have HCL := Lib.hid hcl
      have hbz := hB.size
      have HFC := Lib.hid (ints_own hown (by omega)).2
      have HN3 := Lib.hid ((HE.out.below hB).more hbz)
      obtain ⟨lN, n0, n1⟩ := bN.two
      clear hcl
      by_cases hlt : sum < most
      · obtain ⟨S, hS⟩ : ∃ S, bfs n es cur s = S := ⟨_, rfl⟩
        have hSI : Inv n es cur s S := hS ▸ (bfs_is (right_iff.1 hin.out.1.net).2.2.2 hs0 hs1 n (fl := cur)).inv
        have HS := Lib.hid hS
        have HSI := Lib.hid hSI
        obtain ⟨T, hT⟩ : ∃ T, has S.seen t = T := ⟨_, rfl⟩
        have HT := Lib.hid hT
        clear hS hSI hT
        rcases T with _ | _
        · have HR : Hid (pushed n es s t most (fl, 0) = (cur, sum)) := Lib.hid (by
            rw [hin.out.2]; exact pushed_stop (.inr (by show has (bfs n es cur s).seen t = false; rw [HS.out]; exact HT.out)))
          go_wp2_with (go_at_call 44; (with_reducible refine (qway_any n _ _ _ es _ _ _ cur s t _ HN3.out HFC.out hin.out.1.net hin.out.1.len hs0 hs1 ht0 ht1).mono ?_); rw [HS.out]; rintro e w4 ⟨g4, rfl, bY4, hg4, hb4⟩; rw [HT.out]
                       have bN4 := bN.below hb4 lN
                       have hown4 := own_below hown hb4
                       have hB4 := hB.trans (hb4.mono hbz)
                       have hz4 := hB4.size)
          refine bodyPost_ret (v := .tuple #[.slice oa flen oc, .int .i64 sum, .int .i64 0]) (by simp [results, Try.results27, go_sem]) rfl ?_
          rw [HPF.out, HR.out]
          exact ⟨oa, flen, oc, rfl, (ints_own hown4 (by rw [HCL.out]; omega)).2, own_base hown4, hB4⟩
        · have htm : t ∈ S.todo := (HSI.out.td t).2 ⟨ht0, ht1, HT.out⟩
          obtain ⟨l, hl⟩ : ∃ l, along es S.by_ s 64 t = l := ⟨_, rfl⟩
          have hseen : has (bfs n es (cur, sum).1 s).seen t = true := by show has (bfs n es cur s).seen t = true; rw [HS.out]; exact HT.out
          have hnext : next n es cur s t = l := by unfold next; rw [HS.out, hl]
          have hway := next_is hin.out.1 hseen
          rw [show next n es (cur, sum).1 s t = l from hnext] at hway
          have hroom := push_room (most := most) (st := (cur, sum)) hin.out.1 hlt hseen
          have hstep := pushed_step (most := most) (st := (cur, sum)) hin.out.1 hlt hseen
          dsimp only at hroom hstep
          rw [hnext] at hroom hstep
          have hll : l.length ≤ 63 := by have := hway.2; omega
          have HWAY := Lib.hid hway.1
          have HROOM := Lib.hid hroom
          have HSTEP := Lib.hid hstep
          have HL := Lib.hid hl
          have HMEM := Lib.hid htm
          have HBY : Hid (S.by_.length = n) := Lib.hid HSI.out.bl
          clear hl hseen hnext hway hroom hstep htm
          go_upto_region 11 with (first
            | (go_at_call 44; (with_reducible refine (qway_any n _ _ _ es _ _ _ cur s t _ HN3.out HFC.out hin.out.1.net hin.out.1.len hs0 hs1 ht0 ht1).mono ?_); rw [HS.out]; rintro e w4 ⟨g4, rfl, bY4, hg4, hb4⟩; rw [HT.out]
               have bN4 := bN.below hb4 lN
               have hown4 := own_below hown hb4
               have hB4 := hB.trans (hb4.mono hbz)
               have hz4 := hB4.size
               obtain ⟨lN4, n40, n41⟩ := bN4.two
               have HY4 : Hid (FlowAt w4.heap.size w4 (some ⟨g4, 0, none⟩) n S.by_) := Lib.hid (by
                 have h := flow_blk bY4 (by rw [HBY.out]; omega)
                 rw [HBY.out] at h; exact h)
               have HN4 := Lib.hid ((HE.out.below hB4).more hz4)
               clear bY4 hg4 hb4)
            | (go_at_call 45; (with_reducible refine (qalong_any n _ _ _ es _ _ _ cur S s t _ HN4.out HY4.out HSI.out HMEM.out hin.out.1.net).mono ?_); rw [HL.out]; rintro e w5 ⟨ea, ec, wa, wc, rfl, hoE, hoW, hb5⟩
               have bN5 := bN4.below hb5 lN4
               have hown5 := own_below hown4 hb5
               have hB5 := hB4.trans (hb5.mono hz4)
               have hz5 := hB5.size
               have HZ5 := Lib.hid hb5.size
               obtain ⟨lN5, n50, n51⟩ := bN5.two))
          have HFW : Hid (∀ g, (Value.slice oa flen oc).ownBlock = some g → g < w4.heap.size) := Lib.hid (fun g e => (hown4.lt g e).2)
          have hlE : (legE l).length = l.length := by simp [legE]
          have hlW : (legW l).length = l.length := by simp [legW]
          have HLE := Lib.hid hlE
          have HLW := Lib.hid hlW
          have HB5 := Lib.hid hB5
          clear bN bN4 hown hown4 lN n0 n1 lN4 n40 n41 hB hB4 hb5 hlE hlW
          have hrm := HROOM.out
          have hw0 : IntKind.i64.wrap (most - sum) = most - sum := IntWalk.i64_in _ (by omega)
          go_wp2
          clear hw0 hrm
          obtain ⟨D, hD⟩ : ∃ D, most - sum = D := ⟨_, rfl⟩
          have hD1 : 1 ≤ D := by omega
          have hD2 : D ≤ 9223372036854775807 := by omega
          rw [hD] at HROOM HSTEP ⊢
          have HDD := Lib.hid hD
          clear hD
          go_loopw [20, 21] (fun rv kv wr => ∃ k : Nat, k ≤ l.length ∧ kv = .int .i64 k ∧ rv = .int .i64 (roomOf es cur (l.take k) D) ∧ Below w5.heap.size w5 wr) (fun _ kv _ => l.length - (intOf kv).toNat)
          case atStart => exact ⟨0, Nat.zero_le _, rfl, rfl, Below.refl _ _⟩
          case round =>
            obtain ⟨k, hk, rfl, rfl, hb6⟩ := hrel
            obtain ⟨w6, rfl⟩ : ∃ w', w' = wr := ⟨_, rfl⟩
            have bN6 := bN5.below hb6 bN5.lt
            have hoE6 := own_below hoE hb6
            have hoW6 := own_below hoW hb6
            have hown6 := own_below hown5 hb6
            clear lN5 n50 n51
            obtain ⟨lN6, n60, n61⟩ := bN6.two
            by_cases hlk : k < l.length
            · obtain ⟨p, hp⟩ : ∃ p, l[k] = p := ⟨_, rfl⟩
              have hpm : p ∈ l := by rw [← hp]; exact List.getElem_mem hlk
              have hpe := HWAY.out.each p hpm
              obtain ⟨ge, hge, hge0, hge1, ce⟩ := own_int (l := legE l) (by rw [HLE.out]; exact hoE6) (k := k) (by rw [HLE.out]; exact hlk)
              subst hge
              obtain ⟨gw, hgw, hgw0, hgw1, cw⟩ := own_bool (l := legW l) (by rw [HLW.out]; exact hoW6) (k := k) (by rw [HLW.out]; exact hlk)
              subst hgw
              have he1 : (legE l)[k]?.getD 0 = (p.1 : Int) := by unfold legE; rw [List.getElem?_map, List.getElem?_eq_getElem hlk, hp]; rfl
              have he2 : (legW l)[k]?.getD false = p.2 := by unfold legW; rw [List.getElem?_map, List.getElem?_eq_getElem hlk, hp]; rfl
              rw [he1] at ce
              rw [he2] at cw
              have hil : p.1 < cur.length := by rw [HCL.out, ← HlE.out]; exact hpe.1
              obtain ⟨gf, hgf, hgf0, hgf1, cf⟩ := own_int (by rw [HCL.out] at hown6; rw [HCL.out]; exact hown6) hil
              subst hgf
              have cf' : w6.cell? ⟨gf, p.1, none⟩ = some (.int .i64 (Gm.fa cur p.1)) := cf
              have hfit := hin.out.1.fit _ (of_zip hin.out.1.len hpe.1)
              have hok := okE_iff.1 (hin.out.1.ok _ (of_zip hin.out.1.len hpe.1))
              dsimp only at hfit hok
              obtain ⟨b, off, ha, hc⟩ := (HE.out.below (HB5.out.trans (hb6.mono hz5))).2.2
              obtain ⟨hb, c0, c1, c2⟩ := hc p.1 hpe.1
              obtain rfl : a = some ⟨b, off, none⟩ := by
                rcases ha with h | h
                · have := hpe.1; omega
                · exact h
              have hed : ed es p.1 = es[p.1] := by unfold ed; rw [List.getElem?_eq_getElem hpe.1]; rfl
              rw [← hed] at c2
              have hst := room_take (es := es) (fl := cur) (d := D) hlk
              rw [hp] at hst
              have hrle := (roomOf_le es cur (l.take k) D).1
              have hrps := roomOf_pos es cur (l.take k) D hD1 (fun q hq => (HWAY.out.each q (List.mem_of_mem_take hq)).2)
              obtain ⟨f, hf⟩ : ∃ f, Gm.fa cur p.1 = f := ⟨_, rfl⟩
              obtain ⟨x, hx⟩ : ∃ x, (ed es p.1).2.2 = x := ⟨_, rfl⟩
              obtain ⟨R, hR⟩ : ∃ R, roomOf es cur (l.take k) D = R := ⟨_, rfl⟩
              unfold spare at hst
              rw [hf] at cf' hfit hst
              rw [hx] at c2 hfit hst hok
              rw [hR] at hst hrle hrps ⊢
              obtain ⟨i, j⟩ := p
              dsimp only at *
              have hilen : i < flen := by rw [← HlE.out]; exact hpe.1
              have hii : (i : Int) < (flen : Int) := by omega
              have hkk : (k : Int) < (l.length : Int) := by omega
              have hb1 : b < w6.heap.size := by have := hb6.size; omega
              obtain ⟨hf0, hf1⟩ := hfit
              have hx1 : x ≤ 1000 := hok.2.2.2.2.2.2
              clear hp hpm hpe he1 he2 hil cf hok ha hc c0 c1 hed hf hx hR
              rcases j with _ | _
              · have HST : Hid (roomOf es cur (l.take (k + 1)) D = if f < R then f else R) := Lib.hid (by rw [hst, min_if]; simp)
                clear hst
                go_wp2
                go_roundw
                case rel => exact ⟨k + 1, by omega, by go_num, by rw [HST.out], hb6⟩
                case measure => simp [intOf]; omega
              · have HST : Hid (roomOf es cur (l.take (k + 1)) D = if x - f < R then x - f else R) := Lib.hid (by rw [hst, min_if]; simp)
                have hwr : IntKind.i64.wrap (x - f) = x - f := IntWalk.i64_in _ (by omega)
                clear hst
                go_wp2
                go_quiet (fail)
                clear hwr
                go_wp2
                go_roundw
                case rel => exact ⟨k + 1, by omega, by go_num, by rw [HST.out], below_drewN hb6 _⟩
                case measure => simp [intOf]; omega
            · obtain rfl : k = l.length := by omega
              obtain ⟨r, hr⟩ : ∃ r, roomOf es cur l D = r := ⟨_, rfl⟩
              have HRM := HROOM.out
              rw [hr] at HRM
              have HSTEP' : Hid (pushed n es s t most (cur, sum) = pushed n es s t most (puts cur l r, sum + r)) := Lib.hid (by rw [HSTEP.out, hr])
              have HRR : Hid (roomOf es cur (l.take l.length) D = r) := Lib.hid (by rw [List.take_length, hr])
              obtain ⟨hr1, hr2, hr3, hr4, hr5⟩ := HRM
              have HNEW := Lib.hid hr4
              have hsr : sum + r ≤ most := by have := HDD.out; omega
              have hB6 := HB5.out.trans (hb6.mono hz5)
              clear hr hr4 hr5
              rw [HRR.out]
              go_wp2
              go_loopw [22] (fun kv wr => ∃ k : Nat, k ≤ l.length ∧ kv = .int .i64 k ∧ TurnAt w w4 n a flen cap (puts cur (l.take k) r) (.slice oa flen oc) (.slice ea l.length ec) (.slice wa l.length wc) l wr) (fun kv _ => l.length - (intOf kv).toNat)
              case atStart => exact ⟨0, Nat.zero_le _, rfl, bN6, hown6, hoE6, hoW6, hB6⟩
              case round =>
                clear bN6 hown6 hoE6 hoW6 hB6 lN6 n60 n61 hlk hb6
                obtain ⟨k, hk, rfl, bN7, hown7, hoE7, hoW7, hB7⟩ := hrel
                obtain ⟨w7, rfl⟩ : ∃ w', w' = wr := ⟨_, rfl⟩
                obtain ⟨lN7, n70, n71⟩ := bN7.two
                have hpl : (puts cur (l.take k) r).length = flen := by rw [puts_length, HCL.out]
                rw [hpl] at hown7
                have HPL := Lib.hid hpl
                clear hpl
                by_cases hlk : k < l.length
                · obtain ⟨p, hp⟩ : ∃ p, l[k] = p := ⟨_, rfl⟩
                  have hpm : p ∈ l := by rw [← hp]; exact List.getElem_mem hlk
                  have hpe := HWAY.out.each p hpm
                  obtain ⟨ge, hge, hge0, hge1, ce⟩ := own_int (l := legE l) (by rw [HLE.out]; exact hoE7) (k := k) (by rw [HLE.out]; exact hlk)
                  subst hge
                  obtain ⟨gw, hgw, hgw0, hgw1, cw⟩ := own_bool (l := legW l) (by rw [HLW.out]; exact hoW7) (k := k) (by rw [HLW.out]; exact hlk)
                  subst hgw
                  have he1 : (legE l)[k]?.getD 0 = (p.1 : Int) := by unfold legE; rw [List.getElem?_map, List.getElem?_eq_getElem hlk, hp]; rfl
                  have he2 : (legW l)[k]?.getD false = p.2 := by unfold legW; rw [List.getElem?_map, List.getElem?_eq_getElem hlk, hp]; rfl
                  rw [he1] at ce
                  rw [he2] at cw
                  have hil : p.1 < (puts cur (l.take k) r).length := by rw [puts_length, HCL.out, ← HlE.out]; exact hpe.1
                  obtain ⟨gf, hgf, hgf0, hgf1, cf⟩ := own_int (by rw [HPL.out]; exact hown7) hil
                  subst hgf
                  have hgf4 := HFW.out gf rfl
                  have hff := hown7.frozenAt p.1
                  have hold : Gm.fa (puts cur (l.take k) r) p.1 = Gm.fa cur p.1 := (puts_at r (l.take k) cur p.1 (fun q hq => by rw [HCL.out, ← HlE.out]; exact (HWAY.out.each q (List.mem_of_mem_take hq)).1) (by rw [List.map_take]; exact HWAY.out.nodup.sublist (List.take_sublist _ _))).2 (by
                    have h := nodup_take HWAY.out.nodup (k := k) (by simpa using hlk)
                    rw [List.map_take]
                    simpa [hp] using h)
                  have cf' : w7.cell? ⟨gf, p.1, none⟩ = some (.int .i64 (Gm.fa (puts cur (l.take k) r) p.1)) := cf
                  have hfit := hin.out.1.fit _ (of_zip hin.out.1.len hpe.1)
                  have hok := okE_iff.1 (hin.out.1.ok _ (of_zip hin.out.1.len hpe.1))
                  dsimp only at hfit hok
                  have hsp := (roomOf_le es cur l D).2 p hpm
                  rw [show roomOf es cur l D = r by have := HRR.out; rw [List.take_length] at this; exact this] at hsp
                  unfold spare at hsp
                  have hst := puts_take (fl := cur) (d := r) hlk
                  rw [hp] at hst
                  unfold put at hst
                  obtain ⟨C, hC⟩ : ∃ C, puts cur (l.take k) r = C := ⟨_, rfl⟩
                  rw [hC] at hst hown7 cf' hold hil
                  rw [hold] at hst cf'
                  obtain ⟨f, hf⟩ : ∃ f, Gm.fa cur p.1 = f := ⟨_, rfl⟩
                  obtain ⟨x, hx⟩ : ∃ x, (ed es p.1).2.2 = x := ⟨_, rfl⟩
                  rw [hf] at cf' hfit hst hsp
                  rw [hx] at hfit hok hsp
                  obtain ⟨i, j⟩ := p
                  dsimp only at *
                  have hCl : C.length = flen := by rw [← hC, puts_length, HCL.out]
                  have hilen : i < flen := by omega
                  have hii : (i : Int) < (flen : Int) := by omega
                  have hkk : (k : Int) < (l.length : Int) := by omega
                  obtain ⟨hf0, hf1⟩ := hfit
                  have hx1 : x ≤ 1000 := hok.2.2.2.2.2.2
                  have HCLL := Lib.hid hCl
                  have HST := Lib.hid hst
                  clear hp hpm hpe he1 he2 cf hok hold hC hf hx hst hCl
                  rcases j with _ | _
                  · have hsp' : r ≤ f := by simpa using hsp
                    have hwr : IntKind.i64.wrap (f - r) = f - r := IntWalk.i64_in _ (by omega)
                    go_wp2
                    refine region_mix (fun W => W.cell? ⟨ge, k, none⟩ = some (.int .i64 (i : Int)) ∧ W.cell? ⟨gf, i, none⟩ = some (.int .i64 f)) (14) (.reads [0, 1, 2, 3, 4, 5, 6, 7, 8, 9, 10, 11, 12, 13] (.only 14 (.only 15 (.stop)))) (by kernel_rfl) (by kernel_rfl) (⟨ce, cf'⟩) ?_
                    repeat (
                      refine plan_read rfl (fun K hK => ?_)
                      first
                        | (refine plan_neg ?_ ?_
                           focus (go_simp; done)
                           go_simp
                           refine hK _ ?_
                           clear hK K)
                        | (apply plan_pos
                           focus (go_simp; done)
                           focus (
                             intro W hW
                             (obtain ⟨d0, d1⟩ := hW)
                             go_simp
                             first
                               | done
                               | exact rfl)
                           go_simp
                           refine hK _ ?_
                           clear hK K))
                    refine plan_only rfl (fun Q hQ => ?_)
                    go_wp2
                    refine hQ _ _ (fun h => absurd h (by omega)) ?_
                    clear hQ Q
                    refine plan_only rfl (fun Q hQ => ?_)
                    go_wp2
                    refine hQ _ _ (fun h => absurd h (by omega)) ?_
                    clear hQ Q hwr
                    unfold Plan.wp
                    go_wp2
                    go_roundw
                    case rel =>
                      refine ⟨k + 1, by omega, by go_num, bN7.far (p := ⟨gf, i, none⟩) (by simp; omega) _, ?_, ownsRow_setCell_other hoE7 (a := ⟨gf, i, none⟩) (fun e => by have := (hoE7.lt _ e).1; simp at this; omega) _, ownsRow_setCell_other hoW7 (a := ⟨gf, i, none⟩) (fun e => by have := (hoW7.lt _ e).1; simp at this; omega) _, (below_drew hB7).setCell (p := ⟨gf, i, none⟩) (by simp; omega) _⟩
                      have h := (hown7.stored i (.int .i64 (f - r))).1
                      rw [HST.out, List.length_set, HCLL.out]
                      have e : sgn false r = -r := rfl
                      rw [e, show f + -r = f - r by omega, show ints (C.set i (f - r)) = (ints C).set i (.int .i64 (f - r)) by simp [List.map_set]]
                      exact h
                    case measure => simp [intOf]; omega
                  · have hsp' : r ≤ x - f := by simpa using hsp
                    have hwr : IntKind.i64.wrap (f + r) = f + r := IntWalk.i64_in _ (by omega)
                    go_wp2
                    refine region_mix (fun W => W.cell? ⟨ge, k, none⟩ = some (.int .i64 (i : Int)) ∧ W.cell? ⟨gf, i, none⟩ = some (.int .i64 f)) (14) (.reads [0, 1, 2, 3, 4, 5, 6, 7, 8, 9, 10, 11, 12, 13] (.only 14 (.only 15 (.stop)))) (by kernel_rfl) (by kernel_rfl) (⟨ce, cf'⟩) ?_
                    repeat (
                      refine plan_read rfl (fun K hK => ?_)
                      first
                        | (refine plan_neg ?_ ?_
                           focus (go_simp; done)
                           go_simp
                           refine hK _ ?_
                           clear hK K)
                        | (apply plan_pos
                           focus (go_simp; done)
                           focus (
                             intro W hW
                             (obtain ⟨d0, d1⟩ := hW)
                             go_simp
                             first
                               | done
                               | exact rfl)
                           go_simp
                           refine hK _ ?_
                           clear hK K))
                    refine plan_only rfl (fun Q hQ => ?_)
                    go_wp2
                    refine hQ _ _ (fun h => absurd h (by omega)) ?_
                    clear hQ Q
                    refine plan_only rfl (fun Q hQ => ?_)
                    go_wp2
                    refine hQ _ _ (fun h => absurd h (by omega)) ?_
                    clear hQ Q hwr
                    unfold Plan.wp
                    go_wp2
                    go_roundw
                    case rel =>
                      refine ⟨k + 1, by omega, by go_num, bN7.far (p := ⟨gf, i, none⟩) (by simp; omega) _, ?_, ownsRow_setCell_other hoE7 (a := ⟨gf, i, none⟩) (fun e => by have := (hoE7.lt _ e).1; simp at this; omega) _, ownsRow_setCell_other hoW7 (a := ⟨gf, i, none⟩) (fun e => by have := (hoW7.lt _ e).1; simp at this; omega) _, (below_drew hB7).setCell (p := ⟨gf, i, none⟩) (by simp; omega) _⟩
                      have h := (hown7.stored i (.int .i64 (f + r))).1
                      rw [HST.out, List.length_set, HCLL.out]
                      have e : sgn true r = r := rfl
                      rw [e, show ints (C.set i (f + r)) = (ints C).set i (.int .i64 (f + r)) by simp [List.map_set]]
                      exact h
                    case measure => simp [intOf]; omega
                · obtain rfl : k = l.length := by omega
                  have HPT : Hid (puts cur (l.take l.length) r = puts cur l r) := Lib.hid (by rw [List.take_length])
                  have hwr : IntKind.i64.wrap (sum + r) = sum + r := IntWalk.i64_in _ (by omega)
                  go_wp2
                  clear hwr
                  go_roundw
                  case rel => exact ⟨puts cur l r, sum + r, rfl, by omega, hsr, ⟨bN7, by rw [← HPT.out, HPL.out]; exact hown7, hB7⟩, Lib.hid ⟨HNEW.out, by rw [hin.out.2, HSTEP'.out]⟩⟩
                  case measure => simp [intOf]; omega
      · obtain rfl : sum = most := by omega
        have HR : Hid (pushed n es s t sum (fl, 0) = (cur, sum)) := Lib.hid (by
          rw [hin.out.2]; exact pushed_stop (.inl rfl))
        go_wp2
        refine bodyPost_ret (v := .tuple #[.slice oa flen oc, .int .i64 sum, .int .i64 0]) (by simp [results, Try.results27, go_sem]) rfl ?_
        rw [HPF.out, HR.out]
        exact ⟨oa, flen, oc, rfl, HFC.out, own_base hown, hB⟩
  · have HPF : Hid (pushF v es fl s t most = ([], 0, 50)) := Lib.hid (by
      unfold pushF
      rw [HGD.out, if_neg]
      intro h
      simp at h
      exact hs h)
    have hw : g = false ∨ (g = true ∧ most < 0) := by
      rcases g with _ | _
      · exact .inl rfl
      · simp at hs ⊢; omega
    clear hs
    rcases hw with rfl | ⟨rfl, h1⟩
    all_goals
      go_enter Try.func27, Try.ntmps27
      go_wp2_with (go_at_call 16; rw [HW0.out]; (with_reducible refine (qgood_any _ _ _ _ es _ _ _ fl s t _ HE0.out HF0.out).mono ?_); rw [HGD.out]; rintro e w1 ⟨rfl, hb1⟩)
      go_wp2
      refine bodyPost_ret (v := .tuple #[.slice none 0 0, .int .i64 0, .int .i64 50]) (by simp [results, Try.results27, go_sem]) rfl ?_
      rw [HPF.out]
      exact ⟨none, 0, 0, rfl, ⟨rfl, by omega, 0, 0, .inl rfl, fun i hi => by simp at hi⟩, ⟨rfl, .inl ⟨rfl, rfl⟩⟩, hB0.trans (hb1.mono hz0)⟩
theorem qpush_any (v : Int) (a : Option Addr) (len cap : Nat) (es : List E) (fa : Option Addr) (flen fcap : Nat) (fl : List Int) (s t most : Int) (w : World) (hE : NetAt w.heap.size w a len es) (hF : FlowAt w.heap.size w fa flen fl) (hmI : I64 most) :
    Calls Try.prog 27 #[netV v a len cap, .slice fa flen fcap, .int .i64 s, .int .i64 t, .int .i64 most] w (PushPost (pushF v es fl s t most) w) :=
  (qpush_own v a len cap es fa flen fcap fl s t most w hE hF hmI).mono fun _ _ h => h.post
end Go.Proofs.Ythchlfoebkachaa
