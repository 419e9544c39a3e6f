/-
  The laws' own Ways, walked: each way that it makes is one.
-/
import Derived.Deep.AppendLies
import Derived.Deep.DeepCutAuto
import Derived.Test.YthchlfoebkachaaMix
import Derived.Test.YthchlfoebkachaaOpen7
import Derived.Test.YthchlfoebkachaaOrder
import Derived.Test.YthchlfoebkachaaSlices7
import Derived.Test.YthchlfoebkachaaNumbers7
namespace Go.Proofs.Ythchlfoebkachaa
open Go.RowKit Gm

/-- The cells of ways, their edges' slices at hand. -/
def wayCells : List Value → List WayE → List Value
  | v :: vs, p :: ws => v :: .int .i64 p.2 :: wayCells vs ws
  | _, _ => []
theorem wayCells_snoc : ∀ (vs : List Value) (ws : List WayE) (v : Value) (p : WayE), vs.length = ws.length → wayCells (vs ++ [v]) (ws ++ [p]) = wayCells vs ws ++ [v, .int .i64 p.2]
  | [], [], _, _, _ => rfl
  | [], _ :: _, _, _, h => by simp at h
  | _ :: _, [], _, _, h => by simp at h
  | u :: vs, q :: ws, v, p, h => by simp [wayCells, wayCells_snoc vs ws v p (by simpa using h)]
theorem wayCells_at : ∀ (vs : List Value) (ws : List WayE) (i : Nat) (hv : i < vs.length) (hw : i < ws.length), (wayCells vs ws)[i * 2]? = some vs[i] ∧ (wayCells vs ws)[i * 2 + 1]? = some (.int .i64 ws[i].2)
  | [], _, _, h, _ => by simp at h
  | _ :: _, [], _, _, h => by simp at h
  | u :: vs, q :: ws, 0, _, _ => by simp [wayCells]
  | u :: vs, q :: ws, i + 1, hv, hw => by
    have ih := wayCells_at vs ws i (by simpa using hv) (by simpa using hw)
    have e1 : (i + 1) * 2 = i * 2 + 1 + 1 := by omega
    rw [e1]
    simp only [wayCells, List.getElem?_cons_succ, List.getElem_cons_succ]
    exact ih
theorem cells_two (w : World) (x y : Value) (t : TypeId) : ∀ j u, [x, y][j]? = some u → (w.alloc (.cells #[x, y] t)).cell? ((⟨w.heap.size, 0, none⟩ : Addr).add j) = some u := by
  intro j u hj
  have h : (w.alloc (.cells #[x, y] t)).heap[w.heap.size]? = some (.cells #[x, y] t (0, 0)) := World.alloc_heap_new w _
  have hadd : (⟨w.heap.size, 0, none⟩ : Addr).add j = ⟨w.heap.size, j, none⟩ := by unfold Addr.add; split <;> simp_all
  rw [hadd, cell_of_row _ _ _ _ _ _ h]
  simpa using hj
/-- What stands while a way is walked. -/
structure TrailAt (w2 : World) (M S : Nat) (q : Int) (l : List Int) (seen : List Bool) (ev : Value) (wr : World) : Prop where
  box : Blk wr M 44 #[ev, .int .i64 q]
  row : wr.ownsRow w2.heap.size 3 1 ev l.length (ints l)
  marks : Blk wr S 4 (boolsA seen)
  low : Below w2.heap.size w2 wr
/-- How many edges more a way may have, as the box at M says. -/
def leftN (M n : Nat) (W : World) : Nat := match W.cell? ⟨M, 0, none⟩ with | some (.slice _ l _) => n - l | _ => 0
theorem leftN_of {M n l : Nat} {W : World} {a : Option Addr} {c : Nat} {x : Value} {t : TypeId} (h : Blk W M t #[.slice a l c, x]) : leftN M n W = n - l := by
  unfold leftN; rw [h.two.2.1]
/-- An edge that leads on. -/
def Leads (es : List E) (u : Int) (seen : List Bool) (ml : List Int) : Prop := ∀ x ∈ ml, ∃ e : Nat, x = (e : Int) ∧ e < es.length ∧ (ed es e).1 = u ∧ has seen (ed es e).2.1 = false
theorem Leads.nil (es : List E) (u : Int) (seen : List Bool) : Leads es u seen [] := fun x hx => by simp at hx
theorem Leads.snoc {es : List E} {u : Int} {seen : List Bool} {ml : List Int} (h : Leads es u seen ml) {e : Nat} (he : e < es.length) (h1 : (ed es e).1 = u) (h2 : has seen (ed es e).2.1 = false) : Leads es u seen (ml ++ [(e : Int)]) := fun x hx => by
  rcases List.mem_append.1 hx with hx | hx
  · exact h x hx
  · exact ⟨e, List.mem_singleton.1 hx, he, h1, h2⟩
/-- Ways that a call has made. -/
def WaysOwn (W : World) (base : Nat) (lv : Value) (ws : List WayE) : Prop :=
  ∃ vs : List Value, vs.length = ws.length ∧ W.ownsRow base 44 2 lv ws.length (wayCells vs ws) ∧ ∀ i (hv : i < vs.length) (hw : i < ws.length), W.ownsRow base 3 1 vs[i] ws[i].1.length (ints ws[i].1)
theorem WaysOwn.below {W W' : World} {base : Nat} {lv : Value} {ws : List WayE} (h : WaysOwn W base lv ws) (hb : Below W.heap.size W W') : WaysOwn W' base lv ws := by
  obtain ⟨vs, h1, h2, h3⟩ := h
  exact ⟨vs, h1, own_below h2 hb, fun i hv hw => own_below (h3 i hv hw) hb⟩
theorem WaysOwn.less {W : World} {base base' : Nat} {lv : Value} {ws : List WayE} (h : WaysOwn W base lv ws) (hb : base' ≤ base) : WaysOwn W base' lv ws := by
  obtain ⟨vs, h1, h2, h3⟩ := h
  exact ⟨vs, h1, own_less h2 hb, fun i hv hw => own_less (h3 i hv hw) hb⟩
theorem WaysOwn.nil (W : World) (base : Nat) : WaysOwn W base (.slice none 0 0) [] := ⟨[], rfl, World.ownsRow_nil _ _ _ _, fun i hv => by simp at hv⟩
/-- They abide the growth of a row of another type. -/
theorem WaysOwn.kept {W W' : World} {base base' n size : Nat} {t : TypeId} {v lv : Value} {xs : List Value} {ws : List WayE} (h : WaysOwn W base lv ws) (ho : W.ownsRow base' t size v n xs) (h1 : 44 ≠ t) (h2 : 3 ≠ t) (hg : W.grownBy W' v.ownBlock) : WaysOwn W' base lv ws := by
  obtain ⟨vs, hl, ha, hb⟩ := h
  exact ⟨vs, hl, own_kept ha hg (fun g e e2 => own_ne ha ho h1 g e e2), fun i hv hw => own_kept (hb i hv hw) hg (fun g e e2 => own_ne (hb i hv hw) ho h2 g e e2)⟩
theorem WaysOwn.at {W : World} {base : Nat} {a : Option Addr} {n c : Nat} {ws : List WayE} (h : WaysOwn W base (.slice a n c) ws) (h300 : ws.length ≤ 300) (hel : ∀ p ∈ ws, p.1.length ≤ 300) : n = ws.length ∧ WaysAt W.heap.size W a n ws := by
  obtain ⟨vs, hl, ha, hb⟩ := h
  rcases ha.2 with ⟨h1, h2⟩ | ⟨g, cap', cur, hv, hbg, hg, hle, hm, hs, ht⟩
  · injection h1 with e1 e2 e3
    subst e1 e2
    exact ⟨by omega, by omega, by omega, 0, 0, .inl h2, fun i hi => by omega⟩
  · injection hv with e1 e2 e3
    subst e1 e2
    refine ⟨rfl, rfl, by omega, g, 0, .inr rfl, fun i hi => ?_⟩
    have hlt : g < W.heap.size := (Array.getElem?_eq_some_iff.1 hg).1
    have hat : ∀ j, j < ws.length * 2 → W.cell? ⟨g, j, none⟩ = (wayCells vs ws)[j]? := fun j hj => by
      rw [cell_of_row W g j cur 44 (0, 0) hg, ← ht, List.getElem?_take_of_lt hj, Array.getElem?_toList]
    have hiv : i < vs.length := by omega
    obtain ⟨f0, f1⟩ := wayCells_at vs ws i hiv hi
    have hrow := hb i hiv hi
    obtain ⟨ea, ec, he⟩ := own_form hrow
    rw [he] at hrow f0
    have hF := (ints_own hrow (by have := hel ws[i] (List.getElem_mem hi); omega)).2
    exact ⟨hlt, ea, ws[i].1.length, ec, by rw [Nat.zero_add, hat _ (by omega), f0], hF, by rw [Nat.zero_add, hat _ (by omega), f1]⟩
/-- Lists of ways that a call has made. -/
def WayssOwn (W : World) (base : Nat) (ov : Value) (wss : List (List WayE)) : Prop :=
  ∃ lvs : List Value, lvs.length = wss.length ∧ W.ownsRow base 42 1 ov wss.length lvs ∧ (∀ u ∈ lvs, u.oneCell' = true) ∧ ∀ i (hv : i < lvs.length) (hw : i < wss.length), WaysOwn W base lvs[i] wss[i] ∧ ∃ la ll lc, lvs[i] = .slice la ll lc
theorem WayssOwn.below {W W' : World} {base : Nat} {lv : Value} {ws : List (List WayE)} (h : WayssOwn W base lv ws) (hb : Below W.heap.size W W') : WayssOwn W' base lv ws := by
  obtain ⟨vs, h1, h2, h4, h3⟩ := h
  exact ⟨vs, h1, own_below h2 hb, h4, fun i hv hw => ⟨(h3 i hv hw).1.below hb, (h3 i hv hw).2⟩⟩
theorem WayssOwn.nil (W : World) (base : Nat) : WayssOwn W base (.slice none 0 0) [] := ⟨[], rfl, World.ownsRow_nil _ _ _ _, by simp, fun i hv => by simp at hv⟩
theorem WayssOwn.at {W : World} {base : Nat} {a : Option Addr} {n c : Nat} {wss : List (List WayE)} (h : WayssOwn W base (.slice a n c) wss) (h300 : ∀ ws ∈ wss, ws.length ≤ 300) (hel : ∀ ws ∈ wss, ∀ p ∈ ws, p.1.length ≤ 300) : n = wss.length ∧ WayssAt W.heap.size W a n wss := by
  obtain ⟨vs, hl, ha, _, hb⟩ := h
  rcases ha.2 with ⟨h1, h2⟩ | ⟨g, cap', cur, hv, hbg, hg, hle, hm, hs, ht⟩
  · injection h1 with e1 e2 e3
    subst e1 e2
    exact ⟨by omega, by omega, 0, 0, .inl h2, fun i hi => by omega⟩
  · injection hv with e1 e2 e3
    subst e1 e2
    refine ⟨rfl, rfl, g, 0, .inr rfl, fun i hi => ?_⟩
    have hlt : g < W.heap.size := (Array.getElem?_eq_some_iff.1 hg).1
    have hiv : i < vs.length := by omega
    obtain ⟨hw, la, ll, lc, he⟩ := hb i hiv hi
    rw [he] at hw
    have hW := (hw.at (h300 _ (List.getElem_mem hi)) (hel _ (List.getElem_mem hi))).2
    refine ⟨hlt, la, ll, lc, ?_, hW⟩
    rw [Nat.zero_add, cell_of_row W g i cur 42 (0, 0) hg, ← Array.getElem?_toList, ← List.getElem?_take_of_lt (show i < wss.length * 1 by omega), ht, List.getElem?_eq_getElem hiv, he]

theorem infoWay : (Try.prog.info? 44).map (fun i => (i.zero, i.size, i.bytes)) = some (some (.agg #[.slice none 0 0, .int .i64 0]), 2, 32) := by kernel_rfl
theorem infoWays : (Try.prog.info? 42).map (fun i => (i.zero, i.size, i.bytes)) = some (some (.slice none 0 0), 1, 24) := by kernel_rfl

def WaysOk (n : Nat) (es : List E) (x : Int) (ws : List WayE) : Prop := ∀ p ∈ ws, isWayF n es 0 1 x p = true
def WayssOk (n : Nat) (es : List E) (order : List Int) (wss : List (List WayE)) : Prop := ∀ i, i < wss.length → WaysOk n es (order[i]?.getD 0) (wss[i]?.getD []) ∧ (wss[i]?.getD []).length ≤ 6
def WaysPost (n : Nat) (es : List E) (order : List Int) (w : World) (e : Ending) (w' : World) : Prop :=
  ∃ a c wss, e = .returned (.slice a wss.length c) ∧ WayssAt w'.heap.size w' a wss.length wss ∧ wss.length ≤ order.length ∧ WayssOk n es order wss ∧ Below w.heap.size w w'
theorem WayssOk.few {n : Nat} {es : List E} {order : List Int} {wss : List (List WayE)} (h : WayssOk n es order wss) : ∀ ws ∈ wss, ws.length ≤ 300 := fun ws hws => by
  obtain ⟨i, hi, rfl⟩ := List.getElem_of_mem hws
  have := (h i hi).2
  rw [List.getElem?_eq_getElem hi] at this
  have h2 : wss[i].length ≤ 6 := this
  omega
theorem WaysOk.short {n : Nat} {es : List E} {x : Int} {ws : List WayE} (h : WaysOk n es x ws) (hn : n ≤ 64) : ∀ p ∈ ws, p.1.length ≤ 300 := fun p hp => by
  have := h p hp
  simp only [isWayF, Bool.and_eq_true, decide_eq_true_eq] at this
  omega

theorem WayssOk.short {n : Nat} {es : List E} {order : List Int} {wss : List (List WayE)} (h : WayssOk n es order wss) (hn : n ≤ 64) : ∀ ws ∈ wss, ∀ p ∈ ws, p.1.length ≤ 300 := fun ws hws => by
  obtain ⟨i, hi, rfl⟩ := List.getElem_of_mem hws
  have := (h i hi).1
  rw [List.getElem?_eq_getElem hi] at this
  exact WaysOk.short this hn
theorem WayssOk.snoc {n : Nat} {es : List E} {order : List Int} {wss : List (List WayE)} {ws : List WayE} {x : Int} (h : WayssOk n es order wss) (hx : order[wss.length]?.getD 0 = x) (hw : WaysOk n es x ws) (h6 : ws.length ≤ 6) : WayssOk n es order (wss ++ [ws]) := fun i hi => by
  by_cases e : i < wss.length
  · rw [List.getElem?_append_left e]; exact h i e
  · have e2 : i = wss.length := by simp at hi; omega
    subst e2
    rw [hx]
    simpa using ⟨hw, h6⟩

set_option maxRecDepth 100000 in
set_option maxHeartbeats 8000000 in
theorem ways_any (n : Nat) (a : Option Addr) (len cap : Nat) (es : List E) (oa : Option Addr) (ol oc : Nat) (order : List Int) (ra : Option Addr) (rl rc : Nat) (raw : List (List Int)) (w : World) (hE : NetAt w.heap.size w a len es) (hO : FlowAt w.heap.size w oa ol order) (hR : IntssAt w.heap.size w ra rl raw) (hr : right n es = true) (hsrc : ∀ x ∈ order, isSrc es 0 x = true) (hol : ol ≤ 256) :
    Calls Try.prog 15 #[netV n a len cap, .slice oa ol oc, .slice ra rl rc] w (WaysPost n es order w) := by
  have hlen : len ≤ 256 := by have := (right_iff.1 hr).2.2.1; rw [hE.1] at this; exact this
  have hn64 : n ≤ 64 := by have := (right_iff.1 hr).2.1; omega
  have hn2 : 2 ≤ n := by have := (right_iff.1 hr).1; omega
  have HlE := Lib.hid hE.1
  have HlO := Lib.hid hO.1
  have HlR := Lib.hid hR.1
  have hrlx := hR.2.1
  have HE := Lib.hid hE
  have HO := Lib.hid hO
  have HRAW := Lib.hid hR
  have HRT := Lib.hid hr
  have HSRC := Lib.hid hsrc
  have hmb := make_bools n (by omega)
  have hn0 : 0 < n := by omega
  obtain ⟨i0, hi0, hx0, hx1, hx2⟩ := info_parts infoInt
  obtain ⟨i1, hi1, hy0, hy1, hy2⟩ := info_parts infoWay
  obtain ⟨i2, hi2, hz0, hz1, hz2⟩ := info_parts infoWays
  clear hE hO hR hr hsrc
  go_enter Try.func15, Try.ntmps15
  go_wp2
  go_loopw [7, 8] (fun ov kv wr => ∃ (k : Nat) (wss : List (List WayE)) (ow : Value), ov = ow ∧ k ≤ ol ∧ k ≤ rl ∧ kv = .int .i64 k ∧ Hid (wss.length = k) ∧ Hid (WayssOk n es order wss) ∧ WayssOwn wr (w.heap.size + 1) ow wss ∧ Blk wr w.heap.size 24 #[.int .i64 (n : Int), .slice a len cap] ∧ Below w.heap.size w wr) (fun _ kv _ => ol - (intOf kv).toNat)
  case atStart => exact ⟨0, [], _, rfl, Nat.zero_le _, Nat.zero_le _, rfl, Lib.hid rfl, Lib.hid (fun i hi => by simp at hi), WayssOwn.nil _ _, Blk.new w _ _, (Below.refl _ w).alloc (Nat.le_refl _) _⟩
  case round =>
    obtain ⟨k, wss, ov, rfl, hk, hkr, rfl, hwl, hwo, hown, bN, hB⟩ := hrel
    obtain ⟨w1, rfl⟩ : ∃ w', w' = wr := ⟨_, rfl⟩
    have hz1' := hB.size
    have HOWN := Lib.hid hown
    have BN := Lib.hid bN
    have lN := bN.lt
    clear hown bN
    have hsp : (k < ol ∧ k < rl) ∨ k = ol ∨ (k < ol ∧ k = rl) := by omega
    rcases hsp with ⟨hko, hkr2⟩ | rfl | ⟨hko, rfl⟩
    · have hkO : k < order.length := by rw [HlO.out]; exact hko
      have hkR : k < raw.length := by rw [HlR.out]; exact hkr2
      have hkoI : (k : Int) < (ol : Int) := by omega
      have hkrI : (k : Int) < (rl : Int) := by omega
      obtain ⟨_, _, rb, ro, hra, hrc⟩ := HRAW.out.below hB
      obtain ⟨hrb, ⟨za, zl, zc, cz, hz⟩, hzi⟩ := hrc k hkR
      obtain rfl : ra = some ⟨rb, ro, none⟩ := by
        rcases hra with h | h
        · omega
        · exact h
      obtain ⟨zs, hzs⟩ : ∃ z, raw[k] = z := ⟨_, rfl⟩
      rw [hzs] at hz hzi
      have hzl := hz.2.1
      have HZ := Lib.hid hz
      have HZI := Lib.hid hzi
      have HCZ := Lib.hid cz
      obtain ⟨ob, oo, hoa, hoc⟩ := (HO.out.below hB).2.2.int
      obtain ⟨hob, co⟩ := hoc k hkO
      obtain rfl : oa = some ⟨ob, oo, none⟩ := by
        rcases hoa with h | h
        · omega
        · exact h
      have hsx := isSrc_iff.1 (HSRC.out _ (List.getElem_mem hkO))
      obtain ⟨m, hm⟩ : ∃ m : Nat, order[k] = (m : Int) := ⟨order[k].toNat, by omega⟩
      rw [hm] at hsx
      have hxm : order[k]?.getD 0 = (m : Int) := by rw [List.getElem?_eq_getElem hkO]; exact hm
      rw [hxm] at co
      have hml : m < es.length := by have := hsx.2.1; omega
      have hmlen : m < len := by rw [← HlE.out]; exact hml
      have hms : (ed es m).1 = 0 := by have := hsx.2.2; rwa [Int.toNat_natCast] at this
      have HXM := Lib.hid hxm
      have HMS := Lib.hid hms
      have HML := Lib.hid hml
      have HCO := Lib.hid co
      have hrb1 : rb < w1.heap.size := by omega
      have hob1 : ob < w1.heap.size := by omega
      have hmI : (m : Int) < (len : Int) := by omega
      clear hra hrc hzs hz hzi cz hoa hoc hsx hm hxm co hms hkO hkR
      clear hml
      have cz1 := HCZ.out
      go_wp2
      clear cz1
      go_loopw [9, 10] (fun lv jv wr => ∃ (j : Nat) (ws : List WayE) (lw : Value), lv = lw ∧ j ≤ 6 ∧ j ≤ zl ∧ jv = .int .i64 j ∧ ws.length ≤ j ∧ Hid (WaysOk n es (m : Int) ws) ∧ WaysOwn wr w1.heap.size lw ws ∧ Below w1.heap.size w1 wr) (fun _ jv _ => 6 - (intOf jv).toNat)
      case atStart => exact ⟨0, [], _, rfl, by omega, Nat.zero_le _, rfl, by simp, Lib.hid (fun p hp => by simp at hp), WaysOwn.nil _ _, Below.refl _ _⟩
      case round =>
        obtain ⟨j, ws, lv, rfl, hj6, hjz, rfl, hwsl, hwsok, hwown, hb⟩ := hrel
        obtain ⟨w2, rfl⟩ : ∃ w', w' = wr := ⟨_, rfl⟩
        have hz2' := hb.size
        have HWOWN := Lib.hid hwown
        have bN2 := BN.out.below hb lN
        obtain ⟨lN2, n0, n1⟩ := bN2.two
        have cz2 : w2.cell? ⟨rb, ro + k, none⟩ = some (.slice za zl zc) := (hb.cell (p := ⟨rb, ro + k, none⟩) hrb1).trans HCZ.out
        have co2 : w2.cell? ⟨ob, oo + k, none⟩ = some (.int .i64 (m : Int)) := (hb.cell (p := ⟨ob, oo + k, none⟩) hob1).trans HCO.out
        clear hwown
        have hsp2 : (j < zl ∧ j < 6) ∨ j = zl ∨ (j < zl ∧ j = 6) := by omega
        rcases hsp2 with ⟨hjz2, hj62⟩ | rfl | ⟨hjz2, rfl⟩
        · have hjzl : j < zs.length := by rw [HZ.out.1]; exact hjz2
          obtain ⟨zb, zo, hza, hzc⟩ := (HZ.out.below (hb.mono hz1')).2.2.int
          obtain ⟨hzb, cj⟩ := hzc j hjzl
          obtain rfl : za = some ⟨zb, zo, none⟩ := by
            rcases hza with h | h
            · omega
            · exact h
          have HI : Hid (I64 (zs[j]?.getD 0)) := Lib.hid (by rw [List.getElem?_eq_getElem hjzl]; exact HZI.out _ (List.getElem_mem hjzl))
          obtain ⟨y, hy⟩ : ∃ y, zs[j]?.getD 0 = y := ⟨_, rfl⟩
          rw [hy] at cj HI
          have hpb := pk_bd y 1048576 (by omega)
          obtain ⟨c, hc⟩ : ∃ c, pk y 1048576 = c := ⟨_, rfl⟩
          rw [hc] at hpb
          obtain ⟨hc0, hc1⟩ := hpb
          have HPK := Lib.hid hc
          have hjzI : (j : Int) < (zl : Int) := by omega
          have hj6I : (j : Int) < 6 := by omega
          have hzb2 : zb < w2.heap.size := by omega
          have hrb2 : rb < w2.heap.size := by omega
          have hob2 : ob < w2.heap.size := by omega
          clear hza hzc hy hc hjzl
          go_upto_region 13 with (go_at_call 29; (with_reducible refine (pick7_any _ _ _ HI.out (by omega) (by omega)).mono ?_); rw [HPK.out]; rintro e wp ⟨rfl, rfl⟩)
          have hq0 : 0 ≤ c % 7 ∧ c % 7 ≤ 6 := by omega
          obtain ⟨q, hq⟩ : ∃ q, c % 7 = q := ⟨_, rfl⟩
          rw [hq] at hq0 ⊢
          obtain ⟨hq0, hq6⟩ := hq0
          obtain ⟨w3, hw3⟩ : ∃ W, ((w2.alloc (.cells #[.int .i64 (m : Int)] 3)).alloc (.cells #[.slice (some ⟨w2.heap.size, 0, none⟩) 1 1, .int .i64 q] 44)).alloc (.cells ((Array.replicate n (.bool false)).setIfInBounds 0 (.bool true)) 4) = W := ⟨_, rfl⟩
          have hT0 : TrailAt w2 (w2.heap.size + 1) (w2.heap.size + 1 + 1) q [(m : Int)] (Gm.start (n : Int) 0) (.slice (some ⟨w2.heap.size, 0, none⟩) 1 1) w3 := by
            rw [← hw3]
            refine ⟨?_, ?_, ?_, ?_⟩
            · have h := (Blk.new (w2.alloc (.cells #[.int .i64 (m : Int)] 3)) 44 #[.slice (some ⟨w2.heap.size, 0, none⟩) 1 1, .int .i64 q]).alloc (.cells ((Array.replicate n (.bool false)).setIfInBounds 0 (.bool true)) 4)
              simp only [World.size_alloc] at h; exact h
            · have h : (w2.alloc (.cells #[.int .i64 (m : Int)] 3)).ownsRow w2.heap.size 3 1 (.slice (some ⟨w2.heap.size, 0, none⟩) 1 1) 1 (ints [(m : Int)]) :=
                ⟨rfl, .inr ⟨w2.heap.size, 1, #[.int .i64 (m : Int)], rfl, Nat.le_refl _, World.alloc_heap_new w2 _, Nat.le_refl _, by simp [maxLen], rfl, rfl⟩⟩
              exact (h.alloc _).alloc _
            · have h := Blk.new ((w2.alloc (.cells #[.int .i64 (m : Int)] 3)).alloc (.cells #[.slice (some ⟨w2.heap.size, 0, none⟩) 1 1, .int .i64 q] 44)) 4 ((Array.replicate n (.bool false)).setIfInBounds 0 (.bool true))
              simp only [World.size_alloc] at h
              rw [← boolsA_rep, boolsA_set] at h ⊢
              exact h
            · exact (((Below.refl _ w2).alloc (Nat.le_refl _) _).alloc (by simp) _).alloc (by simp; omega) _
          rw [hw3]
          have HT0 := Lib.hid hT0
          obtain ⟨b, off, ha, hec⟩ := ((HE.out.below hB).below (hb.mono hz1')).2.2
          obtain ⟨hbb, _, c1, c2⟩ := hec m HML.out
          obtain rfl : a = some ⟨b, off, none⟩ := by
            rcases ha with h | h
            · have := HML.out; omega
            · exact h
          have hed : ed es m = es[m]'HML.out := by unfold ed; rw [List.getElem?_eq_getElem HML.out]; rfl
          rw [← hed] at c1
          have hokm := okE_iff.1 ((right_iff.1 HRT.out).2.2.2 _ (ed_mem HML.out))
          have hu0 := hokm.2.2.1
          have hu1 := hokm.2.2.2.1
          have HONE := Lib.hid (Trail.one (s := 0) HRT.out HML.out HMS.out)
          obtain ⟨u0, hu⟩ : ∃ u, (ed es m).2.1 = u := ⟨_, rfl⟩
          rw [hu] at c1 hu0 hu1 HONE
          have hbb2 : b < w2.heap.size := by omega
          have hlow0 := hT0.low
          have hcells : ∀ W, Below w3.heap.size w3 W → W.cell? ⟨w.heap.size, 1, none⟩ = some (.slice (some ⟨b, off, none⟩) len cap) ∧ W.cell? ⟨ob, oo + k, none⟩ = some (.int .i64 (m : Int)) ∧ W.cell? ⟨b, off + m * 3 + 1, none⟩ = some (.int .i64 u0) := fun W h => by
            have h5 : Below w2.heap.size w2 W := hlow0.trans (h.mono hlow0.size)
            exact ⟨(bN2.below h5 lN2).two.2.2, (h5.cell (p := ⟨ob, oo + k, none⟩) hob2).trans co2, (h5.cell (p := ⟨b, off + m * 3 + 1, none⟩) hbb2).trans c1⟩
          have HCE := Lib.hid hcells
          have hz3 := hlow0.size
          clear hw3 hT0 ha hec c1 c2 hed hokm hu hcells hq cj n0 n1 cz2 co2 hmb
          have hBq := below_drew (Below.refl w3.heap.size w3)
          refine region_mix (fun W => Below w3.heap.size w3 W) (9) (.reads [0, 1, 2, 3, 4, 5, 6, 7, 8] (.only 9 (.stop))) (by kernel_rfl) (by kernel_rfl) (hBq) ?_
          obtain ⟨wq, hwq⟩ : ∃ W, w3.drew = W := ⟨_, rfl⟩
          rw [hwq] at hBq ⊢
          clear hwq
          repeat (
            refine plan_read rfl (fun K hK => ?_)
            first
              | (refine plan_neg ?_ ?_
                 focus (go_simp; done)
                 go_simp
                 refine hK _ ?_
                 clear hK K)
              | (apply plan_pos
                 focus (go_simp; done)
                 focus (
                   intro W hW
                   (obtain ⟨d0, d1, d2⟩ := HCE.out W hW)
                   go_simp
                   first
                     | done
                     | exact rfl)
                 go_simp
                 refine hK _ ?_
                 clear hK K))
          refine plan_only rfl (fun Q hQ => ?_)
          go_wp2
          refine hQ _ _ (fun h => absurd h (by omega)) ?_
          clear hQ Q
          unfold Plan.wp
          have hsl : (Gm.start (n : Int) 0).length = n := by simp [Gm.start]
          have bS := HT0.out.marks.below hBq HT0.out.marks.lt
          have cs := bS.cell u0.toNat
          rw [boolsA_at _ _ (by rw [hsl]; omega)] at cs
          obtain ⟨z0, hz0⟩ : ∃ z, (Gm.start (n : Int) 0)[u0.toNat]?.getD false = z := ⟨_, rfl⟩
          rw [hz0] at cs
          have csf := bS.frozen u0.toNat
          have lS := bS.lt
          have hu0n : u0.toNat < n := by omega
          have hI0 : TrailAt w2 (w2.heap.size + 1) (w2.heap.size + 1 + 1) q [(m : Int)] ((Gm.start (n : Int) 0).set u0.toNat true) (.slice (some ⟨w2.heap.size, 0, none⟩) 1 1) (wq.setCell ⟨w2.heap.size + 1 + 1, u0.toNat, none⟩ (.bool true)) :=
            ⟨(HT0.out.box.below hBq HT0.out.box.lt).far (p := ⟨w2.heap.size + 1 + 1, u0.toNat, none⟩) (by simp) _, ownsRow_setCell_other (own_below HT0.out.row hBq) (a := ⟨w2.heap.size + 1 + 1, u0.toNat, none⟩) (own_blk_ne (own_below HT0.out.row hBq) bS (by decide)) _, by rw [← boolsA_set]; exact bS.set _ _, (HT0.out.low.trans (hBq.mono hz3)).setCell (p := ⟨w2.heap.size + 1 + 1, u0.toNat, none⟩) (by simp; omega) _⟩
          have HI0 := Lib.hid hI0
          clear hz0 hI0 HCE
          go_wp2
          go_loopw [11, 14] (fun cv uv wr => ∃ (c u : Int) (l : List Int) (seen : List Bool) (ev : Value), cv = .int .i64 c ∧ uv = .int .i64 u ∧ 0 ≤ c ∧ c ≤ 1048576 ∧ Hid (Trail n es 0 (m : Int) l u seen) ∧ TrailAt w2 (w2.heap.size + 1) (w2.heap.size + 1 + 1) q l seen ev wr) (fun _ _ wr => leftN (w2.heap.size + 1) n wr)
          case atStart => exact ⟨c, u0, [(m : Int)], _, _, rfl, rfl, hc0, by omega, HONE, HI0.out⟩
          case round =>
            clear cs csf lS bS HI0 HT0 hBq hlow0 hz3
            obtain ⟨c', u, l, seen, ev, rfl, rfl, hc0', hc1', htr, hT⟩ := hrel
            obtain ⟨w4, rfl⟩ : ∃ w', w' = wr := ⟨_, rfl⟩
            have hz4 := hT.low.size
            obtain ⟨ea, ec, rfl⟩ := own_form hT.row
            have hsh := htr.out.short
            have HT := Lib.hid hT
            clear hT
            by_cases hu1' : u = 1
            · have t1 : (u != 1) = false := by simp [hu1']
              have t2 : (u == 1) = true := by simp [hu1']
              have HWAY : Hid (isWayF n es 0 1 (m : Int) (l, q) = true) := Lib.hid ((hu1' ▸ htr.out).isWay hq0 (by omega))
              obtain ⟨vs, hvl, hrow, hrows⟩ := HWOWN.out.below HT.out.low
              have HROWS := Lib.hid hrows
              have HVL := Lib.hid hvl
              have HROW := Lib.hid hrow
              have hoT := hrow.alloc (.cells #[.slice ea l.length ec, .int .i64 q] 44)
              obtain ⟨lX, x0, x1⟩ := HT.out.box.two
              clear hu1' hrows hvl hrow
              go_wp2_with (
                at_builtin
                refine wpList_append_lies _ (by rfl) (.tmp 138) (.tmp 140) 42 (by rfl) w1.heap.size 44 i1 _ 2 32 Try.underlying42 hi1 hy0 hy1 hy2 rfl (by decide) _ ws.length (wayCells vs ws) (by rfl) hoT ⟨w4.heap.size, 0, none⟩ 1 1 [.slice ea l.length ec, .int .i64 q] (by rfl) (by rfl) (cells_two _ _ _ _) (by simp [Value.oneCell']) (by omega) (by simp [maxLen]; omega) (by omega) (by simp; omega) (w4.heap.size + 1) (by simp) ?_
                intro g2 cap2' w9 hoT9 hg9 hloc9 hlt9)
              go_roundw
              case rel =>
                have hga : w4.grownBy w9 _ := (World.grownBy_alloc w4 _ _).trans hg9
                refine ⟨j + 1, ws ++ [(l, q)], _, rfl, by omega, by omega, by go_num, by simp; omega, Lib.hid (fun p hp => ?_), ⟨vs ++ [.slice ea l.length ec], by simp [HVL.out], ?_, fun i hv hw => ?_⟩, ?_⟩
                · rcases List.mem_append.1 hp with hp | hp
                  · exact hwsok.out p hp
                  · rw [List.mem_singleton.1 hp]; exact HWAY.out
                · rw [wayCells_snoc _ _ _ _ HVL.out, List.length_append]
                  exact hoT9
                · by_cases hi : i < vs.length
                  · have hiw : i < ws.length := by rw [← HVL.out]; exact hi
                    rw [List.getElem_append_left hi, List.getElem_append_left hiw]
                    exact own_kept (HROWS.out i hi hiw) hga (fun g e e2 => own_ne (HROWS.out i hi hiw) HROW.out (by decide) g e e2)
                  · have hie : i = vs.length := by simp at hv; omega
                    subst hie
                    have e1 : (vs ++ [Value.slice ea l.length ec])[vs.length]'(by simp) = .slice ea l.length ec := by simp
                    have e2 : (ws ++ [(l, q)])[vs.length]'(by simp [HVL.out]) = (l, q) := by simp [HVL.out]
                    rw [e1, e2]
                    exact own_kept (own_less HT.out.row hz2') hga (fun g e e2 => own_ne HT.out.row HROW.out (by decide) g e e2)
                · exact ((hb.trans (HT.out.low.mono hz2')).alloc (Nat.le_trans hz2' hz4) _).grown hg9 (by simp; omega) (fun i e => (hoT.lt i e).1)
              case measure => simp [intOf]; omega
            · have t1 : (u != 1) = true := by simp [hu1']
              have t2 : (u == 1) = false := by simp [hu1']
              have bN4 := bN2.below HT.out.low lN2
              obtain ⟨lN4, n40, n41⟩ := bN4.two
              have hzw2 : w.heap.size ≤ w2.heap.size := Nat.le_trans hz1' hz2'
              have hBW4 : Below w.heap.size w w4 := (hB.trans (hb.mono hz1')).trans (HT.out.low.mono hzw2)
              have hut := htr.out.u0
              clear hu1'
              go_wp2
              clear n40 n41
              go_loopw [15, 16] (fun mv kv wr => ∃ (i : Nat) (ml : List Int) (mw : Value), mv = mw ∧ i ≤ len ∧ kv = .int .i64 i ∧ ml.length ≤ i ∧ Hid (Leads es u seen ml) ∧ wr.ownsRow w4.heap.size 3 1 mw ml.length (ints ml) ∧ Below w4.heap.size w4 wr) (fun _ kv _ => len - (intOf kv).toNat)
              case atStart => exact ⟨0, [], _, rfl, Nat.zero_le _, rfl, Nat.le_refl _, Lib.hid (Leads.nil _ _ _), World.ownsRow_nil _ _ _ _, Below.refl _ _⟩
              case round =>
                obtain ⟨i, ml, mv, rfl, hi, rfl, hml, hld, hrow, hb4⟩ := hrel
                obtain ⟨w5, rfl⟩ : ∃ w', w' = wr := ⟨_, rfl⟩
                have hz5 := hb4.size
                have bN5 := bN4.below hb4 lN4
                obtain ⟨lN5, n50, n51⟩ := bN5.two
                have bS5 := HT.out.marks.below hb4 HT.out.marks.lt
                have hBW5 := hBW4.trans (hb4.mono hBW4.size)
                have hsl : seen.length = n := htr.out.len
                have HSL := Lib.hid hsl
                clear hsl
                by_cases hil : i < len
                · have hie : i < es.length := by rw [HlE.out]; exact hil
                  obtain ⟨b', off', ha, hec⟩ := (HE.out.below hBW5).2.2
                  obtain ⟨hb', c0, c1, c2⟩ := hec i hie
                  obtain ⟨rfl, rfl⟩ : b = b' ∧ off = off' := by
                    rcases ha with h | h
                    · omega
                    · injection h with h; injection h with h1 h2; exact ⟨h1, h2⟩
                  have hed : ed es i = es[i] := by unfold ed; rw [List.getElem?_eq_getElem hie]; rfl
                  have ho := okE_iff.1 ((right_iff.1 HRT.out).2.2.2 _ (ed_mem hie))
                  rw [← hed] at c0 c1
                  obtain ⟨x, hx⟩ : ∃ x, ed es i = x := ⟨_, rfl⟩
                  rw [hx] at c0 c1 ho
                  have y0 := ho.2.2.1
                  have y1 := ho.2.2.2.1
                  have cs := bS5.cell x.2.1.toNat
                  rw [boolsA_at _ _ (by rw [HSL.out]; omega)] at cs
                  obtain ⟨z, hz⟩ : ∃ z, seen[x.2.1.toNat]?.getD false = z := ⟨_, rfl⟩
                  rw [hz] at cs
                  have hz' : has seen x.2.1 = z := hz
                  have HX := Lib.hid hx
                  have HZ' := Lib.hid hz'
                  have HIE := Lib.hid hie
                  have hii : (i : Int) < (len : Int) := by omega
                  have hbb5 : b < w5.heap.size := by omega
                  have lS5 := bS5.lt
                  have hxn : x.2.1.toNat < n := by omega
                  have HROW := Lib.hid hrow
                  clear ha hec hed ho hx hz hz' c2 n50
                  clear hie
                  by_cases h1 : x.1 = u
                  · have t3 : (x.1 == u) = true := by simp [h1]
                    rcases z with _ | _
                    · have HLD : Hid (Leads es u seen (ml ++ [(i : Int)])) := Lib.hid (hld.out.snoc HIE.out (by rw [HX.out]; exact h1) (by rw [HX.out]; exact HZ'.out))
                      have hoT := hrow.alloc (.cells #[.int .i64 (i : Int)] 3)
                      clear h1 hrow
                      go_wp2_with (
                        at_builtin
                        refine wpList_append_lies _ (by rfl) (.tmp 105) (.tmp 107) 25 (by rfl) w4.heap.size 3 i0 _ 1 8 Try.underlying25 hi0 hx0 hx1 hx2 rfl (by decide) _ ml.length (ints ml) (by rfl) hoT ⟨w5.heap.size, 0, none⟩ 1 1 [.int .i64 (i : Int)] (by rfl) (by rfl) (cell_one_new _ _ _) (by simp [Value.oneCell']) (by omega) (by simp [maxLen]; omega) (by omega) (by simp; omega) (w5.heap.size + 1) (by simp) ?_
                        intro g2 cap2' w6 hoT6 hg6 hloc6 hlt6)
                      go_roundw
                      case rel =>
                        refine ⟨i + 1, ml ++ [(i : Int)], _, rfl, by omega, by go_num, by simp; omega, HLD, ?_, (hb4.alloc hb4.size _).grown hg6 (by have := hb4.size; simp; omega) (fun k e => (hoT.lt k e).1)⟩
                        rw [List.length_append, show ints (ml ++ [(i : Int)]) = ints ml ++ [.int .i64 (i : Int)] by simp]; exact hoT6
                      case measure => simp [intOf]; omega
                    · clear h1 hrow
                      go_wp2
                      go_roundw
                      case rel => exact ⟨i + 1, ml, _, rfl, by omega, by go_num, by omega, hld, HROW.out, hb4⟩
                      case measure => simp [intOf]; omega
                  · have t3 : (x.1 == u) = false := by simp [h1]
                    clear h1 hrow
                    go_wp2
                    go_roundw
                    case rel => exact ⟨i + 1, ml, _, rfl, by omega, by go_num, by omega, hld, HROW.out, hb4⟩
                    case measure => simp [intOf]; omega
                · obtain rfl : i = len := by omega
                  have h25 := HT.out.low.trans (hb4.mono hz4)
                  by_cases hm0 : ml.length = 0
                  · have hmn : ml = [] := List.eq_nil_of_length_eq_zero hm0
                    subst hmn
                    obtain ⟨ma, mc, rfl⟩ := own_form hrow
                    clear hm0
                    go_wp2
                    go_roundw
                    case rel => exact ⟨j + 1, ws, _, rfl, by omega, by omega, by go_num, by omega, hwsok, HWOWN.out.below h25, hb.trans (h25.mono hz2')⟩
                    case measure => simp [intOf]; omega
                  · have hmp : 0 < ml.length := by omega
                    have t4 : ((ml.length : Int) == 0) = false := by simp [hm0]
                    have hmi : 0 ≤ c' % (ml.length : Int) ∧ c' % (ml.length : Int) < (ml.length : Int) := ⟨Int.emod_nonneg _ (by omega), Int.emod_lt_of_pos _ (by omega)⟩
                    obtain ⟨p, hp⟩ : ∃ p : Nat, c' % (ml.length : Int) = p := ⟨(c' % (ml.length : Int)).toNat, by omega⟩
                    have hp2 : c'.tmod (ml.length : Int) = p := by rw [Int.tmod_eq_emod_of_nonneg hc0']; exact hp
                    have hpl : p < ml.length := by rw [hp] at hmi; omega
                    have hplI : (p : Int) < (ml.length : Int) := by omega
                    obtain ⟨e, hee, hel, hef, hes⟩ := hld.out _ (List.getElem_mem hpl)
                    obtain ⟨ma, mc, rfl⟩ := own_form hrow
                    obtain ⟨mg, hmg, hmg0, hmg1, cm⟩ := own_int hrow hpl
                    subst hmg
                    rw [List.getElem?_eq_getElem hpl] at cm
                    have cm' : w5.cell? ⟨mg, p, none⟩ = some (.int .i64 (e : Int)) := by rw [cm]; show some (Value.int .i64 ml[p]) = _; rw [hee]
                    have hsn := htr.out.snoc HRT.out hel hef hes
                    have hoke := okE_iff.1 ((right_iff.1 HRT.out).2.2.2 _ (ed_mem hel))
                    have HSN := Lib.hid hsn
                    have bM5 := HT.out.box.below hb4 HT.out.box.lt
                    obtain ⟨lM5, m50, m51⟩ := bM5.two
                    have hoE := (own_below HT.out.row hb4).alloc (.cells #[.int .i64 (e : Int)] 3)
                    have helI : (e : Int) < (i : Int) := by have := HlE.out; omega
                    have hel2 : e < i := by have := HlE.out; omega
                    have HEL := Lib.hid hel
                    have HES := Lib.hid hes
                    obtain ⟨x, hx⟩ : ∃ x, (ed es e).2.1 = x := ⟨_, rfl⟩
                    have hx0' : 0 ≤ x := by rw [← hx]; exact hoke.2.2.1
                    have hx1' : x < (n : Int) := by rw [← hx]; exact hoke.2.2.2.1
                    have HX := Lib.hid hx
                    have HM0 := Lib.hid hm0
                    have hlb : l.length ≤ 64 := by omega
                    clear hmi hee hel hef hes cm hsn hoke hx hm0 hml
                    go_upto_region 26 with (
                      at_builtin
                      refine wpList_append_lies _ (by rfl) (.tmp 122) (.tmp 124) 25 (by rfl) w2.heap.size 3 i0 _ 1 8 Try.underlying25 hi0 hx0 hx1 hx2 rfl (by decide) _ l.length (ints l) (by rfl) hoE ⟨w5.heap.size, 0, none⟩ 1 1 [.int .i64 (e : Int)] (by rfl) (by rfl) (cell_one_new _ _ _) (by simp [Value.oneCell']) (by omega) (by simp [maxLen]; omega) (by omega) (by simp; omega) (w5.heap.size + 1) (by simp) ?_
                      intro g3 cap3 w6 hoE6 hg6 hloc6 hlt6
                      have bM6 := (bM5.alloc (.cells #[.int .i64 (e : Int)] 3)).kept hg6 (own_blk_ne hoE (bM5.alloc _) (by decide)).symm
                      obtain ⟨lM6, m60, m61⟩ := bM6.two
                      have fM6 := bM6.frozen 0)
                    have bS6 := (bS5.alloc (.cells #[.int .i64 (e : Int)] 3)).kept hg6 (own_blk_ne hoE (bS5.alloc _) (by decide)).symm
                    have h26 : Below w2.heap.size w2 w6 := (h25.alloc h25.size _).grown hg6 (by have := h25.size; simp; omega) (fun k e => (hoE.lt k e).1)
                    obtain ⟨w7, hw7⟩ : ∃ W, w6.setCell ⟨w2.heap.size + 1, 0, none⟩ (.slice (some ⟨g3, 0, none⟩) (l.length + 1) cap3) = W := ⟨_, rfl⟩
                    have hT7 : TrailAt w2 (w2.heap.size + 1) (w2.heap.size + 1 + 1) q (l ++ [(e : Int)]) seen (.slice (some ⟨g3, 0, none⟩) (l.length + 1) cap3) w7 := by
                      rw [← hw7]
                      refine ⟨bM6.set 0 _, ?_, bS6.far (p := ⟨w2.heap.size + 1, 0, none⟩) (by simp) _, h26.setCell (p := ⟨w2.heap.size + 1, 0, none⟩) (by simp) _⟩
                      rw [List.length_append, show ints (l ++ [(e : Int)]) = ints l ++ [.int .i64 (e : Int)] by simp]
                      exact ownsRow_setCell_other hoE6 (a := ⟨w2.heap.size + 1, 0, none⟩) (own_blk_ne hoE6 bM6 (by decide)) _
                    rw [hw7]
                    have HT7 := Lib.hid hT7
                    have bN7 := bN2.below hT7.low lN2
                    obtain ⟨lN7, n70, n71⟩ := bN7.two
                    have hBW7 : Below w.heap.size w w7 := (hB.trans (hb.mono hz1')).trans (hT7.low.mono hzw2)
                    obtain ⟨b', off', ha, hec⟩ := (HE.out.below hBW7).2.2
                    obtain ⟨hb', c0, c1, c2⟩ := hec e HEL.out
                    obtain ⟨rfl, rfl⟩ : b = b' ∧ off = off' := by
                      rcases ha with h | h
                      · have := HEL.out; omega
                      · injection h with h; injection h with h1 h2; exact ⟨h1, h2⟩
                    have hed : ed es e = es[e]'HEL.out := by unfold ed; rw [List.getElem?_eq_getElem HEL.out]; rfl
                    rw [← hed, HX.out] at c1
                    have bS7 := hT7.marks
                    have cs := bS7.cell x.toNat
                    rw [boolsA_at _ _ (by rw [HSL.out]; omega)] at cs
                    obtain ⟨z, hz⟩ : ∃ z, seen[x.toNat]?.getD false = z := ⟨_, rfl⟩
                    rw [hz] at cs
                    have fS7 := bS7.frozen x.toNat
                    have lS7 := bS7.lt
                    have hbb7 : b < w7.heap.size := Nat.lt_of_lt_of_le hb' hBW7.size
                    have hxn : x.toNat < n := by omega
                    clear hw7 hT7 ha hec c0 c2 hed hz bM6 bS6 lM6 m60 m61 fM6 hp hp2 cm' hoE hoE6 hg6 hloc6 hlt6 m50 m51 n50 n51
                    go_wp2
                    have hbox : Blk (w7.setCell ⟨w2.heap.size + 1 + 1, x.toNat, none⟩ (.bool true)) (w2.heap.size + 1) 44 #[.slice (some ⟨g3, 0, none⟩) (l.length + 1) cap3, .int .i64 q] := HT7.out.box.far (p := ⟨w2.heap.size + 1 + 1, x.toNat, none⟩) (by simp) _
                    have HBOX := Lib.hid hbox
                    clear hbox
                    go_roundw
                    case rel =>
                      have hsn := HSN.out
                      rw [HX.out] at hsn
                      refine ⟨_, x, l ++ [(e : Int)], seen.set x.toNat true, _, rfl, rfl, ?_, ?_, Lib.hid hsn, HBOX.out, ownsRow_setCell_other HT7.out.row (a := ⟨w2.heap.size + 1 + 1, x.toNat, none⟩) (own_blk_ne HT7.out.row HT7.out.marks (by decide)) _, by rw [← boolsA_set]; exact HT7.out.marks.set _ _, HT7.out.low.setCell (p := ⟨w2.heap.size + 1 + 1, x.toNat, none⟩) (by simp; omega) _⟩
                      · first | omega | (rw [Int.tdiv_eq_ediv_of_nonneg hc0']; omega)
                      · first | omega | (rw [Int.tdiv_eq_ediv_of_nonneg hc0']; omega)
                    case measure =>
                      have h1 := HSN.out.short
                      rw [List.length_append] at h1
                      simp only [List.length_cons, List.length_nil] at h1
                      have h2 := leftN_of (n := n) HBOX.out
                      have h3 := leftN_of (n := n) HT.out.box
                      show leftN _ _ _ < leftN _ _ _
                      rw [h2, h3]; omega
        · have hnl : ¬ (j : Int) < (j : Int) := by omega
          have hrb2 : rb < w2.heap.size := by omega
          obtain ⟨vs, hvl, hrow, hrows⟩ := HWOWN.out
          obtain ⟨la, lc, rfl⟩ := own_form hrow
          obtain ⟨lvs, hll, horow, hone, hows⟩ := HOWN.out.below hb
          have HONE := Lib.hid hone
          have HOWS := Lib.hid hows
          have HLL := Lib.hid hll
          have HROW := Lib.hid horow
          have hoT := horow.alloc (.cells #[.slice la ws.length lc] 42)
          have hwlb : wss.length ≤ 256 := by have := hwl.out; omega
          have hzw2 : w.heap.size + 1 ≤ w2.heap.size := Nat.lt_of_lt_of_le lN hz2'
          clear hrow hrows hvl hone hows hll horow co2 n0 hmb
          go_wp2_with (
            at_builtin
            refine wpList_append_lies _ (by rfl) (.tmp 142) (.tmp 144) 26 (by rfl) (w.heap.size + 1) 42 i2 _ 1 24 Try.underlying26 hi2 hz0 hz1 hz2 rfl (by decide) _ wss.length lvs (by rfl) hoT ⟨w2.heap.size, 0, none⟩ 1 1 [.slice la ws.length lc] (by rfl) (by rfl) (cell_one_new _ _ _) (by simp [Value.oneCell']) (by omega) (by simp [maxLen]; omega) (by omega) (by simp; omega) (w2.heap.size + 1) (by simp) ?_
            intro g2 cap2' w9 hoT9 hg9 hloc9 hlt9)
          go_roundw
          case rel =>
            have hga : w2.grownBy w9 _ := (World.grownBy_alloc w2 _ _).trans hg9
            refine ⟨k + 1, wss ++ [ws], _, rfl, by omega, by omega, by go_num, Lib.hid (by have := hwl.out; simp; omega), Lib.hid (hwo.out.snoc (by rw [hwl.out]; exact HXM.out) hwsok.out (by omega)), ⟨lvs ++ [.slice la ws.length lc], by simp [HLL.out], by rw [List.length_append]; exact hoT9, fun u hu => ?_, fun i hv hw => ?_⟩, (bN2.alloc _).kept hg9 (own_blk_ne hoT (bN2.alloc _) (by decide)).symm, ((hB.trans (hb.mono hz1')).alloc (by omega) _).grown hg9 (by simp; omega) (fun i e => by have := (hoT.lt i e).1; omega)⟩
            · rcases List.mem_append.1 hu with hu | hu
              · exact HONE.out u hu
              · rw [List.mem_singleton.1 hu]; rfl
            · by_cases hi : i < lvs.length
              · have hiw : i < wss.length := by rw [← HLL.out]; exact hi
                rw [List.getElem_append_left hi, List.getElem_append_left hiw]
                exact ⟨(HOWS.out i hi hiw).1.kept HROW.out (by decide) (by decide) hga, (HOWS.out i hi hiw).2⟩
              · have hie : i = lvs.length := by simp at hv; omega
                subst hie
                have e1 : (lvs ++ [Value.slice la ws.length lc])[lvs.length]'(by simp) = .slice la ws.length lc := by simp
                have e2 : (wss ++ [ws])[lvs.length]'(by simp [HLL.out]) = ws := by simp [HLL.out]
                rw [e1, e2]
                exact ⟨(HWOWN.out.less (show w.heap.size + 1 ≤ w1.heap.size from lN)).kept HROW.out (by decide) (by decide) hga, _, _, _, rfl⟩
          case measure => simp [intOf]; omega
        · have hnl : (6 : Int) < (zl : Int) := by omega
          have hrb2 : rb < w2.heap.size := by omega
          obtain ⟨vs, hvl, hrow, hrows⟩ := HWOWN.out
          obtain ⟨la, lc, rfl⟩ := own_form hrow
          obtain ⟨lvs, hll, horow, hone, hows⟩ := HOWN.out.below hb
          have HONE := Lib.hid hone
          have HOWS := Lib.hid hows
          have HLL := Lib.hid hll
          have HROW := Lib.hid horow
          have hoT := horow.alloc (.cells #[.slice la ws.length lc] 42)
          have hwlb : wss.length ≤ 256 := by have := hwl.out; omega
          have hzw2 : w.heap.size + 1 ≤ w2.heap.size := Nat.lt_of_lt_of_le lN hz2'
          clear hrow hrows hvl hone hows hll horow co2 n0 hmb
          go_wp2_with (
            at_builtin
            refine wpList_append_lies _ (by rfl) (.tmp 142) (.tmp 144) 26 (by rfl) (w.heap.size + 1) 42 i2 _ 1 24 Try.underlying26 hi2 hz0 hz1 hz2 rfl (by decide) _ wss.length lvs (by rfl) hoT ⟨w2.heap.size, 0, none⟩ 1 1 [.slice la ws.length lc] (by rfl) (by rfl) (cell_one_new _ _ _) (by simp [Value.oneCell']) (by omega) (by simp [maxLen]; omega) (by omega) (by simp; omega) (w2.heap.size + 1) (by simp) ?_
            intro g2 cap2' w9 hoT9 hg9 hloc9 hlt9)
          go_roundw
          case rel =>
            have hga : w2.grownBy w9 _ := (World.grownBy_alloc w2 _ _).trans hg9
            refine ⟨k + 1, wss ++ [ws], _, rfl, by omega, by omega, by go_num, Lib.hid (by have := hwl.out; simp; omega), Lib.hid (hwo.out.snoc (by rw [hwl.out]; exact HXM.out) hwsok.out (by omega)), ⟨lvs ++ [.slice la ws.length lc], by simp [HLL.out], by rw [List.length_append]; exact hoT9, fun u hu => ?_, fun i hv hw => ?_⟩, (bN2.alloc _).kept hg9 (own_blk_ne hoT (bN2.alloc _) (by decide)).symm, ((hB.trans (hb.mono hz1')).alloc (by omega) _).grown hg9 (by simp; omega) (fun i e => by have := (hoT.lt i e).1; omega)⟩
            · rcases List.mem_append.1 hu with hu | hu
              · exact HONE.out u hu
              · rw [List.mem_singleton.1 hu]; rfl
            · by_cases hi : i < lvs.length
              · have hiw : i < wss.length := by rw [← HLL.out]; exact hi
                rw [List.getElem_append_left hi, List.getElem_append_left hiw]
                exact ⟨(HOWS.out i hi hiw).1.kept HROW.out (by decide) (by decide) hga, (HOWS.out i hi hiw).2⟩
              · have hie : i = lvs.length := by simp at hv; omega
                subst hie
                have e1 : (lvs ++ [Value.slice la ws.length lc])[lvs.length]'(by simp) = .slice la ws.length lc := by simp
                have e2 : (wss ++ [ws])[lvs.length]'(by simp [HLL.out]) = ws := by simp [HLL.out]
                rw [e1, e2]
                exact ⟨(HWOWN.out.less (show w.heap.size + 1 ≤ w1.heap.size from lN)).kept HROW.out (by decide) (by decide) hga, _, _, _, rfl⟩
          case measure => simp [intOf]; omega
    · have hnl : ¬ (k : Int) < (k : Int) := by omega
      obtain ⟨lvs, hll, horow, hone, hows⟩ := HOWN.out
      obtain ⟨qa, qc, rfl⟩ := own_form horow
      have hat := (HOWN.out.at hwo.out.few (hwo.out.short hn64)).2
      have HAT := Lib.hid hat
      have hle : wss.length ≤ order.length := by have := hwl.out; have := HlO.out; omega
      have HLE := Lib.hid hle
      clear hll horow hone hows hat hle hmb
      go_wp2
      go_ret
      exact ⟨qa, qc, wss, rfl, HAT.out, HLE.out, hwo.out, hB⟩
    · have hkoI : (k : Int) < (ol : Int) := by omega
      obtain ⟨lvs, hll, horow, hone, hows⟩ := HOWN.out
      obtain ⟨qa, qc, rfl⟩ := own_form horow
      have hat := (HOWN.out.at hwo.out.few (hwo.out.short hn64)).2
      have HAT := Lib.hid hat
      have hle : wss.length ≤ order.length := by have := hwl.out; have := HlO.out; omega
      have HLE := Lib.hid hle
      clear hll horow hone hows hat hle hmb
      go_wp2
      go_ret
      exact ⟨qa, qc, wss, rfl, HAT.out, HLE.out, hwo.out, hB⟩
end Go.Proofs.Ythchlfoebkachaa
