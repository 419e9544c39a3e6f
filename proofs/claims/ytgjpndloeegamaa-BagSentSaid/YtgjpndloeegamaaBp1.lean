/-
  The program's bag: its operations: New, Len, add, Send, with, Look.
-/
import Derived.Deep.QuietTactic
import Derived.Test.YtgjpndloeegamaaClone
import Derived.Test.YtgjpndloeegamaaBpdel
import Derived.Test.YtgjpndloeegamaaMix
namespace Go.Proofs.Ytgjpndloeegamaa
open Go.RowKit Gm

theorem tp_ne : (43 : TypeId) ≠ 9 := by decide
/-- The program's bag. -/
def PBag : Kind (List Bs) := BagK 43
theorem pbag_law : Lawful PBag := bag_law _
theorem new_any (w : World) : Calls Try.prog 7 #[] w fun e w' => ∃ p R, e = .returned (.pointer (some ⟨p, 0, none⟩)) ∧ PBag w' p [] R ∧ (∀ b, R b → w.heap.size ≤ b) ∧ Below w.heap.size w w' := by
  go_enter Try.func7, Try.ntmps7
  go_wp2
  go_ret
  exact ⟨w.heap.size, fun b => b = w.heap.size ∨ (Value.slice none 0 0).ownBlock = some b, rfl, ⟨_, fun _ => Iff.rfl, new_at _ _, World.ownsRow_nil _ _ _ _⟩, fun b e => by
    rcases e with e | e
    · omega
    · simp [Value.ownBlock] at e, (Below.refl _ w).alloc (Nat.le_refl _) _⟩
theorem len_any (p : Nat) (D : List Bs) (R : Nat → Prop) (w : World) (h : PBag w p D R) (_ok : OkB D) :
    Calls Try.prog 21 #[.pointer (some ⟨p, 0, none⟩)] w fun e w' => e = .returned (.int .i64 (D.length : Int)) ∧ Below w.heap.size w w' := by
  obtain ⟨v, _, h⟩ := h
  obtain ⟨c0, _, hl⟩ := h.cells
  obtain ⟨a, cap, rfl⟩ := h.form
  clear h
  go_enter Try.func21, Try.ntmps21
  go_wp2
  go_ret
  exact ⟨rfl, Below.refl _ _⟩
theorem turn_after {X : Type} {A : Kind X} {w w1 w2 : World} {p : Nat} {D : X} {R : Nat → Prop} (hb : Below w.heap.size w w1) (ht : Turn A w1 w2 p D R) : Turn A w w2 p D R := by
  obtain ⟨R', h1, h2, h3⟩ := ht
  exact ⟨R', h1, (Beside.of_below hb).trans h2 (fun b hb _ => hb), fun b e => (h3 b e).imp id fun h => Nat.le_trans hb.size h⟩
theorem turn_beside {X : Type} {A : Kind X} {w w' : World} {p : Nat} {D : X} {R : Nat → Prop} (h : Turn A w w' p D R) : Beside R w w' := by obtain ⟨_, _, h, _⟩ := h; exact h
/-- Behind a turn a block of the call's own is written. -/
theorem turn_set {X : Type} {A : Kind X} (hA : Lawful A) {w w1 w2 : World} {p C : Nat} {D : X} {R : Nat → Prop} (hb : Below w.heap.size w w1) (hC : w.heap.size ≤ C) (hC1 : C < w1.heap.size) (hR : ∀ b, R b → b < w.heap.size) (ht : Turn A w1 w2 p D R) (u : Value) : Turn A w (w2.setCell ⟨C, 0, none⟩ u) p D R := by
  obtain ⟨R', h1, h2, h3⟩ := ht
  have hn : ¬ R' C := fun e => by
    rcases h3 C e with e' | e'
    · have := hR C e'; omega
    · omega
  refine ⟨R', hA.keep h1 (by simp [World.setCell]) (fun b e => Below.heap_setCell _ _ _ b (fun e' => hn (by have e2 : b = C := e'; rw [← e2]; exact e))), ((Beside.of_below hb).trans h2 (fun b hb _ => hb)).trans (Beside.set (R := fun b => b = C) w2 u rfl) (fun b e hb => by omega), fun b e => (h3 b e).imp id fun h => Nat.le_trans hb.size h⟩
set_option maxRecDepth 100000 in
set_option maxHeartbeats 2000000 in
theorem add_any (p : Nat) (D : List Bs) (R : Nat → Prop) (s : Bs) (w : World) (h : PBag w p D R) (hl : D.length ≤ 64) :
    Calls Try.prog 23 #[.pointer (some ⟨p, 0, none⟩), .string (S s)] w fun e w' => e = .returned (.bool (roomB D)) ∧ Turn PBag w w' p (sendB D s) R := by
  have HK := Lib.hid h
  obtain ⟨v, hR, hq⟩ := h
  have HR := Lib.hid hR
  have HQ := Lib.hid hq
  obtain ⟨c0, fz, hpl⟩ := hq.cells
  obtain ⟨a, cap, hv⟩ := hq.form
  subst hv
  obtain ⟨n, hn⟩ : ∃ n, D.length = n := ⟨_, rfl⟩
  have HN := Lib.hid hn
  have hvn : (Value.slice a D.length cap) = .slice a n cap := by rw [hn]
  rw [hvn] at c0 HQ HR
  rw [hn] at hl
  by_cases hr : n < 64
  · rw [room_yes (by omega), send_yes (by omega)]
    obtain ⟨i0, hi0, hz0, hz1, hz2⟩ := info_parts infoStr
    have d1 : decide ((64 : Int) ≤ (n : Int)) = false := decide_eq_false (by omega)
    have HQ1 : Hid ((w.alloc (.cells #[.string (S s)] 9)).ownsRow 0 9 1 (.slice a n cap) n (strV D)) := Lib.hid (by
      have h1 := (HQ.out.below ((Below.refl w.heap.size w).alloc (Nat.le_refl _) (.cells #[.string (S s)] 9))).row
      rwa [HN.out] at h1)
    have HN1 : Hid ((w.alloc (.cells #[.string (S s)] 9)).heap[w.heap.size]? = some (.cells #[.string (S s)] 9)) := Lib.hid (new_at w _)
    have HB1 : Hid (Below w.heap.size w (w.alloc (.cells #[.string (S s)] 9))) := Lib.hid ((Below.refl w.heap.size w).alloc (Nat.le_refl _) _)
    clear hn hvn hq hR hr
    go_enter Try.func23, Try.ntmps23
    go_wp2_with (at_builtin; refine wpList_append_lies _ (by rfl) (.tmp 15) (.tmp 17) 37 (by rfl) 0 9 i0 _ 1 16 Try.underlying37 hi0 hz0 hz1 hz2 rfl (by decide) (.slice a n cap) n (strV D) (by rfl) HQ1.out ⟨w.heap.size, 0, none⟩ 1 1 [.string (S s)] (by rfl) (by rfl) (news_one HN1.out) (by simp [Value.oneCell']) (by omega) (by unfold maxLen; omega) (by omega) (Nat.zero_le _) _ rfl ?_; intro g c2 w2 ho2 hg2 hat2 hl2; have HO2 := Lib.hid ho2; have HG2 := Lib.hid hg2; have HAT2 := Lib.hid hat2; obtain ⟨c2', fz2, hpl2⟩ := one_cells ((HQ.out.below HB1.out).far tp_ne hg2); clear ho2 hg2 hat2 hl2)
    go_ret
    exact ⟨rfl, send_end tp_ne HR.out HQ.out HN.out HB1.out HO2.out HG2.out HAT2.out⟩
  · rw [room_no (by omega), send_no (by omega)]
    have d1 : decide ((64 : Int) ≤ (n : Int)) = true := decide_eq_true (by omega)
    clear hn hvn hq hR hr
    go_enter Try.func23, Try.ntmps23
    go_wp2
    go_ret
    exact ⟨rfl, b_same HK.out (Below.refl _ _)⟩
theorem send_any (p : Nat) (D : List Bs) (R : Nat → Prop) (s : Bs) (w : World) (h : PBag w p D R) (ok : OkB D) (hs : s.length ≤ 140737488351232) :
    Calls Try.prog 11 #[.pointer (some ⟨p, 0, none⟩), .string (S s)] w fun e w' => e = .returned (.bool (roomB D)) ∧ Turn PBag w w' p (sendB D s) R := by
  have HK := Lib.hid h
  have HL := Lib.hid ok.len
  have HS := Lib.hid hs
  clear h ok hs
  go_enter Try.func11, Try.ntmps11
  go_wp2_with (first
    | (go_at_call 24; (with_reducible refine (sclone_any s HS.out _).mono ?_); rintro e w1 ⟨rfl, hb1⟩; have HB1 := Lib.hid hb1; clear hb1)
    | (go_at_call 23; (have hc := add_any p D R s _ (pbag_law.keep HK.out HB1.out.size fun b hr => HB1.out.block b (pbag_law.lt HK.out b hr)) HL.out; with_reducible refine hc.mono ?_); rintro e w2 ⟨rfl, ht⟩; have HT := Lib.hid ht; clear ht hc))
  go_ret
  exact ⟨rfl, turn_after HB1.out HT.out⟩

/-- 'with': a closure is called at text k; or nothing is done. -/
theorem with_yes (g : Nat) (cs : Array Value) (eg : ∀ args w, (callFunc g args).run Try.prog w = .ok (.enter g args) w) (Q : World → Prop) (p : Nat) (v : Value) (D : List Bs) (k : Nat) (w : World) (h : BAt 43 w p v D) (hl : D.length ≤ 64) (hk : k < D.length)
    (hc : Calls Try.prog g (#[.string (S (lookB D (k : Int)))] ++ cs) w fun e w' => e = .returned (.tuple #[]) ∧ Q w') :
    Calls Try.prog 25 #[.pointer (some ⟨p, 0, none⟩), .int .i64 (k : Int), .func (.func g) #[] cs] w fun e w' => e = .returned (.bool true) ∧ Q w' := by
  have HC := Lib.hid hc
  clear hc
  obtain ⟨c0, _, hpl⟩ := h.cells
  obtain ⟨g2, cap, rfl, hg, _, _, _, hcl⟩ := h.text tp_ne (by omega)
  have c1 := hcl k hk
  rw [← look_at D hk] at c1
  obtain ⟨x, hx⟩ : ∃ x, lookB D (k : Int) = x := ⟨_, rfl⟩
  rw [hx] at c1 HC
  obtain ⟨n, hn⟩ : ∃ n, D.length = n := ⟨_, rfl⟩
  rw [hn] at c0 hk hl
  have d1 : decide ((k : Int) < 0) = false := decide_eq_false (by omega)
  have d2 : decide ((n : Int) ≤ (k : Int)) = false := decide_eq_false (by omega)
  have hk0 : (0 : Int) ≤ (k : Int) := by omega
  have hkn : (k : Int) < (n : Int) := by omega
  clear h hcl hx hn
  go_enter Try.func25, Try.ntmps25
  go_wp2_with (go_at_fn g; (with_reducible refine HC.out.mono ?_); rintro e w1 ⟨rfl, hq⟩; have HQ := Lib.hid hq; clear hq)
  go_ret
  exact ⟨rfl, HQ.out⟩
theorem with_no (f : Value) (p : Nat) (v : Value) (D : List Bs) (i : Int) (w : World) (h : BAt 43 w p v D) (hin : inB D i = false) :
    Calls Try.prog 25 #[.pointer (some ⟨p, 0, none⟩), .int .i64 i, f] w fun e w' => e = .returned (.bool false) ∧ w = w' := by
  obtain ⟨c0, _, hpl⟩ := h.cells
  have h0 := in_no hin
  obtain ⟨a, cap, rfl⟩ := h.form
  obtain ⟨n, hn⟩ : ∃ n, D.length = n := ⟨_, rfl⟩
  rw [hn] at c0 h0
  clear h hin hn
  by_cases hneg : i < 0
  · clear h0
    go_enter Try.func25, Try.ntmps25
    go_wp2
    go_ret
    exact ⟨rfl, rfl⟩
  · have hge : (n : Int) ≤ i := by omega
    have d1 : decide (i < 0) = false := decide_eq_false hneg
    have d2 : decide ((n : Int) ≤ i) = true := decide_eq_true hge
    clear h0 hneg hge
    go_enter Try.func25, Try.ntmps25
    go_wp2
    go_ret
    exact ⟨rfl, rfl⟩
theorem eg_copy : ∀ args w, (callFunc 26 args).run Try.prog w = .ok (.enter 26 args) w := enters_of Try.func26 (by kernel_rfl) rfl
theorem eg_drop : ∀ args w, (callFunc 27 args).run Try.prog w = .ok (.enter 27 args) w := enters_of Try.func27 (by kernel_rfl) rfl
theorem eg_look : ∀ args w, (callFunc 29 args).run Try.prog w = .ok (.enter 29 args) w := enters_of Try.func29 (by kernel_rfl) rfl
theorem lookc_any (x : Bs) (F : Nat) (w : World) (u : Value) (hx : x.length ≤ 140737488351232) (hF : w.heap[F]? = some (.cells #[u] 9 (0, 0))) :
    Calls Try.prog 29 #[.string (S x), .pointer (some ⟨F, 0, none⟩)] w fun e w' => e = .returned (.tuple #[]) ∧ ∃ w1, Below w.heap.size w w1 ∧ w' = w1.setCell ⟨F, 0, none⟩ (.string (S x)) := by
  have HX := Lib.hid hx
  have HF := Lib.hid hF
  clear hx hF
  go_enter Try.func29, Try.ntmps29
  go_wp2_with (go_at_call 24; (with_reducible refine (sclone_any x HX.out _).mono ?_); rintro e w1 ⟨rfl, hb1⟩; have HB1 := Lib.hid hb1; obtain ⟨f0, f1, f2⟩ := one_cells ((hb1.block F (one_cells HF.out).2.2).trans HF.out); clear hb1)
  go_end0
  exact ⟨rfl, w1, HB1.out, rfl⟩
theorem copyc_any (p : Nat) (D : List Bs) (R : Nat → Prop) (x : Bs) (B C : Nat) (t : TypeId) (w : World) (h : PBag w p D R) (hl : D.length ≤ 64) (hB : w.heap[B]? = some (.cells #[.pointer (some ⟨p, 0, none⟩)] t (0, 0))) (hC : w.heap[C]? = some (.cells #[.bool false] 4 (0, 0))) (hn : ¬ R C) :
    Calls Try.prog 26 #[.string (S x), .pointer (some ⟨B, 0, none⟩), .pointer (some ⟨C, 0, none⟩)] w fun e w' => e = .returned (.tuple #[]) ∧ ∃ w1, Turn PBag w w1 p (sendB D x) R ∧ w' = w1.setCell ⟨C, 0, none⟩ (.bool (roomB D)) := by
  have HK := Lib.hid h
  have HL := Lib.hid hl
  have HC := Lib.hid hC
  have HN := Lib.hid hn
  obtain ⟨b0, b1, b2⟩ := one_cells hB
  obtain ⟨r, hr⟩ : ∃ r, roomB D = r := ⟨_, rfl⟩
  have HR := Lib.hid hr
  rw [hr]
  clear h hl hC hn hB hr
  go_enter Try.func26, Try.ntmps26
  go_wp2_with (go_at_call 23; (have hc := add_any p D R x w HK.out HL.out; rw [HR.out] at hc; with_reducible refine hc.mono ?_); rintro e w1 ⟨rfl, ht⟩; have HT := Lib.hid ht; obtain ⟨f0, f1, f2⟩ := one_cells (((turn_beside ht).block C (one_cells HC.out).2.2 HN.out).trans HC.out); clear ht hc)
  go_end0
  exact ⟨rfl, w1, HT.out, rfl⟩
theorem look_any (p : Nat) (D : List Bs) (R : Nat → Prop) (i : Int) (w : World) (h : PBag w p D R) (ok : OkB D) (_hi : I64 i) :
    Calls Try.prog 19 #[.pointer (some ⟨p, 0, none⟩), .int .i64 i] w fun e w' => e = .returned (.tuple #[.string (S (lookB D i)), .bool (inB D i)]) ∧ Below w.heap.size w w' := by
  obtain ⟨v, _, hq⟩ := h
  have hb1 : Below w.heap.size w (w.alloc (.cells #[.string { data := #[] }] 9)) := (Below.refl _ w).alloc (Nat.le_refl _) _
  have HQ1 := Lib.hid (hq.below hb1)
  have hnew := new_at w (.cells #[.string { data := #[] }] 9)
  have HN := Lib.hid hnew
  obtain ⟨n0, n1, n2⟩ := one_cells hnew
  have HB1 := Lib.hid hb1
  rcases hin : inB D i with _ | _
  · rw [look_no hin, show S [] = ({ data := #[] } : ByteArray) from rfl]
    have HIN := Lib.hid hin
    clear hin hq hnew hb1 ok
    go_enter Try.func19, Try.ntmps19
    go_wp2_with (go_at_call 25; (with_reducible refine (with_no _ p v D i _ HQ1.out HIN.out).mono ?_); rintro e w1 ⟨rfl, rfl⟩)
    go_ret2
    exact ⟨rfl, HB1.out⟩
  · obtain ⟨k, rfl, hk⟩ := in_yes hin
    have hx := ok.look (k : Int)
    have HW : Hid (Calls Try.prog 25 #[.pointer (some ⟨p, 0, none⟩), .int .i64 (k : Int), .func (.func 29) #[] #[.pointer (some ⟨w.heap.size, 0, none⟩)]] (w.alloc (.cells #[.string { data := #[] }] 9)) fun e w' => e = .returned (.bool true) ∧ ∃ w1, Below (w.alloc (.cells #[.string { data := #[] }] 9)).heap.size (w.alloc (.cells #[.string { data := #[] }] 9)) w1 ∧ w' = w1.setCell ⟨w.heap.size, 0, none⟩ (.string (S (lookB D (k : Int))))) :=
      Lib.hid (with_yes 29 _ eg_look _ p v D k _ HQ1.out ok.len hk (lookc_any _ w.heap.size _ _ hx hnew))
    obtain ⟨x, hx⟩ : ∃ x, lookB D (k : Int) = x := ⟨_, rfl⟩
    rw [hx] at HW
    rw [hx]
    have hend : ∀ w1, Below (w.alloc (.cells #[.string { data := #[] }] 9)).heap.size (w.alloc (.cells #[.string { data := #[] }] 9)) w1 → Below w.heap.size w (w1.setCell ⟨w.heap.size, 0, none⟩ (.string (S x))) ∧ (w1.setCell ⟨w.heap.size, 0, none⟩ (.string (S x))).heap[w.heap.size]? = some (.cells #[.string (S x)] 9 (0, 0)) := fun w1 h1 => by
      have h2 := bt HB1.out h1
      refine ⟨h2.setCell (Nat.le_refl _) _, ?_⟩
      have h3 := (h1.block _ n2).trans hnew
      simp [World.setCell, Array.getElem?_modify, h3]
    have HE := Lib.hid hend
    clear hin hq hnew hb1 ok hx hend hk
    go_enter Try.func19, Try.ntmps19
    go_wp2_with (go_at_call 25; (with_reducible refine HW.out.mono ?_); rintro e w1 ⟨rfl, w2, h2, rfl⟩; obtain ⟨h3, h4⟩ := HE.out w2 h2; have HB3 := Lib.hid h3; obtain ⟨f0, f1, f2⟩ := one_cells h4; clear h2 h3 h4)
    go_ret2
    exact ⟨rfl, HB3.out⟩
end Go.Proofs.Ytgjpndloeegamaa
