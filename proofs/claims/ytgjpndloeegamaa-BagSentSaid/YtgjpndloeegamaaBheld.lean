/-
  The program's bag among two: each of its methods by one law; pick; the laws' first calls.
-/
import Derived.Deep.QuietTactic
import Derived.Deep.DeepCutAuto
import Derived.Test.YtgjpndloeegamaaBp
namespace Go.Proofs.Ytgjpndloeegamaa
open Go.RowKit Gm

section
variable {Y : Type} {B : Kind Y} {w0 w : World} {p q : Nat} {D : List Bs} {E : Y} {bs : List (Nat × Obj)}
theorem Held.pNew {x : Nat} {X0 : List Bs} (hB : Lawful B) (h : Held Nobody B w0 w x X0 q E bs) :
    Calls Try.prog 7 #[] w fun e w' => ∃ p, e = .returned (.pointer (some ⟨p, 0, none⟩)) ∧ Held PBag B w0 w' p [] q E bs :=
  (new_any w).mono fun _ _ ⟨p, _, h1, h2, h3, h4⟩ => ⟨p, h1, h.made hB h2 h3 h4⟩
theorem Held.pSend (hB : Lawful B) (h : Held PBag B w0 w p D q E bs) (ok : OkB D) (s : Bs) (hs : s.length ≤ 140737488351232) :
    Calls Try.prog 11 #[.pointer (some ⟨p, 0, none⟩), .string (S s)] w fun e w' => e = .returned (.bool (roomB D)) ∧ Held PBag B w0 w' p (sendB D s) q E bs :=
  h.call hB fun R _ g => send_any p D R s w g.a ok hs
theorem Held.pTake (hB : Lawful B) (h : Held PBag B w0 w p D q E bs) (ok : OkB D) (i : Int) (hi : I64 i) :
    Calls Try.prog 13 #[.pointer (some ⟨p, 0, none⟩), .int .i64 i] w fun e w' => e = .returned (.tuple #[.string (S (lookB D i)), .bool (inB D i)]) ∧ Held PBag B w0 w' p (takeB D i) q E bs :=
  h.call hB fun R _ g => take_any p D R i w g.a ok hi
theorem Held.pCopy (hB : Lawful B) (h : Held PBag B w0 w p D q E bs) (ok : OkB D) (i : Int) (hi : I64 i) :
    Calls Try.prog 15 #[.pointer (some ⟨p, 0, none⟩), .int .i64 i] w fun e w' => e = .returned (.bool (inB D i && roomB D)) ∧ Held PBag B w0 w' p (copyB D i) q E bs :=
  h.call hB fun R _ g => copy_any p D R i w g.a ok hi
theorem Held.pDrop (hB : Lawful B) (h : Held PBag B w0 w p D q E bs) (ok : OkB D) (i : Int) (hi : I64 i) :
    Calls Try.prog 17 #[.pointer (some ⟨p, 0, none⟩), .int .i64 i] w fun e w' => e = .returned (.bool (inB D i)) ∧ Held PBag B w0 w' p (takeB D i) q E bs :=
  h.call hB fun R _ g => drop_any p D R i w g.a ok hi
theorem Held.pLook (hB : Lawful B) (h : Held PBag B w0 w p D q E bs) (ok : OkB D) (i : Int) (hi : I64 i) :
    Calls Try.prog 19 #[.pointer (some ⟨p, 0, none⟩), .int .i64 i] w fun e w' => e = .returned (.tuple #[.string (S (lookB D i)), .bool (inB D i)]) ∧ Below w.heap.size w w' ∧ Held PBag B w0 w' p D q E bs :=
  h.read pbag_law hB fun R g => look_any p D R i w g ok hi
theorem Held.pLen (hB : Lawful B) (h : Held PBag B w0 w p D q E bs) (ok : OkB D) :
    Calls Try.prog 21 #[.pointer (some ⟨p, 0, none⟩)] w fun e w' => e = .returned (.int .i64 (D.length : Int)) ∧ Below w.heap.size w w' ∧ Held PBag B w0 w' p D q E bs :=
  h.read pbag_law hB fun R g => len_any p D R w g ok
end
theorem pick_any (c n : Int) (w : World) (hc : I64 c) (hn : 0 < n) (hn2 : n ≤ 1048576) : Calls Try.prog 9 #[.int .i64 c, .int .i64 n] w fun e w' => e = .returned (.int .i64 (pk c n)) ∧ w = w' := by
  obtain ⟨c0, c1⟩ := hc
  by_cases h : c < 0
  · have HP : Hid (pk c n = (-(c + 1)) % n) := Lib.hid (by simp [pk, h])
    have h1 : 0 ≤ -(c + 1) := by omega
    go_enter Try.func9, Try.ntmps9
    go_wp2
    go_ret
    refine ⟨ret_int ?_, rfl⟩
    rw [HP.out]
    first | rfl | rw [← Int.neg_tmod, Int.tmod_eq_emod_of_nonneg h1]
  · have HP : Hid (pk c n = c % n) := Lib.hid (by simp [pk, h])
    have h1 : 0 ≤ c := by omega
    go_enter Try.func9, Try.ntmps9
    go_wp2
    go_ret
    exact ⟨ret_int HP.out.symm, rfl⟩
theorem e97 : S [97] = { data := #[97] } := rfl
theorem e98 : S [98] = { data := #[98] } := rfl
theorem e99 : S [99] = { data := #[99] } := rfl
theorem ok3 : OkB [[97], [98], [99]] := ⟨by simp, by simp⟩
theorem ok2 : OkB [[97], [99]] := ⟨by simp, by simp⟩
theorem ok2' : OkB [[97], [98]] := ⟨by simp, by simp⟩
theorem ok1 : OkB [[97]] := ⟨by simp, by simp⟩
theorem ok3' : OkB [[97], [99], [97]] := ⟨by simp, by simp⟩
theorem ok2'' : OkB [[99], [97]] := ⟨by simp, by simp⟩
set_option maxRecDepth 100000 in
set_option maxHeartbeats 4000000 in
theorem awake_any (w : World) : Calls Try.prog 6 #[] w fun e w' => e = .returned (.bool true) ∧ Below w.heap.size w w' := by
  have H0 := Lib.hid (Held.start (X := List Bs) (Y := Unit) w [] ())
  go_enter Try.func6, Try.ntmps6
  go_upto_region 4 with (go_at_call 7; refine (H0.out.pNew nobody_law).mono ?_; rintro e w1 ⟨p, rfl, h1⟩; have H1 := Lib.hid h1; clear h1)
  go_upto_region 7 with (first
    | (go_at_call 11; (have hc := H1.out.pSend nobody_law OkB.nil [97] (by decide); rw [e97] at hc; with_reducible refine hc.mono ?_); rintro e w2 ⟨rfl, h2⟩; have H2 : Hid (Held PBag (Nobody (X := Unit)) w w2 p [[97]] 0 () []) := Lib.hid h2; clear h2 hc)
    | (go_at_call 11; (have hc := H2.out.pSend nobody_law ok1 [98] (by decide); rw [e98] at hc; with_reducible refine hc.mono ?_); rintro e w3 ⟨rfl, h3⟩; have H3 : Hid (Held PBag (Nobody (X := Unit)) w w3 p [[97], [98]] 0 () []) := Lib.hid h3; clear h3 hc)
    | (go_at_call 11; (have hc := H3.out.pSend nobody_law ok2' [99] (by decide); rw [e99] at hc; with_reducible refine hc.mono ?_); rintro e w4 ⟨rfl, h4⟩; have H4 : Hid (Held PBag (Nobody (X := Unit)) w w4 p [[97], [98], [99]] 0 () []) := Lib.hid h4; clear h4 hc))
  clear H1 H2 H3
  have i0 : I64 0 := by unfold I64; omega
  have i1 : I64 1 := by unfold I64; omega
  have i2 : I64 2 := by unfold I64; omega
  have I0 := Lib.hid i0
  have I1 := Lib.hid i1
  have I2 := Lib.hid i2
  clear i0 i1 i2
  go_upto_region 8 with (go_at_call 13; (have hc := H4.out.pTake nobody_law ok3 1 I1.out; rw [show lookB [[97], [98], [99]] 1 = [98] from rfl, show inB [[97], [98], [99]] 1 = true from rfl, e98] at hc; with_reducible refine hc.mono ?_); rintro e w5 ⟨rfl, h5⟩; have H5 : Hid (Held PBag (Nobody (X := Unit)) w w5 p [[97], [99]] 0 () []) := Lib.hid h5; clear h5 hc)
  go_upto_region 9 with (go_at_call 19; (have hc := H5.out.pLook nobody_law ok2 1 I1.out; rw [show lookB [[97], [99]] 1 = [99] from rfl, show inB [[97], [99]] 1 = true from rfl, e99] at hc; with_reducible refine hc.mono ?_); rintro e w6 ⟨rfl, _, h6⟩; have H6 : Hid (Held PBag (Nobody (X := Unit)) w w6 p [[97], [99]] 0 () []) := Lib.hid h6; clear h6 hc)
  go_upto_region 10 with (go_at_call 15; (have hc := H6.out.pCopy nobody_law ok2 0 I0.out; rw [show (inB [[97], [99]] 0 && roomB [[97], [99]]) = true from rfl] at hc; with_reducible refine hc.mono ?_); rintro e w7 ⟨rfl, h7⟩; have H7 : Hid (Held PBag (Nobody (X := Unit)) w w7 p [[97], [99], [97]] 0 () []) := Lib.hid h7; clear h7 hc)
  go_upto_region 11 with (go_at_call 17; (have hc := H7.out.pDrop nobody_law ok3' 0 I0.out; rw [show inB [[97], [99], [97]] 0 = true from rfl] at hc; with_reducible refine hc.mono ?_); rintro e w8 ⟨rfl, h8⟩; have H8 : Hid (Held PBag (Nobody (X := Unit)) w w8 p [[99], [97]] 0 () []) := Lib.hid h8; clear h8 hc)
  go_upto_region 12 with (go_at_call 19; (have hc := H8.out.pLook nobody_law ok2'' 1 I1.out; rw [show lookB [[99], [97]] 1 = [97] from rfl, show inB [[99], [97]] 1 = true from rfl, e97] at hc; with_reducible refine hc.mono ?_); rintro e w9 ⟨rfl, _, h9⟩; have H9 := Lib.hid h9; clear h9 hc)
  go_upto_region 13 with (go_at_call 13; (have hc := H9.out.pTake nobody_law ok2'' 2 I2.out; rw [show lookB [[99], [97]] 2 = [] from rfl, show inB [[99], [97]] 2 = false from rfl] at hc; with_reducible refine hc.mono ?_); rintro e w10 ⟨rfl, h10⟩; have H10 : Hid (Held PBag (Nobody (X := Unit)) w w10 p [[99], [97]] 0 () []) := Lib.hid h10; clear h10 hc)
  clear H4 H5 H6 H7 H8 H9
  go_wp2_with (go_at_call 21; (have hc := H10.out.pLen nobody_law ok2''; with_reducible refine hc.mono ?_); rintro e w11 ⟨rfl, _, h11⟩; have H11 := Lib.hid h11; clear h11 hc)
  go_ret
  exact ⟨rfl, H11.out.to⟩
end Go.Proofs.Ytgjpndloeegamaa
