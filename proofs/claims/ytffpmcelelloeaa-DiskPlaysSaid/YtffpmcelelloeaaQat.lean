/-
  The document's own disk: at, Read, Off, Acts, Arm, New.
-/
import Derived.Test.YtffpmcelelloeaaQact
namespace Go.Proofs.Ytffpmcelelloeaa
open Go.RowKit Gm

namespace Gm
theorem find_at {k : Bs} : ∀ {l : List Fl} {i : Nat} (h : i < l.length), (∀ j (hj : j < i), (l[j]'(by omega)).nm ≠ k) → l[i].nm = k → findF l k = some l[i]
  | [], i, h, _, _ => by simp at h
  | f :: l, 0, _, _, e => by rw [find_cons, if_pos (show f.nm = k from e)]; rfl
  | f :: l, i + 1, h, hn, e => by
    have h0 := hn 0 (by omega)
    rw [find_cons, if_neg (show ¬ f.nm = k from h0)]
    exact find_at (l := l) (i := i) (by simpa using h) (fun j hj => hn (j + 1) (by omega)) e
end Gm
def AtPost (D : Dk) (k : Bs) (e : Ending) : Prop :=
  (∃ i, ∃ h : i < D.fs.length, e = .returned (.int .i64 ((i : Nat) : Int)) ∧ D.fs[i].nm = k ∧ findF D.fs k = some D.fs[i]) ∨ (e = .returned (.int .i64 (-1)) ∧ findF D.fs k = none)

set_option maxHeartbeats 1000000 in
theorem qat_any (p : Nat) (v : Value) (D : Dk) (k : Bs) (w : World) (h : QAt w p v D) (hl4 : D.fs.length ≤ 4) :
    Calls Try.prog 39 #[.pointer (some ⟨p, 0, none⟩), .string (S k)] w fun e w' => AtPost D k e ∧ w = w' := by
  obtain ⟨c0, _, _, _, _, hl⟩ := h.cells
  have H := Lib.hid h
  obtain ⟨a, cap, hv⟩ := h.form
  subst hv
  obtain ⟨n, hn⟩ : ∃ n, D.fs.length = n := ⟨_, rfl⟩
  rw [hn] at c0 hl4
  have HN := Lib.hid hn
  have hv : (Value.slice a D.fs.length cap) = .slice a n cap := by rw [hn]
  rw [hv] at H
  clear h hn hv
  go_enter Try.func39, Try.ntmps39
  go_wp2
  go_loopw [5] (fun iv wr => ∃ i : Nat, i ≤ n ∧ iv = .int .i64 (i : Int) ∧ wr = w ∧ ∀ j (hj : j < D.fs.length), j < i → D.fs[j].nm ≠ k) (fun iv _ => n - (intOf iv).toNat)
  case atStart => exact ⟨0, Nat.zero_le _, rfl, rfl, fun j hj h => by omega⟩
  case round =>
    obtain ⟨i, hi, rfl, rfl, hno⟩ := hrel
    have HNO := Lib.hid hno
    clear hno
    by_cases hlt : i < n
    · have hil : i < D.fs.length := by rw [HN.out]; exact hlt
      obtain ⟨g, cap', hv, hg, hgp, f0, f1, f2, hfr⟩ := H.out.file hil
      have hva : a = some ⟨g, 0, none⟩ := by injection hv
      subst hva
      obtain ⟨x, hx⟩ : ∃ x, D.fs[i] = x := ⟨_, rfl⟩
      rw [hx] at f0
      have hi0 : (0 : Int) ≤ (i : Int) := by omega
      have hi1 : (i : Int) < (n : Int) := by omega
      have HX := Lib.hid hx
      have HIL := Lib.hid hil
      clear hv hx f1 f2 hfr hgp
      by_cases hxk : x.nm = k
      · have e1 : ((S x.nm).toList == (S k).toList) = true := by rw [S_beq]; simpa using hxk
        have HP : Hid (AtPost D k (.returned (.int .i64 (i : Int)))) := Lib.hid (.inl ⟨i, HIL.out, rfl, by rw [HX.out]; exact hxk, find_at HIL.out (fun j hj => HNO.out j (by have := HIL.out; omega) hj) (by rw [HX.out]; exact hxk)⟩)
        clear hxk
        go_wp2
        go_ret
        exact ⟨HP.out, rfl⟩
      · have e1 : ((S x.nm).toList == (S k).toList) = false := by rw [S_beq]; simpa using hxk
        have HP : Hid (∀ j (hj : j < D.fs.length), j < i + 1 → D.fs[j].nm ≠ k) := Lib.hid (fun j hj h => by
          rcases Nat.lt_or_ge j i with h' | h'
          · exact HNO.out j hj h'
          · obtain rfl : j = i := by omega
            rw [HX.out]; exact hxk)
        clear hxk
        go_wp2
        go_roundw
        case rel => exact ⟨i + 1, by omega, by go_num, trivial, HP.out⟩
        case measure => simp [intOf]; omega
    · obtain rfl : i = n := by omega
      have HP : Hid (AtPost D k (.returned (.int .i64 (-1)))) := Lib.hid (.inr ⟨rfl, find_none fun f hf => by
        obtain ⟨j, hj, rfl⟩ := List.getElem_of_mem hf
        exact HNO.out j hj (by have := HN.out; omega)⟩)
      go_wp2
      go_ret
      exact ⟨HP.out, rfl⟩
theorem qat_no {p : Nat} {v : Value} {D : Dk} {k : Bs} {w : World} (h : QAt w p v D) (hl4 : D.fs.length ≤ 4) (hf : findF D.fs k = none) :
    Calls Try.prog 39 #[.pointer (some ⟨p, 0, none⟩), .string (S k)] w fun e w' => e = .returned (.int .i64 (-1)) ∧ w = w' :=
  (qat_any p v D k w h hl4).mono fun e w' ⟨h1, h2⟩ => by
    rcases h1 with ⟨i, hi, _, _, hs⟩ | ⟨h1, _⟩
    · rw [hf] at hs; cases hs
    · exact ⟨h1, h2⟩
theorem qat_yes {p : Nat} {v : Value} {D : Dk} {k : Bs} {f : Fl} {w : World} (h : QAt w p v D) (hl4 : D.fs.length ≤ 4) (hf : findF D.fs k = some f) :
    Calls Try.prog 39 #[.pointer (some ⟨p, 0, none⟩), .string (S k)] w fun e w' => (∃ i, ∃ hi : i < D.fs.length, e = .returned (.int .i64 ((i : Nat) : Int)) ∧ D.fs[i] = f) ∧ w = w' :=
  (qat_any p v D k w h hl4).mono fun e w' ⟨h1, h2⟩ => by
    rcases h1 with ⟨i, hi, h1, _, hs⟩ | ⟨_, hs⟩
    · rw [hf] at hs
      exact ⟨⟨i, hi, h1, (Option.some.inj hs).symm⟩, h2⟩
    · rw [hf] at hs; cases hs
theorem qoff_any (p : Nat) (v : Value) (D : Dk) (w : World) (h : QAt w p v D) : Calls Try.prog 32 #[.pointer (some ⟨p, 0, none⟩)] w fun e w' => e = .returned (.bool D.off) ∧ w = w' := by
  obtain ⟨_, _, _, c3, _, hl⟩ := h.cells
  clear h
  go_enter Try.func32, Try.ntmps32
  go_wp2
  go_ret
  exact ⟨rfl, rfl⟩
theorem qacts_any (p : Nat) (v : Value) (D : Dk) (w : World) (h : QAt w p v D) : Calls Try.prog 34 #[.pointer (some ⟨p, 0, none⟩)] w fun e w' => e = .returned (.int .i64 D.acts) ∧ w = w' := by
  obtain ⟨_, c1, _, _, _, hl⟩ := h.cells
  clear h
  go_enter Try.func34, Try.ntmps34
  go_wp2
  go_ret
  exact ⟨rfl, rfl⟩
theorem qnew_any (w : World) : Calls Try.prog 11 #[] w fun e w' => e = .returned (.pointer (some ⟨w.heap.size, 0, none⟩)) ∧ QAt w' w.heap.size (.slice none 0 0) newD ∧ Below w.heap.size w w' := by
  go_enter Try.func11, Try.ntmps11
  go_wp2
  go_ret
  exact ⟨rfl, ⟨new_at _ _, World.ownsRow_nil _ _ _ _⟩, (Below.refl _ w).alloc (Nat.le_refl _) _⟩
set_option maxRecDepth 100000 in
theorem qread_any (p : Nat) (v : Value) (D : Dk) (k : Bs) (w : World) (h : QAt w p v D) (hl4 : D.fs.length ≤ 4) :
    Calls Try.prog 27 #[.pointer (some ⟨p, 0, none⟩), .string (S k)] w fun e w' => e = .returned (.tuple #[.string (S (readD D k).1), .int .i64 (readD D k).2]) ∧ w = w' := by
  obtain ⟨c0, _, _, c3, _, hl⟩ := h.cells
  have H := Lib.hid h
  have e0 : S [] = { data := #[] } := rfl
  by_cases ho : D.off = true
  · have HR : Hid (readD D k = ([], 100)) := Lib.hid (by unfold readD; rw [if_pos ho])
    rw [ho] at c3
    rw [HR.out]
    clear h ho
    go_enter Try.func27, Try.ntmps27
    go_wp2
    go_ret2
    exact ⟨rfl, rfl⟩
  · have ho' : D.off = false := by simpa using ho
    rw [ho'] at c3
    have HR0 : Hid (readD D k = match findF D.fs k with | none => ([], 101) | some f => (f.tx, 0)) := Lib.hid (by unfold readD; rw [if_neg ho]; rfl)
    clear h ho ho'
    obtain ⟨r, hr⟩ : ∃ r, readD D k = r := ⟨_, rfl⟩
    rw [hr] at HR0 ⊢
    obtain ⟨a, cap, hv⟩ := H.out.form
    subst hv
    clear hr
    rcases hf : findF D.fs k with _ | f
    · rw [hf] at HR0
      have HR := HR0.out
      subst HR
      have HF := Lib.hid hf
      clear hf HR0
      go_enter Try.func27, Try.ntmps27
      go_wp2_with (go_at_call 39; (with_reducible refine (qat_no H.out hl4 HF.out).mono ?_); rintro e w1 ⟨rfl, rfl⟩)
      go_ret2
      exact ⟨rfl, rfl⟩
    · rw [hf] at HR0
      have HR := HR0.out
      subst HR
      have HF := Lib.hid hf
      clear hf HR0
      go_enter Try.func27, Try.ntmps27
      go_wp2_with (go_at_call 39; (with_reducible refine (qat_yes H.out hl4 HF.out).mono ?_); rintro e w1 ⟨⟨i, hi, rfl, hfi⟩, rfl⟩
                   obtain ⟨g, cap', hv, hg, hgp, f0, f1, f2, hfr⟩ := H.out.file hi
                   have hva : a = some ⟨g, 0, none⟩ := by injection hv
                   subst hva
                   rw [hfi] at f1
                   have hi1 : (i : Int) < (D.fs.length : Int) := by omega
                   clear f0 f2 hfr hgp hv hfi)
      go_ret2
      exact ⟨rfl, rfl⟩
end Go.Proofs.Ytffpmcelelloeaa
