/-
  Binds in memory; the small functions of the laws.
-/
import Derived.Test.YtbbogkmibiealaaHeldG
import Derived.Test.YtbbogkmibiealaaLn
namespace Go.Proofs.Ytbbogkmibiealaa
open Go.RowKit Gm

/-- THE SLICE AT a HOLDS THESE BINDS, in a block that P allows. -/
def BindsAt (W : World) (P : Nat → Prop) (a : Option Addr) (len : Nat) (l : List Bd) : Prop :=
  l.length = len ∧ ∃ b off, (len = 0 ∨ (a = some ⟨b, off, none⟩ ∧ P b)) ∧ ∀ i (h : i < l.length), W.cell? ⟨b, off + i * 3, none⟩ = some (.string (S l[i].work)) ∧ W.cell? ⟨b, off + i * 3 + 1, none⟩ = some (.string (S l[i].node)) ∧ W.cell? ⟨b, off + i * 3 + 2, none⟩ = some (.int .i64 l[i].cnt)
theorem BindsAt.imp {W : World} {P Q : Nat → Prop} {a : Option Addr} {len : Nat} {l : List Bd} (h : BindsAt W P a len l) (hq : ∀ b, P b → Q b) : BindsAt W Q a len l := by
  obtain ⟨h0, b, off, h1, h2⟩ := h
  exact ⟨h0, b, off, h1.imp id (fun h => ⟨h.1, hq b h.2⟩), h2⟩
theorem BindsAt.nil (W : World) (P : Nat → Prop) (a : Option Addr) : BindsAt W P a 0 [] := ⟨rfl, 0, 0, .inl rfl, fun i hi => by simp at hi⟩
theorem BindsAt.keep {W W' : World} {P : Nat → Prop} {a : Option Addr} {len : Nat} {l : List Bd} (h : BindsAt W P a len l) (hb : ∀ b, P b → W'.heap[b]? = W.heap[b]?) : BindsAt W' P a len l := by
  obtain ⟨h0, b, off, h1, h2⟩ := h
  rcases h1 with h1 | ⟨h1, h3⟩
  · have : l = [] := List.eq_nil_of_length_eq_zero (by omega)
    subst this
    exact ⟨h0, b, off, .inl h1, fun i hi => by simp at hi⟩
  · have hc : ∀ o, W'.cell? ⟨b, o, none⟩ = W.cell? ⟨b, o, none⟩ := fun o => World.cell?_of_block (a := ⟨b, o, none⟩) (hb b h3)
    exact ⟨h0, b, off, .inr ⟨h1, h3⟩, fun i hi => by rw [hc, hc, hc]; exact h2 i hi⟩

namespace Gm
def pk (c n : Int) : Int := (if c < 0 then -(c + 1) else c) % n
theorem pk_bd (c n : Int) (hn : 0 < n) : 0 ≤ pk c n ∧ pk c n < n := ⟨Int.emod_nonneg _ (by omega), Int.emod_lt_of_pos _ hn⟩
def timeN (n : Int) : Int := pk n 2001 - 1000
def skewN (n : Int) : Int := pk n 5 - 2
theorem time_bd (n : Int) : -1000 ≤ timeN n ∧ timeN n ≤ 1000 := by have := pk_bd n 2001 (by omega); unfold timeN; omega
theorem skew_bd (n : Int) : -2 ≤ skewN n ∧ skewN n ≤ 2 := by have := pk_bd n 5 (by omega); unfold skewN; omega
end Gm
theorem pick_any (c n : Int) (w : World) (hc : I64 c) (hn : 0 < n) (hn2 : n ≤ 1048576) : Calls Try.prog 20 #[.int .i64 c, .int .i64 n] w fun e w' => e = .returned (.int .i64 (pk c n)) ∧ w = w' := by
  obtain ⟨c0, c1⟩ := hc
  by_cases h : c < 0
  · have HP : Hid (pk c n = (-(c + 1)) % n) := Lib.hid (by simp [pk, h])
    have h1 : 0 ≤ -(c + 1) := by omega
    go_enter Try.func20, Try.ntmps20
    go_wp2
    go_ret
    refine ⟨ret_int ?_, rfl⟩
    rw [HP.out]
    first | rfl | rw [← Int.neg_tmod, Int.tmod_eq_emod_of_nonneg h1]
  · have HP : Hid (pk c n = c % n) := Lib.hid (by simp [pk, h])
    have h1 : 0 ≤ c := by omega
    go_enter Try.func20, Try.ntmps20
    go_wp2
    go_ret
    exact ⟨ret_int HP.out.symm, rfl⟩
theorem pick8_any (c n : Int) (w : World) (hc : I64 c) (hn : 0 < n) (hn2 : n ≤ 1048576) : Calls Try.prog 42 #[.int .i64 c, .int .i64 n] w fun e w' => e = .returned (.int .i64 (pk c n)) ∧ w = w' := by
  obtain ⟨c0, c1⟩ := hc
  by_cases h : c < 0
  · have HP : Hid (pk c n = (-(c + 1)) % n) := Lib.hid (by simp [pk, h])
    have h1 : 0 ≤ -(c + 1) := by omega
    go_enter Try.func42, Try.ntmps42
    go_wp2
    go_ret
    refine ⟨ret_int ?_, rfl⟩
    rw [HP.out]
    first | rfl | rw [← Int.neg_tmod, Int.tmod_eq_emod_of_nonneg h1]
  · have HP : Hid (pk c n = c % n) := Lib.hid (by simp [pk, h])
    have h1 : 0 ≤ c := by omega
    go_enter Try.func42, Try.ntmps42
    go_wp2
    go_ret
    exact ⟨ret_int HP.out.symm, rfl⟩
end Go.Proofs.Ytbbogkmibiealaa
