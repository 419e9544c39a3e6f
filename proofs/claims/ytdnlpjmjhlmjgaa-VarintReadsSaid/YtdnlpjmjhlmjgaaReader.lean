/-
  The reader: what it holds, New, Num, Left, Bad, Ends, by what a reader takes off a text.
-/
import Derived.Deep.RegionHeld3
import Derived.Deep.QuietTactic
import Derived.BigQuiet
import Derived.Test.YtdnlpjmjhlmjgaaGuess
namespace Go.Proofs.Ytdnlpjmjhlmjgaa
open Go.RowKit Go.Shelf

/-- BLOCK b IS A READER: what remains; has it failed? -/
def RdAt (t : TypeId) (W : World) (b : Nat) (s : ByteArray) (x : Bool) : Prop := W.heap[b]? = some (.cells #[.string s, .bool x] t (0, 0))
theorem RdAt.lt {t : TypeId} {W : World} {b : Nat} {s : ByteArray} {x : Bool} (h : RdAt t W b s x) : b < W.heap.size := (Array.getElem?_eq_some_iff.1 h).1
theorem RdAt.cell0 {t : TypeId} {W : World} {b : Nat} {s : ByteArray} {x : Bool} (h : RdAt t W b s x) : W.cell? ⟨b, 0, none⟩ = some (.string s) := by simp [World.cell?, show W.heap[b]? = _ from h]
theorem RdAt.cell1 {t : TypeId} {W : World} {b : Nat} {s : ByteArray} {x : Bool} (h : RdAt t W b s x) : W.cell? ⟨b, 1, none⟩ = some (.bool x) := by simp [World.cell?, show W.heap[b]? = _ from h]
theorem RdAt.fr {t : TypeId} {W : World} {b : Nat} {s : ByteArray} {x : Bool} (h : RdAt t W b s x) (j : Nat) : W.frozen? ⟨b, j, none⟩ = false := by simp [World.frozen?, show W.heap[b]? = _ from h]
theorem RdAt.new (t : TypeId) (W : World) (s : ByteArray) (x : Bool) : RdAt t (W.alloc (.cells #[.string s, .bool x] t)) W.heap.size s x := World.alloc_heap_new W _
theorem RdAt.below {t : TypeId} {W W' : World} {b n : Nat} {s : ByteArray} {x : Bool} (h : RdAt t W b s x) (hb : Below n W W') (hn : b < n) : RdAt t W' b s x := (hb.block b hn).trans h
theorem RdAt.grown {t : TypeId} {W W' : World} {b : Nat} {row : Option Nat} {s : ByteArray} {x : Bool} (h : RdAt t W b s x) (hb : W.grownBy W' row) (hn : some b ≠ row) : RdAt t W' b s x := (hb.block b h.lt hn).trans h
theorem RdAt.drew {t : TypeId} {W : World} {b : Nat} {s : ByteArray} {x : Bool} (h : RdAt t W b s x) : RdAt t W.drew b s x := h
theorem RdAt.set0 {t : TypeId} {W : World} {b : Nat} {s : ByteArray} {x : Bool} (s' : ByteArray) (h : RdAt t W b s x) : RdAt t (W.setCell ⟨b, 0, none⟩ (.string s')) b s' x := by
  obtain ⟨hlt, hk⟩ := Array.getElem?_eq_some_iff.1 h
  show (W.heap.modify b _)[b]? = _
  rw [Array.getElem?_eq_getElem (by rw [Array.size_modify]; exact hlt), Array.getElem_modify_self, hk]
  rfl
theorem RdAt.set1 {t : TypeId} {W : World} {b : Nat} {s : ByteArray} {x : Bool} (x' : Bool) (h : RdAt t W b s x) : RdAt t (W.setCell ⟨b, 1, none⟩ (.bool x')) b s x' := by
  obtain ⟨hlt, hk⟩ := Array.getElem?_eq_some_iff.1 h
  show (W.heap.modify b _)[b]? = _
  rw [Array.getElem?_eq_getElem (by rw [Array.size_modify]; exact hlt), Array.getElem_modify_self, hk]
  rfl

theorem gb_trans {A B C : World} {row : Option Nat} (h : A.grownBy B row) (k : B.grownBy C row) : A.grownBy C row :=
  ⟨k.os.trans h.os, k.tape.trans h.tape, k.output.trans h.output, Nat.le_trans h.size k.size, fun j hj hr => (k.block j (Nat.lt_of_lt_of_le hj h.size) hr).trans (h.block j hj hr)⟩
theorem gb_below {A B : World} (row : Option Nat) (h : Below A.heap.size A B) : A.grownBy B row := ⟨h.os, h.tape, h.output, h.size, fun j hj _ => h.block j hj⟩
theorem gb_set (W : World) (b j : Nat) (v : Value) : W.grownBy (W.setCell ⟨b, j, none⟩ v) (some b) :=
  ⟨rfl, rfl, rfl, by simp [World.setCell], fun k _ hk => Below.heap_setCell _ _ _ k (fun e => hk (by rw [e]))⟩
theorem gb_drew (W : World) (row : Option Nat) : W.grownBy W.drew row := ⟨rfl, rfl, rfl, Nat.le_refl _, fun _ _ _ => rfl⟩

theorem rnum_bad (b : Nat) (s : ByteArray) (w : World) (h : RdAt 49 w b s true) :
    Calls Try.prog 20 #[.pointer (some ⟨b, 0, none⟩)] w fun e w' => e = .returned (.int .i64 0) ∧ w = w' := by
  have h1 := h.cell1
  go_enter Try.func20, Try.ntmps20
  go_wp2
  go_ret
  exact ⟨rfl, rfl⟩

set_option maxRecDepth 100000 in
set_option maxHeartbeats 1000000 in
theorem rnum_ok (b : Nat) (s : ByteArray) (hs : s.size ≤ 4611686018427387904) (n : Int) (r : List UInt8) (w : World) (h : RdAt 49 w b s false) (hr : Vm.rd s.data.toList = some (n, r)) :
    Calls Try.prog 20 #[.pointer (some ⟨b, 0, none⟩)] w fun e w' => e = .returned (.int .i64 n) ∧ RdAt 49 w' b (S r) false ∧ w.grownBy w' (some b) := by
  have h0 := h.cell0
  have h1 := h.cell1
  go_enter Try.func20, Try.ntmps20
  go_wp2_with fail
  refine (guess_any s hs _).mono ?_
  rintro e w1 ⟨rfl, hb1⟩
  have r1 := h.below hb1 h.lt
  have c0 := r1.cell0
  have c1 := r1.cell1
  have f0 := r1.fr 0
  have HG : Hid (Vm.guess s.data.toList = n) := by
    have := hr; unfold Vm.rd at this; split at this
    · simp at this; exact this.1
    · cases this
  have hp : (S (Vm.enc (Vm.guess s.data.toList))).data.toList <+: s.data.toList := by
    have := hr; unfold Vm.rd at this; split at this
    · assumption
    · cases this
  have hsr : s.extract (S (Vm.enc (Vm.guess s.data.toList))).size s.size = S r := by
    have := hr; unfold Vm.rd at this; split at this
    · simp only [Option.some.injEq, Prod.mk.injEq] at this
      rw [← this.2, S_size, Lib.extract_eq]
      unfold S
      congr 2
      exact List.take_of_length_le (by rw [List.length_drop, Lib.size_eq]; omega)
    · cases this
  have HS := Lib.hid hsr
  have HP := Lib.hid hp
  clear hp hr hsr
  go_wp2_with fail
  go_region_held3 (fun w' => w'.cell? ⟨b, 0, none⟩ = some (.string s)) (first | go_keep | exact c2)
    (first | (go_at_call 14; refine (num_any _ (Vm.guess_in _) _).mono ?_; rintro e w2 ⟨rfl, hb2⟩; have r2 := r1.drew.below hb2 r1.lt; have c2 := r2.cell0) | (go_at_call 33; refine (cut_hit _ _ _ HP.out).mono ?_; rintro e w3 ⟨rfl, rfl⟩))
  have f2 := r2.fr 0
  go_wp2
  go_ret
  refine ⟨ret_int HG.out, ?_, ?_⟩
  · have e : s.extract (S (Vm.enc (Vm.guess s.data.toList))).size s.size = S r := HS.out
    have := r2.set0 (S r)
    rw [e]; exact this
  · exact gb_trans (gb_trans (gb_below _ hb1) (gb_below _ ((Below.refl _ w1).drew.trans hb2))) (gb_set w2 b 0 _)
set_option maxRecDepth 100000 in
set_option maxHeartbeats 1000000 in
theorem rnum_no (b : Nat) (s : ByteArray) (hs : s.size ≤ 4611686018427387904) (w : World) (h : RdAt 49 w b s false) (hr : Vm.rd s.data.toList = none) :
    Calls Try.prog 20 #[.pointer (some ⟨b, 0, none⟩)] w fun e w' => e = .returned (.int .i64 0) ∧ RdAt 49 w' b s true ∧ w.grownBy w' (some b) := by
  have h0 := h.cell0
  have h1 := h.cell1
  have hp : ¬ (S (Vm.enc (Vm.guess s.data.toList))).data.toList <+: s.data.toList := by
    unfold Vm.rd at hr; split at hr
    · cases hr
    · assumption
  have HP := Lib.hid hp
  clear hp hr
  go_enter Try.func20, Try.ntmps20
  go_wp2_with fail
  refine (guess_any s hs _).mono ?_
  rintro e w1 ⟨rfl, hb1⟩
  have r1 := h.below hb1 h.lt
  have c0 := r1.cell0
  have c1 := r1.cell1
  go_wp2_with fail
  go_region_held3 (fun w' => w'.cell? ⟨b, 0, none⟩ = some (.string s)) (first | go_keep | exact c2)
    (first | (go_at_call 14; refine (num_any _ (Vm.guess_in _) _).mono ?_; rintro e w2 ⟨rfl, hb2⟩; have r2 := r1.drew.below hb2 r1.lt; have c2 := r2.cell0) | (go_at_call 33; refine (cut_miss _ _ _ HP.out).mono ?_; rintro e w3 ⟨rfl, rfl⟩))
  have f2 := r2.fr 1
  have c3 := r2.cell1
  go_wp2
  go_ret
  exact ⟨rfl, r2.set1 true, gb_trans (gb_trans (gb_below _ hb1) (gb_below _ ((Below.refl _ w1).drew.trans hb2))) (gb_set w2 b 1 _)⟩
end Go.Proofs.Ytdnlpjmjhlmjgaa
