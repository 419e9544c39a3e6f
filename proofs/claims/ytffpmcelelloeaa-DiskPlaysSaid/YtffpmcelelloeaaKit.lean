/-
  Small lemmas that every layer's walks use: answers of one kind, bounds of the machine's numbers, texts as lists of bytes.
-/
import Derived.WalkKit
import Derived.WalkSpells
import Derived.WalkSmall
import Derived.WalkLawsBesides
import Derived.Outline
import Derived.IntWalk
import Derived.Lib.Strings
import Derived.Lib.Hide
import Derived.Lib.ConvBytes
import Derived.Laws.BytesString
import Derived.Laws.BitsAllLaws
import Derived.Laws.IdiomStrings
import Derived.Laws.Bits64
import Derived.Deep.QuietTactic
import Derived.BigQuiet
import Derived.Test.YtffpmcelelloeaaProg
namespace Go.Proofs.Ytffpmcelelloeaa
open Go.RowKit

theorem ret_int {k : IntKind} {a b : Int} (h : a = b) : Ending.returned (.int k a) = .returned (.int k b) := by rw [h]
theorem ret_bool {a b : Bool} (h : a = b) : Ending.returned (.bool a) = .returned (.bool b) := by rw [h]
theorem ret_str {a b : ByteArray} (h : a = b) : Ending.returned (.string a) = .returned (.string b) := by rw [h]

/-- A number of 64 bits; of 32 bits without a sign. -/
def I64 (n : Int) : Prop := -9223372036854775808 ≤ n ∧ n ≤ 9223372036854775807
def U32 (n : Int) : Prop := 0 ≤ n ∧ n < 4294967296

/-- A text of these bytes. -/
def S (l : List UInt8) : ByteArray := ⟨l.toArray⟩
theorem S_list (l : List UInt8) : (S l).data.toList = l := rfl
theorem S_size (l : List UInt8) : (S l).size = l.length := by rw [Lib.size_eq]; rfl
theorem S_eq (s : ByteArray) : S s.data.toList = s := Lib.mk_data s
theorem size_list (s : ByteArray) : s.data.toList.length = s.size := (Lib.size_eq s).symm
theorem take_snoc (s : ByteArray) (k : Nat) (h : k < s.size) : s.data.toList.take (k + 1) = s.data.toList.take k ++ [s[k]] := by
  rw [List.take_succ_eq_append_getElem (by simpa using h)]; rfl

/-- What any later world of 'Below' keeps, as two rules. -/
theorem bcell {W w1 : World} (hb : Below W.heap.size W w1) : (∀ b o, b < W.heap.size → w1.cell? ⟨b, o, none⟩ = W.cell? ⟨b, o, none⟩) ∧ (∀ b o, b < W.heap.size → w1.frozen? ⟨b, o, none⟩ = W.frozen? ⟨b, o, none⟩) :=
  ⟨fun b o h => hb.cell (p := ⟨b, o, none⟩) h, fun b o h => hb.frozen (p := ⟨b, o, none⟩) h⟩
/-- A call that leaves the world as it was, within a region that only reads. -/
theorem quiet_same {P : Program} {f : FuncId} {args : Array Value} {w : World} {n : Nat} {v : Value} (h : Calls P f args (w.drewN n) fun e w' => e = .returned v ∧ w.drewN n = w') : Calls P f args (w.drewN n) fun e w'' => e = .returned v ∧ ∃ m, w'' = w.drewN m :=
  Calls.quiet_of_same (h.mono fun _ _ h => ⟨h.1, h.2.symm⟩)
theorem below_t {n : Nat} {a b c : World} (h : Below n a b) (k : Below b.heap.size b c) (hn : n ≤ b.heap.size) : Below n a c := h.trans (k.mono hn)
theorem bt {a b c : World} (h : Below a.heap.size a b) (k : Below b.heap.size b c) : Below a.heap.size a c := h.trans (k.mono h.size)

/-- '[]byte(s)': a new block that holds the bytes; nothing else has changed. -/
theorem bytes_of (l : List UInt8) (w : World) : ∃ cap w1, (convert 9 45 (.string (S l))).run Try.prog w = .ok (.slice (some ⟨w.heap.size, 0, none⟩) l.length cap) w1
    ∧ Below w.heap.size w w1 ∧ w1.heap.size = w.heap.size + 1 ∧ l.length ≤ cap ∧ (∀ j (h : j < l.length), w1.cell? ⟨w.heap.size, j, none⟩ = some (.int .u8 (l[j].toNat : Int))) ∧ (∀ j, j < l.length → w1.frozen? ⟨w.heap.size, j, none⟩ = false) := by
  have hat := Lib.bytesWorld_at_new w 5 (S l)
  have hsz := S_size l
  have hcs : (Lib.bytesCells w 5 (S l)).size = l.length + (grownCap w l.length 0 5 - l.length) := by unfold Lib.bytesCells; rw [hsz]; simp [S]
  refine ⟨grownCap w l.length 0 5, Lib.bytesWorld w 5 (S l), ?_, ⟨rfl, rfl, rfl, ?_, fun k hk => Lib.bytesWorld_at_old w 5 (S l) k hk⟩, Lib.bytesWorld_size _ _ _, ?_, ?_, ?_⟩
  · have e := Lib.run_convert_string_bytes (P := Try.prog) w 9 45 5 (S l) (u := .string) Try.underlying9 Try.underlying45 Try.underlying5
    rw [hsz] at e
    exact e
  · rw [Lib.bytesWorld_size]; omega
  · exact grownCap_ge w l.length 0 5
  · intro j h
    have e := Lib.bytesWorld_cell w 5 (S l) j (by rw [hsz]; exact h)
    rw [S_list, List.getD_eq_getElem?_getD, List.getElem?_eq_getElem h] at e
    exact e
  · intro j h
    simp [World.frozen?, hat, hcs]
    omega

/-- The block b begins with these bytes. -/
def BytesAt (W : World) (b : Nat) (l : List UInt8) : Prop := ∀ j (h : j < l.length), W.cell? ⟨b, j, none⟩ = some (.int .u8 (l[j].toNat : Int))
theorem BytesAt.set {W : World} {b : Nat} {l : List UInt8} (h : BytesAt W b l) (i : Nat) (hi : i < l.length) (y : UInt8) : BytesAt (W.setCell ⟨b, i, none⟩ (.int .u8 (y.toNat : Int))) b (l.set i y) := by
  intro j hj
  have hj' : j < l.length := by simpa using hj
  by_cases e : i = j
  · subst e
    rw [World.cell?_setCell_same _ _ _ (h i hi), List.getElem_set_self]
  · have ne : (⟨b, i, none⟩ : Addr) ≠ ⟨b, j, none⟩ := fun h => e (by injection h)
    rw [World.cell?_setCell_other (h := ne), h j hj', List.getElem_set_ne e]
theorem BytesAt.drew {W : World} {b : Nat} {l : List UInt8} (h : BytesAt W b l) : BytesAt W.drew b l := h
theorem BytesAt.below {W W' : World} {b n : Nat} {l : List UInt8} (h : BytesAt W b l) (hb : Below n W W') (hn : b < n) : BytesAt W' b l := fun j hj => (hb.cell (p := ⟨b, j, none⟩) hn).trans (h j hj)
/-- 'string(b)'. -/
theorem str_of {W : World} {b : Nat} {l : List UInt8} (h : BytesAt W b l) (cap : Nat) : (convert 45 9 (.slice (some ⟨b, 0, none⟩) l.length cap)).run Try.prog W = .ok (.string (S l)) W := by
  refine run_convert_bytes_back W 45 9 5 ⟨b, 0, none⟩ cap l Try.underlying45 Try.underlying5 Try.underlying9 fun j hj => ?_
  rw [show (⟨b, 0, none⟩ : Addr).add j = ⟨b, j, none⟩ by unfold Addr.add; split <;> simp_all]
  exact h j hj
theorem xor_byte (x y : UInt8) : bits .xor .u8 (x.toNat : Int) (y.toNat : Int) = ((x ^^^ y).toNat : Int) := by
  rw [u8_xor_nat _ _ x.toNat_lt y.toNat_lt, UInt8.toNat_xor]
theorem min_at (len c : Nat) (ts : Array TypeId) (ty : TypeId) (w : World) : (Builtin.min_ ts ty #[.int .i64 (len : Int), .int .i64 (c : Int)]).run Try.prog w = .ok (.int .i64 ((min len c : Nat) : Int)) w := by
  have e : (if (c : Int) < (len : Int) then (c : Int) else (len : Int)) = ((min len c : Nat) : Int) := by split <;> omega
  rw [run_min_int2, e]
theorem slice_to (l : List UInt8) (k : Nat) (h : k ≤ l.length) (w : World) : (Instr.slice 9 (.string (S l)) none (some (.int .i64 (k : Int))) none).run Try.prog w = .ok (.string (S (l.take k))) w := by
  rw [run_slice_string_to_if w 9 (S l) .i64 (k : Int) Try.underlying9]
  rw [if_pos (by rw [S_size]; omega), Int.toNat_natCast, Lib.extract_eq]
  simp [S]
theorem slice_from (l : List UInt8) (k : Nat) (h : k ≤ l.length) (w : World) : (Instr.slice 9 (.string (S l)) (some (.int .i64 (k : Int))) none none).run Try.prog w = .ok (.string (S (l.drop k))) w := by
  rw [run_slice_string_from_if w 9 (S l) .i64 (k : Int) Try.underlying9]
  rw [if_pos (by rw [S_size]; omega), Int.toNat_natCast, Lib.extract_eq]
  have e : (l.drop k).take (l.length - k) = l.drop k := List.take_of_length_le (by rw [List.length_drop]; omega)
  rw [S_size, S_list, e]; rfl

theorem slice_mid (l : List UInt8) (i j : Nat) (h : i ≤ j) (hj : j ≤ l.length) (w : World) : (Instr.slice 9 (.string (S l)) (some (.int .i64 (i : Int))) (some (.int .i64 (j : Int))) none).run Try.prog w = .ok (.string (S ((l.drop i).take (j - i)))) w := by
  rw [run_slice_string_if w 9 (S l) .i64 .i64 (i : Int) (j : Int) Try.underlying9]
  rw [if_pos (by rw [S_size]; omega), Int.toNat_natCast, Int.toNat_natCast, Lib.extract_eq, if_pos (by omega)]
  rfl
theorem ext_mid (l : List UInt8) (i j : Nat) : (S l).extract i j = S ((l.drop i).take (j - i)) := by rw [Lib.extract_eq]; rfl
theorem ext_to (l : List UInt8) (j : Nat) : (S l).extract 0 j = S (l.take j) := ext_mid l 0 j
theorem ext_from (l : List UInt8) (i n : Nat) (h : l.length ≤ n) : (S l).extract i n = S (l.drop i) := by
  rw [ext_mid, List.take_of_length_le (by rw [List.length_drop]; omega)]
theorem S_app (l m : List UInt8) : S l ++ S m = S (l ++ m) := by
  apply ByteArray.ext
  apply Array.toList_inj.1
  rw [S_list]
  simp [S]
end Go.Proofs.Ytffpmcelelloeaa
