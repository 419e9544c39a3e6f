/-
  Plain mathematics of numbers in base 128 with the sign in the lowest bit: nothing of the program is named here.
-/
namespace Go.Proofs.Ytdnlpjmjhlmjgaa.Vm

/-- The zigzag value. -/
def zig (n : Int) : Nat := if 0 ≤ n then (2 * n).toNat else (-2 * n - 1).toNat
/-- .. and back. -/
def unzig (z : Nat) : Int := if z % 2 = 1 then -((z / 2 : Nat) : Int) - 1 else ((z / 2 : Nat) : Int)

/-- At most k + 1 digits in base 128, the least first, 128 added to all but the last. -/
def encF : Nat → Nat → List UInt8
  | 0, z => [UInt8.ofNat z]
  | k + 1, z => if z < 128 then [UInt8.ofNat z] else UInt8.ofNat (z % 128 + 128) :: encF k (z / 128)

def enc (n : Int) : List UInt8 := encF 9 (zig n)

/-- A number of 64 bits. -/
def In (n : Int) : Prop := -9223372036854775808 ≤ n ∧ n ≤ 9223372036854775807

theorem zig_lt {n : Int} (h : In n) : zig n < 2 * 128 ^ 9 := by
  obtain ⟨h1, h2⟩ := h
  unfold zig
  split <;> omega

theorem unzig_zig (n : Int) : unzig (zig n) = n := by
  unfold zig unzig
  split <;> split <;> omega

theorem zig_unzig (z : Nat) : zig (unzig z) = z := by
  unfold zig unzig
  split <;> split <;> omega

theorem unzig_in {z : Nat} (h : z < 2 * 128 ^ 9) : In (unzig z) := by
  unfold unzig In
  split <;> omega

theorem toNat_small {z : Nat} (h : z < 256) : (UInt8.ofNat z).toNat = z := by
  simp; omega

theorem encF_small (k : Nat) {z : Nat} (h : z < 128) : encF k z = [UInt8.ofNat z] := by
  cases k with
  | zero => rfl
  | succ k => unfold encF; rw [if_pos h]

theorem encF_big (k : Nat) {z : Nat} (h : ¬ z < 128) : encF (k + 1) z = UInt8.ofNat (z % 128 + 128) :: encF k (z / 128) := by
  conv => lhs; unfold encF
  rw [if_neg h]

theorem pow_step (k : Nat) : 2 * 128 ^ (k + 1) = 128 * (2 * 128 ^ k) := by
  rw [Nat.pow_succ]; omega

theorem div_lt (k : Nat) {z : Nat} (h : z < 2 * 128 ^ (k + 1)) : z / 128 < 2 * 128 ^ k := by
  rw [pow_step] at h
  omega

theorem encF_inj : ∀ (k z z' : Nat) (r r' : List UInt8), z < 2 * 128 ^ k → z' < 2 * 128 ^ k → encF k z ++ r = encF k z' ++ r' → z = z' ∧ r = r'
  | 0, z, z', r, r', h, h', e => by
    have ez : z < 256 := by omega
    have ez' : z' < 256 := by omega
    simp only [encF, List.cons_append, List.nil_append, List.cons.injEq] at e
    have := congrArg UInt8.toNat e.1
    rw [toNat_small ez, toNat_small ez'] at this
    exact ⟨this, e.2⟩
  | k + 1, z, z', r, r', h, h', e => by
    by_cases hz : z < 128
    · by_cases hz' : z' < 128
      · rw [encF_small _ hz, encF_small _ hz'] at e
        simp only [List.cons_append, List.nil_append, List.cons.injEq] at e
        have := congrArg UInt8.toNat e.1
        rw [toNat_small (by omega), toNat_small (by omega)] at this
        exact ⟨this, e.2⟩
      · rw [encF_small _ hz, encF_big _ hz'] at e
        simp only [List.cons_append, List.nil_append, List.cons.injEq] at e
        have := congrArg UInt8.toNat e.1
        rw [toNat_small (by omega), toNat_small (by omega)] at this
        omega
    · by_cases hz' : z' < 128
      · rw [encF_big _ hz, encF_small _ hz'] at e
        simp only [List.cons_append, List.nil_append, List.cons.injEq] at e
        have := congrArg UInt8.toNat e.1
        rw [toNat_small (by omega), toNat_small (by omega)] at this
        omega
      · rw [encF_big _ hz, encF_big _ hz'] at e
        simp only [List.cons_append, List.cons.injEq] at e
        have := congrArg UInt8.toNat e.1
        rw [toNat_small (by omega), toNat_small (by omega)] at this
        obtain ⟨h1, h2⟩ := encF_inj k (z / 128) (z' / 128) r r' (div_lt k h) (div_lt k h') e.2
        exact ⟨by omega, h2⟩

theorem enc_inj {n m : Int} (hn : In n) (hm : In m) {r r' : List UInt8} (e : enc n ++ r = enc m ++ r') : n = m ∧ r = r' := by
  obtain ⟨h1, h2⟩ := encF_inj 9 (zig n) (zig m) r r' (zig_lt hn) (zig_lt hm) e
  exact ⟨by rw [← unzig_zig n, h1, unzig_zig], h2⟩

theorem encF_length : ∀ k z : Nat, 1 ≤ (encF k z).length ∧ (encF k z).length ≤ k + 1
  | 0, z => by simp [encF]
  | k + 1, z => by
    have := encF_length k (z / 128)
    by_cases hz : z < 128
    · rw [encF_small _ hz]; simp
    · rw [encF_big _ hz]; simp; omega

theorem enc_length (n : Int) : 1 ≤ (enc n).length ∧ (enc n).length ≤ 10 := encF_length 9 (zig n)

/-- The bytes at the beginning that would be those of one number, at most so many. -/
def lead : Nat → List UInt8 → List UInt8
  | 0, _ => []
  | _ + 1, [] => []
  | f + 1, b :: t => if b.toNat < 128 then [b] else b :: lead f t

theorem lead_encF : ∀ (k z : Nat) (r : List UInt8), z < 2 * 128 ^ k → lead (k + 1) (encF k z ++ r) = encF k z
  | 0, z, r, h => by
    have : (UInt8.ofNat z).toNat < 128 := by rw [toNat_small (by omega)]; omega
    simp only [encF, List.cons_append, List.nil_append, lead]
    rw [if_pos this]
  | k + 1, z, r, h => by
    by_cases hz : z < 128
    · have : (UInt8.ofNat z).toNat < 128 := by rw [toNat_small (by omega)]; omega
      rw [encF_small _ hz]
      simp only [List.cons_append, List.nil_append, lead]
      rw [if_pos this]
    · have : ¬ (UInt8.ofNat (z % 128 + 128)).toNat < 128 := by rw [toNat_small (by omega)]; omega
      rw [encF_big _ hz]
      simp only [List.cons_append, lead]
      rw [if_neg this, lead_encF k (z / 128) r (div_lt k h)]

theorem lead_all : ∀ (f : Nat) (l : List UInt8), (∀ j (h : j < l.length), j < f → ¬ (l[j]).toNat < 128) → lead f l = l.take f
  | 0, _, _ => rfl
  | _ + 1, [], _ => rfl
  | f + 1, b :: t, h => by
    have h0 := h 0 (by simp) (by omega)
    simp only [List.getElem_cons_zero] at h0
    simp only [lead, List.take_succ_cons]
    rw [if_neg h0, lead_all f t fun j hj hf => by have := h (j + 1) (by simp; omega) (by omega); simpa using this]
theorem lead_stop : ∀ (f : Nat) (l : List UInt8) (k : Nat) (hk : k < l.length), k < f → (∀ j (h : j < l.length), j < k → ¬ (l[j]).toNat < 128) → (l[k]).toNat < 128 → lead f l = l.take (k + 1)
  | 0, _, _, _, hf, _, _ => by omega
  | _ + 1, [], _, hk, _, _, _ => by simp at hk
  | f + 1, b :: t, 0, _, _, _, h1 => by
    simp only [List.getElem_cons_zero] at h1
    simp only [lead, List.take_succ_cons, List.take_zero]
    rw [if_pos h1]
  | f + 1, b :: t, k + 1, hk, hf, h, h1 => by
    have h0 := h 0 (by simp) (by omega)
    simp only [List.getElem_cons_zero] at h0
    simp only [List.getElem_cons_succ] at h1
    simp only [lead, List.take_succ_cons]
    rw [if_neg h0, lead_stop f t k (by simpa using hk) (by omega) (fun j hj hjk => by have := h (j + 1) (by simp; omega) (by omega); simpa using this) h1]

/-- The bytes with their places. -/
def placed : Nat → List UInt8 → List (Nat × UInt8)
  | _, [] => []
  | i, b :: t => (i, b) :: placed (i + 1) t
theorem placed_snoc : ∀ (l : List UInt8) (i : Nat) (b : UInt8), placed i (l ++ [b]) = placed i l ++ [(i + l.length, b)]
  | [], _, _ => rfl
  | a :: t, i, b => by
    show (i, a) :: placed (i + 1) (t ++ [b]) = (i, a) :: (placed (i + 1) t ++ [(i + (t.length + 1), b)])
    rw [placed_snoc t, show i + 1 + t.length = i + (t.length + 1) by omega]
theorem placed_length : ∀ (l : List UInt8) (i : Nat), (placed i l).length = l.length
  | [], _ => rfl
  | _ :: t, i => by show (placed (i + 1) t).length + 1 = t.length + 1; rw [placed_length t]

/-- One byte's seven bits are put behind those that have come. -/
def put (acc i : Nat) (b : UInt8) : Nat := acc ||| (b.toNat % 128 * 2 ^ (7 * i) % 2 ^ 64)
def puts : Nat → Nat → List UInt8 → Nat
  | acc, _, [] => acc
  | acc, i, b :: t => puts (put acc i b) (i + 1) t

theorem put_lt {acc : Nat} (i : Nat) (b : UInt8) (h : acc < 2 ^ 64) : put acc i b < 2 ^ 64 :=
  Nat.or_lt_two_pow h (Nat.mod_lt _ (by decide))
theorem puts_lt : ∀ (l : List UInt8) (acc i : Nat), acc < 2 ^ 64 → puts acc i l < 2 ^ 64
  | [], _, _, h => h
  | b :: t, _, i, h => puts_lt t _ (i + 1) (put_lt i b h)
theorem puts_snoc : ∀ (l : List UInt8) (acc i : Nat) (b : UInt8), puts acc i (l ++ [b]) = put (puts acc i l) (i + l.length) b
  | [], _, _, _ => rfl
  | a :: t, acc, i, b => by
    show puts (put acc i a) (i + 1) (t ++ [b]) = put (puts (put acc i a) (i + 1) t) (i + (t.length + 1)) b
    rw [puts_snoc t, show i + 1 + t.length = i + (t.length + 1) by omega]

/-- The same over bytes with places. -/
def putsP (acc : Nat) (l : List (Nat × UInt8)) : Nat := l.foldl (fun z x => put z x.1 x.2) acc
theorem putsP_placed : ∀ (l : List UInt8) (acc i : Nat), putsP acc (placed i l) = puts acc i l
  | [], _, _ => rfl
  | b :: t, acc, i => putsP_placed t (put acc i b) (i + 1)
theorem putsP_snoc (acc : Nat) (l : List (Nat × UInt8)) (x : Nat × UInt8) : putsP acc (l ++ [x]) = put (putsP acc l) x.1 x.2 := by simp [putsP]
theorem putsP_lt : ∀ (l : List (Nat × UInt8)) (acc : Nat), acc < 2 ^ 64 → putsP acc l < 2 ^ 64
  | [], _, h => h
  | x :: t, _, h => putsP_lt t _ (put_lt x.1 x.2 h)

theorem pow7 (i : Nat) : 2 ^ (7 * i) = 128 ^ i := by
  rw [Nat.pow_mul]

theorem put_eq {acc i : Nat} {b : UInt8} (h : acc < 128 ^ i) (hb : b.toNat % 128 * 128 ^ i < 2 ^ 64) : put acc i b = acc + b.toNat % 128 * 128 ^ i := by
  unfold put
  rw [pow7, Nat.mod_eq_of_lt hb, Nat.or_comm, Nat.add_comm]
  have := Nat.two_pow_add_eq_or_of_lt (b := acc) (i := 7 * i) (by rw [pow7]; exact h) (b.toNat % 128)
  rw [pow7] at this
  rw [Nat.mul_comm, ← this]

theorem digit_small {z : Nat} (h : z < 128) : (UInt8.ofNat z).toNat % 128 = z := by rw [toNat_small (by omega)]; omega
theorem digit_big (z : Nat) : (UInt8.ofNat (z % 128 + 128)).toNat % 128 = z % 128 := by rw [toNat_small (by omega)]; omega

theorem puts_encF : ∀ (k i acc z : Nat), acc < 128 ^ i → z * 128 ^ i < 2 ^ 64 → z < 2 * 128 ^ k → puts acc i (encF k z) = acc + z * 128 ^ i
  | 0, i, acc, z, h, hz, hk => by
    have hz' : z < 128 := by omega
    simp only [encF, puts]
    rw [put_eq h (by rw [digit_small hz']; exact hz), digit_small hz']
  | k + 1, i, acc, z, h, hz, hk => by
    by_cases hs : z < 128
    · rw [encF_small _ hs]
      simp only [puts]
      rw [put_eq h (by rw [digit_small hs]; exact hz), digit_small hs]
    · rw [encF_big _ hs]
      simp only [puts]
      have e1 : z % 128 * 128 ^ i ≤ z * 128 ^ i := Nat.mul_le_mul_right _ (Nat.mod_le _ _)
      have e2 : z / 128 * 128 ^ (i + 1) = z / 128 * 128 * 128 ^ i := by
        rw [Nat.pow_succ, Nat.mul_comm (128 ^ i) 128, Nat.mul_assoc]
      have e3 : z % 128 * 128 ^ i + z / 128 * 128 ^ (i + 1) = z * 128 ^ i := by
        rw [e2, ← Nat.add_mul]
        congr 1
        omega
      rw [put_eq h (by rw [digit_big]; omega), digit_big, puts_encF k (i + 1) _ (z / 128) ?_ (by omega) (div_lt k hk)]
      · omega
      · have : (z % 128 + 1) * 128 ^ i ≤ 128 * 128 ^ i := Nat.mul_le_mul_right _ (by omega)
        rw [Nat.pow_succ, Nat.mul_comm (128 ^ i) 128]
        rw [Nat.add_mul, Nat.one_mul] at this
        omega

/-- The number whose encoding the bytes begin with, or any number. -/
def guess (s : List UInt8) : Int := unzig (puts 0 0 (lead 10 s))

theorem guess_in (s : List UInt8) : In (guess s) := unzig_in (by
  have := puts_lt (lead 10 s) 0 0 (by decide)
  have e : (2 : Nat) * 128 ^ 9 = 2 ^ 64 := by decide
  rw [e]; exact this)

theorem guess_enc {n : Int} (h : In n) (r : List UInt8) : guess (enc n ++ r) = n := by
  unfold guess enc
  rw [lead_encF 9 (zig n) r (zig_lt h), puts_encF 9 0 0 (zig n) (by decide) (by have := zig_lt h; omega) (zig_lt h)]
  simp [unzig_zig]

/-- What a reader takes off: the number and the rest. -/
def rd (s : List UInt8) : Option (Int × List UInt8) := if enc (guess s) <+: s then some (guess s, s.drop (enc (guess s)).length) else none

theorem rd_enc {n : Int} (h : In n) (r : List UInt8) : rd (enc n ++ r) = some (n, r) := by
  unfold rd
  rw [guess_enc h, if_pos (List.prefix_append _ _)]
  simp

theorem rd_some {s : List UInt8} {n : Int} {r : List UInt8} (h : rd s = some (n, r)) : In n ∧ s = enc n ++ r := by
  unfold rd at h
  split at h
  · rename_i hp
    simp only [Option.some.injEq, Prod.mk.injEq] at h
    obtain ⟨rfl, rfl⟩ := h
    refine ⟨guess_in s, ?_⟩
    generalize enc (guess s) = p at hp
    obtain ⟨t, rfl⟩ := hp
    simp
  · cases h

theorem rd_none {s : List UInt8} (h : rd s = none) {n : Int} (hn : In n) (r : List UInt8) : s ≠ enc n ++ r := by
  rintro rfl
  rw [rd_enc hn] at h
  cases h

theorem rd_length {s : List UInt8} {n : Int} {r : List UInt8} (h : rd s = some (n, r)) : r.length < s.length := by
  obtain ⟨_, rfl⟩ := rd_some h
  have := (enc_length n).1
  simp; omega

end Go.Proofs.Ytdnlpjmjhlmjgaa.Vm
