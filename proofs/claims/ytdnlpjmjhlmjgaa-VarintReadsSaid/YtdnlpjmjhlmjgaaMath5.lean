/-
  Plain mathematics, more: a number read off its digits, the least first; which bytes are a number's.
-/
import Derived.Test.YtdnlpjmjhlmjgaaMath
namespace Go.Proofs.Ytdnlpjmjhlmjgaa.Vm

/-- What digits in base 128 say. -/
def sumB : List UInt8 → Nat
  | [] => 0
  | b :: t => b.toNat % 128 + 128 * sumB t
theorem sumB_snoc : ∀ (l : List UInt8) (b : UInt8), sumB (l ++ [b]) = sumB l + 128 ^ l.length * (b.toNat % 128)
  | [], b => by simp [sumB]
  | a :: t, b => by
    simp only [List.cons_append, sumB, sumB_snoc t b, List.length_cons, Nat.pow_succ]
    have : 128 * (sumB t + 128 ^ t.length * (b.toNat % 128)) = 128 * sumB t + 128 ^ t.length * 128 * (b.toNat % 128) := by
      rw [Nat.mul_add]
      congr 1
      rw [Nat.mul_comm (128 ^ t.length) 128, Nat.mul_assoc]
    omega

/-- The bytes of a number of at most k + 1 digits. -/
def Shape : Nat → List UInt8 → Prop
  | _, [] => False
  | 0, [b] => b.toNat < 2
  | 0, _ :: _ :: _ => False
  | _ + 1, [b] => b.toNat < 128
  | k + 1, b :: c :: t => 128 ≤ b.toNat ∧ Shape k (c :: t) ∧ c :: t ≠ [0]

theorem ofNat_toNat (b : UInt8) {z : Nat} (h : z = b.toNat) : UInt8.ofNat z = b := by subst h; simp

theorem shape_enc : ∀ (k : Nat) (s : List UInt8), Shape k s → encF k (sumB s) = s ∧ sumB s < 2 * 128 ^ k ∧ (s ≠ [0] → 0 < sumB s)
  | 0, [], h => h.elim
  | _ + 1, [], h => h.elim
  | 0, [b], h => by
    have hb : b.toNat < 2 := h
    have e : sumB [b] = b.toNat := by simp [sumB]; omega
    refine ⟨by rw [e]; simp [encF], by omega, fun hn => ?_⟩
    rw [e]
    rcases Nat.eq_zero_or_pos b.toNat with h0 | h0
    · exact absurd (by rw [← ofNat_toNat b rfl, h0]; rfl) hn
    · exact h0
  | 0, _ :: _ :: _, h => h.elim
  | k + 1, [b], h => by
    have hb : b.toNat < 128 := h
    have e : sumB [b] = b.toNat := by simp [sumB]; omega
    have hp : 0 < 128 ^ (k + 1) := Nat.pow_pos (by decide)
    refine ⟨by rw [e, encF_small _ hb]; simp, ?_, fun hn => ?_⟩
    · rw [e, pow_step]; have : 0 < 128 ^ k := Nat.pow_pos (by decide); omega
    rw [e]
    rcases Nat.eq_zero_or_pos b.toNat with h0 | h0
    · exact absurd (by rw [← ofNat_toNat b rfl, h0]; rfl) hn
    · exact h0
  | k + 1, b :: c :: t, h => by
    obtain ⟨hb, hs, hn⟩ := h
    obtain ⟨i1, i2, i3⟩ := shape_enc k (c :: t) hs
    have h3 := i3 hn
    have hlt := b.toNat_lt
    have e : sumB (b :: c :: t) = b.toNat % 128 + 128 * sumB (c :: t) := rfl
    generalize sumB (c :: t) = z at *
    refine ⟨?_, ?_, fun _ => by omega⟩
    · rw [e, encF_big _ (by omega), show (b.toNat % 128 + 128 * z) / 128 = z by omega, i1, ofNat_toNat b (by omega)]
    · rw [e, pow_step]; omega

theorem enc_shape : ∀ (k z : Nat), z < 2 * 128 ^ k → Shape k (encF k z) ∧ (0 < z → encF k z ≠ [0])
  | 0, z, h => by
    have hz : z < 2 := by omega
    refine ⟨?_, fun h0 e => ?_⟩
    · show (UInt8.ofNat z).toNat < 2
      rw [toNat_small (by omega)]; exact hz
    · have := congrArg (fun l : List UInt8 => (l.headD 0).toNat) e
      simp [encF] at this
      omega
  | k + 1, z, h => by
    by_cases hs : z < 128
    · rw [encF_small _ hs]
      refine ⟨?_, fun h0 e => ?_⟩
      · show (UInt8.ofNat z).toNat < 128
        rw [toNat_small (by omega)]; exact hs
      · have := congrArg (fun l : List UInt8 => (l.headD 0).toNat) e
        simp at this
        omega
    · obtain ⟨i1, i2⟩ := enc_shape k (z / 128) (div_lt k h)
      have i2' := i2 (by omega)
      have hl := (encF_length k (z / 128)).1
      rw [encF_big _ hs]
      match he : encF k (z / 128), hl with
      | c :: t, _ =>
        rw [he] at i1 i2'
        exact ⟨⟨by rw [toNat_small (by omega)]; omega, i1, i2'⟩, fun _ e => by simp at e⟩

theorem shape_of : ∀ (k : Nat) (l : List UInt8) (n : Nat) (hn : n < l.length), (∀ j (h : j < l.length), j < n → ¬ (l[j]).toNat < 128) → (l[n]).toNat < 128 → (n = 0 ∨ (l[n]).toNat ≠ 0) → n ≤ k → (n = k → (l[n]).toNat < 2) → Shape k (l.take (n + 1))
  | _, [], _, hn, _, _, _, _, _ => by simp at hn
  | 0, b :: t, 0, _, _, _, _, _, h5 => by
    have := h5 rfl
    simp only [List.getElem_cons_zero] at this
    exact this
  | k + 1, b :: t, 0, _, _, h2, _, _, _ => by
    simp only [List.getElem_cons_zero] at h2
    exact h2
  | 0, b :: t, n + 1, _, _, _, _, h4, _ => by omega
  | k + 1, b :: t, n + 1, hn, h1, h2, h3, h4, h5 => by
    have hb := h1 0 (by simp) (by omega)
    simp only [List.getElem_cons_zero] at hb
    simp only [List.getElem_cons_succ] at h2 h3 h5
    have hn' : n < t.length := by simpa using hn
    have h3' : (t[n]).toNat ≠ 0 := by rcases h3 with h | h; omega; exact h
    have ih := shape_of k t n hn' (fun j hj hjn => by have := h1 (j + 1) (by simp; omega) (by omega); simpa using this) h2 (.inr h3') (by omega) (fun e => h5 (by omega))
    rw [List.take_succ_cons]
    cases t with
    | nil => simp at hn'
    | cons c t =>
      rw [List.take_succ_cons] at ih ⊢
      refine ⟨by omega, ih, fun e => ?_⟩
      cases n with
      | zero =>
        simp at e
        simp [e] at h3'
      | succ n =>
        have := congrArg List.length e
        simp at this
        simp [this] at hn'

theorem shape_at : ∀ (k : Nat) (s r : List UInt8), Shape k s → ∃ (m : Nat) (hm : m < (s ++ r).length), s.length = m + 1 ∧ (∀ j (h : j < (s ++ r).length), j < m → ¬ ((s ++ r)[j]).toNat < 128) ∧ ((s ++ r)[m]).toNat < 128 ∧ (m = 0 ∨ ((s ++ r)[m]).toNat ≠ 0) ∧ m ≤ k ∧ (m = k → ((s ++ r)[m]).toNat < 2)
  | 0, [], _, h => h.elim
  | _ + 1, [], _, h => h.elim
  | 0, [b], r, h => by
    have hb : b.toNat < 2 := h
    exact ⟨0, by simp, rfl, fun j _ hj => by omega, by simp; omega, .inl rfl, Nat.le_refl _, fun _ => by simpa using hb⟩
  | 0, _ :: _ :: _, _, h => h.elim
  | k + 1, [b], r, h => by
    have hb : b.toNat < 128 := h
    exact ⟨0, by simp, rfl, fun j _ hj => by omega, by simpa using hb, .inl rfl, by omega, fun e => by omega⟩
  | k + 1, b :: c :: t, r, h => by
    obtain ⟨hb, hs, hn⟩ := h
    obtain ⟨m, hm, e, h1, h2, h3, h4, h5⟩ := shape_at k (c :: t) r hs
    refine ⟨m + 1, by simp at hm ⊢; omega, by simp at e ⊢; omega, fun j hj hjm => ?_, by simpa using h2, .inr ?_, by omega, fun e' => by simpa using h5 (by omega)⟩
    · cases j with
      | zero => simp; omega
      | succ j => have := h1 j (by simp at hj ⊢; omega) (by omega); simpa using this
    · rcases h3 with h3 | h3
      · subst h3
        simp at e
        subst e
        intro h0
        apply hn
        simp at h0
        have : c = 0 := by
          rw [← ofNat_toNat c rfl]
          simp [h0]
        rw [this]
      · simpa using h3

/-- What the document's reader takes off, in its own words: n bytes of 128 and more, then one below. -/
theorem rd_yes {l : List UInt8} {n : Nat} (hn : n < l.length) (h1 : ∀ j (h : j < l.length), j < n → ¬ (l[j]).toNat < 128) (h2 : (l[n]).toNat < 128) (h3 : n = 0 ∨ (l[n]).toNat ≠ 0) (h4 : n ≤ 9) (h5 : n = 9 → (l[n]).toNat < 2) :
    rd l = some (unzig (sumB (l.take (n + 1))), l.drop (n + 1)) ∧ sumB (l.take (n + 1)) < 2 * 128 ^ 9 := by
  obtain ⟨e1, e2, _⟩ := shape_enc 9 _ (shape_of 9 l n hn h1 h2 h3 h4 h5)
  have := rd_enc (unzig_in e2) (l.drop (n + 1))
  unfold enc at this
  rw [zig_unzig, e1, List.take_append_drop] at this
  exact ⟨this, e2⟩

theorem rd_no {l : List UInt8} (h : rd l ≠ none) : ∃ (m : Nat) (hm : m < l.length), (∀ j (h : j < l.length), j < m → ¬ (l[j]).toNat < 128) ∧ (l[m]).toNat < 128 ∧ (m = 0 ∨ (l[m]).toNat ≠ 0) ∧ m ≤ 9 ∧ (m = 9 → (l[m]).toNat < 2) := by
  match hr : rd l, h with
  | some (n, r), _ =>
    obtain ⟨hin, rfl⟩ := rd_some hr
    obtain ⟨m, hm, _, h1, h2, h3, h4, h5⟩ := shape_at 9 (enc n) r (enc_shape 9 (zig n) (zig_lt hin)).1
    exact ⟨m, hm, h1, h2, h3, h4, h5⟩
end Go.Proofs.Ytdnlpjmjhlmjgaa.Vm
