/-
  Plain mathematics of the Adler-32 sums: both halves, not reduced, of a list of bytes behind given ones; nothing of the program is named here.
-/
namespace Go.Proofs.Ythbbefjgmnocdaa.Am

/-- The low half. -/
def lo (a : Int) : List UInt8 → Int
  | [] => a
  | x :: t => lo (a + (x.toNat : Int)) t
/-- The high half. -/
def hi (a b : Int) : List UInt8 → Int
  | [] => b
  | x :: t => hi (a + (x.toNat : Int)) (b + (a + (x.toNat : Int))) t
/-- Both in one number. -/
def pack (p q : Int) : Int := 65536 * (q % 65521) + p % 65521
def lowOf (s : Int) : Int := s % 65536 % 65521
def highOf (s : Int) : Int := s / 65536 % 65521
/-- The sum of a text behind one that has the sum s. -/
def add (s : Int) (l : List UInt8) : Int := pack (lo (lowOf s) l) (hi (lowOf s) (highOf s) l)
def sum (l : List UInt8) : Int := pack (lo 1 l) (hi 1 0 l)
def join (a b n : Int) : Int := pack (lowOf a + lowOf b - 1) (highOf a + n % 65521 * (lowOf a - 1) + highOf b)
def roll (s o i n : Int) : Int := pack (lowOf s + (i - o)) (highOf s - n % 65521 * o - 1 + (lowOf s + (i - o)))

theorem lo_app : ∀ (l m : List UInt8) (a : Int), lo a (l ++ m) = lo (lo a l) m
  | [], _, _ => rfl
  | x :: t, m, a => lo_app t m (a + (x.toNat : Int))
theorem hi_app : ∀ (l m : List UInt8) (a b : Int), hi a b (l ++ m) = hi (lo a l) (hi a b l) m
  | [], _, _, _ => rfl
  | x :: t, m, a, b => hi_app t m (a + (x.toNat : Int)) (b + (a + (x.toNat : Int)))
theorem lo_snoc (l : List UInt8) (x : UInt8) (a : Int) : lo a (l ++ [x]) = lo a l + (x.toNat : Int) := by rw [lo_app]; rfl
theorem hi_snoc (l : List UInt8) (x : UInt8) (a b : Int) : hi a b (l ++ [x]) = hi a b l + lo a (l ++ [x]) := by rw [hi_app, lo_snoc]; rfl
theorem lo_lin : ∀ (l : List UInt8) (a : Int), lo a l = a + lo 0 l
  | [], a => by simp [lo]
  | x :: t, a => by
    have h1 := lo_lin t (a + (x.toNat : Int))
    have h2 := lo_lin t (0 + (x.toNat : Int))
    simp only [lo] at *
    omega
theorem hi_lin : ∀ (l : List UInt8) (a b : Int), hi a b l = b + (l.length : Int) * a + hi 0 0 l
  | [], a, b => by simp [hi]
  | x :: t, a, b => by
    have h1 := hi_lin t (a + (x.toNat : Int)) (b + (a + (x.toNat : Int)))
    have h2 := hi_lin t (0 + (x.toNat : Int)) (0 + (0 + (x.toNat : Int)))
    simp only [hi, List.length_cons] at *
    rw [h1, h2]
    grind
theorem lo_bd (l : List UInt8) (a : Int) (h : 0 ≤ a) : 0 ≤ lo a l ∧ lo a l ≤ a + 255 * (l.length : Int) := by
  induction l generalizing a with
  | nil => simp only [lo, List.length_nil]; omega
  | cons x t ih =>
    have := x.toNat_lt
    have := ih (a + (x.toNat : Int)) (by omega)
    simp only [lo, List.length_cons]
    omega
theorem hi_bd (l : List UInt8) (a b n : Int) (h : 0 ≤ a) (h' : 0 ≤ b) (hn : a + 255 * (l.length : Int) ≤ n) : 0 ≤ hi a b l ∧ hi a b l ≤ b + (l.length : Int) * n := by
  induction l generalizing a b with
  | nil => simp only [hi, List.length_nil]; omega
  | cons x t ih =>
    have := x.toNat_lt
    simp only [List.length_cons] at hn
    have := ih (a + (x.toNat : Int)) (b + (a + (x.toNat : Int))) (by omega) (by omega) (by omega)
    simp only [hi, List.length_cons]
    have e : ((t.length + 1 : Nat) : Int) * n = (t.length : Int) * n + n := by grind
    rw [e]
    omega

theorem mod_eq {a b : Int} (h : ∃ k, a = b + 65521 * k) : a % 65521 = b % 65521 := by obtain ⟨k, rfl⟩ := h; omega
theorem mod_k (a : Int) : ∃ k, a % 65521 = a + 65521 * k := ⟨-(a / 65521), by omega⟩
theorem pack_bd (p q : Int) : 0 ≤ pack p q ∧ pack p q < 4294967296 := by unfold pack; omega
theorem low_pack (p q : Int) : lowOf (pack p q) = p % 65521 := by unfold lowOf pack; omega
theorem high_pack (p q : Int) : highOf (pack p q) = q % 65521 := by unfold highOf pack; omega
theorem pack_inj {p q r t : Int} : pack p q = pack r t ↔ p % 65521 = r % 65521 ∧ q % 65521 = t % 65521 := by unfold pack; omega
theorem pack_congr {p q r t : Int} (h1 : ∃ k, p = r + 65521 * k) (h2 : ∃ k, q = t + 65521 * k) : pack p q = pack r t := pack_inj.2 ⟨mod_eq h1, mod_eq h2⟩
theorem lo_mod (l : List UInt8) (a : Int) : lo (a % 65521) l % 65521 = lo a l % 65521 := by rw [lo_lin l (a % 65521), lo_lin l a]; omega
theorem hi_mod (l : List UInt8) (a b : Int) : hi (a % 65521) (b % 65521) l % 65521 = hi a b l % 65521 := by
  obtain ⟨k, hk⟩ := mod_k a
  obtain ⟨j, hj⟩ := mod_k b
  rw [hi_lin l (a % 65521), hi_lin l a, hk, hj]
  exact mod_eq ⟨j + (l.length : Int) * k, by grind⟩
theorem pack_mod (p q : Int) : pack (p % 65521) (q % 65521) = pack p q := by unfold pack; omega
theorem sum_add (l : List UInt8) : add 1 l = sum l := rfl

theorem add_sum (l m : List UInt8) : add (sum l) m = sum (l ++ m) := by
  unfold add sum
  rw [low_pack, high_pack, pack_inj, lo_app, hi_app]
  exact ⟨lo_mod _ _, hi_mod _ _ _⟩
theorem join_sum (l m : List UInt8) : join (sum l) (sum m) (m.length : Int) = sum (l ++ m) := by
  unfold join sum
  rw [low_pack, high_pack, low_pack, high_pack, lo_app, hi_app, hi_lin m (lo 1 l), hi_lin m 1, lo_lin m (lo 1 l), lo_lin m 1]
  obtain ⟨k1, h1⟩ := mod_k (lo 1 l)
  obtain ⟨k2, h2⟩ := mod_k (hi 1 0 l)
  obtain ⟨k3, h3⟩ := mod_k (1 + lo 0 m)
  obtain ⟨k4, h4⟩ := mod_k (0 + (m.length : Int) * 1 + hi 0 0 m)
  obtain ⟨k5, h5⟩ := mod_k (m.length : Int)
  rw [h1, h2, h3, h4, h5]
  exact pack_congr ⟨k1 + k3, by omega⟩ ⟨k2 + k4 + k5 * (lo 1 l - 1) + (m.length : Int) * k1 + 65521 * k5 * k1, by grind⟩
theorem roll_sum (x y : UInt8) (l : List UInt8) : roll (sum (x :: l)) (x.toNat : Int) (y.toNat : Int) ((l.length + 1 : Nat) : Int) = sum (l ++ [y]) := by
  unfold roll sum
  rw [low_pack, high_pack, hi_snoc, lo_snoc]
  simp only [lo, hi]
  rw [hi_lin l (1 + (x.toNat : Int)), hi_lin l 1, lo_lin l (1 + (x.toNat : Int)), lo_lin l 1]
  obtain ⟨k1, h1⟩ := mod_k (1 + (x.toNat : Int) + lo 0 l)
  obtain ⟨k2, h2⟩ := mod_k (0 + (1 + (x.toNat : Int)) + (l.length : Int) * (1 + (x.toNat : Int)) + hi 0 0 l)
  obtain ⟨k5, h5⟩ := mod_k ((l.length + 1 : Nat) : Int)
  rw [h1, h2, h5]
  exact pack_congr ⟨k1, by omega⟩ ⟨k2 + k1 - k5 * (x.toNat : Int), by grind⟩
end Go.Proofs.Ythbbefjgmnocdaa.Am
