/-
  The document's own answer: what bytes say that end with one below 128.
-/
import Derived.Test.YtdnlpjmjhlmjgaaMath5
import Derived.Test.YtdnlpjmjhlmjgaaRef
namespace Go.Proofs.Ytdnlpjmjhlmjgaa
open Go.RowKit Go.Shelf

/-- The last digit of ten is 0 or 1. -/
def fits10 (s : ByteArray) : Prop := s.size = 10 → (s.data.toList[9]?.getD 0).toNat % 128 ≤ 1

theorem sumB_take (l : List UInt8) (k : Nat) (h : k < l.length) : Vm.sumB (l.take (k + 1)) = Vm.sumB (l.take k) + 128 ^ k * ((l[k]).toNat % 128) := by
  rw [List.take_succ_eq_append_getElem h, Vm.sumB_snoc, List.length_take, Nat.min_eq_left (by omega)]
theorem sumB_lt : ∀ l : List UInt8, Vm.sumB l < 128 ^ l.length
  | [] => by decide
  | b :: t => by
    have := sumB_lt t
    show b.toNat % 128 + 128 * Vm.sumB t < 128 ^ (t.length + 1)
    rw [Nat.pow_succ]
    omega
theorem half_step (l : List UInt8) (k : Nat) (h : k + 1 < l.length) : Vm.sumB (l.take (k + 1 + 1)) / 2 = Vm.sumB (l.take (k + 1)) / 2 + (l[k + 1]).toNat % 128 * (64 * 128 ^ k) := by
  rw [sumB_take l (k + 1) h]
  have e : 128 ^ (k + 1) * ((l[k + 1]).toNat % 128) = 2 * ((l[k + 1]).toNat % 128 * (64 * 128 ^ k)) := by
    have e1 : 128 ^ k * 128 = (64 * 128 ^ k) * 2 := by omega
    rw [Nat.pow_succ, e1, Nat.mul_comm (64 * 128 ^ k * 2), ← Nat.mul_assoc, Nat.mul_comm _ 2]
  rw [e]
  omega

/-- The unit of the k-th digit's half. -/
def unitOf (k : Nat) : Nat := 64 * 128 ^ (min k 9 - 1)
theorem unit_next {k : Nat} (h1 : 1 ≤ k) (h9 : k < 9) : unitOf (k + 1) = unitOf k * 128 := by
  unfold unitOf
  rw [Nat.min_eq_left (by omega), Nat.min_eq_left (by omega), show k + 1 - 1 = (k - 1) + 1 by omega, Nat.pow_succ, Nat.mul_assoc]
theorem unit_le {k : Nat} (h9 : k < 9) : unitOf k ≤ 36028797018963968 := by
  unfold unitOf
  have : 128 ^ (min k 9 - 1) ≤ 128 ^ 7 := Nat.pow_le_pow_right (by decide) (by omega)
  omega
theorem unit9 : unitOf 9 = 4611686018427387904 := by decide
theorem half_lt (l : List UInt8) (k : Nat) (hk : k ≤ 9) : Vm.sumB (l.take k) / 2 < 4611686018427387904 := by
  have h := sumB_lt (l.take k)
  have : 128 ^ (l.take k).length ≤ 128 ^ 9 := Nat.pow_le_pow_right (by decide) (by rw [List.length_take]; omega)
  omega
theorem half_next (l : List UInt8) (k : Nat) (h1 : 1 ≤ k) (h9 : k ≤ 9) (h : k < l.length) : Vm.sumB (l.take (k + 1)) / 2 = Vm.sumB (l.take k) / 2 + (l[k]).toNat % 128 * unitOf k := by
  obtain ⟨j, rfl⟩ : ∃ j, k = j + 1 := ⟨k - 1, by omega⟩
  rw [half_step l j h]
  unfold unitOf
  rw [Nat.min_eq_left (by omega)]
  simp

theorem sumB_par : ∀ (l : List UInt8) (h : 0 < l.length), Vm.sumB l % 2 = (l[0]).toNat % 2
  | [], h => by simp at h
  | b :: t, _ => by
    show (b.toNat % 128 + 128 * Vm.sumB t) % 2 = b.toNat % 2
    omega
theorem mul_le' {d u : Nat} (hd : d < 128) (hu : u ≤ 36028797018963968) : d * u ≤ 4611686018427387904 := by
  have h1 : d * u ≤ 127 * u := Nat.mul_le_mul_right _ (by omega)
  omega

set_option maxRecDepth 100000 in
set_option maxHeartbeats 2000000 in
theorem value_any (s : ByteArray) (h1 : 1 ≤ s.size) (h10 : s.size ≤ 10) (ok : Bool) (hok : ok = true ↔ fits10 s) (v : Int) (hv : ok = true → v = Vm.unzig (Vm.sumB s.data.toList)) (hv0 : ok = false → v = 0) (hzb : ok = true → Vm.sumB s.data.toList < 18446744073709551616) (w : World) :
    Calls Try.prog 34 #[.string s] w fun e w' => e = .returned (.tuple #[.int .i64 v, .bool ok]) ∧ w = w' := by
  have hll : s.data.toList.length = s.size := (Lib.size_eq s).symm
  have hb0 : 0 < s.size := by omega
  have hlt0 := (s[0]).toNat_lt
  have hs0 : Vm.sumB (s.data.toList.take 1) = (s[0]).toNat % 128 := by
    rw [sumB_take s.data.toList 0 (by omega)]; simp [Vm.sumB]; rfl
  have HS0 := Lib.hid hs0
  have HL := Lib.hid hll
  have HO := Lib.hid hok
  have HV := Lib.hid hv
  have HV0 := Lib.hid hv0
  have HB := Lib.hid hzb
  have hpar : Vm.sumB s.data.toList % 2 = (s[0]).toNat % 2 := by
    have e : s.data.toList[0]'(by omega) = s[0] := rfl
    rw [← e]
    exact sumB_par s.data.toList (by omega)
  have HPR := Lib.hid hpar
  clear hs0 hll hok hv hv0 hzb hpar
  go_enter Try.func34, Try.ntmps34
  go_wp2
  go_loop [5, 6, 7] (fun n u i => ∃ k : Nat, 1 ≤ k ∧ k ≤ s.size ∧ n = .int .i64 ((Vm.sumB (s.data.toList.take k) / 2 : Nat) : Int) ∧ u = .int .i64 (unitOf k : Int) ∧ i = .int .i64 k ∧ (k = 10 → (s.data.toList[9]?.getD 0).toNat % 128 ≤ 1)) (fun _ _ i => s.size - (intOf i).toNat)
  case atStart => exact ⟨1, Nat.le_refl _, h1, by rw [HS0.out]; go_num, rfl, rfl, fun h => by omega⟩
  case round =>
    obtain ⟨k, hk1, hk, rfl, rfl, rfl, hfit⟩ := hrel
    have HF := Lib.hid hfit
    clear hfit
    by_cases hlt : k < s.size
    · have hkl : k < s.data.toList.length := by rw [HL.out]; exact hlt
      have hd : (s.data.toList[k]).toNat = (s[k]).toNat := rfl
      have hnx := half_next s.data.toList k hk1 (by omega) hkl
      rw [hd] at hnx
      have hb := (s[k]).toNat_lt
      have hn9 := half_lt s.data.toList k (by omega)
      have HN := Lib.hid hnx
      clear hd hnx
      have hg9 : k = 9 → (s.data.toList[9]?.getD 0).toNat = (s[k]).toNat := fun h => by subst h; rw [List.getElem?_eq_getElem hkl]; rfl
      have HG := Lib.hid hg9
      clear hg9
      by_cases h9 : k = 9
      · have hu : unitOf k = 4611686018427387904 := by rw [h9]; exact unit9
        have HU := Lib.hid hu
        have H9 := Lib.hid h9
        have hk9 : ((k : Int) == 9) = true := by rw [beq_iff_eq]; omega
        have hk9' : ¬ (9 : Int) < (k : Int) := by omega
        clear hu h9
        generalize Vm.sumB (s.data.toList.take k) / 2 = n at *
        by_cases hd1 : (s[k]).toNat % 128 ≤ 1
        · have hd1' : ¬ (1 : Int) < ((s[k]).toNat : Int) % 128 := by omega
          go_wp2
          go_round
          case rel => exact ⟨k + 1, by omega, by omega, by rw [HN.out, HU.out]; go_num, by rw [H9.out]; rfl, by go_num, fun _ => by rw [HG.out H9.out]; exact hd1⟩
          case measure => simp [intOf]; omega
        · have hd1' : (1 : Int) < ((s[k]).toNat : Int) % 128 := by omega
          have hk0 : ok = false := by
            rcases Bool.eq_false_or_eq_true ok with h | h
            · have h1 := HO.out.1 h (by have := H9.out; omega)
              rw [HG.out H9.out] at h1
              exact absurd h1 hd1
            · exact h
          have hv0 := HV0.out hk0
          subst hk0 hv0
          go_wp2
          go_ret2
          exact ⟨rfl, rfl⟩
      · have hk9 : ((k : Int) == 9) = false := by rw [beq_eq_false_iff_ne]; omega
        have hk9' : ¬ (9 : Int) < (k : Int) := by omega
        have hul := unit_le (show k < 9 by omega)
        have hun := Lib.hid (unit_next hk1 (show k < 9 by omega))
        obtain ⟨u, hu⟩ : ∃ u, unitOf k = u := ⟨_, rfl⟩
        rw [hu] at hul hun HN ⊢
        have hmn := mul_le' (Nat.mod_lt (s[k]).toNat (show 0 < 128 by decide)) hul
        have hmul : ((s[k]).toNat : Int) % 128 * (u : Int) ≤ 4611686018427387904 := by
          have : (((s[k]).toNat % 128 * u : Nat) : Int) ≤ 4611686018427387904 := by omega
          simpa using this
        have hmul0 : 0 ≤ ((s[k]).toNat : Int) % 128 * (u : Int) := Int.mul_nonneg (by omega) (by omega)
        obtain ⟨n, hn⟩ : ∃ n, Vm.sumB (s.data.toList.take k) / 2 = n := ⟨_, rfl⟩
        rw [hn] at hn9 HN ⊢
        clear hu hn hmn
        go_wp2
        go_round
        case rel => exact ⟨k + 1, by omega, by omega, by rw [HN.out]; simp, by rw [hun.out]; go_num, by go_num, fun h => by omega⟩
        case measure => simp [intOf]; omega
    · obtain rfl : k = s.size := by omega
      have hok : ok = true := HO.out.2 HF.out
      have hz := HB.out hok
      have hv := HV.out hok
      subst hok
      have htk : s.data.toList.take s.size = s.data.toList := List.take_of_length_le (by rw [HL.out]; exact Nat.le_refl _)
      rw [htk]
      have hpr := HPR.out
      obtain ⟨z, hzz⟩ : ∃ z, Vm.sumB s.data.toList = z := ⟨_, rfl⟩
      rw [hzz] at hz hv hpr ⊢
      clear htk hzz
      by_cases hp : z % 2 = 1
      · have hodd : (((s[0]).toNat : Int) % 2 == 1) = true := by rw [beq_iff_eq]; omega
        have HVV : Hid (v = -((z / 2 : Nat) : Int) - 1) := Lib.hid (by rw [hv, Vm.unzig, if_pos hp])
        clear hv hp hpr
        go_wp2
        go_ret2
        exact ⟨by rw [HVV.out]; simp, rfl⟩
      · have hodd : (((s[0]).toNat : Int) % 2 == 1) = false := by rw [beq_eq_false_iff_ne]; omega
        have HVV : Hid (v = ((z / 2 : Nat) : Int)) := Lib.hid (by rw [hv, Vm.unzig, if_neg hp])
        clear hv hp hpr
        go_wp2
        go_ret2
        exact ⟨by rw [HVV.out]; simp, rfl⟩
end Go.Proofs.Ytdnlpjmjhlmjgaa
