/-
  The numbers of the statement DiskFull: four files of one length each, then more of one, then a fifth.
-/
import Derived.Test.YtffpmcelelloeaaDlastsn
namespace Go.Proofs.Ytffpmcelelloeaa.Gm

def zs (n : Nat) : Bs := List.replicate n 0
theorem zs_len (n : Nat) : (zs n).length = n := List.length_replicate
theorem zs_app (n m : Nat) : zs n ++ zs m = zs (n + m) := List.replicate_append_replicate
/-- Behind i of the four appends. -/
def fullD (n i : Nat) : Dk := ⟨(List.range i).map (fun k => ⟨nmK k, zs n, 0⟩), i, 0, false⟩
theorem append_new {l : List Fl} {k s : Bs} (hk : okName k = true) (hn : findF l k = none) (hl : l.length < 4) (hs : s.length ≤ 65536) : appendF l k s = (putF l ⟨k, s, 0⟩, 0) := by
  unfold appendF
  rw [hk, if_pos rfl, hn]
  dsimp only
  rw [if_neg (by omega)]
theorem append_on {l : List Fl} {k s : Bs} {f : Fl} (hk : okName k = true) (hn : findF l k = some f) (hs : f.tx.length + s.length ≤ 65536) : appendF l k s = (putF l ⟨k, f.tx ++ s, f.sy⟩, 0) := by
  unfold appendF
  rw [hk, if_pos rfl, hn]
  dsimp only
  rw [if_neg (by omega)]
theorem append_full {l : List Fl} {k s : Bs} {f : Fl} (hk : okName k = true) (hn : findF l k = some f) (hs : 65536 < f.tx.length + s.length) : appendF l k s = (l, 102) := by
  unfold appendF
  rw [hk, if_pos rfl, hn]
  dsimp only
  rw [if_pos hs]
theorem full_step {n i : Nat} (hi : i < 4) (hn : n ≤ 65536) : appendD (fullD n i) (nmK i) (zs n) = (fullD n (i + 1), 0) := by
  have hl : (zs n).length ≤ 65536 := by rw [zs_len]; exact hn
  unfold appendD
  rw [runs rfl rfl]
  have : i = 0 ∨ i = 1 ∨ i = 2 ∨ i = 3 := by omega
  rcases this with rfl | rfl | rfl | rfl
  · rw [append_new (nm_ok _) rfl (by show 0 < 4; omega) hl]; rfl
  · rw [append_new (nm_ok _) rfl (by show 1 < 4; omega) hl]; rfl
  · rw [append_new (nm_ok _) rfl (by show 2 < 4; omega) hl]; rfl
  · rw [append_new (nm_ok _) rfl (by show 3 < 4; omega) hl]; rfl
/-- The file b is longer by m, or the disk is as it was. -/
def fullB (n m : Nat) : Dk := ⟨[⟨nmK 0, zs n, 0⟩, ⟨nmK 1, zs (n + m), 0⟩, ⟨nmK 2, zs n, 0⟩, ⟨nmK 3, zs n, 0⟩], 5, 0, false⟩
theorem full_more {n m : Nat} (h : n + m ≤ 65536) : appendD (fullD n 4) (nmK 1) (zs m) = (fullB n m, 0) := by
  unfold appendD
  rw [runs rfl rfl, append_on (f := ⟨nmK 1, zs n, 0⟩) (nm_ok _) rfl (by dsimp only; rw [zs_len, zs_len]; exact h)]
  dsimp only
  rw [zs_app]; rfl
theorem full_no {n m : Nat} (h : 65536 < n + m) : appendD (fullD n 4) (nmK 1) (zs m) = (⟨(fullD n 4).fs, 5, 0, false⟩, 102) := by
  unfold appendD
  rw [runs rfl rfl, append_full (f := ⟨nmK 1, zs n, 0⟩) (nm_ok _) rfl (by dsimp only; rw [zs_len, zs_len]; exact h)]; rfl
theorem full_e (a b c d : Bs) (k : Nat) : appendD ⟨[⟨nmK 0, a, 0⟩, ⟨nmK 1, b, 0⟩, ⟨nmK 2, c, 0⟩, ⟨nmK 3, d, 0⟩], k, 0, false⟩ [101] [] = (⟨[⟨nmK 0, a, 0⟩, ⟨nmK 1, b, 0⟩, ⟨nmK 2, c, 0⟩, ⟨nmK 3, d, 0⟩], k + 1, 0, false⟩, 102) := by
  unfold appendD
  rw [runs rfl rfl]; rfl
theorem full_read (a b c d : Bs) (k : Nat) : readD ⟨[⟨nmK 0, a, 0⟩, ⟨nmK 1, b, 0⟩, ⟨nmK 2, c, 0⟩, ⟨nmK 3, d, 0⟩], k, 0, false⟩ (nmK 1) = (b, 0) := rfl
theorem full_list (a b c d : Bs) (k : Nat) : listD ⟨[⟨nmK 0, a, 0⟩, ⟨nmK 1, b, 0⟩, ⟨nmK 2, c, 0⟩, ⟨nmK 3, d, 0⟩], k, 0, false⟩ = [[97], [98], [99], [100]] := rfl
theorem full_ends {n m : Nat} : ∃ B C e L, appendD (fullD n 4) [98] (zs m) = (B, e) ∧ readD B [98] = (zs L, 0) ∧ appendD B [101] [] = (C, 102) ∧ listD C = [[97], [98], [99], [100]] ∧ B.acts ≤ 5 ∧
    ((e = 0 ∧ L = n + m ∧ n + m ≤ 65536) ∨ (e = 102 ∧ L = n ∧ 65536 < n + m)) := by
  rcases Nat.lt_or_ge 65536 (n + m) with h | h
  · exact ⟨_, _, _, n, full_no h, full_read _ _ _ _ _, full_e _ _ _ _ _, full_list _ _ _ _ _, Nat.le_refl _, .inr ⟨rfl, rfl, h⟩⟩
  · exact ⟨_, _, _, n + m, full_more h, full_read _ _ _ _ _, full_e _ _ _ _ _, full_list _ _ _ _ _, Nat.le_refl _, .inl ⟨rfl, rfl, h⟩⟩
end Go.Proofs.Ytffpmcelelloeaa.Gm
