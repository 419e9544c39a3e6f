/-
  The numbers of the statement DiskLasts: three files, what was appended to each, what of it was synced.
-/
import Derived.Test.YtffpmcelelloeaaDapartn
namespace Go.Proofs.Ytffpmcelelloeaa.Gm

/-- The names a, b, c. -/
def nmK (k : Nat) : Bs := [UInt8.ofNat (97 + k)]
def upd {α : Type} (f : Nat → α) (k : Nat) (x : α) : Nat → α := fun j => if j = k then x else f j
theorem upd_same {α : Type} (f : Nat → α) (k : Nat) : upd f k (f k) = f := by
  funext j
  unfold upd
  split
  · rename_i e; rw [e]
  · rfl
theorem nm_inj {i j : Nat} (hi : i < 3) (hj : j < 3) (h : nmK i = nmK j) : i = j := by
  have : (i = 0 ∨ i = 1 ∨ i = 2) ∧ (j = 0 ∨ j = 1 ∨ j = 2) := by omega
  obtain ⟨rfl | rfl | rfl, rfl | rfl | rfl⟩ := this <;> first | rfl | (exfalso; revert h; decide)
theorem nm_ok (k : Nat) : okName (nmK k) = true := rfl
structure LaSt (D : Dk) (su al : Nat → Bs) (hs : Nat → Bool) (i : Nat) : Prop where
  off : D.off = false
  arm : D.arm = 0
  acts : D.acts ≤ i
  at_ : ∀ k, k < 3 → findF D.fs (nmK k) = if hs k then some ⟨nmK k, al k, (su k).length⟩ else none
  pre : ∀ k, k < 3 → su k = (al k).take (su k).length ∧ (al k).length ≤ 500 * i
  no : ∀ k, k < 3 → hs k = false → al k = []
  all : ∀ f ∈ D.fs, ∃ k, k < 3 ∧ f.nm = nmK k
theorem LaSt.start (su al : Nat → Bs) (hs : Nat → Bool) (h0 : ∀ k, su k = []) (h1 : ∀ k, al k = []) (h2 : ∀ k, hs k = false) : LaSt newD su al hs 0 :=
  ⟨rfl, rfl, Nat.le_refl _, fun k _ => by rw [h2]; rfl, fun k _ => by rw [h0, h1]; simp, fun k _ _ => h1 k, fun f hf => by simp [newD] at hf⟩
theorem few {l : List Fl} (h : Rise l) (ha : ∀ f ∈ l, ∃ k, k < 3 ∧ f.nm = nmK k) : l.length ≤ 3 := by
  match l, h, ha with
  | [], _, _ => simp
  | [_], _, _ => simp
  | [_, _], _, _ => simp
  | [_, _, _], _, _ => simp
  | a :: b :: c :: d :: l, h, ha =>
    exfalso
    obtain ⟨i, hi, ei⟩ := ha a (by simp)
    obtain ⟨j, hj, ej⟩ := ha b (by simp)
    obtain ⟨k, hk, ek⟩ := ha c (by simp)
    obtain ⟨m, hm, em⟩ := ha d (by simp)
    obtain ⟨h1, h⟩ := rise_cons.1 h
    obtain ⟨h2, h⟩ := rise_cons.1 h
    obtain ⟨h3, h⟩ := rise_cons.1 h
    have e1 : i ≠ j := fun e => bs_ne (h1 b (by simp)) (by rw [ei, ej, e])
    have e2 : i ≠ k := fun e => bs_ne (h1 c (by simp)) (by rw [ei, ek, e])
    have e3 : i ≠ m := fun e => bs_ne (h1 d (by simp)) (by rw [ei, em, e])
    have e4 : j ≠ k := fun e => bs_ne (h2 c (by simp)) (by rw [ej, ek, e])
    have e5 : j ≠ m := fun e => bs_ne (h2 d (by simp)) (by rw [ej, em, e])
    have e6 : k ≠ m := fun e => bs_ne (h3 d (by simp)) (by rw [ek, em, e])
    omega
theorem LaSt.put {D : Dk} {su al : Nat → Bs} {hs : Nat → Bool} {i k : Nat} (h : LaSt D su al hs i) (ok : OkD D) (hk : k < 3) (x s : Bs) (hx : s = x.take s.length) (hl : x.length ≤ 500 * (i + 1)) :
    LaSt ⟨putF D.fs ⟨nmK k, x, s.length⟩, D.acts + 1, 0, false⟩ (upd su k s) (upd al k x) (upd hs k true) (i + 1) := by
  refine ⟨rfl, rfl, by have := h.acts; dsimp only; omega, fun j hj => ?_, fun j hj => ?_, fun j hj hn => ?_, fun f hf => ?_⟩
  · dsimp only
    rw [find_put ok.fs.rise]
    by_cases e : j = k
    · subst e; simp [upd]
    · rw [if_neg (fun e' => e (nm_inj hj hk e'.symm)), h.at_ j hj]
      simp [upd, e]
  · by_cases e : j = k
    · subst e; simp only [upd, if_pos]; exact ⟨hx, hl⟩
    · simp only [upd, if_neg e]
      have := h.pre j hj
      exact ⟨this.1, by omega⟩
  · by_cases e : j = k
    · subst e; simp [upd] at hn
    · simp only [upd, if_neg e] at hn ⊢; exact h.no j hj hn
  · rcases put_mem hf with rfl | hf
    · exact ⟨k, hk, rfl⟩
    · exact h.all f hf
theorem LaSt.append {D : Dk} {su al : Nat → Bs} {hs : Nat → Bool} {i k : Nat} (h : LaSt D su al hs i) (ok : OkD D) (hk : k < 3) (hi : i < 60) {t : Bs} (ht : t.length ≤ 500) :
    (appendD D (nmK k) t).2 = 0 ∧ LaSt (appendD D (nmK k) t).1 su (upd al k (al k ++ t)) (upd hs k true) (i + 1) := by
  have hp := h.pre k hk
  have key : appendF D.fs (nmK k) t = (putF D.fs ⟨nmK k, al k ++ t, (su k).length⟩, 0) := by
    unfold appendF
    rw [nm_ok, if_pos rfl, h.at_ k hk]
    by_cases e : hs k = true
    · rw [if_pos e]
      dsimp only
      rw [if_neg (by omega)]
    · rw [if_neg e]
      dsimp only
      have hn := h.no k hk (by simpa using e)
      have := few ok.fs.rise h.all
      rw [if_neg (by omega), hn]
      have : (su k).length = 0 := by
        have := hp.1; rw [hn, List.take_nil] at this; rw [this]; rfl
      rw [this]; rfl
  unfold appendD
  rw [runs h.off h.arm, key]
  refine ⟨rfl, ?_⟩
  have := h.put ok hk (al k ++ t) (su k) (by rw [List.take_append_of_le_length (by have := congrArg List.length hp.1; rw [List.length_take] at this; omega)]; exact hp.1) (by rw [List.length_append]; omega)
  have e : upd su k (su k) = su := upd_same _ _
  rw [e] at this
  exact this
theorem LaSt.sync {D : Dk} {su al : Nat → Bs} {hs : Nat → Bool} {i k : Nat} (h : LaSt D su al hs i) (ok : OkD D) (hk : k < 3) :
    (syncD D (nmK k)).2 = (if hs k then 0 else 101) ∧ LaSt (syncD D (nmK k)).1 (upd su k (al k)) al hs (i + 1) := by
  have hp := h.pre k hk
  unfold syncD
  rw [runs h.off h.arm]
  unfold syncF
  rw [h.at_ k hk]
  by_cases e : hs k = true
  · rw [if_pos e, if_pos e]
    refine ⟨rfl, ?_⟩
    have := h.put ok hk (al k) (al k) (by simp) (by omega)
    have e1 : upd al k (al k) = al := upd_same _ _
    have e2 : upd hs k true = hs := by rw [← e]; exact upd_same _ _
    rw [e1, e2] at this
    exact this
  · rw [if_neg e, if_neg e]
    refine ⟨rfl, ?_⟩
    have hn := h.no k hk (by simpa using e)
    have hs0 : su k = [] := by have := hp.1; rw [hn, List.take_nil] at this; exact this
    have e1 : upd su k (al k) = su := by rw [hn, ← hs0]; exact upd_same _ _
    rw [e1]
    exact ⟨rfl, rfl, by have := h.acts; dsimp only; omega, h.at_, fun j hj => ⟨(h.pre j hj).1, by have := (h.pre j hj).2; omega⟩, h.no, h.all⟩

/-- What is read of file k behind a Restart. -/
def finK (D : Dk) (k : Nat) : Bs := (readD D (nmK k)).1
structure ReSt (D : Dk) (su al : Nat → Bs) (hs : Nat → Bool) : Prop where
  no : ∀ k, k < 3 → hs k = false → readD D (nmK k) = ([], 101)
  yes : ∀ k, k < 3 → hs k = true → readD D (nmK k) = (finK D k, 0) ∧ (su k).length ≤ (finK D k).length ∧ (finK D k).length ≤ (al k).length ∧ finK D k = (al k).take (finK D k).length
theorem LaSt.restart {D : Dk} {su al : Nat → Bs} {hs : Nat → Bool} {i : Nat} (h : LaSt D su al hs i) (keep again : List Int) :
    ReSt (restartD D keep) su al hs ∧ ∀ k, k < 3 → (readD (restartD (restartD D keep) again) (nmK k)).1 = finK (restartD D keep) k := by
  have key : ∀ k, k < 3 → (hs k = false ∧ findF (restartD D keep).fs (nmK k) = none ∧ findF (restartD (restartD D keep) again).fs (nmK k) = none) ∨
      (hs k = true ∧ ∃ n, (su k).length ≤ n ∧ n ≤ (al k).length ∧ findF (restartD D keep).fs (nmK k) = some ⟨nmK k, (al k).take n, n⟩ ∧ findF (restartD (restartD D keep) again).fs (nmK k) = some ⟨nmK k, (al k).take n, n⟩) := by
    intro k hk
    by_cases e : hs k = true
    · right
      refine ⟨e, ?_⟩
      have h1 := h.at_ k hk
      rw [if_pos e] at h1
      obtain ⟨c, hc⟩ := find_cuts keep h1
      have hp := congrArg List.length (h.pre k hk).1
      rw [List.length_take] at hp
      have hle : (su k).length ≤ (al k).length := by omega
      have hkl := keep_le c ((al k).length - (su k).length)
      refine ⟨(su k).length + keepN c ((al k).length - (su k).length), by omega, by omega, hc, ?_⟩
      obtain ⟨c', hc'⟩ := find_cuts again hc
      rw [cut_whole (by unfold cutF; dsimp only; rw [List.length_take]; omega)] at hc'
      exact hc'
    · left
      have h1 := h.at_ k hk
      rw [if_neg e] at h1
      have h2 := find_cuts_none keep h1
      exact ⟨by simpa using e, h2, find_cuts_none again h2⟩
  refine ⟨⟨fun k hk hn => ?_, fun k hk hy => ?_⟩, fun k hk => ?_⟩
  · rcases key k hk with ⟨_, h1, _⟩ | ⟨e, _⟩
    · unfold readD; rw [h1]; rfl
    · rw [hn] at e; cases e
  · rcases key k hk with ⟨e, _⟩ | ⟨_, n, h0, h1, h2, _⟩
    · rw [hy] at e; cases e
    · have hr : readD (restartD D keep) (nmK k) = ((al k).take n, 0) := by unfold readD; rw [h2]; rfl
      have hf : finK (restartD D keep) k = (al k).take n := by unfold finK; rw [hr]
      have hl : ((al k).take n).length = n := by rw [List.length_take]; omega
      rw [hf, hl]
      exact ⟨hr, h0, h1, rfl⟩
  · rcases key k hk with ⟨_, h1, h2⟩ | ⟨_, n, _, _, h1, h2⟩
    · unfold finK readD; rw [h1, h2]; rfl
    · unfold finK readD; rw [h1, h2]; rfl
end Go.Proofs.Ytffpmcelelloeaa.Gm
