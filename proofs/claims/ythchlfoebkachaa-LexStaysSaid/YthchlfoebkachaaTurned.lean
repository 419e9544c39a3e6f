/-
  A network whose edges all lead the other way: the numbers.
-/
import Derived.Test.YthchlfoebkachaaShare
namespace Go.Proofs.Ythchlfoebkachaa.Gm

def flip (e : E) : E := (e.2.1, e.1, e.2.2)
theorem okE_flip (n : Int) (e : E) : okE n (flip e) = okE n e := by
  rw [Bool.eq_iff_iff, okE_iff, okE_iff]
  simp only [flip, ne_eq]
  constructor <;> rintro ⟨a, b, c, d, e, f, g⟩ <;> exact ⟨c, d, a, b, fun h => e h.symm, f, g⟩
theorem right_flip (n : Int) (es : List E) : right n (es.map flip) = right n es := by
  rw [Bool.eq_iff_iff, right_iff, right_iff]
  simp only [List.length_map, List.mem_map]
  constructor
  · rintro ⟨a, b, c, d⟩
    exact ⟨a, b, c, fun e he => by rw [← okE_flip]; exact d _ ⟨e, he, rfl⟩⟩
  · rintro ⟨a, b, c, d⟩
    refine ⟨a, b, c, ?_⟩
    rintro _ ⟨e, he, rfl⟩
    rw [okE_flip]; exact d e he
theorem gain_flip (x : Int) : ∀ (es : List E) (fl : List Int), gain ((es.map flip).zip fl) x = - gain (es.zip fl) x
  | [], fl => by simp [gain]
  | e :: es, [] => by simp [gain]
  | e :: es, f :: fl => by
    simp only [List.map_cons, List.zip_cons_cons, gain, gain_flip x es fl, flip]
    omega
theorem fits_flip (n : Int) : ∀ (es : List E) (fl : List Int), (∀ p ∈ es.zip fl, 0 ≤ p.2 ∧ p.2 ≤ p.1.2.2) → ∀ p ∈ (es.map flip).zip fl, 0 ≤ p.2 ∧ p.2 ≤ p.1.2.2
  | [], _, _, p, hp => by simp at hp
  | _ :: _, [], _, p, hp => by simp at hp
  | e :: es, f :: fl, h, p, hp => by
    simp only [List.map_cons, List.zip_cons_cons, List.mem_cons] at hp
    rcases hp with rfl | hp
    · exact h (e, f) (by simp)
    · exact fits_flip n es fl (fun q hq => h q (by simp [hq])) p hp
/-- The same flow is good the other way round. -/
theorem good_flip {n : Nat} {es : List E} {fl : List Int} (h : GoodF n es fl) : good n (es.map flip) fl 1 0 = true := by
  have hn := right_iff.1 h.net
  refine good_iff.2 ?_
  have hf : fits n (es.map flip) fl = true := fits_iff.2 ⟨by rw [right_flip]; exact h.net, by rw [List.length_map]; exact h.len, fits_flip n es fl h.fit⟩
  refine ⟨hf, by simp [vtx]; omega, by simp [vtx]; omega, by omega, fun v hv => ?_⟩
  rw [gain_flip]
  by_cases h0 : (v : Int) = 0
  · exact .inr (.inr h0)
  · by_cases h1 : (v : Int) = 1
    · exact .inr (.inl h1)
    · exact .inl (by rw [h.flat _ h0 h1]; rfl)
theorem value_flip {n : Nat} {es : List E} {fl : List Int} (h : GoodF n es fl) : value n (es.map flip) fl 1 = value n es fl 0 := by
  have hn := right_iff.1 h.net
  have hf : fits n (es.map flip) fl = true := fits_iff.2 ⟨by rw [right_flip]; exact h.net, by rw [List.length_map]; exact h.len, fits_flip n es fl h.fit⟩
  have h0 : vtx n 0 = true := by simp [vtx]; omega
  have h1 : vtx n 1 = true := by simp [vtx]; omega
  unfold value
  rw [hf, h.fits, h0, h1, gain_flip, h.arrives]
  simp
theorem has_not {r : List Bool} {x : Int} (h : x.toNat < r.length) : has (r.map not) x = !has r x := by
  unfold has
  rw [List.getElem?_map, List.getElem?_eq_getElem h]; rfl
theorem cutSum_flip (r : List Bool) : ∀ es : List E, (∀ e ∈ es, e.1.toNat < r.length ∧ e.2.1.toNat < r.length) → cutSum (r.map not) (es.map flip) = cutSum r es
  | [], _ => rfl
  | e :: es, h => by
    have h0 := h e (by simp)
    simp only [List.map_cons, cutSum, flip, has_not h0.1, has_not h0.2, cutSum_flip r es (fun q hq => h q (by simp [hq]))]
    rcases has r e.1 with _ | _ <;> rcases has r e.2.1 with _ | _ <;> simp
theorem cut_flip {n : Nat} {es : List E} (hr : right n es = true) {r : List Bool} (hl : r.length = n) : cut n (es.map flip) (r.map not) = cut n es r := by
  unfold cut
  rw [right_flip, List.length_map, hl]
  rw [cutSum_flip r es (fun e he => by
    have := okE_iff.1 ((right_iff.1 hr).2.2.2 e he)
    rw [hl]; omega)]
end Go.Proofs.Ythchlfoebkachaa.Gm
