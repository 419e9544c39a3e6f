/-
  The program's disk: Restart.
-/
import Derived.Test.YtffpmcelelloeaaPrestn
namespace Go.Proofs.Ytffpmcelelloeaa
open Go.RowKit Gm

set_option maxRecDepth 100000 in
set_option maxHeartbeats 4000000 in
theorem restart_any (p : Nat) (D : Dk) (R : Nat → Prop) (a : Option Addr) (len cap : Nat) (keep : List Int) (w : World) (h : PDisk w p D R) (hk : KeepAt w R a len keep) :
    Calls Try.prog 24 #[.pointer (some ⟨p, 0, none⟩), .slice a len cap] w fun e w' => e = .returned (.tuple #[]) ∧ Turn PDisk w w' p (restartD D keep) R := by
  have hD := h
  obtain ⟨ok, m, loc, hR, hp⟩ := h
  obtain ⟨hkl, kb, ko, hka, hkc⟩ := hk
  have hl4 := ok.fs.len
  have HR := Lib.hid hR
  have HP := Lib.hid hp
  have HK := Lib.hid ok
  have HD := Lib.hid hD
  have HKL := Lib.hid hkl
  have HKA := Lib.hid hka
  have HKC := Lib.hid hkc
  obtain ⟨n, hn⟩ : ∃ n, D.fs.length = n := ⟨_, rfl⟩
  rw [hn] at hl4
  have HN := Lib.hid hn
  clear hD ok hR hp hkl hka hkc hn
  go_enter Try.func24, Try.ntmps24
  go_wp2_with (go_at_call 29; refine (list_any p D R w HD.out).mono ?_; rintro e w1 ⟨⟨na, nl, nc, rfl, hnm⟩, hb1⟩
               obtain rfl : nl = n := by rw [← HN.out, ← hnm.1]; simp [listD]
               have HS := Lib.hid (RestAt.start (keep := keep) (R := R) HP.out hb1 hnm)
               clear hnm hb1)
  go_loopw [10] (fun iv wr => ∃ (i : Nat) (loc' : Loc), i ≤ nl ∧ iv = .int .i64 (i : Int) ∧ RestAt w wr p m loc D R keep i na nl loc') (fun iv _ => nl - (intOf iv).toNat)
  case atStart => exact ⟨0, loc, Nat.zero_le _, rfl, HS.out⟩
  case round =>
    obtain ⟨i, loc', hi, rfl, hrest⟩ := hrel
    clear HS
    have HS := Lib.hid hrest
    obtain ⟨c0, _, _, c3, hfz, hpl⟩ := hrest.disk.cells
    have f2 := hfz 2
    have f3 := hfz 3
    clear hfz
    by_cases hlt : i < nl
    · have hil : i < D.fs.length := by rw [HN.out]; exact hlt
      obtain ⟨f, hf⟩ : ∃ f, D.fs[i] = f := ⟨_, rfl⟩
      obtain ⟨_, nb, no, hna, hnc⟩ := hrest.names
      obtain rfl : na = some ⟨nb, no, none⟩ := by
        rcases hna with e | e
        · omega
        · exact e
      obtain ⟨nlt, ncell⟩ := hnc i (by simpa [listD] using hil)
      have hnmi : (listD D)[i]'(by simpa [listD] using hil) = f.nm := by rw [← hf]; simp [listD]
      rw [hnmi] at ncell
      have hmem : f ∈ cutI D.fs keep i := hf ▸ cutI_mem D.fs keep hil
      have hfa := hrest.disk.file f hmem
      have hok := HK.out.fs.fit f (hf ▸ List.getElem_mem _)
      have hnl : f.nm.length ≤ 1048576 := by have := (okName_iff.1 hok.nm).2; omega
      have hfind : findF (cutI D.fs keep i) f.nm = some f := find_of_mem (names_rise (cutI_names D.fs keep i) HK.out.fs.rise) hmem
      have hlk := hrest.disk.map.look f.nm hnl hfind
      have HF := Lib.hid hf
      have HFA := Lib.hid hfa
      have HOK := Lib.hid hok
      have hi0 : (0 : Int) ≤ (i : Int) := by omega
      have hi1 : (i : Int) < (nl : Int) := by omega
      obtain ⟨nm, hnme⟩ : ∃ k, f.nm = k := ⟨_, rfl⟩
      rw [hnme] at ncell hlk hfa HFA
      have HNM := Lib.hid hnme
      obtain ⟨fb, hfb⟩ : ∃ b, (loc' nm).1 = b := ⟨_, rfl⟩
      rw [hfb] at hlk
      have HFB := Lib.hid hfb
      clear hrest hna hnc hnmi hmem hfa hok hfind hf hnme hfb
      by_cases hki : i < len
      · obtain rfl : a = some ⟨kb, ko, none⟩ := by
          rcases HKA.out with e | e
          · omega
          · exact e
        have hkr : i < keep.length := by rw [HKL.out]; exact hki
        obtain ⟨k1, k2, k3, k4⟩ := HKC.out i hkr
        have kc := k3
        have HC : Hid (keep[i]?.getD 0 = keep[i]) := Lib.hid (by rw [List.getElem?_eq_getElem hkr]; rfl)
        obtain ⟨c, hc⟩ : ∃ c, keep[i] = c := ⟨_, rfl⟩
        rw [hc] at HC kc k4
        have hbe := HS.out.beside.block kb k1 k2
        have kc2 : wr.cell? ⟨kb, ko + i, none⟩ = some (.int .i64 c) := (World.cell?_of_block hbe).trans kc
        have kl2 := Nat.lt_of_lt_of_le k1 HS.out.beside.size
        have hj1 : (i : Int) < (len : Int) := by omega
        have HI := Lib.hid k4
        clear k1 k2 k3 k4 kc hc hbe hkr hki hlt
        go_wp2_with (go_at_call 42; (have hc := settle_any (loc' nm) f c wr HFA.out HOK.out.sy HOK.out.tx HI.out; rw [HFB.out] at hc; with_reducible refine hc.mono ?_); intro e w2 hpost; obtain rfl := hpost.1; have HPO := Lib.hid hpost; clear hpost)
        obtain ⟨loc2, hs2⟩ := HS.out.step HR.out HK.out.fs.rise hil HF.out HC.out (by rw [HNM.out]; exact HPO.out)
        have HS2 := Lib.hid hs2
        have hle : i + 1 ≤ nl := by omega
        clear hs2 HS HPO
        go_roundw
        case rel => exact ⟨i + 1, loc2, hle, by go_num, HS2.out⟩
        case measure => simp [intOf]; omega
      · have HC : Hid (keep[i]?.getD 0 = 0) := Lib.hid (by rw [List.getElem?_eq_none (by rw [HKL.out]; omega)]; rfl)
        have HI : Hid (I64 0) := Lib.hid ⟨by omega, by omega⟩
        have hj1 : ¬ (i : Int) < (len : Int) := by omega
        clear hki hlt
        go_wp2_with (go_at_call 42; (have hc := settle_any (loc' nm) f 0 wr HFA.out HOK.out.sy HOK.out.tx HI.out; rw [HFB.out] at hc; with_reducible refine hc.mono ?_); intro e w2 hpost; obtain rfl := hpost.1; have HPO := Lib.hid hpost; clear hpost)
        obtain ⟨loc2, hs2⟩ := HS.out.step HR.out HK.out.fs.rise hil HF.out HC.out (by rw [HNM.out]; exact HPO.out)
        have HS2 := Lib.hid hs2
        have hle : i + 1 ≤ nl := by omega
        clear hs2 HS HPO
        go_roundw
        case rel => exact ⟨i + 1, loc2, hle, by go_num, HS2.out⟩
        case measure => simp [intOf]; omega
    · obtain rfl : i = nl := by omega
      have HB : Hid (∀ (k : Nat), Turn PDisk w (((wr.setCell ⟨p, 3, none⟩ (.bool false)).setCell ⟨p, 2, none⟩ (.int .i64 0)).drewN k) p (restartD D keep) R) := Lib.hid (fun k => by
        have h := HS.out
        rw [← HN.out] at h
        exact h.turn HR.out HK.out (gbd (gbt (gbs _ _ _ _) (gbs _ _ _ _)) k) ((setp_heap ((setp_heap h.disk.blk).2.2 _)).2.1 _))
      clear hlt HS
      go_wp2
      go_end0
      exact ⟨rfl, HB.out 0⟩
end Go.Proofs.Ytffpmcelelloeaa
