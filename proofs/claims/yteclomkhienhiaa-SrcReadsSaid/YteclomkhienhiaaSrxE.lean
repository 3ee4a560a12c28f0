/- What Full of the document's source returns, and what it leaves: the same as src's. -/
import Derived.Test.YteclomkhienhiaaSrxD
namespace Go.Proofs.Yteclomkhienhiaa
open Go.RowKit Go.Conc
set_option linter.unusedVariables false
def RxFull (F : Nat → Prop) (g : Nat) (s : ByteArray) (r : ByteArray × Int × List (Int × Int) × List (Nat × Nat)) (w : World) (e : Ending) (w' : World) : Prop :=
  RxPost F g s (r.1, r.2.1, r.2.2.1) r.2.2.2 w e w'
theorem rxfull_bad (F : Nat → Prop) (g : Nat) (s : ByteArray) (l : List (Int × Int)) (sp : List (Nat × Nat)) (a n : Int) (h : askB a n = false) (w : World) (hS : Srx F w g s l sp) :
    Calls Try.prog 13 #[.pointer (some ⟨g, 0, none⟩), .int .i64 a, .int .i64 n] w (RxPost F g s (⟨#[]⟩, 1, l) sp w) := by
  have ha := asks_any a n w
  rw [h] at ha
  have HA := hid ha
  have HS := hid hS
  clear ha h hS
  go_enter Try.func13, Try.ntmps13
  go_wp2_with fail
  refine HA.out.mono ?_
  rintro e w' ⟨rfl, rfl⟩
  go_wp2
  go_returns
  exact ⟨rfl, F, HS.out, Keeps.refl _ _, fun i h => .inl h⟩
theorem keeps_join {F F1 : Nat → Prop} {w w1 w2 : World} (h : Keeps F w w1) (hf : ∀ i, F1 i → F i ∨ w.heap.size ≤ i) (k : Keeps F1 w1 w2) : Keeps F w w2 :=
  ⟨k.os.trans h.os, k.tape.trans h.tape, k.output.trans h.output, Nat.le_trans h.size k.size, fun i hi hn => (k.block i (Nat.lt_of_lt_of_le hi h.size) (fun hh => by
    rcases hf i hh with h1 | h1
    · exact hn h1
    · omega)).trans (h.block i hi hn)⟩
set_option maxRecDepth 100000 in
set_option maxHeartbeats 1000000 in
theorem rxfull_ok (F : Nat → Prop) (g : Nat) (s : ByteArray) (hs : s.size ≤ 140737488351232) (sp : List (Nat × Nat)) (l0 : List (Int × Int)) (hsp : sp.length + l0.length ≤ 999999999) (hok : OkAll l0) (p n : Nat) (hp : p ≤ 9223372036854775807) (hn : n ≤ 1048576) (w : World) (h : Srx F w g s l0 sp) :
    Calls Try.prog 13 #[.pointer (some ⟨g, 0, none⟩), .int .i64 p, .int .i64 n] w (RxFull F g s (fullGo s p n (l0.length + 1) l0 ⟨#[]⟩ sp) w) := by
  have ha := asks_any p n w
  rw [show askB p n = true from decide_eq_true ⟨by omega, by omega, by omega⟩] at ha
  have HA := hid ha
  have HF := hid h
  have HO := hid hok
  clear h hok ha
  go_enter Try.func13, Try.ntmps13
  go_wp2_with fail
  refine HA.out.mono ?_
  rintro e w' ⟨rfl, rfl⟩
  go_wp2_with fail
  go_loopg [8] (l0.length) (fun k v wr => ∃ (acc : ByteArray) (l : List (Int × Int)) (sp1 : List (Nat × Nat)) (F1 : Nat → Prop), v = .string acc ∧ l.length = k ∧ Srx F1 wr g s l sp1 ∧ Keeps F w wr ∧ (∀ i, F1 i → F i ∨ w.heap.size ≤ i) ∧ OkAll l ∧ acc.size ≤ n ∧ (acc.size = 0 ∨ p + acc.size ≤ s.size) ∧ sp1.length + l.length ≤ 999999999 ∧ fullGo s p n (k + 1) l acc sp1 = fullGo s p n (l0.length + 1) l0 ⟨#[]⟩ sp)
  case atStart => exact ⟨⟨#[]⟩, l0, sp, F, rfl, rfl, HF.out, Keeps.refl _ _, fun i h => .inl h, HO.out, Nat.zero_le _, .inl rfl, hsp, rfl⟩
  case round =>
    obtain ⟨acc, l, sp1, F1, rfl, hl, hS, hK, hFF, hO, ha, hpa, hspl, hg⟩ := hrel
    have HS := hid hS
    have HO1 := hid hO
    have HG := hid hg
    have HL := hid hl
    have HKK := hid hK
    have HFF := hid hFF
    obtain ⟨V, E, l2, hr⟩ : ∃ V E l2, rdAll s l (p + acc.size : Nat) (n - acc.size : Nat) = (V, E, l2) := ⟨_, _, _, rfl⟩
    have hfacts := rdAll_facts s l (p + acc.size : Nat) (n - acc.size : Nat)
    rw [hr] at hfacts
    simp only [Int.toNat_natCast] at hfacts
    have hl2 := rdAll_good (by omega) hr
    have hO2 : OkAll l2 := fun x hx => by rw [hl2] at hx; exact HO1.out x (List.mem_of_mem_tail hx)
    have hread := rx_any F1 g s hs sp1 (by omega) l HO1.out (p + acc.size : Nat) (n - acc.size : Nat) (by omega) _ HS.out
    unfold RxAny at hread
    rw [hr, Int.toNat_natCast] at hread
    rw [show ((p + acc.size : Nat) : Int) = (p : Int) + acc.size by omega, show ((n - acc.size : Nat) : Int) = (n : Int) - acc.size by omega] at hread
    have HREAD := hid hread
    have HR := hid hr
    have HL2 := hid hl2
    have HO2 := hid hO2
    have HFA := hid hfacts
    have i0 : (0 : Int) ≤ (p : Int) + acc.size := by omega
    have i1 : (p : Int) + acc.size ≤ 9223372036854775807 := by omega
    clear hl hS hO hg hK hr hl2 hO2 hfacts hFF hread
    go_wp2_with fail
    refine HREAD.out.mono ?_
    rintro e w2 ⟨rfl, F2, hS2, hK2, hF2⟩
    have HS2 := hid hS2
    have HK2 := hid (keeps_join HKK.out HFF.out hK2)
    have HF2 := hid (fun i (h : F2 i) => show F i ∨ w.heap.size ≤ i by
      rcases hF2 i h with h1 | h1
      · exact HFF.out i h1
      · have := HKK.out.size; exact .inr (by omega))
    clear hS2 hK2 hF2
    by_cases hE : E = 0
    · have hVs : V.size ≤ n - acc.size := by
        rcases HFA.out with ⟨h, _⟩ | ⟨_, _, _, h, _⟩
        · rw [h]; exact Nat.zero_le _
        · omega
      have hVp : V.size = 0 ∨ p + acc.size + V.size ≤ s.size := by
        rcases HFA.out with ⟨h, _⟩ | ⟨_, _, _, _, h | h⟩
        · exact .inl (by rw [h]; rfl)
        · exact .inl (by rw [h]; rfl)
        · exact .inr h.2.1
      subst hE
      have hsz : (acc ++ V).size = acc.size + V.size := ByteArray.size_append
      have HSZ := hid hsz
      have hsz2 : (acc ++ V).size ≤ 1048576 := by omega
      have hsz3 : acc.size + V.size ≤ 9223372036854775807 := by omega
      clear hsz
      by_cases hfin : acc.size + V.size = n
      · have t1 : (((acc ++ V).size : Int) == (n : Int)) = true := by rw [beq_iff_eq, HSZ.out]; omega
        have t2 : ((acc.size : Int) + (V.size : Int) == (n : Int)) = true := by rw [beq_iff_eq]; omega
        have HFIN := hid hfin
        clear hfin
        go_wp2
        go_returns
        unfold RxFull
        rw [← HG.out, fullGo_step HR.out, if_neg (by decide), if_pos HFIN.out]
        exact ⟨rfl, F2, HS2.out, HK2.out, HF2.out⟩
      · have t1 : (((acc ++ V).size : Int) == (n : Int)) = false := by rw [beq_eq_false_iff_ne, HSZ.out]; omega
        have t2 : ((acc.size : Int) + (V.size : Int) == (n : Int)) = false := by rw [beq_eq_false_iff_ne]; omega
        have hlne : l ≠ [] := fun e => by
          have h := HR.out
          rw [e] at h
          have := rdAll_end (by omega) h
          omega
        obtain ⟨k', hk'⟩ : ∃ k', gk = k' + 1 := by
          cases l with
          | nil => exact absurd rfl hlne
          | cons y l => exact ⟨l.length, by rw [← HL.out]; rfl⟩
        have HKP := hid hk'
        have HFIN := hid hfin
        clear hfin hk' hlne
        go_wp2
        go_roundg k'
        case measure => rw [HKP.out]; omega
        case rel =>
          have hlen2 : l2.length = k' := by
            rw [HL2.out, List.length_tail, HL.out, HKP.out]; rfl
          refine ⟨acc ++ V, l2, rdSp sp1 (p + acc.size) V, F2, rfl, hlen2, HS2.out, HK2.out, HF2.out, HO2.out, by rw [HSZ.out]; omega, ?_, ?_, ?_⟩
          · rw [HSZ.out]
            rcases hVp with h | h
            · rw [h, Nat.add_zero]; exact hpa
            · exact .inr (by omega)
          · have h1 := rdSp_len sp1 (p + acc.size) V
            have h2 := HL.out
            have h3 := HKP.out
            omega
          · have h := HG.out
            rw [HKP.out, fullGo_step HR.out, if_neg (by decide), if_neg HFIN.out] at h
            exact h
    · have hEb : (E != 0) = true := by simpa using hE
      have HE := hid hE
      clear hE
      go_wp2
      go_returns
      unfold RxFull
      rw [← HG.out, fullGo_step HR.out, if_pos HE.out]
      exact ⟨rfl, F2, HS2.out, HK2.out, HF2.out⟩
end Go.Proofs.Yteclomkhienhiaa
