/- Words and names, both sides (contracts of the functions). -/
import Derived.Test.YtlilmidffcmkjaaGreatDoorExpE
namespace Go.Proofs.YtlilmidffcmkjaaGreatDoor
open Go.RowKit
set_option linter.unusedVariables false
set_option linter.unusedSimpArgs false
theorem bAt_u8 {s : ByteArray} {k : Nat} (h : k < s.size) : ((s[k]'h).toNat : Nat) = bAt s k := (bAt_in h).symm
set_option maxRecDepth 100000 in
set_option maxHeartbeats 2000000 in
theorem wordLength_any (s : ByteArray) (hs : s.size ≤ 9223372036854775807) (w : World) :
    Calls Tryz.prog 49 #[.string s] w fun e w' => e = .returned (.int .i64 (wordK s 0 : Nat)) ∧ w = w' := by
  go_enter Tryz.func49, Tryz.ntmps49
  go_wp2
  go_loopw [3] (fun i wr => ∃ k : Nat, k ≤ s.size ∧ i = .int .i64 k ∧ Hid (∀ j, j < k → isWrd (bAt s j) = true) ∧ wr = w) (fun i _ => s.size - (intOf i).toNat)
  case atStart => exact ⟨0, Nat.zero_le _, rfl, hid (fun j h => absurd h (by omega)), rfl⟩
  case round =>
    obtain ⟨k, hk, rfl, HA, rfl⟩ := hrel
    by_cases hlt : k < s.size
    · have hk1 : (k : Int) < s.size := by omega
      have hb := bAt_in hlt
      have hc : (s[k]'hlt).toNat < 256 := (s[k]'hlt).toNat_lt
      have HL := hid (fun W => isLetter_any (s[k]'hlt).toNat hc W)
      have HD := hid (fun W => isDigit_any (s[k]'hlt).toNat hc W)
      have HN := hid (fun (h : isWrd (s[k]'hlt).toNat = true) j (hj : j < k + 1) => (show isWrd (bAt s j) = true from by
        by_cases e : j < k
        · exact HA.out j e
        · obtain rfl : j = k := by omega
          rw [hb]; exact h))
      have HE := hid (fun (h : isWrd (s[k]'hlt).toNat = false) => (show wordK s 0 = k from runK_is (by decide) (Nat.zero_le _) (by rw [hb]; exact h) fun i _ h2 => HA.out i h2))
      have HW := hid (show isWrd (s[k]'hlt).toNat = (isLet (s[k]'hlt).toNat || isDig (s[k]'hlt).toNat) from rfl)
      cases h1 : isLet (s[k]'hlt).toNat with
      | true =>
        rw [h1] at HL HW
        have HN2 := hid (HN.out HW.out)
        clear hb hc HN HE HW HD h1
        go_wp2_with fail
        refine (HL.out _).mono ?_
        rintro e w2 ⟨rfl, rfl⟩
        go_wp2
        exact ⟨⟨k + 1, by omega, by go_num, HN2, trivial⟩, by simp [intOf]; omega⟩
      | false =>
        rw [h1] at HL HW
        cases h2 : isDig (s[k]'hlt).toNat with
        | true =>
          rw [h2] at HD HW
          have HN2 := hid (HN.out HW.out)
          clear hb hc HN HE HW h1 h2
          go_wp2_with fail
          refine (HL.out _).mono ?_
          rintro e w2 ⟨rfl, rfl⟩
          go_wp2_with fail
          refine (HD.out _).mono ?_
          rintro e w3 ⟨rfl, rfl⟩
          go_wp2
          exact ⟨⟨k + 1, by omega, by go_num, HN2, trivial⟩, by simp [intOf]; omega⟩
        | false =>
          rw [h2] at HD HW
          have HE2 := hid (HE.out HW.out)
          clear hb hc HN HE HW h1 h2
          go_wp2_with fail
          refine (HL.out _).mono ?_
          rintro e w2 ⟨rfl, rfl⟩
          go_wp2_with fail
          refine (HD.out _).mono ?_
          rintro e w3 ⟨rfl, rfl⟩
          go_wp2
          go_returns
          exact ⟨by rw [HE2.out]; rfl, rfl⟩
    · obtain rfl : k = s.size := by omega
      have hE : wordK s 0 = s.size := runK_is (by decide) (Nat.zero_le _) (by rw [bAt_out (Nat.lt_irrefl _)]; decide) fun i _ h2 => HA.out i h2
      have HE := hid hE
      clear hE
      go_wp2
      go_returns
      exact ⟨by rw [HE.out]; rfl, rfl⟩
theorem loop_data (n : Nat) : ∀ (d : ByteArray) (i : Nat) (r : List UInt8), d.size - i = n → ByteArray.toList.loop d i r = r.reverse ++ d.data.toList.drop i := by
  induction n with
  | zero =>
    intro d i r h
    have hl : d.data.toList.length = d.size := by simp
    rw [ByteArray.toList.loop, if_neg (by omega), List.drop_of_length_le (by omega), List.append_nil]
  | succ n ih =>
    intro d i r h
    have hl : d.data.toList.length = d.size := by simp
    rw [ByteArray.toList.loop, if_pos (by omega), ih d (i + 1) _ (by omega), List.reverse_cons, List.append_assoc, List.drop_eq_getElem_cons (i := i) (by omega)]
    congr 2
    show [d.get! i] ++ _ = _
    have : d.get! i = d.data.toList[i]'(by omega) := by
      have hi : i < d.data.size := by have : d.data.size = d.size := rfl; omega
      show d.data[i]! = _
      rw [getElem!_pos d.data i hi]
      simp
    rw [this]
    rfl
theorem toList_data (d : ByteArray) : d.toList = d.data.toList := by
  unfold ByteArray.toList
  rw [loop_data _ d 0 [] rfl]
  simp
theorem str_ne {a b : ByteArray} (h : a ≠ b) : (a.toList == b.toList) = false := by
  rw [beq_eq_false_iff_ne]
  intro e
  apply h
  rw [toList_data, toList_data] at e
  obtain ⟨a⟩ := a
  obtain ⟨b⟩ := b
  congr 1
  exact Array.toList_inj.1 e
theorem toList_nil {d : ByteArray} (h : d.size = 0) : d = ⟨#[]⟩ := by
  obtain ⟨a⟩ := d
  congr 1
  exact Array.eq_empty_of_size_eq_zero h
theorem toList_ne (d : ByteArray) (h : d ≠ ⟨#[]⟩) : d.toList.isEmpty = false := by
  have hne : d.toList ≠ [] := by
    intro h2
    apply h
    have : d.size = 0 ∨ 0 < d.size := by omega
    rcases this with h0 | h0
    · exact toList_nil h0
    · exfalso
      unfold ByteArray.toList at h2
      rw [ByteArray.toList.loop, if_pos h0] at h2
      have key : ∀ (n : Nat) (d : ByteArray) (i : Nat) (r : List UInt8), d.size - i = n → r ≠ [] → ByteArray.toList.loop d i r ≠ [] := by
        intro n
        induction n with
        | zero => intro d i r hn hr; rw [ByteArray.toList.loop, if_neg (by omega)]; simpa using hr
        | succ n ih => intro d i r hn hr; rw [ByteArray.toList.loop, if_pos (by omega)]; exact ih d (i + 1) _ (by omega) (by simp)
      exact key _ d _ _ rfl (by simp) h2
  simpa using hne
set_option maxRecDepth 100000 in
set_option maxHeartbeats 2000000 in
theorem isName_any (s : ByteArray) (hs : s.size ≤ 9223372036854775807) (w : World) :
    Calls Tryz.prog 50 #[.string s] w fun e w' => e = .returned (.bool (nameB s)) ∧ w = w' := by
  by_cases h0 : s.size = 0
  · obtain rfl := toList_nil h0
    clear h0
    go_enter Tryz.func50, Tryz.ntmps50
    go_wp2
    go_returns
    exact ⟨rfl, rfl⟩
  · have hne := toList_ne s (fun e => h0 (by rw [e]; rfl))
    by_cases h16 : s.size ≤ 16
    · have g16 : ((s.size : Nat) : Int) ≤ 16 := by omega
      have hlt : 0 < s.size := by omega
      have hlti : (0 : Int) < s.size := by omega
      have hb := bAt_in hlt
      have hc : (s[0]'hlt).toNat < 256 := (s[0]'hlt).toNat_lt
      have HL := hid (fun W => isLetter_any (s[0]'hlt).toNat hc W)
      have HNB := hid (show nameB s = (isLet (s[0]'hlt).toNat && decide (wordK s 0 = s.size)) by unfold nameB; rw [decide_eq_true hlt, decide_eq_true h16, hb]; rfl)
      have HWL := hid (fun W => wordLength_any s hs W)
      cases h1 : isLet (s[0]'hlt).toNat with
      | true =>
        rw [h1] at HL HNB
        obtain ⟨k, hk⟩ : ∃ k, wordK s 0 = k := ⟨_, rfl⟩
        rw [hk] at HWL HNB
        clear h0 h16 hb hc h1 hk
        go_enter Tryz.func50, Tryz.ntmps50
        go_wp2_with fail
        refine (HL.out _).mono ?_
        rintro e w2 ⟨rfl, rfl⟩
        go_wp2_with fail
        refine (HWL.out _).mono ?_
        rintro e w3 ⟨rfl, rfl⟩
        go_wp2
        all_goals go_returns
        all_goals refine ⟨ret_bool ?_, rfl⟩
        all_goals rw [HNB.out, Bool.eq_iff_iff]
        all_goals simp
        all_goals try omega
      | false =>
        rw [h1] at HL HNB
        clear h0 h16 hb hc h1 HWL
        go_enter Tryz.func50, Tryz.ntmps50
        go_wp2_with fail
        refine (HL.out _).mono ?_
        rintro e w2 ⟨rfl, rfl⟩
        go_wp2
        go_returns
        exact ⟨by rw [HNB.out]; rfl, rfl⟩
    · have g16 : ¬ ((s.size : Nat) : Int) ≤ 16 := by omega
      have HNB := hid (show nameB s = false by unfold nameB; rw [decide_eq_false h16]; simp)
      clear h0 h16
      go_enter Tryz.func50, Tryz.ntmps50
      go_wp2
      go_returns
      exact ⟨by rw [HNB.out]; rfl, rfl⟩
end Go.Proofs.YtlilmidffcmkjaaGreatDoor
