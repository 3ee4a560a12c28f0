/- Types, numbers, what they take (contracts of the functions). -/
import Derived.Test.YtgkgimfdbkpbdaaDoorWavP
import Derived.Test.YtgkgimfdbkpbdaaDoorWinG
import Derived.Test.YtgkgimfdbkpbdaaDoorWinJ
namespace Go.Proofs.YtgkgimfdbkpbdaaDoor
open Go.RowKit
set_option linter.unusedVariables false
set_option linter.unusedSimpArgs false
theorem ok_yes {s : ByteArray} {i : Nat} (hi : i < s.size) (h : okN (bt s i) = true) : 32 ≤ s[i].toNat ∧ s[i].toNat ≤ 126 := by
  rw [bt_eq s i hi] at h
  unfold okN at h
  simpa using h
theorem ok_no {s : ByteArray} {i : Nat} (hi : i < s.size) (h : okN (bt s i) = false) : s[i].toNat < 32 ∨ (32 ≤ s[i].toNat ∧ 126 < s[i].toNat) := by
  rw [bt_eq s i hi] at h
  unfold okN at h
  simp at h
  omega
set_option maxRecDepth 100000 in
set_option maxHeartbeats 2000000 in
theorem isType_any (s : ByteArray) (hs : s.size ≤ 9223372036854775807) (w : World) :
    Calls Tryd.prog 27 #[.string s] w fun e w' => e = .returned (.bool (typB s)) ∧ Bw w w' := by
  go_enter Tryd.func27, Tryd.ntmps27
  go_wp2
  go_loopw [6] (fun i wr => ∃ j : Nat, j ≤ s.size ∧ i = .int .i64 j ∧ Hid (∀ q, q < j → okN (bt s q) = true) ∧ wr = w) (fun i _ => s.size - (intOf i).toNat)
  case atStart => exact ⟨0, Nat.zero_le _, rfl, hid (fun q h => absurd h (Nat.not_lt_zero q)), rfl⟩
  case round =>
    obtain ⟨j, hj, rfl, HA, rfl⟩ := hrel
    by_cases hlt : j < s.size
    · have c0 : (j : Int) < s.size := by omega
      cases hok : okN (bt s j) with
      | true =>
        obtain ⟨h1, h2⟩ := ok_yes hlt hok
        have HN := hid (show ∀ q, q < j + 1 → okN (bt s q) = true from fun q hq => by
          by_cases e : q = j
          · subst e; exact hok
          · exact HA.out q (by omega))
        clear hok
        have b1 : ¬ ((s[j].toNat : Int) < 32) := by omega
        have b2 : ¬ ((126 : Int) < s[j].toNat) := by omega
        go_wp2
        exact ⟨⟨j + 1, by omega, by go_num, HN, trivial⟩, by simp [intOf]; omega⟩
      | false =>
        have HT := hid (typ_not hlt hok)
        rcases ok_no hlt hok with h1 | ⟨h1, h2⟩
        · clear hok
          have b1 : ((s[j].toNat : Int) < 32) := by omega
          go_wp2
          go_returns
          exact ⟨ret_bool HT.out.symm, Bw.refl _⟩
        · clear hok
          have b1 : ¬ ((s[j].toNat : Int) < 32) := by omega
          have b2 : ((126 : Int) < s[j].toNat) := by omega
          go_wp2
          go_returns
          exact ⟨ret_bool HT.out.symm, Bw.refl _⟩
    · obtain rfl : j = s.size := by omega
      have HT := hid (typ_all HA.out)
      go_wp2
      go_returns
      exact ⟨ret_bool (by rw [HT.out]; rw [Bool.eq_iff_iff]; simp; try omega), Bw.refl _⟩
set_option maxRecDepth 100000 in
set_option maxHeartbeats 2000000 in
theorem rType_any (s : ByteArray) (hs : s.size ≤ 9223372036854775807) (w : World) :
    Calls Tryd.prog 24 #[.string s] w fun e w' => e = .returned (.bool (typB s)) ∧ Bw w w' := by
  go_enter Tryd.func24, Tryd.ntmps24
  go_wp2
  go_loopw [3] (fun i wr => ∃ j : Nat, j ≤ s.size ∧ i = .int .i64 j ∧ Hid (∀ q, q < j → okN (bt s q) = true) ∧ wr = w) (fun i _ => s.size - (intOf i).toNat)
  case atStart => exact ⟨0, Nat.zero_le _, rfl, hid (fun q h => absurd h (Nat.not_lt_zero q)), rfl⟩
  case round =>
    obtain ⟨j, hj, rfl, HA, rfl⟩ := hrel
    by_cases hlt : j < s.size
    · have c0 : (j : Int) < s.size := by omega
      cases hok : okN (bt s j) with
      | true =>
        obtain ⟨h1, h2⟩ := ok_yes hlt hok
        have HN := hid (show ∀ q, q < j + 1 → okN (bt s q) = true from fun q hq => by
          by_cases e : q = j
          · subst e; exact hok
          · exact HA.out q (by omega))
        clear hok
        have b1 : ¬ ((s[j].toNat : Int) < 32) := by omega
        have b2 : ¬ ((126 : Int) < s[j].toNat) := by omega
        go_wp2
        exact ⟨⟨j + 1, by omega, by go_num, HN, trivial⟩, by simp [intOf]; omega⟩
      | false =>
        have HT := hid (typ_not hlt hok)
        rcases ok_no hlt hok with h1 | ⟨h1, h2⟩
        · clear hok
          have b1 : ((s[j].toNat : Int) < 32) := by omega
          go_wp2
          go_returns
          exact ⟨ret_bool HT.out.symm, Bw.refl _⟩
        · clear hok
          have b1 : ¬ ((s[j].toNat : Int) < 32) := by omega
          have b2 : ((126 : Int) < s[j].toNat) := by omega
          go_wp2
          go_returns
          exact ⟨ret_bool HT.out.symm, Bw.refl _⟩
    · obtain rfl : j = s.size := by omega
      have HT := hid (typ_all HA.out)
      go_wp2
      go_returns
      exact ⟨ret_bool (by rw [HT.out]; rw [Bool.eq_iff_iff]; simp; try omega), Bw.refl _⟩
theorem w4 : widB ((4 : Nat) : Int) = true := by decide
theorem w2 : widB ((2 : Nat) : Int) = true := by decide
theorem bytes_4 (n : Nat) (hn : n < 4294967296) : bytesV n (4 : Nat) false = bytesS n 4 false ∧ bytesE n (4 : Nat) = 0 := by
  have h := bytesE_ok (m := n) (d := 4) w4 (Nat.div_eq_of_lt (by simpa using hn))
  exact ⟨bytesV_ok h, h⟩
theorem bytes_2 (n : Nat) (hn : n < 65536) : bytesV n (2 : Nat) false = bytesS n 2 false ∧ bytesE n (2 : Nat) = 0 := by
  have h := bytesE_ok (m := n) (d := 2) w2 (Nat.div_eq_of_lt (by simpa using hn))
  exact ⟨bytesV_ok h, h⟩
theorem bytes4_any (n : Nat) (hn : n < 4294967296) (w : World) :
    Calls Tryd.prog 50 #[.int .u64 n, .int .i64 4, .bool false] w fun e w' => e = .returned (.tuple #[.string (bytesS n 4 false), .int .i64 0]) ∧ Bw w w' := by
  have h := bytes_any n (4 : Nat) false w
  rwa [(bytes_4 n hn).1, (bytes_4 n hn).2] at h
theorem bytes2_any (n : Nat) (hn : n < 65536) (w : World) :
    Calls Tryd.prog 50 #[.int .u64 n, .int .i64 2, .bool false] w fun e w' => e = .returned (.tuple #[.string (bytesS n 2 false), .int .i64 0]) ∧ Bw w w' := by
  have h := bytes_any n (2 : Nat) false w
  rwa [(bytes_2 n hn).1, (bytes_2 n hn).2] at h
theorem rbytes4_any (n : Nat) (hn : n < 4294967296) (w : World) :
    Calls Tryd.prog 34 #[.int .u64 n, .int .i64 4, .bool false] w fun e w' => e = .returned (.tuple #[.string (bytesS n 4 false), .int .i64 0]) ∧ Bw w w' := by
  have h := refbytes_any n (by omega) (4 : Nat) false w
  rwa [(bytes_4 n hn).1, (bytes_4 n hn).2] at h
theorem rbytes2_any (n : Nat) (hn : n < 65536) (w : World) :
    Calls Tryd.prog 34 #[.int .u64 n, .int .i64 2, .bool false] w fun e w' => e = .returned (.tuple #[.string (bytesS n 2 false), .int .i64 0]) ∧ Bw w w' := by
  have h := refbytes_any n (by omega) (2 : Nat) false w
  rwa [(bytes_2 n hn).1, (bytes_2 n hn).2] at h
set_option maxHeartbeats 400000 in
theorem number4_any (n : Nat) (hn : n < 4294967296) (w : World) :
    Calls Tryd.prog 30 #[.int .i64 n, .int .i64 4] w fun e w' => e = .returned (.string (bytesS n 4 false)) ∧ Bw w w' := by
  have HB := hid (fun W => bytes4_any n hn W)
  go_enter Tryd.func30, Tryd.ntmps30
  go_wp2_with fail
  refine (HB.out _).mono ?_
  rintro e w2 ⟨rfl, hb⟩
  go_wp2
  go_returns
  exact ⟨rfl, hb⟩
set_option maxHeartbeats 400000 in
theorem number2_any (n : Nat) (hn : n < 65536) (w : World) :
    Calls Tryd.prog 30 #[.int .i64 n, .int .i64 2] w fun e w' => e = .returned (.string (bytesS n 2 false)) ∧ Bw w w' := by
  have HB := hid (fun W => bytes2_any n hn W)
  go_enter Tryd.func30, Tryd.ntmps30
  go_wp2_with fail
  refine (HB.out _).mono ?_
  rintro e w2 ⟨rfl, hb⟩
  go_wp2
  go_returns
  exact ⟨rfl, hb⟩
theorem uint_in {s : ByteArray} {p d : Nat} (hd : widB (d : Int) = true) (h : p + d ≤ s.size) : uintE s.size p d = 0 := by
  rw [uintE_sub hd]
  exact subE_ok (by omega) (by omega)
theorem uint4_any (s : ByteArray) (hs : s.size ≤ lim) (p : Nat) (h : p + 4 ≤ s.size) (b : Nat) (hb : b ≤ 281474976710656) (w : World) :
    Calls Tryd.prog 43 #[.agg #[.int .i64 b, .string s], .int .i64 p, .int .i64 4, .bool false] w fun e w' => e = .returned (.tuple #[.int .u64 (num4 s p), .int .i64 0]) ∧ Bw w w' := by
  have h0 := uint_in (s := s) (p := p) w4 h
  have := uint_any (b : Int) (by omega) (by omega) s hs (p : Nat) (4 : Nat) false w
  rw [h0, uintV_ok h0] at this
  exact this
theorem ruint4_any (s : ByteArray) (hs : s.size ≤ lim) (p : Nat) (h : p + 4 ≤ s.size) (w : World) :
    Calls Tryd.prog 47 #[.string s, .int .i64 p, .int .i64 4, .bool false] w fun e w' => e = .returned (.tuple #[.int .u64 (num4 s p), .int .i64 0]) ∧ w = w' := by
  have h0 := uint_in (s := s) (p := p) w4 h
  have := refuint_any s hs (p : Nat) (4 : Nat) false w
  rw [h0, uintV_ok h0] at this
  exact this
set_option maxHeartbeats 400000 in
theorem rnumber4_any (s : ByteArray) (hs : s.size ≤ lim) (p : Nat) (h : p + 4 ≤ s.size) (w : World) :
    Calls Tryd.prog 25 #[.string s, .int .i64 p, .int .i64 4] w fun e w' => e = .returned (.int .i64 (num4 s p)) ∧ w = w' := by
  have HB := hid (fun W => ruint4_any s hs p h W)
  have hn := num4_lt s p
  generalize num4 s p = n at *
  clear h hs
  go_enter Tryd.func25, Tryd.ntmps25
  go_wp2_with fail
  refine (HB.out _).mono ?_
  rintro e w2 ⟨rfl, rfl⟩
  go_wp2
  go_returns
  exact ⟨by first | rfl | (congr 2; go_num), rfl⟩
set_option maxHeartbeats 400000 in
theorem padded_any (n : Nat) (hn : n < 1000000000000) (w : World) :
    Calls Tryd.prog 45 #[.int .i64 n] w fun e w' => e = .returned (.int .i64 (pad n)) ∧ w = w' := by
  have HP := hid (show (pad n : Int) = (n : Int) + (n : Int) % 2 by unfold pad; omega)
  rw [HP.out]
  go_enter Tryd.func45, Tryd.ntmps45
  go_wp2
  go_returns
  exact ⟨by first | rfl | (congr 2; go_num), rfl⟩
end Go.Proofs.YtgkgimfdbkpbdaaDoor
