/- How deep brackets stand in a text; whether lists are the same (contracts of the document's functions). -/
import Derived.Test.YtlilmidffcmkjaaDoorExpD
import Derived.Test.YtlilmidffcmkjaaDoorExpK
import Derived.Deep.QuietTactic
import Derived.BigQuiet
import Derived.Deep.RegionWith
namespace Go.Proofs.YtlilmidffcmkjaaDoor
open Go.RowKit
set_option linter.unusedVariables false
set_option linter.unusedSimpArgs false
/-- It stays within how many bytes there are. -/
theorem dsc_drop (s : ByteArray) (k : Nat) (h : k < s.size) (n m : Int) : dsc (s.data.toList.drop k) n m = dsc (s.data.toList.drop (k + 1)) (brk s[k] n) (max m (brk s[k] n)) := by
  have hl : s.data.toList.length = s.size := by simp
  rw [List.drop_eq_getElem_cons (i := k) (by omega), dsc]
  simp only [Array.getElem_toList]
  rfl
set_option maxRecDepth 100000 in
set_option maxHeartbeats 4000000 in
theorem deep_any (s : ByteArray) (hs : s.size ≤ 281474976710656) (w : World) :
    Calls Tryd.prog 18 #[.string s] w fun e w' => e = .returned (.int .i64 (deepF s)) ∧ w' = w := by
  have HD := hid (show deepF s = (dsc s.data.toList 0 0).2 from rfl)
  go_enter Tryd.func18, Tryd.ntmps18
  go_wp2
  go_loopw [3, 4, 5] (fun vn vm vi wr => ∃ (k : Nat) (n m : Int), k ≤ s.size ∧ vn = .int .i64 n ∧ vm = .int .i64 m ∧ vi = .int .i64 k ∧ Hid (dsc (s.data.toList.drop k) n m = dsc s.data.toList 0 0) ∧ Hid (-(k : Int) ≤ n ∧ n ≤ k ∧ 0 ≤ m ∧ m ≤ k) ∧ wr = w) (fun _ _ vi _ => s.size - (intOf vi).toNat)
  case atStart => exact ⟨0, 0, 0, Nat.zero_le _, rfl, rfl, rfl, hid rfl, hid ⟨by omega, by omega, by omega, by omega⟩, rfl⟩
  case round =>
    obtain ⟨k, n, m, hk, rfl, rfl, rfl, HR, HB, rfl⟩ := hrel
    obtain ⟨b1, b2, b3, b4⟩ := HB.out
    by_cases hlt : k < s.size
    · have hk1 : (k : Int) < s.size := by omega
      have HST := hid (dsc_drop s k hlt n m)
      have hc : (s[k]'hlt).toNat < 256 := (s[k]'hlt).toNat_lt
      by_cases c40 : s[k] = 40
      · have e40 : (s[k]'hlt).toNat = 40 := by rw [c40]; rfl
        have HN := hid (show dsc (s.data.toList.drop (k + 1)) (n + 1) (max m (n + 1)) = dsc s.data.toList 0 0 from by rw [← HR.out, HST.out, c40, brk_in])
        by_cases hm : m < n + 1
        · have HM := hid (show max m (n + 1) = n + 1 by omega)
          have hm2 : ¬ n + 1 ≤ m := by omega
          clear HST hc c40
          go_wp2
          exact ⟨⟨k + 1, n + 1, n + 1, by omega, by go_num, by go_num, by go_num, hid (by rw [HM.out] at HN; exact HN.out), hid ⟨by omega, by omega, by omega, by omega⟩, trivial⟩, by simp [intOf]; omega⟩
        · have HM := hid (show max m (n + 1) = m by omega)
          clear HST hc c40
          go_wp2
          exact ⟨⟨k + 1, n + 1, m, by omega, by go_num, by go_num, by go_num, hid (by rw [HM.out] at HN; exact HN.out), hid ⟨by omega, by omega, by omega, by omega⟩, trivial⟩, by simp [intOf]; omega⟩
      · have n40 : ¬ (s[k]'hlt).toNat = 40 := fun e => c40 (UInt8.toNat_inj.1 (by rw [e]; rfl))
        by_cases c41 : s[k] = 41
        · have e41 : (s[k]'hlt).toNat = 41 := by rw [c41]; rfl
          have HN := hid (show dsc (s.data.toList.drop (k + 1)) (n - 1) (max m (n - 1)) = dsc s.data.toList 0 0 from by rw [← HR.out, HST.out, c41, brk_out])
          by_cases hm : m < n - 1
          · have HM := hid (show max m (n - 1) = n - 1 by omega)
            clear HST hc c40 c41
            go_wp2
            exact ⟨⟨k + 1, n - 1, n - 1, by omega, by go_num, by go_num, by go_num, hid (by rw [HM.out] at HN; exact HN.out), hid ⟨by omega, by omega, by omega, by omega⟩, trivial⟩, by simp [intOf]; omega⟩
          · have HM := hid (show max m (n - 1) = m by omega)
            clear HST hc c40 c41
            go_wp2
            exact ⟨⟨k + 1, n - 1, m, by omega, by go_num, by go_num, by go_num, hid (by rw [HM.out] at HN; exact HN.out), hid ⟨by omega, by omega, by omega, by omega⟩, trivial⟩, by simp [intOf]; omega⟩
        · have n41 : ¬ (s[k]'hlt).toNat = 41 := fun e => c41 (UInt8.toNat_inj.1 (by rw [e]; rfl))
          have HN := hid (show dsc (s.data.toList.drop (k + 1)) n (max m n) = dsc s.data.toList 0 0 from by rw [← HR.out, HST.out, brk_no c40 c41])
          by_cases hm : m < n
          · have HM := hid (show max m n = n by omega)
            clear HST hc c40 c41
            go_wp2
            exact ⟨⟨k + 1, n, n, by omega, by go_num, by go_num, by go_num, hid (by rw [HM.out] at HN; exact HN.out), hid ⟨by omega, by omega, by omega, by omega⟩, trivial⟩, by simp [intOf]; omega⟩
          · have HM := hid (show max m n = m by omega)
            clear HST hc c40 c41
            go_wp2
            exact ⟨⟨k + 1, n, m, by omega, by go_num, by go_num, by go_num, hid (by rw [HM.out] at HN; exact HN.out), hid ⟨by omega, by omega, by omega, by omega⟩, trivial⟩, by simp [intOf]; omega⟩
    · obtain rfl : k = s.size := by omega
      have hl : s.data.toList.length = s.size := by simp
      have HE := hid (show m = deepF s from by
        rw [HD.out, ← HR.out, List.drop_eq_nil_of_le (by omega)]; rfl)
      go_wp2
      go_returns
      exact ⟨by rw [← HE.out]; rfl, rfl⟩
set_option maxRecDepth 100000 in
set_option maxHeartbeats 4000000 in
/-- The same lists are the same. -/
theorem same_eq (a b : Option Addr) (len c d : Nat) (hlen : len ≤ 9223372036854775807) (l : List ExpR) (hll : Hid (l.length = len)) (w : World) (ha : ExpAt w a l) (hb : ExpAt w b l) :
    Calls Tryd.prog 13 #[.slice a len c, .slice b len d] w fun e w' => e = .returned (.bool true) ∧ Bw w w' := by
  have HA := hid ha
  have HB := hid hb
  clear ha hb
  go_enter Tryd.func13, Tryd.ntmps13
  go_wp2
  go_loopw [5] (fun vi wr => ∃ k : Nat, k ≤ len ∧ vi = .int .i64 k ∧ Bw w wr) (fun vi _ => len - (intOf vi).toNat)
  case atStart => exact ⟨0, Nat.zero_le _, rfl, Bw.refl _⟩
  case round =>
    rename World => wr
    obtain ⟨k, hk, rfl, hw⟩ := hrel
    have HW := hid hw
    by_cases hlt : k < len
    · have hk1 : (k : Int) < len := by omega
      obtain ⟨b1, o1, rfl, hb1, p0, p1, p2, p3, p4, _⟩ := HA.out.below hw k (by rw [hll.out]; exact hlt)
      obtain ⟨b2, o2, rfl, hb2, q0, q1, q2, q3, q4, _⟩ := HB.out.below hw k (by rw [hll.out]; exact hlt)
      clear hw
      have hkl : k < l.length := by rw [hll.out]; exact hlt
      obtain ⟨x, hx⟩ : ∃ x, l[k]'hkl = x := ⟨_, rfl⟩
      rw [hx] at p0 p1 p2 p3 p4 q0 q1 q2 q3 q4
      clear hx
      go_wp2_with fail
      go_quiet (fail)
      go_wp2
      exact ⟨⟨k + 1, by omega, by go_num, HW.out.drewN _⟩, by simp [intOf]; omega⟩
    · obtain rfl : k = len := by omega
      go_wp2
      go_returns
      exact ⟨rfl, hw⟩
end Go.Proofs.YtlilmidffcmkjaaDoor
