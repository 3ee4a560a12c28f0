/- How deep brackets stand in a text; whether lists are the same (contracts of the document's functions). -/
import Derived.Test.YtlilmidffcmkjaaGreatDoorExpD
import Derived.Test.YtlilmidffcmkjaaGreatDoorExpK
import Derived.Deep.QuietTactic
import Derived.BigQuiet
import Derived.Deep.RegionWith
namespace Go.Proofs.YtlilmidffcmkjaaGreatDoor
open Go.RowKit
set_option linter.unusedVariables false
set_option linter.unusedSimpArgs false
/-- It stays within how many bytes there are. -/
theorem dsc_drop (s : ByteArray) (k : Nat) (h : k < s.size) (n m : Int) : dsc (s.data.toList.drop k) n m = dsc (s.data.toList.drop (k + 1)) (brk s[k] n) (max m (brk s[k] n)) := by
  have hl : s.data.toList.length = s.size := by simp
  rw [List.drop_eq_getElem_cons (i := k) (by omega), dsc]
  simp only [Array.getElem_toList]
  rfl
set_option maxRecDepth 100000 in
set_option maxHeartbeats 4000000 in
/-- The same lists are the same. -/
theorem same_eq (a b : Option Addr) (len c d : Nat) (hlen : len ≤ 9223372036854775807) (l : List ExpR) (hll : Hid (l.length = len)) (w : World) (ha : ExpAt w a l) (hb : ExpAt w b l) :
    Calls Tryz.prog 6 #[.slice a len c, .slice b len d] w fun e w' => e = .returned (.bool true) ∧ Bw w w' := by
  have HA := hid ha
  have HB := hid hb
  clear ha hb
  go_enter Tryz.func6, Tryz.ntmps6
  go_wp2
  go_loopw [5] (fun vi wr => ∃ k : Nat, k ≤ len ∧ vi = .int .i64 k ∧ Bw w wr) (fun vi _ => len - (intOf vi).toNat)
  case atStart => exact ⟨0, Nat.zero_le _, rfl, Bw.refl _⟩
  case round =>
    rename World => wr
    obtain ⟨k, hk, rfl, hw⟩ := hrel
    have HW := hid hw
    by_cases hlt : k < len
    · have hk1 : (k : Int) < len := by omega
      obtain ⟨b1, o1, rfl, hb1, p0, p1, p2, p3, p4, _⟩ := HA.out.below hw k (by rw [hll.out]; exact hlt)
      obtain ⟨b2, o2, rfl, hb2, q0, q1, q2, q3, q4, _⟩ := HB.out.below hw k (by rw [hll.out]; exact hlt)
      clear hw
      have hkl : k < l.length := by rw [hll.out]; exact hlt
      obtain ⟨x, hx⟩ : ∃ x, l[k]'hkl = x := ⟨_, rfl⟩
      rw [hx] at p0 p1 p2 p3 p4 q0 q1 q2 q3 q4
      clear hx
      go_wp2_with fail
      go_quiet (fail)
      go_wp2
      exact ⟨⟨k + 1, by omega, by go_num, HW.out.drewN _⟩, by simp [intOf]; omega⟩
    · obtain rfl : k = len := by omega
      go_wp2
      go_returns
      exact ⟨rfl, hw⟩
end Go.Proofs.YtlilmidffcmkjaaGreatDoor
