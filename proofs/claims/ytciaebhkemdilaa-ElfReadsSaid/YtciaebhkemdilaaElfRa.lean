/- The document's number, stands, name (contracts of the functions). -/
import Derived.Test.YtciaebhkemdilaaWinY
import Derived.Test.YtciaebhkemdilaaElfQf
namespace Go.Proofs.Ytciaebhkemdilaa
open Go.RowKit
set_option linter.unusedVariables false
set_option linter.unusedSimpArgs false
set_option maxHeartbeats 1000000 in
theorem dnumber_any (s : ByteArray) (hs : s.size ≤ lim) (p d : Nat) (hd : 1 ≤ d) (hd8 : d ≤ 8) (hw : widB (d : Int) = true) (hp : p + d ≤ s.size) (w : World) :
    Calls Try.prog 22 #[.string s, .int .i64 p, .int .i64 d] w fun e w' => e = .returned (.int .u64 (numAt s p d false : Nat)) ∧ w = w' := by
  have HU := hid (fun W => refuint_little s hs p d hd hd8 hw hp W)
  obtain ⟨x, hx⟩ : ∃ x, numAt s p d false = x := ⟨_, rfl⟩
  rw [hx] at HU ⊢
  clear hx hp
  go_enter Try.func22, Try.ntmps22
  go_wp2_with fail
  refine (HU.out _).mono ?_
  rintro e w2 ⟨rfl, rfl⟩
  go_wp2
  go_returns
  exact ⟨rfl, rfl⟩
theorem num2_any (s : ByteArray) (hs : s.size ≤ lim) (p : Nat) (hp : p + 2 ≤ s.size) (w : World) : Calls Try.prog 22 #[.string s, .int .i64 p, .int .i64 2] w fun e w' => e = .returned (.int .u64 (n2 s p : Nat)) ∧ w = w' := dnumber_any s hs p 2 (by decide) (by decide) (by decide) hp w
theorem num4_any (s : ByteArray) (hs : s.size ≤ lim) (p : Nat) (hp : p + 4 ≤ s.size) (w : World) : Calls Try.prog 22 #[.string s, .int .i64 p, .int .i64 4] w fun e w' => e = .returned (.int .u64 (n4 s p : Nat)) ∧ w = w' := dnumber_any s hs p 4 (by decide) (by decide) (by decide) hp w
theorem num8_any (s : ByteArray) (hs : s.size ≤ lim) (p : Nat) (hp : p + 8 ≤ s.size) (w : World) : Calls Try.prog 22 #[.string s, .int .i64 p, .int .i64 8] w fun e w' => e = .returned (.int .u64 (n8 s p : Nat)) ∧ w = w' := dnumber_any s hs p 8 (by decide) (by decide) (by decide) hp w
set_option maxHeartbeats 1000000 in
theorem stands_any (s : ByteArray) (hs : s.size ≤ lim) (p n : Nat) (w : World) :
    Calls Try.prog 23 #[.string s, .int .u64 p, .int .u64 n] w fun e w' => e = .returned (.bool (decide (p + n ≤ s.size))) ∧ w = w' := by
  have v1 : IntKind.u64.wrap (s.size : Int) = s.size := IntWalk.u64_in _ (by unfold lim at hs; omega)
  by_cases h : (p : Int) ≤ (s.size : Int)
  · have v2 : IntKind.u64.wrap ((s.size : Int) - (p : Int)) = (s.size : Int) - (p : Int) := IntWalk.u64_in _ (by unfold lim at hs; omega)
    by_cases k : (n : Int) ≤ (s.size : Int) - (p : Int)
    · have HD := hid (decide_eq_true (show p + n ≤ s.size by omega))
      clear hs
      go_enter Try.func23, Try.ntmps23
      go_wp2
      go_returns
      exact ⟨by rw [HD.out]; simp [k], rfl⟩
    · have HD := hid (decide_eq_false (show ¬ p + n ≤ s.size by omega))
      clear hs
      go_enter Try.func23, Try.ntmps23
      go_wp2
      go_returns
      exact ⟨by rw [HD.out]; simp, rfl⟩
  · have HD := hid (decide_eq_false (show ¬ p + n ≤ s.size by omega))
    clear hs
    go_enter Try.func23, Try.ntmps23
    go_wp2
    go_returns
    exact ⟨by rw [HD.out]; simp, rfl⟩
/-- What name tells of the text: nothing where no byte 0 stands behind. -/
def namX (d : ByteArray) (p : Nat) : ByteArray := if zAt d p < d.size then namT d p else ⟨#[]⟩
theorem namX_ok {d : ByteArray} {p : Nat} (h : namK d p = true) : namX d p = namT d p := by
  unfold namK at h
  rw [Bool.and_eq_true, decide_eq_true_eq] at h
  exact if_pos h.1
def NamQ (d : ByteArray) (p : Nat) (w : World) (e : Ending) (w' : World) : Prop := e = .returned (.tuple #[.string (namX d p), .bool (namK d p)]) ∧ w = w'
theorem zAt_get {d : ByteArray} {p i : Nat} (h1 : p ≤ i) (h2 : i < d.size) (h3 : ∀ j, p ≤ j → j < i → bt d j ≠ 0) (h4 : bt d i = 0) : zAt d p = i := zAt_is h1 (by omega) h3 (fun _ => h4)
theorem zAt_none {d : ByteArray} {p : Nat} (h1 : p ≤ d.size) (h3 : ∀ j, p ≤ j → j < d.size → bt d j ≠ 0) : zAt d p = d.size := zAt_is h1 (Nat.le_refl _) h3 (fun h => absurd h (Nat.lt_irrefl _))
set_option maxRecDepth 100000 in
set_option maxHeartbeats 2000000 in
theorem name_any (d : ByteArray) (hd : d.size ≤ lim) (p : Nat) (w : World) :
    Calls Try.prog 26 #[.string d, .int .u64 p] w (NamQ d p w) := by
  have v1 : IntKind.u64.wrap (d.size : Int) = d.size := IntWalk.u64_in _ (by unfold lim at hd; omega)
  have HQ := hid (fun e (t : ByteArray) (b : Bool) (he : e = .returned (.tuple #[.string t, .bool b])) (hb : b = namK d p) (ht : t = namX d p) => (show NamQ d p w e w from ⟨by rw [he, hb, ht], rfl⟩))
  have hd9 : d.size ≤ 281474976710656 := hd
  by_cases h : (d.size : Int) < (p : Int)
  · have HF := hid (show false = namK d p from by
      unfold namK
      rw [zAt_far (by omega), decide_eq_false (by omega)]
      rfl)
    have HXX := hid (show (⟨#[]⟩ : ByteArray) = namX d p from by unfold namX; rw [zAt_far (by omega), if_neg (by omega)])
    clear hd
    go_enter Try.func26, Try.ntmps26
    go_wp2
    go_returns
    exact HQ.out _ _ false rfl HF.out HXX.out
  · have v2 : IntKind.i64.wrap (p : Int) = p := IntWalk.i64_in _ (by omega)
    have hp : p ≤ d.size := by omega
    clear hd
    go_enter Try.func26, Try.ntmps26
    go_wp2
    go_loopw [6] (fun vi wr => ∃ k : Nat, p ≤ k ∧ k ≤ d.size ∧ vi = .int .i64 k ∧ Hid (∀ j, p ≤ j → j < k → bt d j ≠ 0) ∧ w = wr) (fun vi _ => d.size - (intOf vi).toNat)
    case atStart => exact ⟨p, Nat.le_refl _, hp, rfl, hid (fun j h1 h2 => by omega), rfl⟩
    case round =>
      rename World => wr
      obtain ⟨k, hk1, hk2, rfl, HA, hww⟩ := hrel
      subst hww
      by_cases hlt : k < d.size
      · have hlt1 : (k : Int) < (d.size : Int) := by omega
        have hb := bt_eq d k hlt
        by_cases hz : bt d k = 0
        · have hz2 : (d[k]'hlt).toNat = 0 := by omega
          have hz3 := zAt_get hk1 hlt HA.out hz
          have HK := hid (show decide ((k : Int) - (p : Int) ≤ 200) = namK d p from by
            unfold namK
            rw [hz3, decide_eq_true hlt, Bool.true_and]
            by_cases h2 : k - p ≤ 200
            · rw [decide_eq_true h2, decide_eq_true (by omega)]
            · rw [decide_eq_false h2, decide_eq_false (by omega)])
          have HT := hid (show d.extract p k = namX d p from by unfold namX namT; rw [hz3, if_pos hlt])
          have v3 : IntKind.i64.wrap ((k : Int) - (p : Int)) = (k : Int) - (p : Int) := IntWalk.i64_in _ (by omega)
          have hkp : (p : Int) ≤ (k : Int) := by omega
          have hkd : (k : Int) ≤ (d.size : Int) := by omega
          clear hb hz hz3
          go_wp2
          go_returns
          refine HQ.out _ _ _ rfl HK.out ?_
          simpa using HT.out
        · have hz2 : ¬ (d[k]'hlt).toNat = 0 := by omega
          have HN := hid hz
          clear hb hz
          go_wp2
          exact ⟨⟨k + 1, by omega, by omega, by go_num, hid (fun j h1 h2 => by
            by_cases e : j = k
            · subst e; exact HN.out
            · exact HA.out j h1 (by omega)), by trivial⟩, by simp [intOf]; omega⟩
      · obtain rfl : k = d.size := by omega
        have HF := hid (show false = namK d p from by
          unfold namK
          rw [zAt_none hp HA.out, decide_eq_false (Nat.lt_irrefl _)]
          rfl)
        have HXX := hid (show (⟨#[]⟩ : ByteArray) = namX d p from by unfold namX; rw [zAt_none hp HA.out, if_neg (Nat.lt_irrefl _)])
        go_wp2
        go_returns
        exact HQ.out _ _ false rfl HF.out HXX.out
end Go.Proofs.Ytciaebhkemdilaa
