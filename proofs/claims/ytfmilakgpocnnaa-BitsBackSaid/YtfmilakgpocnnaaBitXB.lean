/- What Bytes of the document's reader returns, and what it leaves (contracts of the function). -/
import Derived.Test.YtfmilakgpocnnaaBitX
namespace Go.Proofs.Ytfmilakgpocnnaa
open Go.RowKit
set_option linter.unusedVariables false

def RefBytesPost (g : Nat) (s : ByteArray) (k : Nat) (n : Int) (w : World) (e : Ending) (w' : World) : Prop :=
  e = .returned (.tuple #[.string (rbytesV s k n), .int .i64 (rbytesE s k n)]) ∧ Rx w' g s (rbytesK s k n) ∧ Keeps (· = g) w w'
set_option maxHeartbeats 400000 in
theorem refbytes_bad (g : Nat) (n : Int) (hn : n < 0) (w : World) :
    Calls Try.prog 18 #[.pointer (some ⟨g, 0, none⟩), .int .i64 n] w fun e w' => e = .returned (.tuple #[.string ⟨#[]⟩, .int .i64 1]) ∧ w = w' := by
  go_enter Try.func18, Try.ntmps18
  go_wp2
  go_returns
  exact ⟨rfl, rfl⟩
set_option maxRecDepth 100000 in
set_option maxHeartbeats 1000000 in
theorem refbytes_few (g : Nat) (s : ByteArray) (hs : s.size ≤ 281474976710656) (k : Nat) (hk : k ≤ 8 * s.size) (q : Nat) (hq : Hid (upK k / 8 = q)) (n : Int) (hn0 : 0 ≤ n) (hn : (s.size : Int) - q < n) (w : World) (h : Rx w g s k) :
    Calls Try.prog 18 #[.pointer (some ⟨g, 0, none⟩), .int .i64 n] w fun e w' => e = .returned (.tuple #[.string ⟨#[]⟩, .int .i64 2]) ∧ Rx w' g s (upK k) ∧ Keeps (· = g) w w' := by
  have HH := hid h
  clear h
  have hu := upK_le k s.size hk
  have hq2 : upK k = 8 * q := by have := upK_8 k; rw [hq.out] at this; exact this
  have hq1 : q ≤ s.size := by omega
  have hal := refralign_any g s hs k hk w HH.out
  rw [hq2] at hal ⊢
  have HAL := hid hal
  clear hal hq2 hu
  go_enter Try.func18, Try.ntmps18
  go_wp2_with fail
  refine HAL.out.mono ?_
  rintro e w1 ⟨rfl, h1, hK⟩
  have d0 : w1.cell? ⟨g, 0, none⟩ = some (.string s) := h1.cell 0
  have d1 : w1.cell? ⟨g, 1, none⟩ = some (.int .i64 (8 * q)) := by simpa using h1.cell 1
  have H1 := hid h1
  clear h1
  have e8 : (8 * (q : Int)) / 8 = q := by omega
  go_wp2
  go_returns
  exact ⟨rfl, H1.out, hK⟩
set_option maxRecDepth 100000 in
set_option maxHeartbeats 1000000 in
theorem refbytes_ok (g : Nat) (s : ByteArray) (hs : s.size ≤ 281474976710656) (k : Nat) (hk : k ≤ 8 * s.size) (q : Nat) (hq : Hid (upK k / 8 = q)) (n : Nat) (hn : q + n ≤ s.size) (w : World) (h : Rx w g s k) :
    Calls Try.prog 18 #[.pointer (some ⟨g, 0, none⟩), .int .i64 n] w fun e w' => e = .returned (.tuple #[.string (s.extract q (q + n)), .int .i64 0]) ∧ Rx w' g s (upK k + 8 * n) ∧ Keeps (· = g) w w' := by
  have HH := hid h
  clear h
  have hu := upK_le k s.size hk
  have hq2 : upK k = 8 * q := by have := upK_8 k; rw [hq.out] at this; exact this
  have hal := refralign_any g s hs k hk w HH.out
  rw [hq2] at hal ⊢
  have HAL := hid hal
  clear hal hq2 hu
  go_enter Try.func18, Try.ntmps18
  go_wp2_with fail
  refine HAL.out.mono ?_
  rintro e w1 ⟨rfl, h1, hK⟩
  have d0 : w1.cell? ⟨g, 0, none⟩ = some (.string s) := h1.cell 0
  have d1 : w1.cell? ⟨g, 1, none⟩ = some (.int .i64 (8 * q)) := by simpa using h1.cell 1
  have f1 : w1.frozen? ⟨g, 1, none⟩ = false := h1.frozen 1
  have hset : Rx (w1.setCell ⟨g, 1, none⟩ (.int .i64 (8 * q + 8 * n))) g s (8 * q + 8 * n) := by simpa using h1.set (8 * q + 8 * n)
  have hd : (w1.setCell ⟨g, 1, none⟩ (.int .i64 (8 * q + 8 * n))).cell? ⟨g, 0, none⟩ = some (.string s) := hset.cell 0
  have H1 := hid hset
  clear h1 hset
  have e8 : (8 * (q : Int)) / 8 = q := by omega
  go_wp2
  go_returns
  exact ⟨rfl, H1.out, hK.setCell (p := ⟨g, 1, none⟩) (.inl rfl) _⟩
theorem refbytes_any (g : Nat) (s : ByteArray) (hs : s.size ≤ 281474976710656) (k : Nat) (hk : k ≤ 8 * s.size) (n : Int) (w : World) (h : Rx w g s k) :
    Calls Try.prog 18 #[.pointer (some ⟨g, 0, none⟩), .int .i64 n] w (RefBytesPost g s k n w) := by
  unfold RefBytesPost
  by_cases hn : n < 0
  · obtain ⟨e1, e2, e3⟩ := rbytes_neg hn s k
    rw [e1, e2, e3]
    refine (refbytes_bad g n hn w).mono ?_
    rintro e w' ⟨rfl, rfl⟩
    exact ⟨rfl, h, Keeps.refl _ _⟩
  · obtain ⟨q, hq⟩ : ∃ q, upK k / 8 = q := ⟨_, rfl⟩
    by_cases hl : (s.size : Int) - q < n
    · obtain ⟨e1, e2, e3⟩ := rbytes_short (by omega) s k q hq hl
      rw [e1, e2, e3]
      exact refbytes_few g s hs k hk q hq n (by omega) hl w h
    · obtain ⟨m, rfl⟩ := Int.eq_ofNat_of_zero_le (show 0 ≤ n by omega)
      have hq3 : q + m ≤ s.size := by omega
      obtain ⟨e1, e2, e3⟩ := rbytes_good m s k q hq hq3
      rw [e1, e2, e3]
      exact refbytes_ok g s hs k hk q hq m hq3 w h
end Go.Proofs.Ytfmilakgpocnnaa
