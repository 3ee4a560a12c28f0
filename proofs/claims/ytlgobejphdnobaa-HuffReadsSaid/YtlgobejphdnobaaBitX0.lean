/- What the document's reader returns, and what it leaves: the same as bits's (contracts of the functions). -/
import Derived.Test.YtlgobejphdnobaaBitR0
namespace Go.Proofs.Ytlgobejphdnobaa
open Go.RowKit
set_option linter.unusedVariables false

/-- The document's reader in memory. -/
def Rx (w : World) (g : Nat) (s : ByteArray) (k : Nat) : Prop := Has w g 37 #[.string s, .int .i64 k]
theorem Rx.set {w : World} {g : Nat} {s : ByteArray} {k : Nat} (h : Rx w g s k) (m : Nat) : Rx (w.setCell ⟨g, 1, none⟩ (.int .i64 m)) g s m := by
  have := Has.put h 1 (.int .i64 m)
  unfold Rx
  simpa using this
theorem refbit (s : ByteArray) (p : Nat) (h : p / 8 < s.size) : ((s[p / 8].toNat : Int) / 2 ^ (p % 8)) % 2 = (bv s p 1 : Nat) := by
  have e : ((s[p / 8].toNat : Int) / 2 ^ (p % 8)) % 2 = ((s[p / 8].toNat / 2 ^ (p % 8) % 2 : Nat) : Int) := by simp
  rw [e, bv_bit s p h]
theorem refadd (s : ByteArray) (k j p : Nat) (hp : k + j = p) (h : p / 8 < s.size) (hj : j < 32) :
    ((bv s k j : Nat) + ((s[p / 8].toNat : Int) / 2 ^ (p % 8)).tmod 2 * 2 ^ j % 4294967296) % 4294967296 = (bv s k (j + 1) : Nat) := by
  have h0 : (0 : Int) ≤ (s[p / 8].toNat : Int) / 2 ^ (p % 8) := Int.ediv_nonneg (by omega) (Int.le_of_lt (Int.pow_pos (by decide)))
  rw [Int.tmod_eq_emod_of_nonneg h0, refbit s p h]
  have e : ((bv s p 1 : Nat) : Int) * 2 ^ j = ((2 ^ j * bv s p 1 : Nat) : Int) := by rw [Nat.mul_comm]; simp
  rw [e, bv_add s k j 1, hp]
  have h1 := bv_lt32 s k (j + 1) (by omega)
  rw [bv_add s k j 1, hp] at h1
  omega
set_option maxRecDepth 100000 in
set_option maxHeartbeats 1000000 in
theorem refbits_ok (g : Nat) (s : ByteArray) (hs : s.size ≤ 281474976710656) (k n : Nat) (hn : n ≤ 32) (hk : k + n ≤ 8 * s.size) (w : World) (h : Rx w g s k) :
    Calls Try.prog 31 #[.pointer (some ⟨g, 0, none⟩), .int .i64 n] w fun e w' => e = .returned (.tuple #[.int .u32 (bv s k n : Nat), .int .i64 0]) ∧ Rx w' g s (k + n) ∧ Keeps (· = g) w w' := by
  have hc0 : w.cell? ⟨g, 0, none⟩ = some (.string s) := h.cell 0
  have hc1 : w.cell? ⟨g, 1, none⟩ = some (.int .i64 k) := h.cell 1
  have HH := hid h
  clear h
  go_enter Try.func31, Try.ntmps31
  go_wp2_with fail
  go_quiet (fail)
  have d0 : (w.drewN nq).cell? ⟨g, 0, none⟩ = some (.string s) := by simpa using hc0
  have d1 : (w.drewN nq).cell? ⟨g, 1, none⟩ = some (.int .i64 k) := by simpa using hc1
  have hK : Keeps (· = g) w (w.drewN nq) := (Keeps.refl (· = g) w).drewN nq
  have H1 := hid (show Rx (w.drewN nq) g s k from HH.out.drewN nq)
  have f1 : (w.drewN nq).frozen? ⟨g, 1, none⟩ = false := H1.out.frozen 1
  clear HH hc0 hc1
  generalize w.drewN nq = w1 at *
  go_wp2_with fail
  go_loop [6, 7] (fun v i => ∃ j : Nat, j ≤ n ∧ i = .int .i64 j ∧ v = .int .u32 (bv s k j : Nat)) (fun _ i => n - (intOf i).toNat)
  case atStart => exact ⟨0, Nat.zero_le _, rfl, by rw [bv_zero]; rfl⟩
  case round =>
    obtain ⟨j, hj, rfl, rfl⟩ := hrel
    by_cases hlt : j < n
    · obtain ⟨p, hp⟩ : ∃ p, k + j = p := ⟨_, rfl⟩
      have hx : p / 8 < s.size := by omega
      have hv := bv_lt32 s k j (by omega)
      have hsx : s[p / 8].toNat < 256 := s[p / 8].toNat_lt
      have e1 : IntKind.i64.wrap ((k : Int) + j) = (p : Int) := by subst hp; rw [IntWalk.i64_in _ (by omega)]; omega
      have e2 : (k : Int) + j = p := by omega
      have HP := hid hp
      clear hp
      go_wp2
      go_round
      case rel => exact ⟨j + 1, by omega, by go_num, by rw [refadd s k j p HP.out hx (by omega)]⟩
      case measure => simp [intOf]; omega
    · obtain rfl : n = j := by omega
      go_wp2
      go_returns
      refine ⟨rfl, ?_, hK.setCell (p := ⟨g, 1, none⟩) (.inl rfl) _⟩
      have := H1.out.set (k + n)
      simpa using this
def RefBitsPost (g : Nat) (s : ByteArray) (k : Nat) (n : Int) (w : World) (e : Ending) (w' : World) : Prop :=
  e = .returned (.tuple #[.int .u32 (bitsV s k n : Nat), .int .i64 (bitsE s k n)]) ∧ Rx w' g s (bitsK s k n) ∧ Keeps (· = g) w w'
set_option maxHeartbeats 400000 in
theorem refbits_bad (g : Nat) (n : Int) (hn : n < 0 ∨ 32 < n) (w : World) :
    Calls Try.prog 31 #[.pointer (some ⟨g, 0, none⟩), .int .i64 n] w fun e w' => e = .returned (.tuple #[.int .u32 0, .int .i64 1]) ∧ w = w' := by
  by_cases h : n < 0
  · clear hn
    go_enter Try.func31, Try.ntmps31
    go_wp2
    go_returns
    exact ⟨rfl, rfl⟩
  · have h2 : 32 < n := by omega
    clear hn
    go_enter Try.func31, Try.ntmps31
    go_wp2
    go_returns
    exact ⟨rfl, rfl⟩
set_option maxHeartbeats 400000 in
theorem refbits_few (g : Nat) (s : ByteArray) (hs : s.size ≤ 281474976710656) (k : Nat) (hk8 : k ≤ 8 * s.size) (n : Int) (hn0 : 0 ≤ n) (hn1 : n ≤ 32) (hk : ¬ n ≤ 8 * (s.size : Int) - k) (w : World) (h : Rx w g s k) :
    Calls Try.prog 31 #[.pointer (some ⟨g, 0, none⟩), .int .i64 n] w fun e w' => e = .returned (.tuple #[.int .u32 0, .int .i64 2]) ∧ ∃ z, w' = w.drewN z := by
  have hc0 : w.cell? ⟨g, 0, none⟩ = some (.string s) := h.cell 0
  have hc1 : w.cell? ⟨g, 1, none⟩ = some (.int .i64 k) := h.cell 1
  clear h
  go_enter Try.func31, Try.ntmps31
  go_wp2_with fail
  go_quiet (fail)
  go_wp2
  go_returns
  exact ⟨rfl, nq, rfl⟩
theorem refbits_any (g : Nat) (s : ByteArray) (hs : s.size ≤ 281474976710656) (k : Nat) (hk : k ≤ 8 * s.size) (n : Int) (w : World) (h : Rx w g s k) :
    Calls Try.prog 31 #[.pointer (some ⟨g, 0, none⟩), .int .i64 n] w (RefBitsPost g s k n w) := by
  unfold RefBitsPost
  cases hn : cntB n with
  | false =>
    obtain ⟨e1, e2, e3⟩ := bits_range hn s k
    rw [e1, e2, e3]
    refine (refbits_bad g n (cntB_false hn) w).mono ?_
    rintro e w' ⟨rfl, rfl⟩
    exact ⟨rfl, h, Keeps.refl _ _⟩
  | true =>
    obtain ⟨h0, h1⟩ := cntB_true hn
    by_cases hl : n ≤ 8 * (s.size : Int) - k
    · obtain ⟨m, rfl⟩ := Int.eq_ofNat_of_zero_le h0
      obtain ⟨e1, e2, e3⟩ := bits_good m (by omega) s k (by omega)
      rw [e1, e2, e3]
      exact refbits_ok g s hs k m (by omega) (by omega) w h
    · obtain ⟨e1, e2, e3⟩ := bits_short hn s k hl
      rw [e1, e2, e3]
      refine (refbits_few g s hs k hk n h0 h1 hl w h).mono ?_
      rintro e w' ⟨rfl, z, rfl⟩
      exact ⟨rfl, h.drewN z, (Keeps.refl _ _).drewN z⟩
end Go.Proofs.Ytlgobejphdnobaa
