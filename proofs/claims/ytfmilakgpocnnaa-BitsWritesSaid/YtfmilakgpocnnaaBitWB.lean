/- What Put, Align and Len of bits's writer return, and what they leave (contracts of the functions). -/
import Derived.Test.YtfmilakgpocnnaaBitW
namespace Go.Proofs.Ytfmilakgpocnnaa
open Go.RowKit
set_option linter.unusedVariables false

/-- May it be put? -/
def putB (v : Nat) (n : Int) : Bool := cntB n && decide (v < 2 ^ n.toNat)
def putE (v : Nat) (n : Int) : Int := if putB v n then 0 else 1
def putK (k v : Nat) (n : Int) : Nat := if putB v n then k + n.toNat else k
def putN (N k v : Nat) (n : Int) : Nat := if putB v n then N + v * 2 ^ k else N
theorem WPost.refl {F : Nat → Prop} {w : World} {g k N : Nat} (h : WrF F w g k N) : WPost F g k N w w := ⟨F, h, Keeps.refl _ _, fun i hi => .inl hi⟩
def PutPost (F : Nat → Prop) (g k N v : Nat) (n : Int) (w : World) (e : Ending) (w' : World) : Prop := e = .returned (.int .i64 (putE v n)) ∧ WPost F g (putK k v n) (putN N k v n) w w'
set_option maxHeartbeats 400000 in
theorem put_nil (v n : Int) (w : World) :
    Calls Try.prog 27 #[.pointer none, .int .u32 v, .int .i64 n] w fun e w' => e = .returned (.int .i64 1) ∧ w = w' := by
  go_enter Try.func27, Try.ntmps27
  go_wp2
  go_returns
  exact ⟨rfl, rfl⟩
set_option maxHeartbeats 400000 in
theorem put_cnt (g v : Nat) (n : Int) (hn : cntB n = false) (w : World) :
    Calls Try.prog 27 #[.pointer (some ⟨g, 0, none⟩), .int .u32 v, .int .i64 n] w fun e w' => e = .returned (.int .i64 1) ∧ w = w' := by
  have hb := isCount_any n w
  rw [hn] at hb
  have HB := hid hb
  clear hb hn
  go_enter Try.func27, Try.ntmps27
  go_wp2_with fail
  refine HB.out.mono ?_
  rintro e w' ⟨rfl, rfl⟩
  go_wp2
  go_returns
  exact ⟨rfl, rfl⟩
set_option maxHeartbeats 400000 in
theorem put_great (g v : Nat) (hv32 : v < 4294967296) (n : Nat) (hn : n ≤ 32) (hv : ¬ v < 2 ^ n) (w : World) :
    Calls Try.prog 27 #[.pointer (some ⟨g, 0, none⟩), .int .u32 v, .int .i64 n] w fun e w' => e = .returned (.int .i64 1) ∧ w = w' := by
  have hcn : cntB n = true := decide_eq_true ⟨by omega, by omega⟩
  have hb := isCount_any n w
  rw [hcn] at hb
  have HB := hid hb
  have t0 : ((v : Int) / 2 ^ n != 0) = true := by
    have e : (v : Int) / 2 ^ n = ((v / 2 ^ n : Nat) : Int) := by simp
    have h1 : 0 < v / 2 ^ n := Nat.div_pos (by omega) (Nat.two_pow_pos n)
    rw [e]; simp; omega
  clear hb hcn hv
  go_enter Try.func27, Try.ntmps27
  go_wp2_with fail
  refine HB.out.mono ?_
  rintro e w' ⟨rfl, rfl⟩
  go_wp2
  go_returns
  exact ⟨rfl, rfl⟩
theorem put_any (F : Nat → Prop) (g k N : Nat) (hk : k ≤ 1125899906842592) (v : Nat) (hv : v < 4294967296) (n : Int) (w : World) (h : WrF F w g k N) :
    Calls Try.prog 27 #[.pointer (some ⟨g, 0, none⟩), .int .u32 v, .int .i64 n] w (PutPost F g k N v n w) := by
  unfold PutPost putE putK putN
  cases hn : cntB n with
  | false =>
    simp only [putB, hn, Bool.false_and, Bool.false_eq_true, if_false]
    refine (put_cnt g v n hn w).mono ?_
    rintro e w' ⟨rfl, rfl⟩
    exact ⟨rfl, WPost.refl h⟩
  | true =>
    obtain ⟨h0, h1⟩ := cntB_true hn
    obtain ⟨m, rfl⟩ := Int.eq_ofNat_of_zero_le h0
    by_cases hl : v < 2 ^ m
    · simp only [putB, hn, Bool.true_and, Int.toNat_natCast, hl, decide_true, if_true]
      exact put_ok F g k N hk v hv m (by omega) hl w h
    · simp only [putB, hn, Bool.true_and, Int.toNat_natCast, hl, decide_false, Bool.false_eq_true, if_false]
      refine (put_great g v hv m (by omega) hl w).mono ?_
      rintro e w' ⟨rfl, rfl⟩
      exact ⟨rfl, WPost.refl h⟩
set_option maxHeartbeats 400000 in
theorem wlen_nil (w : World) :
    Calls Try.prog 29 #[.pointer none] w fun e w' => e = .returned (.int .i64 0) ∧ w = w' := by
  go_enter Try.func29, Try.ntmps29
  go_wp2
  go_ret
  exact ⟨rfl, rfl⟩
set_option maxHeartbeats 400000 in
theorem wlen_any (F : Nat → Prop) (g k N : Nat) (w : World) (h : WrF F w g k N) :
    Calls Try.prog 29 #[.pointer (some ⟨g, 0, none⟩)] w fun e w' => e = .returned (.int .i64 k) ∧ w = w' := by
  obtain ⟨dv, _, _, hB, _⟩ := h
  have hc0 : w.cell? ⟨g, 0, none⟩ = some (.int .i64 k) := hB.blk.cell 0
  clear hB
  go_enter Try.func29, Try.ntmps29
  go_wp2
  go_ret
  exact ⟨rfl, rfl⟩
set_option maxHeartbeats 400000 in
theorem walign_nil (w : World) :
    Calls Try.prog 23 #[.pointer none] w fun e w' => e = .returned (.tuple #[]) ∧ w = w' := by
  go_enter Try.func23, Try.ntmps23
  go_wp2
  go_returns
  exact ⟨rfl, rfl⟩
set_option maxHeartbeats 400000 in
theorem walign_any (F : Nat → Prop) (g k N : Nat) (hk : k ≤ 1125899906842592) (w : World) (h : WrF F w g k N) :
    Calls Try.prog 23 #[.pointer (some ⟨g, 0, none⟩)] w fun e w' => e = .returned (.tuple #[]) ∧ WPost F g (upK k) N w w' := by
  have hp := put_ok F g k N hk 0 (by omega) (miss k) (by have := miss_lt k; omega) (Nat.two_pow_pos _) w h
  rw [Nat.zero_mul, Nat.add_zero, show k + miss k = upK k from miss_add k] at hp
  obtain ⟨dv, _, _, hB, _⟩ := h
  have hc0 : w.cell? ⟨g, 0, none⟩ = some (.int .i64 k) := hB.blk.cell 0
  have hm := missing_any g k (by omega) w hc0
  have HM := hid hm
  have HP := hid hp
  clear hp hm hB
  go_enter Try.func23, Try.ntmps23
  go_wp2_with fail
  refine HM.out.mono ?_
  rintro e w' ⟨rfl, rfl⟩
  go_wp2_with fail
  refine HP.out.mono ?_
  rintro e w' ⟨rfl, hw⟩
  have HW := hid hw
  clear hw
  go_wp2
  go_returns
  exact ⟨rfl, HW.out⟩
/-- Nothing was written yet. -/
theorem WrF.fresh {w : World} {g : Nat} (h : Has w g 43 #[.int .i64 0, .slice none 0 0, .int .u8 0]) : WrF (· = g) w g 0 0 :=
  ⟨.slice none 0 0, rfl, fun b hb => by simp [Value.ownBlock] at hb, ⟨h, rfl, .inl ⟨rfl, rfl⟩⟩, by simp, fun i hi => by rw [hi]; exact h.lt⟩
end Go.Proofs.Ytfmilakgpocnnaa
