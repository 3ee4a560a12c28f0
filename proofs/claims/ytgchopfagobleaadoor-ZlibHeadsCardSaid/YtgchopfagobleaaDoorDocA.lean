import Derived.Test.YtgchopfagobleaaDoorBitR0
import Derived.Test.YtgchopfagobleaaDoorBitRB
import Derived.Test.YtgchopfagobleaaDoorHufI
import Derived.Test.YtgchopfagobleaaDoorHufG
import Derived.Test.YtgchopfagobleaaDoorHufS
import Derived.Laws.ShiftsVarLaws
import Derived.IntWalk
import Derived.Test.YtgchopfagobleaaDoorInfD
import Derived.Test.YtgchopfagobleaaDoorInfI
import Derived.Laws.MakeOwn
import Derived.Test.YtgchopfagobleaaDoorInfK
/- What the document's reader returns, and what it leaves: the same as bits's (contracts of the functions). -/
namespace Go.Proofs.YtgchopfagobleaaDoor
open Go.RowKit
set_option linter.unusedVariables false

/-- The document's reader in memory. -/
def Rx (w : World) (g : Nat) (s : ByteArray) (k : Nat) : Prop := Has w g 43 #[.string s, .int .i64 k]
theorem Rx.set {w : World} {g : Nat} {s : ByteArray} {k : Nat} (h : Rx w g s k) (m : Nat) : Rx (w.setCell ⟨g, 1, none⟩ (.int .i64 m)) g s m := by
  have := Has.put h 1 (.int .i64 m)
  unfold Rx
  simpa using this
theorem refbit (s : ByteArray) (p : Nat) (h : p / 8 < s.size) : ((s[p / 8].toNat : Int) / 2 ^ (p % 8)) % 2 = (bv s p 1 : Nat) := by
  have e : ((s[p / 8].toNat : Int) / 2 ^ (p % 8)) % 2 = ((s[p / 8].toNat / 2 ^ (p % 8) % 2 : Nat) : Int) := by simp
  rw [e, bv_bit s p h]
theorem refadd (s : ByteArray) (k j p : Nat) (hp : k + j = p) (h : p / 8 < s.size) (hj : j < 32) :
    ((bv s k j : Nat) + ((s[p / 8].toNat : Int) / 2 ^ (p % 8)).tmod 2 * 2 ^ j % 4294967296) % 4294967296 = (bv s k (j + 1) : Nat) := by
  have h0 : (0 : Int) ≤ (s[p / 8].toNat : Int) / 2 ^ (p % 8) := Int.ediv_nonneg (by omega) (Int.le_of_lt (Int.pow_pos (by decide)))
  rw [Int.tmod_eq_emod_of_nonneg h0, refbit s p h]
  have e : ((bv s p 1 : Nat) : Int) * 2 ^ j = ((2 ^ j * bv s p 1 : Nat) : Int) := by rw [Nat.mul_comm]; simp
  rw [e, bv_add s k j 1, hp]
  have h1 := bv_lt32 s k (j + 1) (by omega)
  rw [bv_add s k j 1, hp] at h1
  omega
set_option maxRecDepth 100000 in
set_option maxHeartbeats 1000000 in
theorem refbits_ok (g : Nat) (s : ByteArray) (hs : s.size ≤ 281474976710656) (k n : Nat) (hn : n ≤ 32) (hk : k + n ≤ 8 * s.size) (w : World) (h : Rx w g s k) :
    Calls Tryd.prog 41 #[.pointer (some ⟨g, 0, none⟩), .int .i64 n] w fun e w' => e = .returned (.tuple #[.int .u32 (bv s k n : Nat), .int .i64 0]) ∧ Rx w' g s (k + n) ∧ Keeps (· = g) w w' := by
  have hc0 : w.cell? ⟨g, 0, none⟩ = some (.string s) := h.cell 0
  have hc1 : w.cell? ⟨g, 1, none⟩ = some (.int .i64 k) := h.cell 1
  have HH := hid h
  clear h
  go_enter Tryd.func41, Tryd.ntmps41
  go_wp2_with fail
  go_quiet (fail)
  have d0 : (w.drewN nq).cell? ⟨g, 0, none⟩ = some (.string s) := by simpa using hc0
  have d1 : (w.drewN nq).cell? ⟨g, 1, none⟩ = some (.int .i64 k) := by simpa using hc1
  have hK : Keeps (· = g) w (w.drewN nq) := (Keeps.refl (· = g) w).drewN nq
  have H1 := hid (show Rx (w.drewN nq) g s k from HH.out.drewN nq)
  have f1 : (w.drewN nq).frozen? ⟨g, 1, none⟩ = false := H1.out.frozen 1
  clear HH hc0 hc1
  generalize w.drewN nq = w1 at *
  go_wp2_with fail
  go_loop [6, 7] (fun v i => ∃ j : Nat, j ≤ n ∧ i = .int .i64 j ∧ v = .int .u32 (bv s k j : Nat)) (fun _ i => n - (intOf i).toNat)
  case atStart => exact ⟨0, Nat.zero_le _, rfl, by rw [bv_zero]; rfl⟩
  case round =>
    obtain ⟨j, hj, rfl, rfl⟩ := hrel
    by_cases hlt : j < n
    · obtain ⟨p, hp⟩ : ∃ p, k + j = p := ⟨_, rfl⟩
      have hx : p / 8 < s.size := by omega
      have hv := bv_lt32 s k j (by omega)
      have hsx : s[p / 8].toNat < 256 := s[p / 8].toNat_lt
      have e1 : IntKind.i64.wrap ((k : Int) + j) = (p : Int) := by subst hp; rw [IntWalk.i64_in _ (by omega)]; omega
      have e2 : (k : Int) + j = p := by omega
      have HP := hid hp
      clear hp
      go_wp2
      go_round
      case rel => exact ⟨j + 1, by omega, by go_num, by rw [refadd s k j p HP.out hx (by omega)]⟩
      case measure => simp [intOf]; omega
    · obtain rfl : n = j := by omega
      go_wp2
      go_returns
      refine ⟨rfl, ?_, hK.setCell (p := ⟨g, 1, none⟩) (.inl rfl) _⟩
      have := H1.out.set (k + n)
      simpa using this
def RefBitsPost (g : Nat) (s : ByteArray) (k : Nat) (n : Int) (w : World) (e : Ending) (w' : World) : Prop :=
  e = .returned (.tuple #[.int .u32 (bitsV s k n : Nat), .int .i64 (bitsE s k n)]) ∧ Rx w' g s (bitsK s k n) ∧ Keeps (· = g) w w'
set_option maxHeartbeats 400000 in
theorem refbits_bad (g : Nat) (n : Int) (hn : n < 0 ∨ 32 < n) (w : World) :
    Calls Tryd.prog 41 #[.pointer (some ⟨g, 0, none⟩), .int .i64 n] w fun e w' => e = .returned (.tuple #[.int .u32 0, .int .i64 1]) ∧ w = w' := by
  by_cases h : n < 0
  · clear hn
    go_enter Tryd.func41, Tryd.ntmps41
    go_wp2
    go_returns
    exact ⟨rfl, rfl⟩
  · have h2 : 32 < n := by omega
    clear hn
    go_enter Tryd.func41, Tryd.ntmps41
    go_wp2
    go_returns
    exact ⟨rfl, rfl⟩
set_option maxHeartbeats 400000 in
theorem refbits_few (g : Nat) (s : ByteArray) (hs : s.size ≤ 281474976710656) (k : Nat) (hk8 : k ≤ 8 * s.size) (n : Int) (hn0 : 0 ≤ n) (hn1 : n ≤ 32) (hk : ¬ n ≤ 8 * (s.size : Int) - k) (w : World) (h : Rx w g s k) :
    Calls Tryd.prog 41 #[.pointer (some ⟨g, 0, none⟩), .int .i64 n] w fun e w' => e = .returned (.tuple #[.int .u32 0, .int .i64 2]) ∧ ∃ z, w' = w.drewN z := by
  have hc0 : w.cell? ⟨g, 0, none⟩ = some (.string s) := h.cell 0
  have hc1 : w.cell? ⟨g, 1, none⟩ = some (.int .i64 k) := h.cell 1
  clear h
  go_enter Tryd.func41, Tryd.ntmps41
  go_wp2_with fail
  go_quiet (fail)
  go_wp2
  go_returns
  exact ⟨rfl, nq, rfl⟩
theorem refbits_any (g : Nat) (s : ByteArray) (hs : s.size ≤ 281474976710656) (k : Nat) (hk : k ≤ 8 * s.size) (n : Int) (w : World) (h : Rx w g s k) :
    Calls Tryd.prog 41 #[.pointer (some ⟨g, 0, none⟩), .int .i64 n] w (RefBitsPost g s k n w) := by
  unfold RefBitsPost
  cases hn : cntB n with
  | false =>
    obtain ⟨e1, e2, e3⟩ := bits_range hn s k
    rw [e1, e2, e3]
    refine (refbits_bad g n (cntB_false hn) w).mono ?_
    rintro e w' ⟨rfl, rfl⟩
    exact ⟨rfl, h, Keeps.refl _ _⟩
  | true =>
    obtain ⟨h0, h1⟩ := cntB_true hn
    by_cases hl : n ≤ 8 * (s.size : Int) - k
    · obtain ⟨m, rfl⟩ := Int.eq_ofNat_of_zero_le h0
      obtain ⟨e1, e2, e3⟩ := bits_good m (by omega) s k (by omega)
      rw [e1, e2, e3]
      exact refbits_ok g s hs k m (by omega) (by omega) w h
    · obtain ⟨e1, e2, e3⟩ := bits_short hn s k hl
      rw [e1, e2, e3]
      refine (refbits_few g s hs k hk n h0 h1 hl w h).mono ?_
      rintro e w' ⟨rfl, z, rfl⟩
      exact ⟨rfl, h.drewN z, (Keeps.refl _ _).drewN z⟩
end Go.Proofs.YtgchopfagobleaaDoor
/- What the document's reader's Align returns (contract of the function). -/
namespace Go.Proofs.YtgchopfagobleaaDoor
open Go.RowKit
set_option linter.unusedVariables false
set_option maxHeartbeats 1000000 in
theorem refralign_any (g : Nat) (s : ByteArray) (hs : s.size ≤ 281474976710656) (k : Nat) (hk : k ≤ 8 * s.size) (w : World) (h : Rx w g s k) :
    Calls Tryd.prog 63 #[.pointer (some ⟨g, 0, none⟩)] w fun e w' => e = .returned (.tuple #[]) ∧ Rx w' g s (upK k) ∧ Keeps (· = g) w w' := by
  have hu := upK_le k s.size hk
  have hu2 : k ≤ upK k := by unfold upK; omega
  have HU : Hid (upK k = (k + 7) / 8 * 8) := hid rfl
  have HH := hid h
  clear h
  generalize upK k = u at *
  go_enter Tryd.func63, Tryd.ntmps63
  go_wp2
  go_loopw [] (fun wr => ∃ j : Nat, k ≤ j ∧ j ≤ u ∧ Rx wr g s j ∧ Keeps (· = g) w wr) (fun wr => u - (intOf ((wr.cell? ⟨g, 1, none⟩).getD undef)).toNat)
  case atStart => exact ⟨k, by omega, by omega, HH.out, Keeps.refl _ _⟩
  case round =>
    rename_i wr
    obtain ⟨j, h1, h2, hR, hK⟩ := hrel
    have d1 : wr.cell? ⟨g, 1, none⟩ = some (.int .i64 j) := hR.cell 1
    have f1 : wr.frozen? ⟨g, 1, none⟩ = false := hR.frozen 1
    have H1 := hid hR
    clear hR
    by_cases hj : j % 8 = 0
    · have HJ : u = j := by have := HU.out; omega
      have e1 : ((j : Int) % 8 != 0) = false := by simp; omega
      have e2 : ((j : Int) % 8 == 0) = true := by simp; omega
      have HJ := hid HJ
      clear hj
      go_wp2
      go_returns
      exact ⟨rfl, by rw [HJ.out]; exact H1.out, hK⟩
    · have HJ : j < u := by have := HU.out; omega
      have e1 : ((j : Int) % 8 != 0) = true := by simp; omega
      have e2 : ((j : Int) % 8 == 0) = false := by simp; omega
      clear hj
      have hs1 : Rx (wr.setCell ⟨g, 1, none⟩ (.int .i64 (j + 1))) g s (j + 1) := by simpa using H1.out.set (j + 1)
      have hc1 : (wr.setCell ⟨g, 1, none⟩ (.int .i64 (j + 1))).cell? ⟨g, 1, none⟩ = some (.int .i64 (j + 1)) := by simpa using hs1.cell 1
      have HS := hid hs1
      have HC := hid hc1
      have HD := hid d1
      clear hs1 hc1
      go_wp2
      go_roundw
      case rel => exact ⟨j + 1, by omega, by omega, HS.out, hK.setCell (p := ⟨g, 1, none⟩) (.inl rfl) _⟩
      case measure => rw [HC.out, HD.out]; simp [intOf]; omega
end Go.Proofs.YtgchopfagobleaaDoor
/- What Bytes of the document's reader returns, and what it leaves (contracts of the function). -/
namespace Go.Proofs.YtgchopfagobleaaDoor
open Go.RowKit
set_option linter.unusedVariables false

def RefBytesPost (g : Nat) (s : ByteArray) (k : Nat) (n : Int) (w : World) (e : Ending) (w' : World) : Prop :=
  e = .returned (.tuple #[.string (rbytesV s k n), .int .i64 (rbytesE s k n)]) ∧ Rx w' g s (rbytesK s k n) ∧ Keeps (· = g) w w'
set_option maxHeartbeats 400000 in
theorem refbytes_bad (g : Nat) (n : Int) (hn : n < 0) (w : World) :
    Calls Tryd.prog 42 #[.pointer (some ⟨g, 0, none⟩), .int .i64 n] w fun e w' => e = .returned (.tuple #[.string ⟨#[]⟩, .int .i64 1]) ∧ w = w' := by
  go_enter Tryd.func42, Tryd.ntmps42
  go_wp2
  go_returns
  exact ⟨rfl, rfl⟩
set_option maxRecDepth 100000 in
set_option maxHeartbeats 1000000 in
theorem refbytes_few (g : Nat) (s : ByteArray) (hs : s.size ≤ 281474976710656) (k : Nat) (hk : k ≤ 8 * s.size) (q : Nat) (hq : Hid (upK k / 8 = q)) (n : Int) (hn0 : 0 ≤ n) (hn : (s.size : Int) - q < n) (w : World) (h : Rx w g s k) :
    Calls Tryd.prog 42 #[.pointer (some ⟨g, 0, none⟩), .int .i64 n] w fun e w' => e = .returned (.tuple #[.string ⟨#[]⟩, .int .i64 2]) ∧ Rx w' g s (upK k) ∧ Keeps (· = g) w w' := by
  have HH := hid h
  clear h
  have hu := upK_le k s.size hk
  have hq2 : upK k = 8 * q := by have := upK_8 k; rw [hq.out] at this; exact this
  have hq1 : q ≤ s.size := by omega
  have hal := refralign_any g s hs k hk w HH.out
  rw [hq2] at hal ⊢
  have HAL := hid hal
  clear hal hq2 hu
  go_enter Tryd.func42, Tryd.ntmps42
  go_wp2_with fail
  refine HAL.out.mono ?_
  rintro e w1 ⟨rfl, h1, hK⟩
  have d0 : w1.cell? ⟨g, 0, none⟩ = some (.string s) := h1.cell 0
  have d1 : w1.cell? ⟨g, 1, none⟩ = some (.int .i64 (8 * q)) := by simpa using h1.cell 1
  have H1 := hid h1
  clear h1
  have e8 : (8 * (q : Int)) / 8 = q := by omega
  go_wp2
  go_returns
  exact ⟨rfl, H1.out, hK⟩
set_option maxRecDepth 100000 in
set_option maxHeartbeats 1000000 in
theorem refbytes_ok (g : Nat) (s : ByteArray) (hs : s.size ≤ 281474976710656) (k : Nat) (hk : k ≤ 8 * s.size) (q : Nat) (hq : Hid (upK k / 8 = q)) (n : Nat) (hn : q + n ≤ s.size) (w : World) (h : Rx w g s k) :
    Calls Tryd.prog 42 #[.pointer (some ⟨g, 0, none⟩), .int .i64 n] w fun e w' => e = .returned (.tuple #[.string (s.extract q (q + n)), .int .i64 0]) ∧ Rx w' g s (upK k + 8 * n) ∧ Keeps (· = g) w w' := by
  have HH := hid h
  clear h
  have hu := upK_le k s.size hk
  have hq2 : upK k = 8 * q := by have := upK_8 k; rw [hq.out] at this; exact this
  have hal := refralign_any g s hs k hk w HH.out
  rw [hq2] at hal ⊢
  have HAL := hid hal
  clear hal hq2 hu
  go_enter Tryd.func42, Tryd.ntmps42
  go_wp2_with fail
  refine HAL.out.mono ?_
  rintro e w1 ⟨rfl, h1, hK⟩
  have d0 : w1.cell? ⟨g, 0, none⟩ = some (.string s) := h1.cell 0
  have d1 : w1.cell? ⟨g, 1, none⟩ = some (.int .i64 (8 * q)) := by simpa using h1.cell 1
  have f1 : w1.frozen? ⟨g, 1, none⟩ = false := h1.frozen 1
  have hset : Rx (w1.setCell ⟨g, 1, none⟩ (.int .i64 (8 * q + 8 * n))) g s (8 * q + 8 * n) := by simpa using h1.set (8 * q + 8 * n)
  have hd : (w1.setCell ⟨g, 1, none⟩ (.int .i64 (8 * q + 8 * n))).cell? ⟨g, 0, none⟩ = some (.string s) := hset.cell 0
  have H1 := hid hset
  clear h1 hset
  have e8 : (8 * (q : Int)) / 8 = q := by omega
  go_wp2
  go_returns
  exact ⟨rfl, H1.out, hK.setCell (p := ⟨g, 1, none⟩) (.inl rfl) _⟩
theorem refbytes_any (g : Nat) (s : ByteArray) (hs : s.size ≤ 281474976710656) (k : Nat) (hk : k ≤ 8 * s.size) (n : Int) (w : World) (h : Rx w g s k) :
    Calls Tryd.prog 42 #[.pointer (some ⟨g, 0, none⟩), .int .i64 n] w (RefBytesPost g s k n w) := by
  unfold RefBytesPost
  by_cases hn : n < 0
  · obtain ⟨e1, e2, e3⟩ := rbytes_neg hn s k
    rw [e1, e2, e3]
    refine (refbytes_bad g n hn w).mono ?_
    rintro e w' ⟨rfl, rfl⟩
    exact ⟨rfl, h, Keeps.refl _ _⟩
  · obtain ⟨q, hq⟩ : ∃ q, upK k / 8 = q := ⟨_, rfl⟩
    by_cases hl : (s.size : Int) - q < n
    · obtain ⟨e1, e2, e3⟩ := rbytes_short (by omega) s k q hq hl
      rw [e1, e2, e3]
      exact refbytes_few g s hs k hk q hq n (by omega) hl w h
    · obtain ⟨m, rfl⟩ := Int.eq_ofNat_of_zero_le (show 0 ≤ n by omega)
      have hq3 : q + m ≤ s.size := by omega
      obtain ⟨e1, e2, e3⟩ := rbytes_good m s k q hq hq3
      rw [e1, e2, e3]
      exact refbytes_ok g s hs k hk q hq m hq3 w h
end Go.Proofs.YtgchopfagobleaaDoor
/- The document's Check (contract of the function). -/
namespace Go.Proofs.YtgchopfagobleaaDoor
open Go.RowKit
set_option linter.unusedVariables false
set_option maxRecDepth 100000 in
set_option maxHeartbeats 4000000 in
theorem rcheck_big (a : Option Addr) (len cap : Nat) (hb : 320 < len) (w : World) :
    Calls Tryd.prog 64 #[.slice a len cap] w fun e w' => e = .returned (.int .i64 1) ∧ Bw w w' := by
  have h1 : (320 : Int) < len := by omega
  have HW := hid (Bw.refl w)
  go_enter Tryd.func64, Tryd.ntmps64
  go_wp2
  go_returns
  exact ⟨rfl, HW.out⟩
set_option maxRecDepth 100000 in
set_option maxHeartbeats 4000000 in
theorem rcheck_small (a : Option Addr) (len cap : Nat) (hb : len ≤ 320) (l : List Int) (hll : Hid (l.length = len)) (w : World) (hst : ZsAt w a l) :
    Calls Tryd.prog 64 #[.slice a len cap] w fun e w' => e = .returned (.int .i64 (checkE l)) ∧ Bw w w' := by
  have h1 : ¬ (320 : Int) < len := by omega
  have HW := hid (Bw.refl w)
  have HST := hid hst
  clear hst
  go_enter Tryd.func64, Tryd.ntmps64
  go_wp2_with fail
  go_loopw [3, 4, 5, 6] (fun sv nv lv i wr => ∃ k s n last : Nat, k ≤ len ∧ i = .int .i64 k ∧ sv = .int .i64 s ∧ nv = .int .i64 n ∧ lv = .int .i64 last ∧ ChkAt (l.take k) s n last ∧ n ≤ k ∧ (∀ x ∈ l.take k, lenB x = true) ∧ Bw w wr) (fun _ _ _ i _ => len - (intOf i).toNat)
  case atStart => exact ⟨0, 0, 0, 0, Nat.zero_le _, rfl, rfl, rfl, rfl, by rw [List.take_zero]; exact chk_nil, Nat.le_refl _, (fun x hx => by rw [List.take_zero] at hx; cases hx), HW.out⟩
  case round =>
    obtain ⟨k, s, n, last, hk, rfl, rfl, rfl, rfl, hc, hnk, hall, hbw⟩ := hrel
    have HB := hid hbw
    have HC := hid hc
    have HALL := hid hall
    have hsb : s ≤ 167772160 := by
      have h1 := hc.sum
      have h2 := kraftS_le (l.take k) (by have := List.length_take_le k l; omega) 16
      omega
    clear hall hc
    by_cases hlt : k < len
    · have hlti : (k : Int) < len := by omega
      have hkl : k < l.length := by rw [hll.out]; omega
      obtain ⟨b, off, rfl, hbl, q0⟩ := HST.out k hkl
      have x0 : wr.cell? ⟨b, off + k, none⟩ = some (.int .i64 l[k]) := (World.cell?_of_block (hbw.block b hbl)).trans q0
      have TS := hid (List.take_succ_eq_append_getElem hkl)
      have HM := hid (List.getElem_mem hkl)
      clear q0 hbw
      generalize l[k] = x at *
      by_cases hx : lenB x = true
      · obtain ⟨hx1, hx2⟩ := of_decide_eq_true hx
        have HA2 := hid (show ∀ y ∈ l.take (k + 1), lenB y = true from fun y hy => by
          rw [TS.out, List.mem_append] at hy
          rcases hy with hy | hy
          · exact HALL.out y hy
          · rw [List.mem_singleton] at hy; subst hy; exact hx)
        clear hx
        have hor : x = 0 ∨ x = 1 ∨ x = 2 ∨ x = 3 ∨ x = 4 ∨ x = 5 ∨ x = 6 ∨ x = 7 ∨ x = 8 ∨ x = 9 ∨ x = 10 ∨ x = 11 ∨ x = 12 ∨ x = 13 ∨ x = 14 ∨ x = 15 := by omega
        rcases hor with rfl | rfl | rfl | rfl | rfl | rfl | rfl | rfl | rfl | rfl | rfl | rfl | rfl | rfl | rfl | rfl
        · go_wp2
          go_roundw
          case rel => exact ⟨k + 1, s, n, last, by omega, by go_num, rfl, rfl, rfl, by rw [TS.out]; exact chk_zero HC.out, by omega, HA2.out, HB.out⟩
          case measure => simp [intOf]; omega
        · have HP := hid (chk_put HC.out 1 (by omega) (by omega))
          go_wp2
          refine ⟨⟨k + 1, s + 16384, n + 1, 1, by omega, by go_num, by go_num, by go_num, rfl, by rw [TS.out]; exact HP.out, by omega, HA2.out, HB.out⟩, by simp [intOf]; omega⟩
        · have HP := hid (chk_put HC.out 2 (by omega) (by omega))
          go_wp2
          refine ⟨⟨k + 1, s + 8192, n + 1, 2, by omega, by go_num, by go_num, by go_num, rfl, by rw [TS.out]; exact HP.out, by omega, HA2.out, HB.out⟩, by simp [intOf]; omega⟩
        · have HP := hid (chk_put HC.out 3 (by omega) (by omega))
          go_wp2
          refine ⟨⟨k + 1, s + 4096, n + 1, 3, by omega, by go_num, by go_num, by go_num, rfl, by rw [TS.out]; exact HP.out, by omega, HA2.out, HB.out⟩, by simp [intOf]; omega⟩
        · have HP := hid (chk_put HC.out 4 (by omega) (by omega))
          go_wp2
          refine ⟨⟨k + 1, s + 2048, n + 1, 4, by omega, by go_num, by go_num, by go_num, rfl, by rw [TS.out]; exact HP.out, by omega, HA2.out, HB.out⟩, by simp [intOf]; omega⟩
        · have HP := hid (chk_put HC.out 5 (by omega) (by omega))
          go_wp2
          refine ⟨⟨k + 1, s + 1024, n + 1, 5, by omega, by go_num, by go_num, by go_num, rfl, by rw [TS.out]; exact HP.out, by omega, HA2.out, HB.out⟩, by simp [intOf]; omega⟩
        · have HP := hid (chk_put HC.out 6 (by omega) (by omega))
          go_wp2
          refine ⟨⟨k + 1, s + 512, n + 1, 6, by omega, by go_num, by go_num, by go_num, rfl, by rw [TS.out]; exact HP.out, by omega, HA2.out, HB.out⟩, by simp [intOf]; omega⟩
        · have HP := hid (chk_put HC.out 7 (by omega) (by omega))
          go_wp2
          refine ⟨⟨k + 1, s + 256, n + 1, 7, by omega, by go_num, by go_num, by go_num, rfl, by rw [TS.out]; exact HP.out, by omega, HA2.out, HB.out⟩, by simp [intOf]; omega⟩
        · have HP := hid (chk_put HC.out 8 (by omega) (by omega))
          go_wp2
          refine ⟨⟨k + 1, s + 128, n + 1, 8, by omega, by go_num, by go_num, by go_num, rfl, by rw [TS.out]; exact HP.out, by omega, HA2.out, HB.out⟩, by simp [intOf]; omega⟩
        · have HP := hid (chk_put HC.out 9 (by omega) (by omega))
          go_wp2
          refine ⟨⟨k + 1, s + 64, n + 1, 9, by omega, by go_num, by go_num, by go_num, rfl, by rw [TS.out]; exact HP.out, by omega, HA2.out, HB.out⟩, by simp [intOf]; omega⟩
        · have HP := hid (chk_put HC.out 10 (by omega) (by omega))
          go_wp2
          refine ⟨⟨k + 1, s + 32, n + 1, 10, by omega, by go_num, by go_num, by go_num, rfl, by rw [TS.out]; exact HP.out, by omega, HA2.out, HB.out⟩, by simp [intOf]; omega⟩
        · have HP := hid (chk_put HC.out 11 (by omega) (by omega))
          go_wp2
          refine ⟨⟨k + 1, s + 16, n + 1, 11, by omega, by go_num, by go_num, by go_num, rfl, by rw [TS.out]; exact HP.out, by omega, HA2.out, HB.out⟩, by simp [intOf]; omega⟩
        · have HP := hid (chk_put HC.out 12 (by omega) (by omega))
          go_wp2
          refine ⟨⟨k + 1, s + 8, n + 1, 12, by omega, by go_num, by go_num, by go_num, rfl, by rw [TS.out]; exact HP.out, by omega, HA2.out, HB.out⟩, by simp [intOf]; omega⟩
        · have HP := hid (chk_put HC.out 13 (by omega) (by omega))
          go_wp2
          refine ⟨⟨k + 1, s + 4, n + 1, 13, by omega, by go_num, by go_num, by go_num, rfl, by rw [TS.out]; exact HP.out, by omega, HA2.out, HB.out⟩, by simp [intOf]; omega⟩
        · have HP := hid (chk_put HC.out 14 (by omega) (by omega))
          go_wp2
          refine ⟨⟨k + 1, s + 2, n + 1, 14, by omega, by go_num, by go_num, by go_num, rfl, by rw [TS.out]; exact HP.out, by omega, HA2.out, HB.out⟩, by simp [intOf]; omega⟩
        · have HP := hid (chk_put HC.out 15 (by omega) (by omega))
          go_wp2
          refine ⟨⟨k + 1, s + 1, n + 1, 15, by omega, by go_num, by go_num, by go_num, rfl, by rw [TS.out]; exact HP.out, by omega, HA2.out, HB.out⟩, by simp [intOf]; omega⟩
      · have hce : checkE l = 1 := by
          unfold checkE okLens
          rw [show l.all lenB = false from by
            rw [← Bool.not_eq_true, List.all_eq_true]
            exact fun a => hx (a x HM.out)]
          simp
        have HCE := hid hce
        have hx3 : x < 0 ∨ (¬ x < 0 ∧ 15 < x) := by
          unfold lenB at hx
          simp at hx
          omega
        clear hx hce
        rcases hx3 with hx3 | ⟨hx3, hx4⟩
        · go_wp2
          go_returns
          exact ⟨by rw [HCE.out]; rfl, HB.out⟩
        · go_wp2
          go_returns
          exact ⟨by rw [HCE.out]; rfl, HB.out⟩
    · obtain rfl : k = len := by omega
      rw [List.take_of_length_le (by rw [hll.out]; omega)] at HC HALL
      have hcc := chk_code HC.out
      have hok : okLens l = true := by
        unfold okLens
        rw [decide_eq_true (by rw [hll.out]; omega), Bool.true_and, List.all_eq_true]
        exact HALL.out
      have hce : checkE l = if codeB l then 0 else 3 := by unfold checkE; rw [hok, if_pos rfl]
      rw [hcc] at hce
      have HCE := hid hce
      clear hce hok hcc
      by_cases n0 : n = 0
      · subst n0
        have HE := hid (HCE.out.trans (by simp) : checkE l = 0)
        go_wp2
        go_returns
        exact ⟨by rw [HE.out]; rfl, HB.out⟩
      · have n0i : ¬ (n : Int) = 0 := by omega
        by_cases n1 : n = 1
        · subst n1
          by_cases l1 : last = 1
          · subst l1
            have HE := hid (HCE.out.trans (by simp) : checkE l = 0)
            go_wp2
            go_returns
            exact ⟨by rw [HE.out]; rfl, HB.out⟩
          · have l1i : ¬ (last : Int) = 1 := by omega
            by_cases s1 : s = 32768
            · subst s1
              have HE := hid (HCE.out.trans (by simp) : checkE l = 0)
              go_wp2
              go_returns
              exact ⟨by rw [HE.out]; rfl, HB.out⟩
            · have s1i : ¬ (s : Int) = 32768 := by omega
              have HE := hid (HCE.out.trans (by simp [l1, s1]) : checkE l = 3)
              go_wp2
              · rename_i h
                exfalso
                rcases h with h | h <;> (have := eq_of_beq h; omega)
              · go_returns
                exact ⟨by rw [HE.out]; rfl, HB.out⟩
        · have n1i : ¬ (n : Int) = 1 := by omega
          by_cases s1 : s = 32768
          · subst s1
            have HE := hid (HCE.out.trans (by simp) : checkE l = 0)
            go_wp2
            go_returns
            exact ⟨by rw [HE.out]; rfl, HB.out⟩
          · have s1i : ¬ (s : Int) = 32768 := by omega
            have HE := hid (HCE.out.trans (by simp [n0, n1, s1]) : checkE l = 3)
            go_wp2
            · rename_i h
              exfalso
              rcases h with h | h <;> (have := eq_of_beq h; omega)
            · go_returns
              exact ⟨by rw [HE.out]; rfl, HB.out⟩
theorem rcheck_any (a : Option Addr) (len cap : Nat) (l : List Int) (hll : Hid (l.length = len)) (w : World) (hst : ZsAt w a l) :
    Calls Tryd.prog 64 #[.slice a len cap] w fun e w' => e = .returned (.int .i64 (checkE l)) ∧ Bw w w' := by
  by_cases hb : 320 < len
  · have hok : okLens l = false := by unfold okLens; rw [decide_eq_false (by rw [hll.out]; omega)]; rfl
    have e2 : checkE l = 1 := by unfold checkE; rw [hok]; rfl
    rw [e2]
    exact rcheck_big a len cap hb w
  · exact rcheck_small a len cap (by omega) l hll w hst
end Go.Proofs.YtgchopfagobleaaDoor
/- The document's Codes (contract of the function). -/
namespace Go.Proofs.YtgchopfagobleaaDoor
open Go.RowKit
set_option linter.unusedVariables false
/-- What the document's Codes has stored at j: all of the lengths below L, and those of L ahead of i. -/
def oVal (l : List Int) (L i j : Nat) : Nat := if l.getD j 0 < L ∨ (l.getD j 0 = L ∧ j < i) then codeF l j else 0
def oArr (l : List Int) (len L i : Nat) : Array Value := ((List.range len).map fun j => Value.int .i64 (oVal l L i j : Nat)).toArray
theorem tal_other (p : List Int) (x : Int) (L : Nat) (h : ¬ x = (L : Int)) : tal (p ++ [x]) L = tal p L := by
  unfold tal
  by_cases h0 : L = 0
  · rw [if_pos h0, if_pos h0]
  · rw [if_neg h0, if_neg h0, List.count_append]
    simp [h]
theorem oArr_get (l : List Int) (len L i j : Nat) (h : j < len) : (oArr l len L i)[j]? = some (.int .i64 (oVal l L i j : Nat)) := by simp [oArr, h]
theorem oArr_congr (l : List Int) (len L i L' i' : Nat) (h : ∀ j, j < len → oVal l L i j = oVal l L' i' j) : oArr l len L i = oArr l len L' i' := by
  apply Array.ext_getElem?
  intro j
  by_cases hj : j < len
  · rw [oArr_get l len L i j hj, oArr_get l len L' i' j hj, h j hj]
  · rw [Array.getElem?_eq_none (by simp [oArr]; omega), Array.getElem?_eq_none (by simp [oArr]; omega)]
theorem oArr_next (l : List Int) (len L : Nat) : oArr l len L len = oArr l len (L + 1) 0 := oArr_congr _ _ _ _ _ _ fun j hj => by
  unfold oVal
  by_cases h : l.getD j 0 < L ∨ (l.getD j 0 = L ∧ j < len)
  · rw [if_pos h, if_pos (by omega)]
  · rw [if_neg h, if_neg (by omega)]
theorem oArr_skip (l : List Int) (len L i : Nat) (h : ¬ l.getD i 0 = L) : oArr l len L (i + 1) = oArr l len L i := oArr_congr _ _ _ _ _ _ fun j hj => by
  unfold oVal
  by_cases e : j = i
  · subst e
    by_cases h2 : l.getD j 0 < L
    · rw [if_pos (Or.inl h2), if_pos (Or.inl h2)]
    · rw [if_neg (by omega), if_neg (by omega)]
  · by_cases h2 : l.getD j 0 < L ∨ (l.getD j 0 = L ∧ j < i)
    · rw [if_pos h2, if_pos (by omega)]
    · rw [if_neg h2, if_neg (by omega)]
theorem oArr_one (l : List Int) (len : Nat) : cArr l len 0 = oArr l len 1 0 := by
  apply Array.ext_getElem?
  intro j
  by_cases hj : j < len
  · rw [cArr_get l len 0 j hj, oArr_get l len 1 0 j hj, if_neg (by omega)]
    have : oVal l 1 0 j = 0 := by
      unfold oVal
      by_cases h : l.getD j 0 < ((1 : Nat) : Int) ∨ (l.getD j 0 = ((1 : Nat) : Int) ∧ j < 0)
      · rw [if_pos h]
        unfold codeF
        by_cases h0 : l.getD j 0 = 0
        · rw [if_pos h0]
        · rw [if_neg h0, show (l.getD j 0).toNat = 0 by omega]; rfl
      · rw [if_neg h]
    rw [this]
  · rw [Array.getElem?_eq_none (by simp [cArr]; omega), Array.getElem?_eq_none (by simp [oArr]; omega)]
theorem oArr_all (l : List Int) (len : Nat) (hall : ∀ j, l.getD j 0 ≤ 15) : oArr l len 16 0 = cArr l len len := by
  apply Array.ext_getElem?
  intro j
  by_cases hj : j < len
  · rw [cArr_get l len len j hj, oArr_get l len 16 0 j hj, if_pos hj]
    have : oVal l 16 0 j = codeF l j := by
      unfold oVal
      have := hall j
      rw [if_pos (by omega)]
    rw [this]
  · rw [Array.getElem?_eq_none (by simp [oArr]; omega), Array.getElem?_eq_none (by simp [cArr]; omega)]
theorem oArr_put (l : List Int) (len L i : Nat) (hi : i < len) (hL : 0 < L) (h : l.getD i 0 = L) : (oArr l len L i).setIfInBounds i (.int .i64 (nxtC l i L : Nat)) = oArr l len L (i + 1) := by
  apply Array.ext_getElem?
  intro j
  have hsz : (oArr l len L i).size = len := by simp [oArr]
  rw [Array.getElem?_setIfInBounds, hsz]
  by_cases hj : j < len
  · rw [oArr_get l len L (i + 1) j hj]
    by_cases e : i = j
    · subst e
      rw [if_pos rfl, if_pos hi]
      have : oVal l L (i + 1) i = nxtC l i L := by
        unfold oVal codeF
        rw [if_pos (by omega), h, if_neg (by omega), Int.toNat_natCast]
      rw [this]
    · rw [if_neg e, oArr_get l len L i j hj]
      have : oVal l L (i + 1) j = oVal l L i j := by
        unfold oVal
        by_cases h2 : l.getD j 0 < L ∨ (l.getD j 0 = L ∧ j < i)
        · rw [if_pos h2, if_pos (by omega)]
        · rw [if_neg h2, if_neg (by omega)]
      rw [this]
  · have e : i ≠ j := by omega
    rw [if_neg e, Array.getElem?_eq_none (by rw [hsz]; omega), Array.getElem?_eq_none (by simp [oArr]; omega)]
set_option maxRecDepth 100000 in
set_option maxHeartbeats 4000000 in
theorem rcodes_bad (a : Option Addr) (len cap : Nat) (l : List Int) (hll : Hid (l.length = len)) (hE : checkE l ≠ 0) (w : World) (hst : ZsAt w a l) :
    Calls Tryd.prog 43 #[.slice a len cap] w fun e w' => e = .returned (.tuple #[.slice none 0 0, .int .i64 (checkE l)]) ∧ Bw w w' := by
  have HC := hid (rcheck_any a len cap l hll w hst)
  generalize checkE l = ce at *
  have hne : (ce != 0) = true := by simpa using hE
  clear hst
  go_enter Tryd.func43, Tryd.ntmps43
  go_wp2_with fail
  refine HC.out.mono ?_
  rintro e w2 ⟨rfl, hb⟩
  have HB := hid hb
  clear hb
  go_wp2
  go_returns
  exact ⟨rfl, HB.out⟩
set_option maxRecDepth 100000 in
set_option maxHeartbeats 8000000 in
theorem rcodes_ok (a : Option Addr) (len cap : Nat) (l : List Int) (hll : Hid (l.length = len)) (hE : checkE l = 0) (w : World) (hst : ZsAt w a l) :
    Calls Tryd.prog 43 #[.slice a len cap] w fun e w' => ∃ rb : Nat, e = .returned (.tuple #[.slice (some ⟨rb, 0, none⟩) len len, .int .i64 0]) ∧ w.heap.size ≤ rb ∧ Has w' rb 3 (cArr l len len) ∧ Bw w w' := by
  have HC := hid (rcheck_any a len cap l hll w hst)
  rw [hE] at HC
  have hok : okLens l = true := by
    unfold checkE at hE
    cases h : okLens l with
    | true => rfl
    | false => rw [h] at hE; cases hE
  unfold okLens at hok
  obtain ⟨h32, hall⟩ := Bool.and_eq_true_iff.1 hok
  have h320 : l.length ≤ 320 := of_decide_eq_true h32
  have hln : len ≤ 320 := by rw [← hll.out]; exact h320
  have h15 : ∀ j, l.getD j 0 ≤ 15 := fun j => by
    by_cases hj : j < l.length
    · have := of_decide_eq_true (List.all_eq_true.1 hall l[j] (List.getElem_mem hj))
      rw [show l.getD j 0 = l[j] by simp [List.getD, hj]]
      omega
    · rw [show l.getD j 0 = 0 by simp [List.getD, List.getElem?_eq_none (Nat.le_of_not_lt hj)]]; omega
  have HA15 := hid (oArr_all l len h15)
  have HST := hid hst
  have hmk := fun W => make_ints l len hln W
  clear hE hok h32 hall hst h15
  go_enter Tryd.func43, Tryd.ntmps43
  go_wp2_with fail
  refine HC.out.mono ?_
  rintro e w2 ⟨rfl, hb⟩
  have HB5 := hid (hb.alloc (.cells (cArr l len 0) 3))
  have HS2 := hid hb.size
  have HC5 := hid (Has.new w2 3 (cArr l len 0))
  clear hb
  go_wp2_with fail
  clear HC hmk
  generalize w2.alloc (.cells (cArr l len 0) 3) = W5 at *
  rw [oArr_one l len] at HC5
  generalize w2.heap.size = ob at *
  go_loopw [6, 7] (fun cv lv wr => ∃ L c : Nat, 1 ≤ L ∧ L ≤ 16 ∧ lv = .int .i64 L ∧ cv = .int .i64 c ∧ c * 2 = fstC l L ∧ Has wr ob 3 (oArr l len L 0) ∧ Bw w wr) (fun _ lv _ => 16 - (intOf lv).toNat)
  case atStart => exact ⟨1, 0, by omega, by omega, rfl, rfl, by simp [fstC, tal], HC5.out, HB5.out⟩
  case round =>
    clear HC5 HB5
    obtain ⟨L, c, hL1, hL, rfl, rfl, hcf, hh, hbw⟩ := hrel
    have HH := hid hh
    have HB := hid hbw
    have hfb := fstC_le l h320 L hL
    clear hh hbw
    by_cases hlt : L < 16
    · have hlti : (L : Int) ≤ 15 := by omega
      have HN0 := hid (show Value.int .i64 ((c : Int) * 2) = Value.int .i64 (nxtC l 0 L : Nat) by
        have : nxtC l 0 L = c * 2 := by unfold nxtC; rw [List.take_zero, tal_nil, hcf]; rfl
        rw [this]; exact congrArg _ (by omega))
      go_wp2_with fail
      go_loopw [6, 8] (fun cv iv wr => ∃ i : Nat, i ≤ len ∧ iv = .int .i64 i ∧ cv = .int .i64 (nxtC l i L : Nat) ∧ Has wr ob 3 (oArr l len L i) ∧ Bw w wr) (fun _ iv _ => len - (intOf iv).toNat)
      case atStart => exact ⟨0, Nat.zero_le _, rfl, HN0.out, HH.out, HB.out⟩
      case round =>
        clear HH HB HN0
        obtain ⟨i, hi, rfl, rfl, hh, hbw⟩ := hrel
        have HH := hid hh
        have HB := hid hbw
        by_cases hil : i < len
        · have hili : (i : Int) < len := by omega
          have hkl : i < l.length := by rw [hll.out]; omega
          have hgd : l.getD i 0 = l[i] := by simp [List.getD, hkl]
          obtain ⟨b, off, rfl, hbl, q0⟩ := HST.out i hkl
          have hts : l.take (i + 1) = l.take i ++ [l[i]] := List.take_succ_eq_append_getElem hkl
          have HTS := hid hts
          have HGD := hid hgd
          have x0 : ∀ wq, Bw w wq → wq.cell? ⟨b, off + i, none⟩ = some (.int .i64 l[i]) := fun wq h => (World.cell?_of_block (h.block b hbl)).trans q0
          have x1 := x0 _ HB.out
          clear x0 hts hgd hh hbw q0
          generalize l[i] = x at *
          have hb2 := tal_le (l.take i) L
          have hb3 : (l.take i).length ≤ i := List.length_take_le _ _
          have hbd : nxtC l i L < 4611686018427387904 := by unfold nxtC; omega
          by_cases hx : x = (L : Int)
          · subst hx
            have cf := HH.out.frozen i
            have cc : (∃ v, World.cell? _ ⟨ob, i, none⟩ = some v) := ⟨_, (HH.out.cell i).trans (oArr_get l len L i i hil)⟩
            have cc2 := (HH.out.cell i).trans (oArr_get l len L i i hil)
            have HP := hid (HH.out.put i (.int .i64 (nxtC l i L : Nat)))
            rw [oArr_put l len L i hil (by omega) HGD.out] at HP
            have HPB := hid (Below.setCell HB.out (p := ⟨ob, i, none⟩) HS2.out (.int .i64 (nxtC l i L : Nat)))
            have HNX := hid (show nxtC l (i + 1) L = nxtC l i L + 1 by
              unfold nxtC
              have := tal_snoc (l.take i) L L
              rw [if_pos ⟨rfl, by omega⟩] at this
              rw [HTS.out, this]; omega)
            clear hb2 hb3 cc
            go_wp2
            exact ⟨⟨i + 1, by omega, by go_num, by rw [HNX.out]; go_num, HP.out, HPB.out⟩, by simp [intOf]; omega⟩
          · have HSK := hid (oArr_skip l len L i (by rw [HGD.out]; exact hx))
            have hxb : (x == (L : Int)) = false := beq_eq_false_iff_ne.2 hx
            have HNX := hid (show nxtC l (i + 1) L = nxtC l i L by
              unfold nxtC
              rw [HTS.out, tal_other _ _ _ hx])
            go_wp2
            go_roundw
            case rel => exact ⟨i + 1, by omega, by go_num, by rw [HNX.out], by rw [HSK.out]; exact HH.out, HB.out⟩
            case measure => simp [intOf]; omega
        · obtain rfl : i = len := by omega
          rw [oArr_next] at HH
          have HE := hid (show nxtC l i L * 2 = fstC l (L + 1) by
            unfold nxtC
            rw [List.take_of_length_le (by rw [hll.out]; omega)]
            rfl)
          go_wp2
          exact ⟨⟨L + 1, nxtC l i L, by omega, by omega, by go_num, rfl, HE.out, HH.out, HB.out⟩, by simp [intOf]; omega⟩
    · obtain rfl : L = 16 := by omega
      rw [HA15.out] at HH
      go_wp2
      go_returns
      exact ⟨ob, rfl, HS2.out, HH.out, HB.out⟩
end Go.Proofs.YtgchopfagobleaaDoor
/- The document's Next (contract of the function). -/
namespace Go.Proofs.YtgchopfagobleaaDoor
open Go.RowKit Go.Conc
set_option linter.unusedVariables false
def RNextPost (g : Nat) (l : List Int) (s : ByteArray) (k : Nat) (w : World) (e : Ending) (w' : World) : Prop :=
  e = .returned (.tuple #[.int .i64 (nextV l s k : Nat), .int .i64 (nextE l s k)]) ∧ Rx w' g s (nextK l s k) ∧ Keeps (· = g) w w'
theorem rnext_of {l : List Int} {s : ByteArray} {k v k2 : Nat} {e : Int} (h : nextR l s k = (v, e, k2)) : nextV l s k = v ∧ nextE l s k = e ∧ nextK l s k = if e = 0 then k2 else k := by
  unfold nextK nextV nextE
  rw [h]
  exact ⟨rfl, rfl, rfl⟩
/-- Whether a path leads on to one of the first j. -/
def ndK (l : List Int) (j : Nat) (p : Path) : Bool := (List.range j).any fun i => decide (p.1 < lenF l i ∧ codeF l i / 2 ^ (lenF l i - p.1) = p.2)
theorem ndK_all (l : List Int) (p : Path) : ndK l l.length p = ndB l p := rfl
theorem ndK_snoc (l : List Int) (j : Nat) (p : Path) : ndK l (j + 1) p = (ndK l j p || decide (p.1 < lenF l j ∧ codeF l j / 2 ^ (lenF l j - p.1) = p.2)) := by
  unfold ndK
  rw [List.range_succ, List.any_append]
  simp
theorem lfK_next {l : List Int} {j : Nat} {p : Path} (h : lfK l j p = none) (hn : ¬ (0 < p.1 ∧ lenF l j = p.1 ∧ codeF l j = p.2)) : lfK l (j + 1) p = none := lfK_isnone fun i hi hx => by
  by_cases e : i = j
  · subst e; exact hn hx
  · exact lfK_none h (by omega) hx
theorem find_range_first (P : Nat → Bool) (j : Nat) (h : (List.range j).find? P = none) (hj : P j = true) : ∀ m, j < m → (List.range m).find? P = some j := by
  intro m hm
  induction m with
  | zero => omega
  | succ m ih =>
    rw [List.range_succ, List.find?_append]
    by_cases e : j = m
    · subst e
      rw [h]
      simp [hj]
    · rw [ih (by omega)]; rfl
theorem lfK_first {l : List Int} {j : Nat} {p : Path} (h : lfK l j p = none) (hn : 0 < p.1 ∧ lenF l j = p.1 ∧ codeF l j = p.2) (hj : j < l.length) : lfK l l.length p = some j :=
  find_range_first _ j h (decide_eq_true hn) _ hj
set_option maxRecDepth 100000 in
set_option maxHeartbeats 8000000 in
theorem rnext_any (a : Option Addr) (len cap rb rc g : Nat) (l : List Int) (hll : Hid (l.length = len)) (hc : IsCode l) (s : ByteArray) (hs : s.size ≤ 281474976710656) (k : Nat) (hk : k ≤ 8 * s.size) (w : World) (hst : ZsAt w a l) (hag : ∀ b off, a = some ⟨b, off, none⟩ → 0 < l.length → ¬ b = g) (hcd : Has w rb 3 (cArr l len len)) (hr : Rx w g s k) :
    Calls Tryd.prog 44 #[.slice a len cap, .slice (some ⟨rb, 0, none⟩) len rc, .pointer (some ⟨g, 0, none⟩)] w (RNextPost g l s k w) := by
  have hl320 : len ≤ 320 := by rw [← hll.out]; exact hc.few
  have hgr : rb ≠ g := fun e => by
    have h1 : w.heap[g]? = _ := hr
    have h2 : w.heap[rb]? = _ := hcd
    rw [← e, h2] at h1
    injection h1 with h1
    injection h1 with _ h1
    exact absurd h1 (by decide)
  have hga : ∀ i (h : i < l.length), ∃ b off, a = some ⟨b, off, none⟩ ∧ ¬ b = g ∧ b < w.heap.size ∧ w.cell? ⟨b, off + i, none⟩ = some (.int .i64 (lenF l i : Nat)) := fun i hi => by
    obtain ⟨b, off, e, h1, h2⟩ := hst i hi
    refine ⟨b, off, e, hag b off e (by omega), h1, ?_⟩
    rw [← (hc.len i).2]
    simpa [List.getD, hi] using h2
  have c1 : w.cell? ⟨g, 1, none⟩ = some (.int .i64 k) := hr.cell 1
  have HR := hid hr
  have HCD := hid hcd
  have HGA := hid hga
  have HC := hid hc
  clear hr hcd hga hc hst hag
  go_enter Tryd.func44, Tryd.ntmps44
  go_wp2_with fail
  clear c1
  go_loopw [9, 10] (fun v L wr => ∃ (n u k' : Nat), n ≤ 16 ∧ L = .int .i64 n ∧ v = .int .i64 u ∧ u < 2 ^ n ∧ dGo l s (16 - n) (n, u) k' = nextR l s k ∧ k' ≤ 8 * s.size ∧ Rx wr g s k' ∧ Keeps (· = g) w wr) (fun _ L _ => 16 - (intOf L).toNat)
  case atStart => exact ⟨0, 0, k, by omega, rfl, rfl, by decide, rfl, hk, HR.out, Keeps.refl _ _⟩
  case round =>
    obtain ⟨n, u, k', hn, rfl, rfl, hu, hR, hk', hrx, hkp⟩ := hrel
    have HRX := hid hrx
    have HKP := hid hkp
    have x1 : (∃ v, World.cell? _ ⟨g, 1, none⟩ = some v) := ⟨_, hrx.cell 1⟩
    have x2 := hrx.cell 1
    have xf := hrx.frozen 1
    clear hrx hkp x1
    by_cases hlt : n < 16
    · have hlti : (n : Int) ≤ 15 := by omega
      obtain ⟨f, hf⟩ : ∃ f, 16 - n = f + 1 := ⟨15 - n, by omega⟩
      rw [hf] at hR
      have hnf : n + f = 15 := by omega
      have HRR := hid hR
      have hu15 : u < 32768 := Nat.lt_of_lt_of_le hu (Nat.le_trans (Nat.pow_le_pow_right (by decide) (show n ≤ 15 by omega)) (by decide))
      have HU := hid hu
      clear hR hf hu hlt
      go_wp2_with fail
      go_loopw [11, 12] (fun bg i wq => ∃ (j : Nat), j ≤ len ∧ i = .int .i64 j ∧ bg = .bool (ndK l j (n, u)) ∧ lfK l j (n, u) = none ∧ Rx wq g s k' ∧ Keeps (· = g) w wq) (fun _ i _ => len - (intOf i).toNat)
      case atStart => exact ⟨0, Nat.zero_le _, rfl, rfl, rfl, HRX.out, HKP.out⟩
      case round =>
        obtain ⟨j, hj, rfl, rfl, hnl, hrx, hkp⟩ := hrel
        rename World => wq
        have HRQ := hid hrx
        have HKQ := hid hkp
        have q1 := hrx.cell 1
        have qf := hrx.frozen 1
        have HNL := hid hnl
        by_cases hjl : j < len
        · have hjli : (j : Int) < len := by omega
          have hjll : j < l.length := by rw [hll.out]; exact hjl
          obtain ⟨b, off, rfl, hbg, hbl, q0⟩ := HGA.out j hjll
          have y0 : wq.cell? ⟨b, off + j, none⟩ = some (.int .i64 (lenF l j : Nat)) := (World.cell?_of_block (hkp.block b hbl hbg)).trans q0
          have y1 : wq.cell? ⟨rb, j, none⟩ = some (.int .i64 (codeF l j : Nat)) := by
            have h1 := (hkp.has HCD.out hgr).cell j
            rw [cArr_get l len len j hjl, if_pos hjl] at h1
            exact h1
          have hl15 := (HC.out.len j).1
          have HSN := hid (ndK_snoc l j (n, u))
          have HCZ := hid (fun h => code_zero HC.out (i := j) h)
          have hcl : codeF l j < 32768 := by
            by_cases h0 : lenF l j = 0
            · rw [HCZ.out h0]; decide
            · exact Nat.lt_of_lt_of_le (code_lt HC.out (by omega)) (Nat.le_trans (Nat.pow_le_pow_right (by decide) hl15) (by decide))
          have HLX := hid (fun (h : ¬ (0 < n ∧ lenF l j = n ∧ codeF l j = u)) => lfK_next (p := (n, u)) HNL.out h)
          have HLF := hid (fun (h : 0 < n ∧ lenF l j = n ∧ codeF l j = u) => dGo_leaf (lfK_first (p := (n, u)) HNL.out h hjll) s f k')
          clear hrx hkp hnl q0 hjll
          generalize ndK l j (n, u) = bg at *
          generalize codeF l j = c at *
          generalize hx : lenF l j = x at *
          have HX := hid hx
          clear hx
          simp only at HSN
          rcases Nat.lt_trichotomy x n with hxn | hxn | hxn
          · have hb1 : ((x : Int) == (n : Int)) = false := beq_eq_false_iff_ne.2 (by omega)
            have hb2 : decide (n < x) = false := decide_eq_false (by omega)
            have HL1 := hid (HLX.out (by omega))
            have HS1 := hid (show ndK l (j + 1) (n, u) = bg by rw [HSN.out, decide_eq_false (by omega), Bool.or_false])
            clear hxn
            cases bg with
            | true =>
              go_wp2_with fail
              go_quiet (fail)
              go_wp2
              go_roundw
              case rel => exact ⟨j + 1, by omega, by go_num, by first | (rw [HS1.out]; done) | (rw [HS1.out]; rfl), HL1.out, HRQ.out.drewN _, HKQ.out.drewN _⟩
              case measure => simp [intOf]; omega
            | false =>
              go_wp2_with fail
              go_quiet (fail)
              go_wp2
              go_roundw
              case rel => exact ⟨j + 1, by omega, by go_num, by first | (rw [HS1.out]; done) | (rw [HS1.out]; rfl), HL1.out, HRQ.out.drewN _, HKQ.out.drewN _⟩
              case measure => simp [intOf]; omega
          · subst hxn
            have hb1 : ((x : Int) == (x : Int)) = true := beq_self_eq_true _
            have hb2 : decide (x < x) = false := decide_eq_false (by omega)
            have HS1 := hid (show ndK l (j + 1) (x, u) = bg by rw [HSN.out, decide_eq_false (by omega), Bool.or_false])
            by_cases h0 : 0 < x
            · have h0i : decide (0 < x) = true := decide_eq_true h0
              by_cases hcu : c = u
              · obtain ⟨n1, n2, n3⟩ := rnext_of (HRR.out.symm.trans (HLF.out ⟨h0, rfl, hcu⟩))
                have hb3 : ((c : Int) == (u : Int)) = true := beq_iff_eq.2 (by omega)
                have HN := hid (⟨n1, n2, n3.trans (if_pos rfl)⟩ : nextV l s k = j ∧ nextE l s k = 0 ∧ nextK l s k = k')
                clear n1 n2 n3 hcu
                go_wp2
                go_returns
                unfold RNextPost
                rw [HN.out.1, HN.out.2.1, HN.out.2.2]
                exact ⟨rfl, HRQ.out, HKQ.out⟩
              · have hb3 : ((c : Int) == (u : Int)) = false := beq_eq_false_iff_ne.2 (by omega)
                have HL1 := hid (HLX.out (fun h => hcu h.2.2))
                clear hcu
                cases bg with
                | true =>
                  go_wp2_with fail
                  go_quiet (fail)
                  go_wp2
                  go_roundw
                  case rel => exact ⟨j + 1, by omega, by go_num, by first | (rw [HS1.out]; done) | (rw [HS1.out]; rfl), HL1.out, HRQ.out.drewN _, HKQ.out.drewN _⟩
                  case measure => simp [intOf]; omega
                | false =>
                  go_wp2_with fail
                  go_quiet (fail)
                  go_wp2
                  go_roundw
                  case rel => exact ⟨j + 1, by omega, by go_num, by first | (rw [HS1.out]; done) | (rw [HS1.out]; rfl), HL1.out, HRQ.out.drewN _, HKQ.out.drewN _⟩
                  case measure => simp [intOf]; omega
            · have hx0 : x ≤ 0 := by omega
              have h0i : decide (0 < x) = false := decide_eq_false h0
              have HL1 := hid (HLX.out (fun h => h0 h.1))
              cases bg with
              | true =>
                go_wp2_with fail
                go_quiet (fail)
                go_wp2
                go_roundw
                case rel => exact ⟨j + 1, by omega, by go_num, by first | (rw [HS1.out]; done) | (rw [HS1.out]; rfl), HL1.out, HRQ.out.drewN _, HKQ.out.drewN _⟩
                case measure => simp [intOf]; omega
              | false =>
                go_wp2_with fail
                go_quiet (fail)
                go_wp2
                go_roundw
                case rel => exact ⟨j + 1, by omega, by go_num, by first | (rw [HS1.out]; done) | (rw [HS1.out]; rfl), HL1.out, HRQ.out.drewN _, HKQ.out.drewN _⟩
                case measure => simp [intOf]; omega
          · have hb1 : ((x : Int) == (n : Int)) = false := beq_eq_false_iff_ne.2 (by omega)
            have HL1 := hid (HLX.out (by omega))
            obtain ⟨d, hd⟩ : ∃ d, x - n = d := ⟨_, rfl⟩
            have HS1 := hid (show ndK l (j + 1) (n, u) = (bg || decide (c / 2 ^ d = u)) by rw [HSN.out, hd]; congr 1; rw [decide_eq_decide]; exact ⟨fun h => h.2, fun h => ⟨hxn, h⟩⟩)
            have hb2 : decide (n < x) = true := decide_eq_true hxn
            have hw1 : IntKind.i64.wrap ((x : Int) - (n : Int)) = (d : Int) := by rw [IntWalk.i64_in _ (by omega)]; omega
            have hd15 : d ≤ 15 := by omega
            clear hd
            clear hxn
            cases bg with
            | true =>
              go_wp2_with fail
              go_quiet (fail)
              go_wp2
              go_roundw
              case rel => exact ⟨j + 1, by omega, by go_num, by first | (rw [HS1.out]; done) | (rw [HS1.out]; rfl), HL1.out, HRQ.out.drewN _, HKQ.out.drewN _⟩
              case measure => simp [intOf]; omega
            | false =>
              by_cases hcu : c / 2 ^ d = u
              · have hb3 : ((c : Int) / 2 ^ d == (u : Int)) = true := by rw [show (c : Int) / 2 ^ d = ((c / 2 ^ d : Nat) : Int) by simp, hcu]; exact beq_self_eq_true _
                rw [decide_eq_true hcu] at HS1
                clear hcu
                go_wp2_with fail
                go_quiet (fail)
                go_wp2
                go_roundw
                case rel => exact ⟨j + 1, by omega, by go_num, by first | (rw [HS1.out]; done) | (rw [HS1.out]; rfl), HL1.out, HRQ.out.drewN _, HKQ.out.drewN _⟩
                case measure => simp [intOf]; omega
              · have hb3 : ((c : Int) / 2 ^ d == (u : Int)) = false := by rw [show (c : Int) / 2 ^ d = ((c / 2 ^ d : Nat) : Int) by simp]; exact beq_eq_false_iff_ne.2 (by omega)
                rw [decide_eq_false hcu] at HS1
                clear hcu
                go_wp2_with fail
                go_quiet (fail)
                go_wp2
                go_roundw
                case rel => exact ⟨j + 1, by omega, by go_num, by first | (rw [HS1.out]; done) | (rw [HS1.out]; rfl), HL1.out, HRQ.out.drewN _, HKQ.out.drewN _⟩
                case measure => simp [intOf]; omega
        · obtain rfl : j = len := by omega
          have hnla : lfK l l.length (n, u) = none := by rw [hll.out]; exact hnl
          have hnda : ndK l j (n, u) = ndB l (n, u) := by
            have := ndK_all l (n, u)
            rwa [hll.out] at this
          rw [hnda]
          cases hnd : ndB l (n, u) with
          | false =>
            have hRR := HRR.out
            rw [dGo_off hnla hnd] at hRR
            obtain ⟨n1, n2, n3⟩ := rnext_of hRR.symm
            have HN := hid (⟨n1, n2, n3.trans (if_neg (by decide))⟩ : nextV l s k = 0 ∧ nextE l s k = 3 ∧ nextK l s k = k)
            clear n1 n2 n3 hRR hnda hnla hnl hnd hrx hkp
            go_wp2
            go_returns
            unfold RNextPost
            rw [HN.out.1, HN.out.2.1, HN.out.2.2]
            exact ⟨rfl, HRQ.out.set k, HKQ.out.setCell (p := ⟨g, 1, none⟩) (.inl rfl) _⟩
          | true =>
            have HA := hid (refbits_any g s hs k' hk' 1 wq HRQ.out)
            unfold RefBitsPost at HA
            have hn15 := nd_short HC.out hnd
            simp only at hn15
            by_cases hcut : 8 * s.size ≤ k'
            · obtain ⟨e1, e2, e3⟩ := bits_short (n := 1) (by decide) s k' (by omega)
              rw [e1, e2, e3] at HA
              have hRR := HRR.out
              rw [dGo_cut hnla hnd s f k' hcut] at hRR
              obtain ⟨n1, n2, n3⟩ := rnext_of hRR.symm
              have HN := hid (⟨n1, n2, n3.trans (if_neg (by decide))⟩ : nextV l s k = 0 ∧ nextE l s k = 2 ∧ nextK l s k = k)
              clear n1 n2 n3 hRR hnda hnla hnl hnd hrx hkp e1 e2 e3
              go_wp2_with fail
              refine HA.out.mono ?_
              rintro e w2 ⟨rfl, hr2, hk2⟩
              have HR2 := hid hr2
              have HK2 := hid (HKQ.out.trans hk2)
              have y1 := hr2.cell 1
              have yf := hr2.frozen 1
              clear hr2 hk2
              go_wp2
              go_returns
              unfold RNextPost
              rw [HN.out.1, HN.out.2.1, HN.out.2.2]
              exact ⟨rfl, HR2.out.set k, HK2.out.setCell (p := ⟨g, 1, none⟩) (.inl rfl) _⟩
            · obtain ⟨e1, e2, e3⟩ := bits_good 1 (by omega) s k' (by omega)
              have e1' : bitsV s k' 1 = bv s k' 1 := e1
              have e2' : bitsE s k' 1 = 0 := e2
              have e3' : bitsK s k' 1 = k' + 1 := e3
              rw [e1', e2', e3'] at HA
              have hRR := HRR.out
              rw [dGo_on hnla hnd s f k' hcut] at hRR
              have hbv : bv s k' 1 < 2 := bv_lt s k' 1
              clear e1 e2 e3 e1' e2' e3' hnda hnla hnl hnd hrx hkp
              generalize bv s k' 1 = b at *
              have HR3 := hid hRR
              have hu2 : 2 * u + b < 2 ^ (n + 1) := by have := HU.out; rw [Nat.pow_succ]; omega
              have HU2 := hid hu2
              clear hRR hu2
              go_wp2_with fail
              refine HA.out.mono ?_
              rintro e w2 ⟨rfl, hr2, hk2⟩
              have HR2 := hid hr2
              have HK2 := hid (HKQ.out.trans hk2)
              clear hr2 hk2
              go_wp2
              refine ⟨⟨n + 1, 2 * u + b, k' + 1, by omega, by go_num, by go_num, HU2.out, ?_, by omega, HR2.out, HK2.out⟩, by simp [intOf]; omega⟩
              rw [show 16 - (n + 1) = f by omega]
              exact HR3.out
    · obtain rfl : n = 16 := by omega
      have hRR : ((0, 3, k') : Nat × Int × Nat) = nextR l s k := hR
      obtain ⟨n1, n2, n3⟩ := rnext_of hRR.symm
      have HN := hid (⟨n1, n2, n3.trans (if_neg (by decide))⟩ : nextV l s k = 0 ∧ nextE l s k = 3 ∧ nextK l s k = k)
      clear n1 n2 n3 hRR hR hu
      go_wp2
      go_returns
      unfold RNextPost
      rw [HN.out.1, HN.out.2.1, HN.out.2.2]
      exact ⟨rfl, HRX.out.set k, HKP.out.setCell (p := ⟨g, 1, none⟩) (.inl rfl) _⟩
end Go.Proofs.YtgchopfagobleaaDoor
/- The document's inflater in memory; what its small methods do (contracts of the methods). -/
namespace Go.Proofs.YtgchopfagobleaaDoor
open Go.RowKit Go.Conc
set_option linter.unusedVariables false
abbrev TJ : List TypeId := [45, 43, 5]
/-- The document's inflater at fb, its reader at g. -/
structure Ref (B : Nat) (w : World) (fb g : Nat) (s : ByteArray) (k : Nat) (out : List UInt8) (lim : Nat) (v : Value) : Prop where
  has : Has w fb 45 #[.pointer (some ⟨g, 0, none⟩), v, .int .i64 lim]
  rd : Rx w g s k
  own : w.ownsRow B 5 1 v out.length (bcs out)
  fb : B ≤ fb
  gb : B ≤ g
  k8 : k ≤ 8 * s.size
  few : out.length ≤ lim
section
variable {B : Nat} {w w' : World} {fb g : Nat} {s : ByteArray} {k : Nat} {out : List UInt8} {lim : Nat} {v : Value}
theorem Ref.ne (h : Ref B w fb g s k out lim v) : fb ≠ g := fun e => by
  have h1 := h.has
  have h2 : Has w g _ _ := h.rd
  subst e
  unfold Has at h1 h2
  rw [h1] at h2
  injection h2 with h2
  injection h2 with _ h2
  exact absurd h2 (by decide)
theorem KT.of_rx {g : Nat} {s : ByteArray} {k : Nat} (h : Rx w g s k) (hB : B ≤ g) (hk : Keeps (· = g) w w') : KT TJ B w w' :=
  KT.of_keeps hk fun i _ e => by subst e; exact ⟨hB, Has.hot (show Has w i _ _ from h) (by decide)⟩
theorem Ref.read (h : Ref B w fb g s k out lim v) {k' : Nat} (hr : Rx w' g s k') (hk : Keeps (· = g) w w') (h8 : k' ≤ 8 * s.size) : Ref B w' fb g s k' out lim v :=
  ⟨hk.has h.has h.ne, hr, own_keep h.own fun b hb => hk.block b (own_lt h.own hb) fun e => by subst e; exact own_ne_has h.own h.rd (by decide) hb, h.fb, h.gb, h8, h.few⟩
theorem Ref.bw (h : Ref B w fb g s k out lim v) (hb : Bw w w') : Ref B w' fb g s k out lim v :=
  ⟨hb.has h.has, hb.has h.rd, hb.own h.own, h.fb, h.gb, h.k8, h.few⟩
theorem Ref.other (h : Ref B w fb g s k out lim v) {T : List TypeId} (hk : KT T B w w') (h1 : 45 ∉ T) (h2 : 43 ∉ T) (h3 : 5 ∉ T) : Ref B w' fb g s k out lim v :=
  ⟨hk.has h.has h1, hk.has h.rd h2, hk.own h.own h3, h.fb, h.gb, h.k8, h.few⟩
theorem Ref.grown (h : Ref B w fb g s k out lim v) {w5 : World} (hg : w.grownBy w5 v.ownBlock) :
    Has w5 fb 45 #[.pointer (some ⟨g, 0, none⟩), v, .int .i64 lim] ∧ Rx w5 g s k ∧ KT TJ B w w5 := by
  have hk := KT.of_grown (T := TJ) (B := B) h.own (Nat.le_refl _) hg (by decide)
  exact ⟨has_grown h.has hg (own_ne_has h.own h.has (by decide)), has_grown h.rd hg (own_ne_has h.own h.rd (by decide)), hk⟩
theorem Ref.app (h : Ref B w fb g s k out lim v) {w5 : World} (hg : w.grownBy w5 v.ownBlock) {out' : List UInt8} {v' : Value} (ho : w5.ownsRow B 5 1 v' out'.length (bcs out')) (hl : out'.length ≤ lim) :
    Ref B (w5.setCell ⟨fb, 1, none⟩ v') fb g s k out' lim v' ∧ KT TJ B w (w5.setCell ⟨fb, 1, none⟩ v') := by
  obtain ⟨h1, h2, h5⟩ := h.grown hg
  have hkt : KT TJ B w5 (w5.setCell ⟨fb, 1, none⟩ v') := (KT.refl w5).setCell (p := ⟨fb, 1, none⟩) h.fb (h1.hot (by decide)) v'
  refine ⟨⟨by simpa using h1.put 1 v', h2.far (fun e => h.ne e.symm) _, own_keep ho fun b hb => Below.heap_setCell w5 _ _ b fun e => ?_, h.fb, h.gb, h.k8, hl⟩, h5.trans hkt⟩
  exact own_ne_has ho h1 (by decide) (by rw [hb, e])
end
/-- What a reading method of the document leaves: a number and its error. -/
def NumR (B : Nat) (fb g : Nat) (s : ByteArray) (out : List UInt8) (lim : Nat) (v : Value) (n : Nat) (er : Int) (k' : Nat) (w : World) (e : Ending) (w' : World) : Prop :=
  e = .returned (.tuple #[.int .i64 n, .int .i64 er]) ∧ Ref B w' fb g s k' out lim v ∧ KT TJ B w w'
/-- Ints in a block of ints. -/
structure IntsAt (w : World) (b off : Nat) (l : List Int) : Prop where
  ex : ∃ cur, Has w b 3 cur ∧ ∀ i (h : i < l.length), cur[off + i]? = some (.int .i64 (l[i]'h))
theorem IntsAt.zs {w : World} {b off : Nat} {l : List Int} (h : IntsAt w b off l) : ZsAt w (some ⟨b, off, none⟩) l := fun i hi => by
  obtain ⟨cur, h1, h2⟩ := h.ex
  exact ⟨b, off, rfl, h1.lt, (h1.cell _).trans (h2 i hi)⟩
theorem IntsAt.kt {T : List TypeId} {B : Nat} {w w' : World} {b off : Nat} {l : List Int} (h : IntsAt w b off l) (hk : KT T B w w') (ht : 3 ∉ T) : IntsAt w' b off l := by
  obtain ⟨cur, h1, h2⟩ := h.ex
  exact ⟨cur, hk.has h1 ht, h2⟩
theorem IntsAt.bw {w w' : World} {b off : Nat} {l : List Int} (h : IntsAt w b off l) (hk : Bw w w') : IntsAt w' b off l := h.kt (T := []) (B := 0) (KT.of_bw hk) (by decide)
/-- A code of the document. -/
structure CodeR (w : World) (c : Value) (l : List Int) : Prop where
  ex : ∃ b off len cap rb : Nat, c = .agg #[.slice (some ⟨b, off, none⟩) len cap, .slice (some ⟨rb, 0, none⟩) len len] ∧ l.length = len ∧ IntsAt w b off l ∧ Has w rb 3 (cArr l len len)
  code : IsCode l
theorem CodeR.kt {T : List TypeId} {B : Nat} {w w' : World} {c : Value} {l : List Int} (h : CodeR w c l) (hk : KT T B w w') (ht : 3 ∉ T) : CodeR w' c l := by
  obtain ⟨b, off, len, cap, rb, h1, h2, h3, h4⟩ := h.ex
  exact ⟨⟨b, off, len, cap, rb, h1, h2, h3.kt hk ht, hk.has h4 ht⟩, h.code⟩
theorem CodeR.bw {w w' : World} {c : Value} {l : List Int} (h : CodeR w c l) (hk : Bw w w') : CodeR w' c l := h.kt (T := []) (B := 0) (KT.of_bw hk) (by decide)
section
variable {B : Nat} {w : World} {fb g : Nat} {s : ByteArray} {k : Nat} {out : List UInt8} {lim : Nat} {v : Value}
theorem rsym_any (hs : s.size ≤ 281474976710656) (b off len cap rb : Nat) (l : List Int) (hc : IsCode l) (hl : l.length = len) (hi : IntsAt w b off l) (hcd : Has w rb 3 (cArr l len len)) (h : Ref B w fb g s k out lim v) :
    Calls Tryd.prog 44 #[.slice (some ⟨b, off, none⟩) len cap, .slice (some ⟨rb, 0, none⟩) len len, .pointer (some ⟨g, 0, none⟩)] w (NumR B fb g s out lim v (nextV l s k) (nextE l s k) (nextK l s k) w) := by
  refine (rnext_any (some ⟨b, off, none⟩) len cap rb len g l hl hc s hs k h.k8 w hi.zs (fun b' off' e _ hbg => ?_) hcd h.rd).mono ?_
  · have e1 : (⟨b, off, none⟩ : Addr) = ⟨b', off', none⟩ := Option.some.inj e
    have hb : b = g := (congrArg Addr.block e1).trans hbg
    obtain ⟨cur, h1, _⟩ := hi.ex
    have h2 : Has w g _ _ := h.rd
    rw [hb] at h1
    unfold Has at h1 h2
    rw [h1] at h2
    injection h2 with h2
    injection h2 with _ h2
    exact absurd h2 (by decide)
  · rintro e w' ⟨rfl, hr, hk⟩
    exact ⟨rfl, h.read hr hk (nextK_le l s k h.k8), KT.of_rx h.rd h.gb hk⟩
set_option maxHeartbeats 1000000 in
theorem rbits_ok (hs : s.size ≤ 281474976710656) (n : Nat) (hn : n ≤ 32) (from_ : Nat) (hf : from_ ≤ 100000) (hk : k + n ≤ 8 * s.size) (h : Ref B w fb g s k out lim v) :
    Calls Tryd.prog 24 #[.pointer (some ⟨fb, 0, none⟩), .int .i64 n, .int .i64 from_] w (NumR B fb g s out lim v (from_ + bv s k n) 0 (k + n) w) := by
  have c0 : w.cell? ⟨fb, 0, none⟩ = some (.pointer (some ⟨g, 0, none⟩)) := h.has.cell 0
  have HB := hid (refbits_any g s hs k h.k8 n w h.rd)
  obtain ⟨e1, e2, e3⟩ := bits_good n hn s k hk
  unfold RefBitsPost at HB
  rw [e1, e2, e3] at HB
  have hb := bv_lt32 s k n hn
  have HI := hid h
  clear h e1 e2 e3
  go_enter Tryd.func24, Tryd.ntmps24
  go_wp2_with fail
  refine HB.out.mono ?_
  rintro e w2 ⟨rfl, hr, hk2⟩
  have HI2 := hid (HI.out.read hr hk2 hk)
  have HK := hid (KT.of_rx HI.out.rd HI.out.gb hk2)
  clear hr hk2
  go_wp2
  go_returns
  exact ⟨by simp, HI2.out, HK.out⟩
set_option maxHeartbeats 1000000 in
theorem rbits_bad (hs : s.size ≤ 281474976710656) (n : Nat) (hn : n ≤ 32) (from_ : Nat) (hf : from_ ≤ 100000) (hk : ¬ k + n ≤ 8 * s.size) (h : Ref B w fb g s k out lim v) :
    Calls Tryd.prog 24 #[.pointer (some ⟨fb, 0, none⟩), .int .i64 n, .int .i64 from_] w (NumR B fb g s out lim v from_ 2 k w) := by
  have c0 : w.cell? ⟨fb, 0, none⟩ = some (.pointer (some ⟨g, 0, none⟩)) := h.has.cell 0
  have HB := hid (refbits_any g s hs k h.k8 n w h.rd)
  obtain ⟨e1, e2, e3⟩ := bits_short (n := n) (decide_eq_true ⟨by omega, by omega⟩) s k (by omega)
  unfold RefBitsPost at HB
  rw [e1, e2, e3] at HB
  have HI := hid h
  clear h e1 e2 e3 hk
  go_enter Tryd.func24, Tryd.ntmps24
  go_wp2_with fail
  refine HB.out.mono ?_
  rintro e w2 ⟨rfl, hr, hk2⟩
  have HI2 := hid (HI.out.read hr hk2 HI.out.k8)
  have HK := hid (KT.of_rx HI.out.rd HI.out.gb hk2)
  clear hr hk2
  go_wp2
  go_returns
  exact ⟨by simp, HI2.out, HK.out⟩
end
end Go.Proofs.YtgchopfagobleaaDoor
/- A code of lengths, by the document (contracts of the function). -/
namespace Go.Proofs.YtgchopfagobleaaDoor
open Go.RowKit Go.Conc
set_option linter.unusedVariables false
section
variable {w : World} {B : Nat}
set_option maxHeartbeats 1000000 in
theorem rcoded_ok (b off len cap : Nat) (l : List Int) (hl : l.length = len) (hE : checkE l = 0) (hi : IntsAt w b off l) :
    Calls Tryd.prog 27 #[.slice (some ⟨b, off, none⟩) len cap] w fun e w' => ∃ c, e = .returned (.tuple #[c, .bool true]) ∧ CodeR w' c l ∧ ∀ T : List TypeId, KT T B w w' := by
  have HC := hid (fun (W : World) (hz : ZsAt W (some ⟨b, off, none⟩) l) => rcodes_ok (some ⟨b, off, none⟩) len cap l (hid hl) hE W hz)
  have HI := hid hi
  have HL := hid hl
  have HCO := hid (IsCode.of_check hE)
  have HW := hid (show Bw w (w.alloc (.cells #[.slice none 0 0, .slice none 0 0] 69)) from (Bw.refl w).alloc _)
  have HN := hid (Has.new w 69 #[.slice none 0 0, .slice none 0 0])
  clear hE hi hl
  go_enter Tryd.func27, Tryd.ntmps27
  go_wp2_with fail
  have HIW := hid (HI.out.bw HW.out)
  obtain ⟨nb, hnb⟩ : ∃ nb, w.heap.size = nb := ⟨_, rfl⟩
  have HNB := hid (show w.heap.size ≤ nb by omega)
  rw [hnb] at HN ⊢
  clear hnb
  generalize w.alloc (.cells #[.slice none 0 0, .slice none 0 0] 69) = W at *
  refine (HC.out W HIW.out.zs).mono ?_
  rintro e w2 ⟨rb, rfl, hrb, hh, hb⟩
  have HN2 := hid (hb.has HN.out)
  have HH := hid hh
  have HB := hid (HW.out.trans hb)
  have HI2 := hid (HIW.out.bw hb)
  have b0 : w2.cell? ⟨nb, 0, none⟩ = some (.slice none 0 0) := HN2.out.cell 0
  have b1 : w2.cell? ⟨nb, 1, none⟩ = some (.slice none 0 0) := HN2.out.cell 1
  have f0 := HN2.out.frozen 0
  have f1 := HN2.out.frozen 1
  clear hb hh hrb
  have HP := hid (has_two HN2.out (.slice (some ⟨b, off, none⟩) len cap) (.slice (some ⟨rb, 0, none⟩) len len))
  have HK := hid (((KT.refl (T := [69]) (B := 0) w2).setCell (p := ⟨nb, 0, none⟩) (Nat.zero_le _) (HN2.out.hot (by decide)) (.slice (some ⟨b, off, none⟩) len cap)).setCell (p := ⟨nb, 1, none⟩) (Nat.zero_le _) ((HN2.out.put 0 (.slice (some ⟨b, off, none⟩) len cap)).hot (by decide)) (.slice (some ⟨rb, 0, none⟩) len len))
  have HKX := hid (fun T : List TypeId => (KT.of_bw HB.out : KT T B w w2).fresh HNB.out (.slice (some ⟨b, off, none⟩) len cap) (.slice (some ⟨rb, 0, none⟩) len len))
  go_wp2
  generalize World.setCell (World.setCell w2 _ _) _ _ = W9 at *
  have p0 : W9.cell? ⟨nb, 0, none⟩ = some (.slice (some ⟨b, off, none⟩) len cap) := HP.out.cell 0
  have p1 : W9.cell? ⟨nb, 1, none⟩ = some (.slice (some ⟨rb, 0, none⟩) len len) := HP.out.cell 1
  try simp only [Exit.inBlock, Exit.then]
  refine bodyPost_ret (by simp [results, Tryd.results27, go_sem, p0, p1]; try rfl) rfl ?_
  exact ⟨_, rfl, ⟨⟨b, off, len, cap, rb, rfl, HL.out, HI2.out.kt HK.out (by decide), HK.out.has HH.out (by decide)⟩, HCO.out⟩, HKX.out⟩
set_option maxHeartbeats 1000000 in
theorem rcoded_bad (b off len cap : Nat) (l : List Int) (hl : l.length = len) (hE : checkE l ≠ 0) (hi : IntsAt w b off l) :
    Calls Tryd.prog 27 #[.slice (some ⟨b, off, none⟩) len cap] w fun e w' => e = .returned (.tuple #[.agg #[.slice (some ⟨b, off, none⟩) len cap, .slice none 0 0], .bool false]) ∧ ∀ T : List TypeId, KT T B w w' := by
  have HC := hid (fun (W : World) (hz : ZsAt W (some ⟨b, off, none⟩) l) => rcodes_bad (some ⟨b, off, none⟩) len cap l (hid hl) hE W hz)
  have HI := hid hi
  have t0 : (checkE l == 0) = false := by simp [hE]
  generalize checkE l = ce at *
  have HW := hid (show Bw w (w.alloc (.cells #[.slice none 0 0, .slice none 0 0] 69)) from (Bw.refl w).alloc _)
  have HN := hid (Has.new w 69 #[.slice none 0 0, .slice none 0 0])
  clear hE hi hl
  go_enter Tryd.func27, Tryd.ntmps27
  go_wp2_with fail
  have HIW := hid (HI.out.bw HW.out)
  obtain ⟨nb, hnb⟩ : ∃ nb, w.heap.size = nb := ⟨_, rfl⟩
  have HNB := hid (show w.heap.size ≤ nb by omega)
  rw [hnb] at HN ⊢
  clear hnb
  generalize w.alloc (.cells #[.slice none 0 0, .slice none 0 0] 69) = W at *
  refine (HC.out W HIW.out.zs).mono ?_
  rintro e w2 ⟨rfl, hb⟩
  have HN2 := hid (hb.has HN.out)
  have HB := hid (HW.out.trans hb)
  have b0 : w2.cell? ⟨nb, 0, none⟩ = some (.slice none 0 0) := HN2.out.cell 0
  have b1 : w2.cell? ⟨nb, 1, none⟩ = some (.slice none 0 0) := HN2.out.cell 1
  have f0 := HN2.out.frozen 0
  have f1 := HN2.out.frozen 1
  clear hb
  have HP := hid (has_two HN2.out (.slice (some ⟨b, off, none⟩) len cap) (.slice none 0 0))
  have HKX := hid (fun T : List TypeId => (KT.of_bw HB.out : KT T B w w2).fresh HNB.out (.slice (some ⟨b, off, none⟩) len cap) (.slice none 0 0))
  go_wp2
  generalize World.setCell (World.setCell w2 _ _) _ _ = W9 at *
  have p0 : W9.cell? ⟨nb, 0, none⟩ = some (.slice (some ⟨b, off, none⟩) len cap) := HP.out.cell 0
  have p1 : W9.cell? ⟨nb, 1, none⟩ = some (.slice none 0 0) := HP.out.cell 1
  try simp only [Exit.inBlock, Exit.then]
  refine bodyPost_ret (by simp [results, Tryd.results27, go_sem, p0, p1]; try rfl) rfl ?_
  exact ⟨rfl, HKX.out⟩
end
end Go.Proofs.YtgchopfagobleaaDoor
/- The document's fixed codes' lengths, and the order of the lengths of lengths (contracts of the functions). -/
namespace Go.Proofs.YtgchopfagobleaaDoor
open Go.RowKit
set_option linter.unusedVariables false
def litF (i : Nat) : Nat := if i < 144 ∨ 279 < i then 8 else if i < 256 then 9 else 7
def fillArr (f : Nat → Nat) (N k : Nat) : Array Value := ((List.range N).map fun i => Value.int .i64 (if i < k then (f i : Int) else 0)).toArray
theorem fillArr_get (f : Nat → Nat) (N k i : Nat) (h : i < N) : (fillArr f N k)[i]? = some (.int .i64 (if i < k then (f i : Int) else 0)) := by simp [fillArr, h]
theorem fillArr_put (f : Nat → Nat) (N k : Nat) (h : k < N) : (fillArr f N k).setIfInBounds k (.int .i64 (f k)) = fillArr f N (k + 1) := by
  apply Array.ext_getElem?
  intro i
  have hsz : (fillArr f N k).size = N := by simp [fillArr]
  rw [Array.getElem?_setIfInBounds, hsz]
  by_cases hi : i < N
  · rw [fillArr_get f N (k + 1) i hi]
    by_cases e : k = i
    · subst e
      rw [if_pos rfl, if_pos h, if_pos (by omega)]
    · rw [if_neg e, fillArr_get f N k i hi]
      by_cases hik : i < k
      · rw [if_pos hik, if_pos (by omega)]
      · rw [if_neg hik, if_neg (by omega)]
  · have e : k ≠ i := by omega
    rw [if_neg e, Array.getElem?_eq_none (by rw [hsz]; omega), Array.getElem?_eq_none (by simp [fillArr]; omega)]
theorem madeCells_fill (f : Nat → Nat) (N : Nat) : madeCells (Value.int .i64 0).cells (N * 1) = fillArr f N 0 := by
  apply Array.ext
  · simp [madeCells, fillArr]
  · intro i h1 h2
    simp [madeCells, fillArr, Value.cells, Nat.mod_one]
theorem make_fill (f : Nat → Nat) (N : Nat) (hN : N ≤ 100000) (w : World) : (Instr.makeSlice 65 (.int .i64 N) (.int .i64 N)).run Tryd.prog w = .ok (.slice (some ⟨w.heap.size, 0, none⟩) N N) (w.alloc (.cells (fillArr f N 0) 3)) := by
  obtain ⟨i0, hinf, hz0, hz1, hz2⟩ := info_parts intInfo
  have := run_makeSlice (P := Tryd.prog) (w := w) 65 3 i0 (.int .i64 0) Tryd.underlying65 hinf hz0 .i64 .i64 N N (by omega) (by omega) (by rw [hz1]; simp; omega) (by rw [hz2]; omega) (by omega)
  rw [this, hz1]
  simp only [Int.toNat_natCast]
  rw [madeCells_fill f N]
set_option maxRecDepth 100000 in
set_option maxHeartbeats 2000000 in
theorem rfixed0_any (w : World) :
    Calls Tryd.prog 26 #[] w fun e w' => ∃ g1 g2 : Nat, e = .returned (.tuple #[.slice (some ⟨g1, 0, none⟩) 288 288, .slice (some ⟨g2, 0, none⟩) 32 32]) ∧ Has w' g1 3 (fillArr litF 288 288) ∧ Has w' g2 3 (fillArr (fun _ => 5) 32 32) ∧ Bw w w' := by
  have hmk : ∀ W : World, (Instr.makeSlice 65 (.int .i64 288) (.int .i64 288)).run Tryd.prog W = .ok (.slice (some ⟨W.heap.size, 0, none⟩) 288 288) (W.alloc (.cells (fillArr litF 288 0) 3)) := fun W => make_fill litF 288 (by omega) W
  have hmk2 : ∀ W : World, (Instr.makeSlice 65 (.int .i64 32) (.int .i64 32)).run Tryd.prog W = .ok (.slice (some ⟨W.heap.size, 0, none⟩) 32 32) (W.alloc (.cells (fillArr (fun _ => 5) 32 0) 3)) := fun W => make_fill (fun _ => 5) 32 (by omega) W
  have H1 := hid (Has.new w 3 (fillArr litF 288 0))
  have H2 := hid (fun (W : World) => Has.new W 3 (fillArr (fun _ => 5) 32 0))
  go_enter Tryd.func26, Tryd.ntmps26
  go_wp2
  go_loopw [3] (fun i wr => ∃ k : Nat, k ≤ 288 ∧ i = .int .i64 k ∧ Has wr w.heap.size 3 (fillArr litF 288 k) ∧ Bw w wr) (fun i _ => 288 - (intOf i).toNat)
  case atStart => exact ⟨0, Nat.zero_le _, rfl, H1.out, (Bw.refl w).alloc _⟩
  case round =>
    rename World => wr
    obtain ⟨k, hk, rfl, hh, hb⟩ := hrel
    have HH := hid hh
    have HB := hid hb
    by_cases hlt : k < 288
    · have c0 : wr.cell? ⟨w.heap.size, k, none⟩ = some (.int .i64 0) := by
        rw [hh.cell k, fillArr_get litF 288 k k hlt, if_neg (by omega)]
      have f0 := hh.frozen k
      clear hh hb hmk hmk2
      by_cases h144 : k < 144
      · have a1 : (k : Int) < 144 := by omega
        have HF := hid (show litF k = 8 from if_pos (.inl h144))
        have HP := hid (HH.out.put k (.int .i64 (litF k)))
        rw [fillArr_put litF 288 k hlt, HF.out] at HP
        clear HF
        go_wp2
        exact ⟨⟨k + 1, by omega, by go_num, HP.out, HB.out.setCell (p := ⟨w.heap.size, k, none⟩) (Nat.le_refl _) _⟩, by simp [intOf]; omega⟩
      · have a1 : ¬ (k : Int) < 144 := by omega
        by_cases h279 : 279 < k
        · have a2 : (279 : Int) < k := by omega
          have HF := hid (show litF k = 8 from if_pos (.inr h279))
          have HP := hid (HH.out.put k (.int .i64 (litF k)))
          rw [fillArr_put litF 288 k hlt, HF.out] at HP
          clear HF
          go_wp2
          exact ⟨⟨k + 1, by omega, by go_num, HP.out, HB.out.setCell (p := ⟨w.heap.size, k, none⟩) (Nat.le_refl _) _⟩, by simp [intOf]; omega⟩
        · have a2 : ¬ (279 : Int) < k := by omega
          by_cases h256 : k < 256
          · have a3 : (k : Int) < 256 := by omega
            have HF := hid (show litF k = 9 from (if_neg (by omega)).trans (if_pos h256))
            have HP := hid (HH.out.put k (.int .i64 (litF k)))
            rw [fillArr_put litF 288 k hlt, HF.out] at HP
            clear HF
            go_wp2
            exact ⟨⟨k + 1, by omega, by go_num, HP.out, HB.out.setCell (p := ⟨w.heap.size, k, none⟩) (Nat.le_refl _) _⟩, by simp [intOf]; omega⟩
          · have a3 : ¬ (k : Int) < 256 := by omega
            have HF := hid (show litF k = 7 from (if_neg (by omega)).trans (if_neg h256))
            have HP := hid (HH.out.put k (.int .i64 (litF k)))
            rw [fillArr_put litF 288 k hlt, HF.out] at HP
            clear HF
            go_wp2
            exact ⟨⟨k + 1, by omega, by go_num, HP.out, HB.out.setCell (p := ⟨w.heap.size, k, none⟩) (Nat.le_refl _) _⟩, by simp [intOf]; omega⟩
    · obtain rfl : k = 288 := by omega
      clear hh hb hmk
      have hd5 : Has (wr.alloc (.cells (fillArr (fun _ => 5) 32 0) 3)) w.heap.size 3 (fillArr litF 288 288) := HH.out.alloc _
      have HD5 := hid hd5
      have hne := HH.out.lt
      have HNE := hid (show wr.heap.size ≠ w.heap.size by omega)
      have HB1 := hid (HB.out.alloc (.cells (fillArr (fun _ => 5) 32 0) 3))
      have hwz := HB.out.size
      clear hd5 hne
      go_wp2
      go_loopw [5] (fun i wi => ∃ k : Nat, k ≤ 32 ∧ i = .int .i64 k ∧ Has wi wr.heap.size 3 (fillArr (fun _ => 5) 32 k) ∧ Has wi w.heap.size 3 (fillArr litF 288 288) ∧ Bw w wi) (fun i _ => 32 - (intOf i).toNat)
      case atStart => exact ⟨0, Nat.zero_le _, rfl, H2.out _, HD5.out, HB1.out⟩
      case round =>
        rename World => wi
        obtain ⟨k, hk, rfl, hh, hh2, hb⟩ := hrel
        have HH := hid hh
        have HH2 := hid hh2
        have HB := hid hb
        by_cases hlt : k < 32
        · have c0 : wi.cell? ⟨wr.heap.size, k, none⟩ = some (.int .i64 0) := by
            rw [hh.cell k, fillArr_get (fun _ => 5) 32 k k hlt, if_neg (by omega)]
          have f0 := hh.frozen k
          have HP := hid (HH.out.put k (.int .i64 5))
          have e5 := fillArr_put (fun _ => 5) 32 k hlt
          rw [show (fillArr (fun _ => 5) 32 k).setIfInBounds k (.int .i64 5) = fillArr (fun _ => 5) 32 (k + 1) from e5] at HP
          have HP2 := hid (HH2.out.far (p := ⟨wr.heap.size, k, none⟩) (fun e => HNE.out e.symm) (.int .i64 5))
          clear hh hh2 hb e5 hmk2
          go_wp2
          exact ⟨⟨k + 1, by omega, by go_num, HP.out, HP2.out, HB.out.setCell (p := ⟨wr.heap.size, k, none⟩) hwz _⟩, by simp [intOf]; omega⟩
        · obtain rfl : k = 32 := by omega
          clear hmk2
          go_wp2
          go_returns
          exact ⟨_, _, rfl, HH2.out, HH.out, HB.out⟩
theorem fill_fixL : fillArr litF 288 288 = fA fixL 288 288 := by kernel_rfl
theorem fill_fixD : fillArr (fun _ => 5) 32 32 = fA fixD 32 32 := by kernel_rfl
theorem fA_ints {w : World} {b : Nat} {l : List Int} {n : Nat} (h : Has w b 3 (fA l n n)) (hl : l.length = n) : IntsAt w b 0 l := ⟨_, h, fun i hi => by
  rw [Nat.zero_add, fA_get l n n i (by omega), if_pos (by omega)]
  simp [List.getD, hi]⟩
theorem rfixed_any (w : World) :
    Calls Tryd.prog 26 #[] w fun e w' => ∃ g1 g2 : Nat, e = .returned (.tuple #[.slice (some ⟨g1, 0, none⟩) 288 288, .slice (some ⟨g2, 0, none⟩) 32 32]) ∧ IntsAt w' g1 0 fixL ∧ IntsAt w' g2 0 fixD ∧ Bw w w' := by
  refine (rfixed0_any w).mono ?_
  rintro e w' ⟨g1, g2, rfl, h1, h2, hb⟩
  exact ⟨g1, g2, rfl, fA_ints (h1.eq fill_fixL) fixL_len, fA_ints (h2.eq fill_fixD) (by decide +kernel), hb⟩
def ordA : Array Value := (ordL.map fun (x : Nat) => Value.int .i64 x).toArray
theorem ordA_eq : (#[.int .i64 16, .int .i64 17, .int .i64 18, .int .i64 0, .int .i64 8, .int .i64 7, .int .i64 9, .int .i64 6, .int .i64 10, .int .i64 5, .int .i64 11, .int .i64 4, .int .i64 12, .int .i64 3, .int .i64 13, .int .i64 2, .int .i64 14, .int .i64 1, .int .i64 15] : Array Value) = ordA := by kernel_rfl
theorem ordA_get (i : Nat) (h : i < 19) : ordA[i]? = some (.int .i64 (ordL.getD i 0 : Nat)) := by
  have h' : i < ordL.length := h
  simp [ordA, List.getElem?_eq_getElem h', List.getD]
theorem order_any (w : World) :
    Calls Tryd.prog 67 #[] w fun e w' => ∃ g1 : Nat, e = .returned (.slice (some ⟨g1, 0, none⟩) 19 19) ∧ w.heap.size ≤ g1 ∧ Has w' g1 3 ordA ∧ Bw w w' := by
  have H1 := hid ((Has.new w 3 #[.int .i64 16, .int .i64 17, .int .i64 18, .int .i64 0, .int .i64 8, .int .i64 7, .int .i64 9, .int .i64 6, .int .i64 10, .int .i64 5, .int .i64 11, .int .i64 4, .int .i64 12, .int .i64 3, .int .i64 13, .int .i64 2, .int .i64 14, .int .i64 1, .int .i64 15]).eq ordA_eq)
  have H2 := hid (show Bw w (w.alloc (.cells #[.int .i64 16, .int .i64 17, .int .i64 18, .int .i64 0, .int .i64 8, .int .i64 7, .int .i64 9, .int .i64 6, .int .i64 10, .int .i64 5, .int .i64 11, .int .i64 4, .int .i64 12, .int .i64 3, .int .i64 13, .int .i64 2, .int .i64 14, .int .i64 1, .int .i64 15] 3)) from (Bw.refl w).alloc _)
  go_enter Tryd.func67, Tryd.ntmps67
  go_wp2
  go_returns
  exact ⟨_, rfl, Nat.le_refl _, H1.out, H2.out⟩
end Go.Proofs.YtgchopfagobleaaDoor
/- The head of a block of kind 2, by the document (contract of the method). -/
namespace Go.Proofs.YtgchopfagobleaaDoor
open Go.RowKit Go.Conc
set_option linter.unusedVariables false
/-- What head leaves. -/
def HeadR (B : Nat) (fb g : Nat) (s : ByteArray) (lim : Nat) (last : Bool) (k : Nat) (out : List UInt8) (w : World) (e : Ending) (w' : World) : Prop :=
  KT TJ B w w' ∧ ((∃ er, Leads s lim (stHead s last k out) (.bad er) ∧ er ≠ 0 ∧ e = .returned (.tuple #[.int .i64 0, .int .i64 0, .agg #[.slice none 0 0, .slice none 0 0], .int .i64 er])) ∨
    (∃ (n d : Nat) (t : List Int) (k' : Nat) (c v : Value), Leads s lim (stHead s last k out) (.go ⟨.seq last n d t [], k', out⟩) ∧ 257 ≤ n ∧ n ≤ 286 ∧ 1 ≤ d ∧ d ≤ 30 ∧ t.length = 19 ∧ CodeR w' c t ∧
      e = .returned (.tuple #[.int .i64 n, .int .i64 d, c, .int .i64 0]) ∧ Ref B w' fb g s k' out lim v))
/-- How the round stands. -/
def HdrR (B : Nat) (w : World) (fb g nb ab ob : Nat) (s : ByteArray) (lim : Nat) (last : Bool) (n d gv k : Nat) (out : List UInt8) (j : Nat) (any : Bool) (wr : World) : Prop :=
  ∃ l1 k1 v1, l1.length = 19 ∧ (∀ x ∈ l1, 0 ≤ x ∧ x ≤ 15) ∧ (any = false → l1 = List.replicate 19 0) ∧ Has wr ab 3 (icl l1).toArray ∧ Has wr nb 69 #[.slice none 0 0, .slice none 0 0] ∧ Has wr ob 3 ordA ∧
    Ref B wr fb g s k1 out lim v1 ∧ KT TJ B w wr ∧ Leads s lim (stHead s last k out) (.go ⟨.hdr last n d gv j l1, k1, out⟩)
theorem check_three {l : List Int} (hl : l.length ≤ 320) (hr : ∀ x ∈ l, 0 ≤ x ∧ x ≤ 15) (h : checkE l ≠ 0) : checkE l = 3 := by
  have ho : okLens l = true := by simp [okLens, hl]; exact fun x hx => by have := hr x hx; simp [lenB]; omega
  unfold checkE at h ⊢
  rw [ho] at h ⊢
  cases hc : codeB l with
  | false => rfl
  | true => simp [hc] at h
theorem none_bad (s : ByteArray) (k : Nat) : nextE (List.replicate 19 0) s k = 3 := by
  have h1 : lfK (List.replicate 19 0) (List.replicate 19 (0 : Int)).length (0, 0) = none := lfK_top _ _ _
  have h2 : ndB (List.replicate 19 0) (0, 0) = false := by decide +kernel
  unfold nextE nextR
  rw [dGo_off h1 h2]
theorem seq_none (s : ByteArray) (lim : Nat) (last : Bool) (n d k : Nat) (out : List UInt8) (hn : 0 < n) : step s lim ⟨.seq last n d (List.replicate 19 0) [], k, out⟩ = .bad 3 := by
  rw [step_seq]
  unfold stSeq
  rw [if_pos (by simp; omega), sym1_bad (by rw [none_bad]; decide), none_bad]
theorem set_rep (n o : Nat) : (List.replicate n (0 : Int)).set o 0 = List.replicate n 0 :=
  List.ext_getElem (by simp) fun i h1 h2 => by rw [List.getElem_set]; split <;> simp
theorem zero_check : checkE (List.replicate 19 0) = 0 := by decide +kernel
def z19A : Array Value := (icl (List.replicate 19 0)).toArray
theorem make19 (W : World) : (Instr.makeSlice 65 (.int .i64 19) (.int .i64 19)).run Tryd.prog W = .ok (.slice (some ⟨W.heap.size, 0, none⟩) 19 19) (W.alloc (.cells z19A 3)) :=
  (make_fill (fun _ => 0) 19 (by omega) W).trans (by rw [show fillArr (fun _ => 0) 19 0 = z19A by kernel_rfl])
theorem icl_ints {w : World} {b : Nat} {l : List Int} (h : Has w b 3 (icl l).toArray) : IntsAt w b 0 l := ⟨_, h, fun i hi => by
  rw [Nat.zero_add, List.getElem?_toArray, icl_get l i hi]⟩
section
variable {B : Nat} {w : World} {fb g : Nat} {s : ByteArray} {k : Nat} {out : List UInt8} {lim : Nat} {v : Value}
set_option maxRecDepth 100000 in
set_option maxHeartbeats 4000000 in
theorem rhead_any (hs : s.size ≤ 281474976710656) (last : Bool) (h : Ref B w fb g s k out lim v) :
    Calls Tryd.prog 46 #[.pointer (some ⟨fb, 0, none⟩)] w (HeadR B fb g s lim last k out w) := by
  have hmk := fun W => make19 W
  have HI := hid h
  have HX := hid (head_eq s last k out)
  have HW := hid (show Bw w (w.alloc (.cells #[.slice none 0 0, .slice none 0 0] 69)) from (Bw.refl w).alloc _)
  have HN := hid (Has.new w 69 #[.slice none 0 0, .slice none 0 0])
  clear h
  go_enter Tryd.func46, Tryd.ntmps46
  go_wp2_with fail
  obtain ⟨nb, hnb⟩ : ∃ nb, w.heap.size = nb := ⟨_, rfl⟩
  have HI1 := hid (HI.out.bw HW.out)
  rw [hnb] at HN ⊢
  have HNB := hid (show w.heap.size ≤ nb by omega)
  generalize w.alloc (.cells #[.slice none 0 0, .slice none 0 0] 69) = W1 at *
  clear hnb
  by_cases h1 : k + 5 ≤ 8 * s.size
  · have HX := hid (HX.out.trans (num_ok h1))
    have ha : bv s k 5 < 32 := bv_lt s k 5
    refine (rbits_ok hs 5 (by omega) 257 (by omega) h1 HI1.out).mono ?_
    rintro e w2 ⟨rfl, hi2, hk2⟩
    have HI2 := hid hi2
    have HK2 := hid ((KT.of_bw HW.out).trans hk2)
    have HN2 := hid (hk2.has HN.out (by decide))
    clear hi2 hk2
    obtain ⟨n, hn⟩ : ∃ n, 257 + bv s k 5 = n := ⟨_, rfl⟩
    have HX : Hid (stHead s last k out = num s (k + 5) 5 fun b k4 => num s k4 4 fun c k5 => if n ≤ 286 ∧ b + 1 ≤ 30 then .go ⟨.hdr last n (b + 1) (c + 4) 0 (List.replicate 19 0), k5, out⟩ else .bad 3) := hid (by rw [HX.out, ← hn, Nat.add_comm 257])
    have hn1 : 257 ≤ n ∧ n ≤ 289 := by omega
    rw [hn]
    clear hn
    go_wp2_with fail
    clear ha h1
    generalize k + 5 = k2 at *
    by_cases h2 : k2 + 5 ≤ 8 * s.size
    · have HX := hid (HX.out.trans (num_ok h2))
      have hb : bv s k2 5 < 32 := bv_lt s k2 5
      refine (rbits_ok hs 5 (by omega) 1 (by omega) h2 HI2.out).mono ?_
      rintro e w3 ⟨rfl, hi3, hk3⟩
      have HI3 := hid hi3
      have HK3 := hid (HK2.out.trans hk3)
      have HN3 := hid (hk3.has HN2.out (by decide))
      clear hi3 hk3
      obtain ⟨d, hd⟩ : ∃ d, 1 + bv s k2 5 = d := ⟨_, rfl⟩
      have HX : Hid (stHead s last k out = num s (k2 + 5) 4 fun c k5 => if n ≤ 286 ∧ d ≤ 30 then .go ⟨.hdr last n d (c + 4) 0 (List.replicate 19 0), k5, out⟩ else .bad 3) := hid (by rw [HX.out, ← hd, Nat.add_comm 1])
      have hd1 : 1 ≤ d ∧ d ≤ 32 := by omega
      rw [hd]
      clear hd
      go_wp2_with fail
      clear hb h2
      generalize k2 + 5 = k3 at *
      by_cases h3 : k3 + 4 ≤ 8 * s.size
      · have HX := hid (HX.out.trans (num_ok h3))
        have hc : bv s k3 4 < 16 := bv_lt s k3 4
        refine (rbits_ok hs 4 (by omega) 4 (by omega) h3 HI3.out).mono ?_
        rintro e w4 ⟨rfl, hi4, hk4⟩
        have HI4 := hid hi4
        have HK4 := hid (HK3.out.trans hk4)
        have HN4 := hid (hk4.has HN3.out (by decide))
        clear hi4 hk4
        obtain ⟨gv, hg⟩ : ∃ gv, 4 + bv s k3 4 = gv := ⟨_, rfl⟩
        have HX : Hid (stHead s last k out = if n ≤ 286 ∧ d ≤ 30 then .go ⟨.hdr last n d gv 0 (List.replicate 19 0), k3 + 4, out⟩ else .bad 3) := hid (by rw [HX.out, ← hg, Nat.add_comm 4])
        have hg1 : gv ≤ 19 := by omega
        rw [hg]
        clear hg hc
        by_cases h4 : n ≤ 286 ∧ d ≤ 30
        · have HX := hid (HX.out.trans (if_pos h4))
          obtain ⟨h41, h42⟩ := h4
          have t1 : decide (286 < (n : Int)) = false := decide_eq_false (by omega)
          have t2 : decide (30 < (d : Int)) = false := decide_eq_false (by omega)
          have t3 : decide (286 < n) = false := decide_eq_false (by omega)
          have t4 : decide (30 < d) = false := decide_eq_false (by omega)
          go_wp2_with fail
          clear t1 t2 t3 t4 h3
          generalize k3 + 4 = k4 at *
          have HA5 := hid (show Has (w4.alloc (.cells z19A 3)) w4.heap.size 3 (icl (List.replicate 19 0)).toArray from Has.new w4 _ _)
          have HW5 := hid (show Bw w4 (w4.alloc (.cells z19A 3)) from (Bw.refl w4).alloc _)
          have hz5 : (w4.alloc (.cells z19A 3)).heap.size = w4.heap.size + 1 := by simp
          obtain ⟨ab, hab⟩ : ∃ ab, w4.heap.size = ab := ⟨_, rfl⟩
          rw [hab] at HA5 hz5 ⊢
          generalize w4.alloc (.cells z19A 3) = w5 at *
          refine (order_any _).mono ?_
          rintro e w6 ⟨ob, rfl, hob, ho6, hb6⟩
          have HB6 := hid (HW5.out.trans hb6)
          have HA6 := hid (hb6.has HA5.out)
          have HO6 := hid ho6
          have HN6 := hid (HB6.out.has HN4.out)
          have HI6 := hid (HI4.out.bw HB6.out)
          have HK6 := hid (HK4.out.trans (KT.of_bw HB6.out))
          have HAB := hid (show w.heap.size ≤ ab by have := HK4.out.size; omega)
          have HBA := hid (show B ≤ ab by have h1 := HI.out.gb; have h2 := Has.lt HI.out.rd; have h3 := HAB.out; omega)
          have HOA := hid (show ob ≠ ab by omega)
          have HNA := hid (show nb ≠ ab by have := HN4.out.lt; omega)
          clear hob ho6 hb6 hab hz5
          go_wp2
          go_loopw [14, 15, 16, 17] (fun a i u1 u2 wr => ∃ (j : Nat) (any : Bool), j ≤ gv ∧ i = .int .i64 j ∧ a = .bool any ∧ HdrR B w fb g nb ab ob s lim last n d gv k out j any wr) (fun _ i _ _ _ => gv - (intOf i).toNat)
          case atStart => exact ⟨0, false, Nat.zero_le _, rfl, rfl, _, _, _, by simp, by simp, fun _ => rfl, HA6.out, HN6.out, HO6.out, HI6.out, HK6.out, HX.out ▸ Leads.refl _⟩
          case round =>
            rename World => wi
            obtain ⟨j, any, hj, rfl, rfl, l1, k1, v1, hl1, hr1, hz1, ha1, hn1', ho1, hi1, hk1, hL⟩ := hrel
            have HL1 := hid hl1
            have HR1 := hid hr1
            have HZ1 := hid hz1
            have HA := hid ha1
            have HNI := hid hn1'
            have HO := hid ho1
            have HII := hid hi1
            have HKI := hid hk1
            have HL := hid hL
            have HX := hid (hdr_eq s lim last n d gv j l1 k1 out)
            clear hl1 hr1 hz1 ha1 hn1' ho1 hi1 hk1 hL
            by_cases hlt : j < gv
            · have HX := hid (HX.out.trans (if_pos hlt))
              have hj1 : (j : Int) < gv := by omega
              have hj19 : (j : Int) < 19 := by omega
              have hj0 : (0 : Int) ≤ j := by omega
              have ho := ordL_lt j (by omega)
              go_wp2_with fail
              by_cases h5 : k1 + 3 ≤ 8 * s.size
              · have HX := hid (HX.out.trans (num_ok h5))
                refine (rbits_ok hs 3 (by omega) 0 (by omega) h5 HII.out).mono ?_
                rintro e w8 ⟨rfl, hi8, hk8⟩
                have HI8 := hid hi8
                have HK8 := hid (HKI.out.trans hk8)
                have HA8 := hid (hk8.has HA.out (by decide))
                have HO8 := hid (hk8.has HO.out (by decide))
                have HN8 := hid (hk8.has HNI.out (by decide))
                have hv8 : bv s k1 3 < 8 := bv_lt s k1 3
                rw [Nat.zero_add]
                clear hi8 hk8 h5
                have c0 : w8.cell? ⟨ob, j, none⟩ = some (.int .i64 (ordL.getD j 0 : Nat)) := (HO8.out.cell j).trans (ordA_get j (by omega))
                generalize ordL.getD j 0 = o at *
                generalize bv s k1 3 = bvv at *
                generalize k1 + 3 = k5 at *
                have b1 : (0 : Int) ≤ o := by omega
                have b2 : (o : Int) < 19 := by omega
                have b3 : (o : Int).toNat = o := rfl
                have b4 : IntKind.i64.wrap (o : Int) = (o : Int) := IntWalk.i64_in _ (by omega)
                have g0 : w8.cell? ⟨ab, o, none⟩ = some (.int .i64 (l1[o]'(by rw [HL1.out]; omega))) := (HA8.out.cell o).trans (by rw [List.getElem?_toArray, icl_get l1 o (by rw [HL1.out]; omega)])
                have g1 : w8.frozen? ⟨ab, o, none⟩ = false := HA8.out.frozen o
                have HA9 := hid (HA8.out.put o (.int .i64 (bvv : Nat)))
                rw [icl_set] at HA9
                have HN9 := hid (HN8.out.far (p := ⟨ab, o, none⟩) HNA.out (.int .i64 (bvv : Nat)))
                have HO9 := hid (HO8.out.far (p := ⟨ab, o, none⟩) HOA.out (.int .i64 (bvv : Nat)))
                have HK9 := hid ((KT.refl (T := [3]) (B := B) w8).setCell (p := ⟨ab, o, none⟩) HBA.out (HA8.out.hot (by decide)) (.int .i64 (bvv : Nat)))
                have HI9 := hid (HI8.out.other HK9.out (by decide) (by decide) (by decide))
                have HK10 := hid (HK8.out.later (Below.setCell (p := ⟨ab, o, none⟩) (Below.refl _ _) HAB.out (.int .i64 (bvv : Nat))))
                have HR9 := hid (show ∀ x ∈ l1.set o (bvv : Int), 0 ≤ x ∧ x ≤ 15 from fun x hx => by
                  rcases List.mem_or_eq_of_mem_set hx with h | h
                  · exact HR1.out x h
                  · omega)
                have HL9 := hid (show (l1.set o (bvv : Int)).length = 19 by rw [List.length_set]; exact HL1.out)
                cases any
                · by_cases hv0 : bvv = 0
                  · subst hv0
                    have HZ9 := hid (show l1.set o ((0 : Nat) : Int) = List.replicate 19 0 by rw [HZ1.out rfl]; exact set_rep 19 o)
                    go_wp2
                    exact ⟨⟨j + 1, false, by omega, by go_num, rfl, _, _, _, HL9.out, HR9.out, fun _ => HZ9.out, HA9.out, HN9.out, HO9.out, HI9.out, HK10.out, HL.out.then HX.out⟩, by simp [intOf]; omega⟩
                  · have hv1 : (0 : Int) < bvv := by omega
                    have hv2 : 0 < bvv := by omega
                    go_wp2
                    exact ⟨⟨j + 1, true, by omega, by go_num, by simp, _, _, _, HL9.out, HR9.out, (fun h => by cases h), HA9.out, HN9.out, HO9.out, HI9.out, HK10.out, HL.out.then HX.out⟩, by simp [intOf]; omega⟩
                · go_wp2
                  exact ⟨⟨j + 1, true, by omega, by go_num, rfl, _, _, _, HL9.out, HR9.out, (fun h => by cases h), HA9.out, HN9.out, HO9.out, HI9.out, HK10.out, HL.out.then HX.out⟩, by simp [intOf]; omega⟩
              · have HX := hid (HX.out.trans (num_bad h5))
                refine (rbits_bad hs 3 (by omega) 0 (by omega) h5 HII.out).mono ?_
                rintro e w8 ⟨rfl, hi8, hk8⟩
                have HK8 := hid (HKI.out.trans hk8)
                have HN8 := hid (hk8.has HNI.out (by decide))
                clear hi8 hk8
                have b0 : w8.cell? ⟨nb, 0, none⟩ = some (.slice none 0 0) := HN8.out.cell 0
                have b1 : w8.cell? ⟨nb, 1, none⟩ = some (.slice none 0 0) := HN8.out.cell 1
                have f0 : w8.frozen? ⟨nb, 0, none⟩ = false := HN8.out.frozen 0
                have f1 : w8.frozen? ⟨nb, 1, none⟩ = false := HN8.out.frozen 1
                have HP := hid (has_two HN8.out (.slice none 0 0) (.slice none 0 0))
                have HKX := hid (HK8.out.fresh HNB.out (.slice none 0 0) (.slice none 0 0))
                go_wp2
                generalize World.setCell (World.setCell w8 _ _) _ _ = W9 at *
                have p0 : W9.cell? ⟨nb, 0, none⟩ = some (.slice none 0 0) := HP.out.cell 0
                have p1 : W9.cell? ⟨nb, 1, none⟩ = some (.slice none 0 0) := HP.out.cell 1
                try simp only [Exit.inBlock, Exit.then]
                refine bodyPost_ret (by simp [results, Tryd.results46, go_sem, p0, p1]; try rfl) rfl ?_
                exact ⟨HKX.out, .inl ⟨_, HL.out.then HX.out, by decide, rfl⟩⟩
            · have HX := hid (HX.out.trans (if_neg hlt))
              have hj1 : ¬ (j : Int) < gv := by omega
              go_wp2_with fail
              by_cases hcl : checkE l1 = 0
              · have HX := hid (HX.out.trans (if_pos hcl))
                refine (rcoded_ok (B := B) ab 0 19 19 l1 HL1.out hcl (icl_ints HA.out)).mono ?_
                rintro e w8 ⟨c, rfl, hc8, hk8⟩
                have HC8 := hid hc8
                obtain ⟨cb, coff, clen, ccap, crb, rfl, _, _, _⟩ := hc8.ex
                have HI8 := hid (HII.out.other (hk8 []) (by decide) (by decide) (by decide))
                have HK8 := hid (HKI.out.trans (hk8 TJ))
                have HN8 := hid ((hk8 []).has HNI.out (by decide))
                have HL2 := hid (HL.out.then HX.out)
                clear hc8 hk8 hcl
                have HW9 := hid (show Bw w8 (w8.alloc (.cells #[.slice (some ⟨cb, coff, none⟩) clen ccap, .slice (some ⟨crb, 0, none⟩) clen clen] 69)) from (Bw.refl w8).alloc _)
                have HN9 := hid (HW9.out.has HN8.out)
                have HK9 := hid (HK8.out.trans (KT.of_bw HW9.out))
                cases any
                · have hz := HZ1.out rfl
                  subst hz
                  have b0 : (w8.alloc (.cells #[.slice (some ⟨cb, coff, none⟩) clen ccap, .slice (some ⟨crb, 0, none⟩) clen clen] 69)).cell? ⟨nb, 0, none⟩ = some (.slice none 0 0) := HN9.out.cell 0
                  have b1 : (w8.alloc (.cells #[.slice (some ⟨cb, coff, none⟩) clen ccap, .slice (some ⟨crb, 0, none⟩) clen clen] 69)).cell? ⟨nb, 1, none⟩ = some (.slice none 0 0) := HN9.out.cell 1
                  have f0 : (w8.alloc (.cells #[.slice (some ⟨cb, coff, none⟩) clen ccap, .slice (some ⟨crb, 0, none⟩) clen clen] 69)).frozen? ⟨nb, 0, none⟩ = false := HN9.out.frozen 0
                  have f1 : (w8.alloc (.cells #[.slice (some ⟨cb, coff, none⟩) clen ccap, .slice (some ⟨crb, 0, none⟩) clen clen] 69)).frozen? ⟨nb, 1, none⟩ = false := HN9.out.frozen 1
                  have HP := hid (has_two HN9.out (.slice none 0 0) (.slice none 0 0))
                  have HKX := hid (HK9.out.fresh HNB.out (.slice none 0 0) (.slice none 0 0))
                  go_wp2
                  generalize World.setCell (World.setCell (w8.alloc (.cells #[.slice (some ⟨cb, coff, none⟩) clen ccap, .slice (some ⟨crb, 0, none⟩) clen clen] 69)) _ _) _ _ = W9 at *
                  have p0 : W9.cell? ⟨nb, 0, none⟩ = some (.slice none 0 0) := HP.out.cell 0
                  have p1 : W9.cell? ⟨nb, 1, none⟩ = some (.slice none 0 0) := HP.out.cell 1
                  try simp only [Exit.inBlock, Exit.then]
                  refine bodyPost_ret (by simp [results, Tryd.results46, go_sem, p0, p1]; try rfl) rfl ?_
                  exact ⟨HKX.out, .inl ⟨_, HL2.out.then (seq_none s lim last n d k1 out (by omega)), by decide, rfl⟩⟩
                · have HB9 := hid (Has.new w8 69 #[.slice (some ⟨cb, coff, none⟩) clen ccap, .slice (some ⟨crb, 0, none⟩) clen clen])
                  have HI9 := hid (HI8.out.bw HW9.out)
                  have HC9 := hid (HC8.out.bw HW9.out)
                  have HNX := hid (show nb ≠ w8.heap.size by have := HN8.out.lt; omega)
                  go_wp2_with fail
                  generalize (w8.alloc (.cells #[.slice (some ⟨cb, coff, none⟩) clen ccap, .slice (some ⟨crb, 0, none⟩) clen clen] 69)) = w9 at *
                  generalize w8.heap.size = xb at *
                  have HD := hid (show Bw w9 w9.drew from (Bw.refl w9).drewN 1)
                  have HN9 := hid (HD.out.has HN9.out)
                  have HB9 := hid (HD.out.has HB9.out)
                  have HK9 := hid (HK9.out.trans (KT.of_bw HD.out))
                  have HI9 := hid (HI9.out.bw HD.out)
                  have HC9 := hid (HC9.out.bw HD.out)
                  have b0 : w9.drew.cell? ⟨nb, 0, none⟩ = some (.slice none 0 0) := HN9.out.cell 0
                  have b1 : w9.drew.cell? ⟨nb, 1, none⟩ = some (.slice none 0 0) := HN9.out.cell 1
                  have f0 : w9.drew.frozen? ⟨nb, 0, none⟩ = false := HN9.out.frozen 0
                  have f1 : w9.drew.frozen? ⟨nb, 1, none⟩ = false := HN9.out.frozen 1
                  have d0 : w9.drew.cell? ⟨xb, 0, none⟩ = some (.slice (some ⟨cb, coff, none⟩) clen ccap) := HB9.out.cell 0
                  have d1 : w9.drew.cell? ⟨xb, 1, none⟩ = some (.slice (some ⟨crb, 0, none⟩) clen clen) := HB9.out.cell 1
                  have HP := hid (has_two HN9.out (.slice (some ⟨cb, coff, none⟩) clen ccap) (.slice (some ⟨crb, 0, none⟩) clen clen))
                  have HKX := hid (HK9.out.fresh HNB.out (.slice (some ⟨cb, coff, none⟩) clen ccap) (.slice (some ⟨crb, 0, none⟩) clen clen))
                  have hBn : B ≤ nb := by have h1 := HI.out.gb; have h2 := Has.lt HI.out.rd; have h3 := HNB.out; omega
                  have HKN := hid (((KT.refl (T := [69]) (B := B) w9.drew).setCell (p := ⟨nb, 0, none⟩) hBn (HN9.out.hot (by decide)) (.slice (some ⟨cb, coff, none⟩) clen ccap)).setCell (p := ⟨nb, 1, none⟩) hBn ((HN9.out.put 0 (.slice (some ⟨cb, coff, none⟩) clen ccap)).hot (by decide)) (.slice (some ⟨crb, 0, none⟩) clen clen))
                  have HIX := hid (HI9.out.other HKN.out (by decide) (by decide) (by decide))
                  have HCX := hid (HC9.out.kt HKN.out (by decide))
                  clear hBn
                  have HNP := hid (show Has (w9.drew.setCell ⟨nb, 0, none⟩ (.slice (some ⟨cb, coff, none⟩) clen ccap)) nb 69 #[.slice (some ⟨cb, coff, none⟩) clen ccap, .slice none 0 0] by simpa using HN9.out.put 0 (.slice (some ⟨cb, coff, none⟩) clen ccap))
                  have e1 : (w9.drew.setCell ⟨nb, 0, none⟩ (.slice (some ⟨cb, coff, none⟩) clen ccap)).cell? ⟨nb, 1, none⟩ = some (.slice none 0 0) := HNP.out.cell 1
                  have e2 : (w9.drew.setCell ⟨nb, 0, none⟩ (.slice (some ⟨cb, coff, none⟩) clen ccap)).frozen? ⟨nb, 1, none⟩ = false := HNP.out.frozen 1
                  have e3 : w9.cell? ⟨nb, 0, none⟩ = some (.slice none 0 0) := b0
                  have e4 : w9.cell? ⟨nb, 1, none⟩ = some (.slice none 0 0) := b1
                  have e5 : w9.frozen? ⟨nb, 0, none⟩ = false := f0
                  have e6 : w9.frozen? ⟨nb, 1, none⟩ = false := f1
                  have e7 : w9.cell? ⟨xb, 0, none⟩ = some (.slice (some ⟨cb, coff, none⟩) clen ccap) := d0
                  have e8 : w9.cell? ⟨xb, 1, none⟩ = some (.slice (some ⟨crb, 0, none⟩) clen clen) := d1
                  go_region
                  have HWE : (w9.drew.setCell ⟨nb, 0, none⟩ (.slice (some ⟨cb, coff, none⟩) clen ccap)).setCell ⟨nb, 1, none⟩ (.slice (some ⟨crb, 0, none⟩) clen clen) = ((w9.setCell ⟨nb, 0, none⟩ (.slice (some ⟨cb, coff, none⟩) clen ccap)).setCell ⟨nb, 1, none⟩ (.slice (some ⟨crb, 0, none⟩) clen clen)).drew := rfl
                  rw [HWE] at HP HKX HIX HCX
                  clear HWE HNP e1 e2 e3 e4 e5 e6 e7 e8 b0 b1 f0 f1 d0 d1 HKN
                  go_wp2
                  generalize World.drew (World.setCell (World.setCell w9 _ _) _ _) = W9 at *
                  all_goals have p0 : W9.cell? ⟨nb, 0, none⟩ = some (.slice (some ⟨cb, coff, none⟩) clen ccap) := HP.out.cell 0
                  all_goals have p1 : W9.cell? ⟨nb, 1, none⟩ = some (.slice (some ⟨crb, 0, none⟩) clen clen) := HP.out.cell 1
                  all_goals try simp only [Exit.inBlock, Exit.then]
                  all_goals refine bodyPost_ret (by simp [results, Tryd.results46, go_sem, p0, p1]; try rfl) rfl ?_
                  all_goals exact ⟨HKX.out, .inr ⟨n, d, l1, k1, _, v1, HL2.out, by omega, by omega, by omega, by omega, HL1.out, HCX.out, rfl, HIX.out⟩⟩
              · have h3 := check_three (by rw [HL1.out]; decide) HR1.out hcl
                have HX := hid ((HX.out.trans (if_neg hcl)).trans (by rw [h3]))
                refine (rcoded_bad (B := B) ab 0 19 19 l1 HL1.out hcl (icl_ints HA.out)).mono ?_
                rintro e w8 ⟨rfl, hk8⟩
                have HK8 := hid (HKI.out.trans (hk8 TJ))
                have HN8 := hid ((hk8 []).has HNI.out (by decide))
                clear hk8 h3 hcl
                have HW9 := hid (show Bw w8 (w8.alloc (.cells #[.slice (some ⟨ab, 0, none⟩) 19 19, .slice none 0 0] 69)) from (Bw.refl w8).alloc _)
                have HN9 := hid (HW9.out.has HN8.out)
                have HK9 := hid (HK8.out.trans (KT.of_bw HW9.out))
                have b0 : (w8.alloc (.cells #[.slice (some ⟨ab, 0, none⟩) 19 19, .slice none 0 0] 69)).cell? ⟨nb, 0, none⟩ = some (.slice none 0 0) := HN9.out.cell 0
                have b1 : (w8.alloc (.cells #[.slice (some ⟨ab, 0, none⟩) 19 19, .slice none 0 0] 69)).cell? ⟨nb, 1, none⟩ = some (.slice none 0 0) := HN9.out.cell 1
                have f0 : (w8.alloc (.cells #[.slice (some ⟨ab, 0, none⟩) 19 19, .slice none 0 0] 69)).frozen? ⟨nb, 0, none⟩ = false := HN9.out.frozen 0
                have f1 : (w8.alloc (.cells #[.slice (some ⟨ab, 0, none⟩) 19 19, .slice none 0 0] 69)).frozen? ⟨nb, 1, none⟩ = false := HN9.out.frozen 1
                have HP := hid (has_two HN9.out (.slice none 0 0) (.slice none 0 0))
                have HKX := hid (HK9.out.fresh HNB.out (.slice none 0 0) (.slice none 0 0))
                go_wp2
                generalize World.setCell (World.setCell (w8.alloc (.cells #[.slice (some ⟨ab, 0, none⟩) 19 19, .slice none 0 0] 69)) _ _) _ _ = W9 at *
                have p0 : W9.cell? ⟨nb, 0, none⟩ = some (.slice none 0 0) := HP.out.cell 0
                have p1 : W9.cell? ⟨nb, 1, none⟩ = some (.slice none 0 0) := HP.out.cell 1
                try simp only [Exit.inBlock, Exit.then]
                refine bodyPost_ret (by simp [results, Tryd.results46, go_sem, p0, p1]; try rfl) rfl ?_
                exact ⟨HKX.out, .inl ⟨_, HL.out.then HX.out, by decide, rfl⟩⟩
        · have HX := hid (HX.out.trans (if_neg h4))
          by_cases h41 : n ≤ 286
          · have t1 : decide (286 < (n : Int)) = false := decide_eq_false (by omega)
            have t2 : decide (30 < (d : Int)) = true := decide_eq_true (by omega)
            have t3 : decide (286 < n) = false := decide_eq_false (by omega)
            have t4 : decide (30 < d) = true := decide_eq_true (by omega)
            have b0 : w4.cell? ⟨nb, 0, none⟩ = some (.slice none 0 0) := HN4.out.cell 0
            have b1 : w4.cell? ⟨nb, 1, none⟩ = some (.slice none 0 0) := HN4.out.cell 1
            have f0 : w4.frozen? ⟨nb, 0, none⟩ = false := HN4.out.frozen 0
            have f1 : w4.frozen? ⟨nb, 1, none⟩ = false := HN4.out.frozen 1
            have HP := hid (has_two HN4.out (.slice none 0 0) (.slice none 0 0))
            have HKX := hid (HK4.out.fresh HNB.out (.slice none 0 0) (.slice none 0 0))
            go_wp2
            generalize World.setCell (World.setCell w4 _ _) _ _ = W9 at *
            have p0 : W9.cell? ⟨nb, 0, none⟩ = some (.slice none 0 0) := HP.out.cell 0
            have p1 : W9.cell? ⟨nb, 1, none⟩ = some (.slice none 0 0) := HP.out.cell 1
            try simp only [Exit.inBlock, Exit.then]
            refine bodyPost_ret (by simp [results, Tryd.results46, go_sem, p0, p1]; try rfl) rfl ?_
            exact ⟨HKX.out, .inl ⟨_, HX.out ▸ Leads.refl _, by decide, rfl⟩⟩
          · have t1 : decide (286 < (n : Int)) = true := decide_eq_true (by omega)
            have t3 : decide (286 < n) = true := decide_eq_true (by omega)
            have b0 : w4.cell? ⟨nb, 0, none⟩ = some (.slice none 0 0) := HN4.out.cell 0
            have b1 : w4.cell? ⟨nb, 1, none⟩ = some (.slice none 0 0) := HN4.out.cell 1
            have f0 : w4.frozen? ⟨nb, 0, none⟩ = false := HN4.out.frozen 0
            have f1 : w4.frozen? ⟨nb, 1, none⟩ = false := HN4.out.frozen 1
            have HP := hid (has_two HN4.out (.slice none 0 0) (.slice none 0 0))
            have HKX := hid (HK4.out.fresh HNB.out (.slice none 0 0) (.slice none 0 0))
            go_wp2
            generalize World.setCell (World.setCell w4 _ _) _ _ = W9 at *
            have p0 : W9.cell? ⟨nb, 0, none⟩ = some (.slice none 0 0) := HP.out.cell 0
            have p1 : W9.cell? ⟨nb, 1, none⟩ = some (.slice none 0 0) := HP.out.cell 1
            try simp only [Exit.inBlock, Exit.then]
            refine bodyPost_ret (by simp [results, Tryd.results46, go_sem, p0, p1]; try rfl) rfl ?_
            exact ⟨HKX.out, .inl ⟨_, HX.out ▸ Leads.refl _, by decide, rfl⟩⟩
      · have HX := hid (HX.out.trans (num_bad h3))
        refine (rbits_bad hs 4 (by omega) 4 (by omega) h3 HI3.out).mono ?_
        rintro e w4 ⟨rfl, hi4, hk4⟩
        have HK4 := hid (HK3.out.trans hk4)
        have HN4 := hid (hk4.has HN3.out (by decide))
        clear hi4 hk4
        have b0 : w4.cell? ⟨nb, 0, none⟩ = some (.slice none 0 0) := HN4.out.cell 0
        have b1 : w4.cell? ⟨nb, 1, none⟩ = some (.slice none 0 0) := HN4.out.cell 1
        have f0 : w4.frozen? ⟨nb, 0, none⟩ = false := HN4.out.frozen 0
        have f1 : w4.frozen? ⟨nb, 1, none⟩ = false := HN4.out.frozen 1
        have HP := hid (has_two HN4.out (.slice none 0 0) (.slice none 0 0))
        have HKX := hid (HK4.out.fresh HNB.out (.slice none 0 0) (.slice none 0 0))
        go_wp2
        generalize World.setCell (World.setCell w4 _ _) _ _ = W9 at *
        have p0 : W9.cell? ⟨nb, 0, none⟩ = some (.slice none 0 0) := HP.out.cell 0
        have p1 : W9.cell? ⟨nb, 1, none⟩ = some (.slice none 0 0) := HP.out.cell 1
        try simp only [Exit.inBlock, Exit.then]
        refine bodyPost_ret (by simp [results, Tryd.results46, go_sem, p0, p1]; try rfl) rfl ?_
        exact ⟨HKX.out, .inl ⟨_, HX.out ▸ Leads.refl _, by decide, rfl⟩⟩
    · have HX := hid (HX.out.trans (num_bad h2))
      refine (rbits_bad hs 5 (by omega) 1 (by omega) h2 HI2.out).mono ?_
      rintro e w4 ⟨rfl, hi4, hk4⟩
      have HK4 := hid (HK2.out.trans hk4)
      have HN4 := hid (hk4.has HN2.out (by decide))
      clear hi4 hk4
      have b0 : w4.cell? ⟨nb, 0, none⟩ = some (.slice none 0 0) := HN4.out.cell 0
      have b1 : w4.cell? ⟨nb, 1, none⟩ = some (.slice none 0 0) := HN4.out.cell 1
      have f0 : w4.frozen? ⟨nb, 0, none⟩ = false := HN4.out.frozen 0
      have f1 : w4.frozen? ⟨nb, 1, none⟩ = false := HN4.out.frozen 1
      have HP := hid (has_two HN4.out (.slice none 0 0) (.slice none 0 0))
      have HKX := hid (HK4.out.fresh HNB.out (.slice none 0 0) (.slice none 0 0))
      go_wp2
      generalize World.setCell (World.setCell w4 _ _) _ _ = W9 at *
      have p0 : W9.cell? ⟨nb, 0, none⟩ = some (.slice none 0 0) := HP.out.cell 0
      have p1 : W9.cell? ⟨nb, 1, none⟩ = some (.slice none 0 0) := HP.out.cell 1
      try simp only [Exit.inBlock, Exit.then]
      refine bodyPost_ret (by simp [results, Tryd.results46, go_sem, p0, p1]; try rfl) rfl ?_
      exact ⟨HKX.out, .inl ⟨_, HX.out ▸ Leads.refl _, by decide, rfl⟩⟩
  · have HX := hid (HX.out.trans (num_bad h1))
    refine (rbits_bad hs 5 (by omega) 257 (by omega) h1 HI1.out).mono ?_
    rintro e w4 ⟨rfl, hi4, hk4⟩
    have HK4 := hid ((KT.of_bw HW.out).trans hk4)
    have HN4 := hid (hk4.has HN.out (by decide))
    clear hi4 hk4
    have b0 : w4.cell? ⟨nb, 0, none⟩ = some (.slice none 0 0) := HN4.out.cell 0
    have b1 : w4.cell? ⟨nb, 1, none⟩ = some (.slice none 0 0) := HN4.out.cell 1
    have f0 : w4.frozen? ⟨nb, 0, none⟩ = false := HN4.out.frozen 0
    have f1 : w4.frozen? ⟨nb, 1, none⟩ = false := HN4.out.frozen 1
    have HP := hid (has_two HN4.out (.slice none 0 0) (.slice none 0 0))
    have HKX := hid (HK4.out.fresh HNB.out (.slice none 0 0) (.slice none 0 0))
    go_wp2
    generalize World.setCell (World.setCell w4 _ _) _ _ = W9 at *
    have p0 : W9.cell? ⟨nb, 0, none⟩ = some (.slice none 0 0) := HP.out.cell 0
    have p1 : W9.cell? ⟨nb, 1, none⟩ = some (.slice none 0 0) := HP.out.cell 1
    try simp only [Exit.inBlock, Exit.then]
    refine bodyPost_ret (by simp [results, Tryd.results46, go_sem, p0, p1]; try rfl) rfl ?_
    exact ⟨HKX.out, .inl ⟨_, HX.out ▸ Leads.refl _, by decide, rfl⟩⟩
end
end Go.Proofs.YtgchopfagobleaaDoor
