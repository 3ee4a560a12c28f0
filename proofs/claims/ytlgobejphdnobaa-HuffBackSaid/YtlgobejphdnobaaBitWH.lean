/- What the methods of bits's writer return, and what they leave (contracts of the functions). -/
import Derived.Test.YtlgobejphdnobaaOwn
import Derived.Test.YtlgobejphdnobaaBitR0
import Derived.Test.YtlgobejphdnobaaBitWM
import Derived.Lib.AppendStr
namespace Go.Proofs.Ytlgobejphdnobaa
open Go.RowKit
set_option linter.unusedVariables false

theorem whole_q (g k q : Nat) (hk : k ≤ 1152921504606846976) (hq : Hid (k / 8 = q)) (w : World) (hc : w.cell? ⟨g, 0, none⟩ = some (.int .i64 k)) :
    Calls Try.prog 37 #[.pointer (some ⟨g, 0, none⟩)] w fun e w' => e = .returned (.int .i64 (q : Nat)) ∧ w' = w := by
  have := whole_any g k hk w hc
  rw [hq.out] at this
  exact quiet_flip this
theorem begun_q (g k q : Nat) (hk : k ≤ 1152921504606846976) (hq : Hid (k % 8 = q)) (w : World) (hc : w.cell? ⟨g, 0, none⟩ = some (.int .i64 k)) :
    Calls Try.prog 35 #[.pointer (some ⟨g, 0, none⟩)] w fun e w' => e = .returned (.int .i64 (q : Nat)) ∧ w' = w := by
  have := begun_any g k hk w hc
  rw [hq.out] at this
  exact quiet_flip this
theorem byteInfo : (Try.prog.info? 5).map (fun i => (i.zero, i.size, i.bytes)) = some (some (.int .u8 0), 1, 1) := by kernel_rfl
theorem Keeps.own {F : Nat → Prop} {w w' : World} (h : Keeps F w w') {e : TypeId} {size n : Nat} {v : Value} {xs : List Value} (k : w.ownsRow 0 e size v n xs) (hF : ∀ b, v.ownBlock = some b → ¬ F b) : w'.ownsRow 0 e size v n xs :=
  own_keep k fun b hb => h.block b (own_lt k hb) (hF b hb)
theorem Keeps.grown {F : Nat → Prop} {a w w' : World} (h : Keeps F a w) {row : Option Nat} (hg : w.grownBy w' row) (hr : ∀ b, row = some b → F b) : Keeps F a w' :=
  ⟨hg.os.trans h.os, hg.tape.trans h.tape, hg.output.trans h.output, Nat.le_trans h.size hg.size, fun i hi hn => (hg.block i (Nat.lt_of_lt_of_le hi h.size) (fun e => hn (hr i e.symm))).trans (h.block i hi hn)⟩

/-- The parts of a writer in memory: its block with these cells, its bytes. -/
structure WrB (w : World) (g : Nat) (k : Nat) (dv : Value) (l : Nat) (d : Nat) (xs : List Value) : Prop where
  blk : Has w g 50 #[.int .i64 k, dv, .int .u8 (l : Nat)]
  row : w.ownsRow 0 5 1 dv d xs
theorem WrB.ne {w : World} {g k l d : Nat} {dv : Value} {xs : List Value} (h : WrB w g k dv l d xs) : dv.ownBlock ≠ some g := own_ne_has h.row h.blk (by decide)
theorem WrB.keep {w w' : World} {g k l d : Nat} {dv : Value} {xs : List Value} (h : WrB w g k dv l d xs) {F : Nat → Prop} (hk : Keeps F w w') (hg : ¬ F g) (hd : ∀ b, dv.ownBlock = some b → ¬ F b) : WrB w' g k dv l d xs :=
  ⟨hk.has h.blk hg, hk.own h.row hd⟩
theorem WrB.drewN {w : World} {g k l d : Nat} {dv : Value} {xs : List Value} (h : WrB w g k dv l d xs) (n : Nat) : WrB (w.drewN n) g k dv l d xs :=
  h.keep ((Keeps.refl (fun _ => False) w).drewN n) (fun h => h) (fun _ _ h => h)
theorem WrB.put {w : World} {g k l d : Nat} {dv : Value} {xs : List Value} (h : WrB w g k dv l d xs) (i : Nat) (u : Value) :
    Has (w.setCell ⟨g, i, none⟩ u) g 50 (#[Value.int .i64 k, dv, .int .u8 (l : Nat)].setIfInBounds i u) ∧ (w.setCell ⟨g, i, none⟩ u).ownsRow 0 5 1 dv d xs :=
  ⟨h.blk.put i u, own_keep h.row fun b hb => Below.heap_setCell w ⟨g, i, none⟩ u b (fun e => h.ne (by rw [hb, e]))⟩
theorem WrB.setAt {w : World} {g k l d : Nat} {dv : Value} {xs : List Value} (h : WrB w g k dv l d xs) (m : Nat) : WrB (w.setCell ⟨g, 0, none⟩ (.int .i64 m)) g m dv l d xs :=
  ⟨by simpa using (h.put 0 (.int .i64 m)).1, (h.put 0 (.int .i64 m)).2⟩
theorem WrB.setLast {w : World} {g k l d : Nat} {dv : Value} {xs : List Value} (h : WrB w g k dv l d xs) (m : Nat) : WrB (w.setCell ⟨g, 2, none⟩ (.int .u8 (m : Nat))) g k dv m d xs :=
  ⟨by simpa using (h.put 2 (.int .u8 (m : Nat))).1, (h.put 2 (.int .u8 (m : Nat))).2⟩
/-- All blocks of the writer are of F. -/
def WrF (F : Nat → Prop) (w : World) (g k N : Nat) : Prop :=
  ∃ dv, F g ∧ (∀ b, dv.ownBlock = some b → F b) ∧ WrB w g k dv (hiN N (k / 8)) (k / 8) (byteCells N (k / 8)) ∧ N < 2 ^ k ∧ ∀ i, F i → i < w.heap.size
def WPost (F : Nat → Prop) (g k N : Nat) (w w' : World) : Prop := ∃ F', WrF F' w' g k N ∧ Keeps F w w' ∧ ∀ i, F' i → F i ∨ w.heap.size ≤ i
theorem WrF.keep {F G : Nat → Prop} {w w' : World} {g k N : Nat} (h : WrF F w g k N) (hk : Keeps G w w') (hd : ∀ i, F i → ¬ G i) : WrF F w' g k N := by
  obtain ⟨dv, h1, h2, h3, h4, h5⟩ := h
  exact ⟨dv, h1, h2, h3.keep hk (hd _ h1) (fun b hb => hd _ (h2 b hb)), h4, fun i hi => Nat.lt_of_lt_of_le (h5 i hi) hk.size⟩
theorem lift_advanceW (g k n : Nat) (hk : k + n ≤ 1152921504606846976) {dv : Value} {l d : Nat} {xs : List Value} (w : World) (h : WrB w g k dv l d xs) :
    Calls Try.prog 36 #[.pointer (some ⟨g, 0, none⟩), .int .i64 n] w fun e w' => e = .returned (.tuple #[]) ∧ WrB w' g (k + n) dv l d xs ∧ Keeps (· = g) w w' := by
  refine (advance_any g k n hk w (h.blk.cell 0) (h.blk.frozen 0)).mono ?_
  rintro e w' ⟨rfl, rfl⟩
  exact ⟨rfl, h.setAt (k + n), Keeps.of_setCell (F := (· = g)) (p := ⟨g, 0, none⟩) rfl _⟩
theorem grow_keeps {F F' : Nat → Prop} {w W w5 : World} {o : Obj} {row : Option Nat} (hK : Keeps F w W) (hF : ∀ i, F' i → F i ∨ w.heap.size ≤ i) (hg : (W.alloc o).grownBy w5 row) (hr : ∀ b, row = some b → F' b) : Keeps F w w5 := by
  have hs := hK.size
  refine ⟨hg.os.trans hK.os, hg.tape.trans hK.tape, hg.output.trans hK.output, Nat.le_trans hs (Nat.le_trans (by simp) hg.size), fun i hi hn => ?_⟩
  refine (hg.block i (by simp; omega) (fun e => ?_)).trans ((Below.heap_alloc W o i (by omega)).trans (hK.block i hi hn))
  rcases hF i (hr i e.symm) with h | h
  · exact hn h
  · omega
set_option maxRecDepth 100000 in
set_option maxHeartbeats 2000000 in
theorem put_ok (F : Nat → Prop) (g k N : Nat) (hk : k ≤ 1125899906842592) (v : Nat) (hv32 : v < 4294967296) (n : Nat) (hn : n ≤ 32) (hv : v < 2 ^ n) (w : World) (h : WrF F w g k N) :
    Calls Try.prog 23 #[.pointer (some ⟨g, 0, none⟩), .int .u32 v, .int .i64 n] w fun e w' => e = .returned (.int .i64 0) ∧ WPost F g (k + n) (N + v * 2 ^ k) w w' := by
  obtain ⟨i0, hi, hz0, hz1, hz2⟩ := info_parts byteInfo
  obtain ⟨dv, hFg, hFd, hB, hN, hlt⟩ := h
  have hcn : cntB n = true := decide_eq_true ⟨by omega, by omega⟩
  have hb := isCount_any n w
  rw [hcn] at hb
  have HB0 := hid hb
  have t0 : ((v : Int) / 2 ^ n != 0) = false := by
    have e : (v : Int) / 2 ^ n = ((v / 2 ^ n : Nat) : Int) := by simp
    rw [e, Nat.div_eq_of_lt hv]; rfl
  have hll := last_lt hN
  have hor := or64w N v k hN hv32
  have hNN := lay_lt hN hv
  have hop : hiN (N + v * 2 ^ k) (k / 8) < 18446744073709551616 := by
    unfold hiN
    have h1 : (N + v * 2 ^ k) / 2 ^ (8 * (k / 8)) < 2 ^ (k % 8 + n) := div_lt_pow (by rw [show 8 * (k / 8) + (k % 8 + n) = k + n by omega]; exact hNN)
    exact Nat.lt_of_lt_of_le h1 (Nat.le_trans (Nat.pow_le_pow_right (by decide) (show k % 8 + n ≤ 40 by omega)) (by decide))
  have hcong : byteCells N (k / 8) = byteCells (N + v * 2 ^ k) (k / 8) := byteCells_cong (lay_cong N v k (k / 8) (by omega)).symm
  rw [hcong] at hB
  generalize hM : N + v * 2 ^ k = M at *
  generalize hL : hiN N (k / 8) = L at *
  have HM := hid hM
  have HL := hid hL
  have HFd := hid hFd
  have Hlt := hid hlt
  have HNN := hid hNN
  clear hb hcn hM hL hFd hlt hcong hN hv hNN
  obtain ⟨kn, hkn⟩ : ∃ kn, k + n = kn := ⟨_, rfl⟩
  have hkn2 : kn ≤ 1152921504606846976 := by omega
  have hkn3 : k + n ≤ 1152921504606846976 := by omega
  rw [hkn] at HNN ⊢
  have HKN := hid hkn
  clear hkn
  obtain ⟨q, hq⟩ : ∃ q, k / 8 = q := ⟨_, rfl⟩
  obtain ⟨r, hr⟩ : ∃ r, k % 8 = r := ⟨_, rfl⟩
  have HQ := hid hq
  have HR := hid hr
  rw [hq] at hB hop hor
  rw [hr] at hor
  have hr8 : r < 8 := by omega
  have HB := hid hB
  have hc0 : w.cell? ⟨g, 0, none⟩ = some (.int .i64 k) := hB.blk.cell 0
  have hc2 : w.cell? ⟨g, 2, none⟩ = some (.int .u8 (L : Nat)) := hB.blk.cell 2
  clear hq hr hB
  go_enter Try.func23, Try.ntmps23
  go_wp2_with fail
  refine HB0.out.mono ?_
  rintro e w' ⟨rfl, rfl⟩
  go_wp2_with fail
  go_quiet ((go_at_call 35; exact Calls.quiet_of_same (begun_q g _ r (by omega) HR _ (by simpa using hc0))))
  have HOR := hid hor
  clear hor
  go_wp2_with fail
  refine (lift_advanceW g k n hkn3 _ (HB.out.drewN nq)).mono ?_
  rintro e w1 ⟨rfl, hB1, hK1⟩
  have hK2 : Keeps (· = g) w w1 := ((Keeps.refl (· = g) w).drewN nq).trans hK1
  have HB1 := hid hB1
  have HK2 := hid hK2
  clear hB1 hK1 hK2 HB hc0 hc2
  obtain ⟨d, hd⟩ : ∃ d, (k + n) / 8 = d := ⟨_, rfl⟩
  have hqd : q ≤ d := by have := HQ.out; omega
  have hdk : d ≤ 140737488355328 := by have := HKN.out; omega
  have HD := hid hd
  rw [HKN.out] at HB1 HD
  clear hd
  go_wp2_with fail
  go_loopw [7] (fun o wr => ∃ j : Nat, ∃ dv' : Value, ∃ F' : Nat → Prop, j ≤ d ∧ q ≤ j ∧ o = .int .u64 (hiN M j : Nat) ∧ WrB wr g kn dv' L j (byteCells M j) ∧ F' g ∧ (∀ b, dv'.ownBlock = some b → F' b) ∧ Keeps F w wr ∧ (∀ i, F' i → F i ∨ w.heap.size ≤ i) ∧ ∀ i, F' i → i < wr.heap.size)
    (fun o wr => d - (match wr.cell? ⟨g, 1, none⟩ with | some (.slice _ m _) => m | _ => 0))
  case atStart =>
    exact ⟨q, dv, F, hqd, Nat.le_refl _, rfl, HB1.out, hFg, HFd.out, HK2.out.mono (fun i _ h => by rw [h]; exact hFg), fun i h => .inl h, fun i h => Nat.lt_of_lt_of_le (Hlt.out i h) HK2.out.size⟩
  case round =>
    rename_i wr
    obtain ⟨j, dv', F', hjd, hqj, rfl, hB', hF'g, hF'd, hK', hF'F, hF'l⟩ := hrel
    obtain ⟨ao, cap, rfl⟩ := own_slice hB'.row
    have d0 : wr.cell? ⟨g, 0, none⟩ = some (.int .i64 kn) := hB'.blk.cell 0
    have d1 : wr.cell? ⟨g, 1, none⟩ = some (.slice ao j cap) := hB'.blk.cell 1
    have HB' := hid hB'
    have HFd' := hid hF'd
    have HFF' := hid hF'F
    have HFl' := hid hF'l
    have HK' := hid hK'
    clear hB' hF'd hK' hF'F hF'l
    by_cases hlt : j < d
    · have ht : decide ((j : Int) < d) = true := by simpa using hlt
      go_wp2_with fail
      go_quiet ((go_at_call 37; exact Calls.quiet_of_same (whole_q g _ d hkn2 HD _ (by simpa using d0))))
      have hB4 : WrB (wr.drewN nq) g kn (.slice ao j cap) L j (byteCells M j) := HB'.out.drewN nq
      have hK4 : Keeps F w (wr.drewN nq) := HK'.out.drewN nq
      have hFl4 : ∀ i, F' i → i < (wr.drewN nq).heap.size := HFl'.out
      generalize wr.drewN nq = W4 at *
      have HB4 := hid hB4
      have HK4 := hid hK4
      have HFl4 := hid hFl4
      clear hB4 hK4 hFl4
      have e0 : W4.cell? ⟨g, 1, none⟩ = some (.slice ao j cap) := HB4.out.blk.cell 1
      have hx1 : hiN M j % 256 < 256 := Nat.mod_lt _ (by decide)
      go_wp2_with (at_builtin; refine wpList_append_own_at _ rfl (.tmp 53) (.tmp 56) 48 rfl 0 5 i0 (.int .u8 0) 1 1 Try.underlying48 hi hz0 hz1 hz2 rfl (by decide) (.slice ao j cap) j (byteCells M j) rfl (own_keep HB4.out.row (fun b hb => Below.heap_alloc _ _ _ (own_lt HB4.out.row hb))) ⟨W4.heap.size, 0, none⟩ 1 1 [.int .u8 ((hiN M j : Int) % 256)] rfl rfl (cell_one_new _ _ _) (by intro u hu; simp at hu; rw [hu]; rfl) (by unfold maxLen; omega) (by omega) (Nat.zero_le _) ?_; intro rd' w5 hown5 hgrow5 _ hblk5; obtain ⟨ao2, cap2, rfl⟩ := own_slice hown5; have hH5 : Has w5 g 50 #[.int .i64 kn, .slice ao j cap, .int .u8 (L : Nat)] := (hgrow5.block g (by have := HB4.out.blk.lt; simp; omega) (fun e => HB4.out.ne e.symm)).trans (HB4.out.blk.alloc _); have y5 : w5.cell? ⟨g, 1, none⟩ = some (.slice ao j cap) := hH5.cell 1; have z5 := hH5.frozen 1; have HG5 := hid hgrow5; have HO5 := hid hown5; have HBL := hid hblk5; have HH5 := hid hH5; clear hgrow5 hown5 hblk5 hH5 d0 d1 e0)
      have hne : (Value.slice ao2 (j + 1) cap2).ownBlock ≠ some g := own_ne_has HO5.out HH5.out (by decide)
      have hB6 : WrB (w5.setCell ⟨g, 1, none⟩ (.slice ao2 (j + 1) cap2)) g kn (.slice ao2 (j + 1) cap2) L (j + 1) (byteCells M (j + 1)) := by
        refine ⟨by simpa using HH5.out.put 1 (.slice ao2 (j + 1) cap2), own_keep ?_ (fun b hb => Below.heap_setCell w5 ⟨g, 1, none⟩ _ b (fun e => hne (by rw [hb, e])))⟩
        rw [byteCells_succ]
        simpa using HO5.out
      have hK5 : Keeps F w w5 := grow_keeps HK4.out HFF'.out HG5.out HFd'.out
      have hz5 : W4.heap.size < w5.heap.size := by have := HG5.out.size; simp at this; omega
      have hzK := HK4.out.size
      go_roundw
      case rel =>
        refine ⟨j + 1, .slice ao2 (j + 1) cap2, fun i => F' i ∨ (w.heap.size ≤ i ∧ i < w5.heap.size), by omega, by omega, by rw [← div_step]; simp, hB6, .inl hF'g, fun b hb => ?_, hK5.setCell (p := ⟨g, 1, none⟩) (.inl hFg) _, fun i h => ?_, fun i h => ?_⟩
        · rcases HBL.out with h | h
          · exact .inl (HFd'.out b (by rw [← h]; exact hb))
          · right
            have e : (W4.alloc (Obj.cells #[Value.int IntKind.u8 ((hiN M j : Int) % 256)] 5)).heap.size = b := by rw [h] at hb; exact Option.some.inj hb
            simp at e
            exact ⟨by omega, own_lt HO5.out hb⟩
        · rcases h with h | h
          · exact HFF'.out i h
          · exact .inr h.1
        · rcases h with h | h
          · have := HFl4.out i h; simp [World.setCell]; omega
          · simpa [World.setCell] using h.2
      case measure =>
        have e6 : (w5.setCell ⟨g, 1, none⟩ (.slice ao2 (j + 1) cap2)).cell? ⟨g, 1, none⟩ = some (.slice ao2 (j + 1) cap2) := hB6.blk.cell 1
        have e7 : wr.cell? ⟨g, 1, none⟩ = some (.slice ao j cap) := HB'.out.blk.cell 1
        rw [e6, e7]
        simp
        omega
    · obtain rfl : d = j := by omega
      have ht : decide ((d : Int) < d) = false := by simp
      go_wp2_with fail
      go_quiet ((go_at_call 37; exact Calls.quiet_of_same (whole_q g _ d hkn2 HD _ (by simpa using d0))))
      have hB4 : WrB (wr.drewN nq) g kn (.slice ao d cap) L d (byteCells M d) := HB'.out.drewN nq
      have hK4 : Keeps F w (wr.drewN nq) := HK'.out.drewN nq
      have hFl4 : ∀ i, F' i → i < (wr.drewN nq).heap.size := HFl'.out
      generalize wr.drewN nq = W4 at *
      have HB4 := hid hB4
      have HK4 := hid hK4
      have HFl4 := hid hFl4
      clear hB4 hK4 hFl4
      have e0 := HB4.out.blk.frozen 2
      have e2 : W4.cell? ⟨g, 2, none⟩ = some (.int .u8 (L : Nat)) := HB4.out.blk.cell 2
      have hm : hiN M d % 256 = hiN M d := by
        have h1 := last_lt HNN.out
        rw [HD.out] at h1
        omega
      have hm2 : ((hiN M d : Int) % 256) = (hiN M d : Nat) := by omega
      have HM2 := hid hm2
      clear hm hm2
      go_wp2
      go_returns
      refine ⟨rfl, F', ⟨.slice ao d cap, hF'g, HFd'.out, ?_, HNN.out, ?_⟩, HK4.out.setCell (p := ⟨g, 2, none⟩) (.inl hFg) _, HFF'.out⟩
      · rw [HD.out]
        have := HB4.out.setLast (hiN M d)
        rw [← HM2.out] at this
        exact this
      · intro i h
        simpa [World.setCell] using HFl4.out i h
end Go.Proofs.Ytlgobejphdnobaa
