import Derived.Test.YtacgnadhpgkcmaaDoorOwn
import Derived.Test.YtacgnadhpgkcmaaDoorBit0
import Derived.Lib.AppendStr
import Derived.Laws.BytesArg
import Derived.Test.YtacgnadhpgkcmaaDoorRows
import Derived.Test.YtacgnadhpgkcmaaDoorOwnB
import Derived.Laws.BitsAllLaws
import Derived.Laws.ShiftsVarLaws
import Derived.IntWalk
import Derived.Lib.RabinKarpLaws
/- What the methods of bits's writer return, and what they leave (contracts of the functions). -/
namespace Go.Proofs.YtacgnadhpgkcmaaDoor
open Go.RowKit
set_option linter.unusedVariables false

theorem whole_q (g k q : Nat) (hk : k ≤ 1152921504606846976) (hq : Hid (k / 8 = q)) (w : World) (hc : w.cell? ⟨g, 0, none⟩ = some (.int .i64 k)) :
    Calls Tryd.prog 45 #[.pointer (some ⟨g, 0, none⟩)] w fun e w' => e = .returned (.int .i64 (q : Nat)) ∧ w' = w := by
  have := whole_any g k hk w hc
  rw [hq.out] at this
  exact quiet_flip this
theorem begun_q (g k q : Nat) (hk : k ≤ 1152921504606846976) (hq : Hid (k % 8 = q)) (w : World) (hc : w.cell? ⟨g, 0, none⟩ = some (.int .i64 k)) :
    Calls Tryd.prog 28 #[.pointer (some ⟨g, 0, none⟩)] w fun e w' => e = .returned (.int .i64 (q : Nat)) ∧ w' = w := by
  have := begun_any g k hk w hc
  rw [hq.out] at this
  exact quiet_flip this
theorem byteInfoW : (Tryd.prog.info? 5).map (fun i => (i.zero, i.size, i.bytes)) = some (some (.int .u8 0), 1, 1) := by kernel_rfl
theorem Keeps.own {F : Nat → Prop} {w w' : World} (h : Keeps F w w') {e : TypeId} {size n : Nat} {v : Value} {xs : List Value} (k : w.ownsRow 0 e size v n xs) (hF : ∀ b, v.ownBlock = some b → ¬ F b) : w'.ownsRow 0 e size v n xs :=
  own_keep k fun b hb => h.block b (own_lt k hb) (hF b hb)
theorem Keeps.grown {F : Nat → Prop} {a w w' : World} (h : Keeps F a w) {row : Option Nat} (hg : w.grownBy w' row) (hr : ∀ b, row = some b → F b) : Keeps F a w' :=
  ⟨hg.os.trans h.os, hg.tape.trans h.tape, hg.output.trans h.output, Nat.le_trans h.size hg.size, fun i hi hn => (hg.block i (Nat.lt_of_lt_of_le hi h.size) (fun e => hn (hr i e.symm))).trans (h.block i hi hn)⟩

/-- The parts of a writer in memory: its block with these cells, its bytes. -/
structure WrB (w : World) (g : Nat) (k : Nat) (dv : Value) (l : Nat) (d : Nat) (xs : List Value) : Prop where
  blk : Has w g 46 #[.int .i64 k, dv, .int .u8 (l : Nat)]
  row : w.ownsRow 0 5 1 dv d xs
theorem WrB.ne {w : World} {g k l d : Nat} {dv : Value} {xs : List Value} (h : WrB w g k dv l d xs) : dv.ownBlock ≠ some g := own_ne_has h.row h.blk (by decide)
theorem WrB.keep {w w' : World} {g k l d : Nat} {dv : Value} {xs : List Value} (h : WrB w g k dv l d xs) {F : Nat → Prop} (hk : Keeps F w w') (hg : ¬ F g) (hd : ∀ b, dv.ownBlock = some b → ¬ F b) : WrB w' g k dv l d xs :=
  ⟨hk.has h.blk hg, hk.own h.row hd⟩
theorem WrB.drewN {w : World} {g k l d : Nat} {dv : Value} {xs : List Value} (h : WrB w g k dv l d xs) (n : Nat) : WrB (w.drewN n) g k dv l d xs :=
  h.keep ((Keeps.refl (fun _ => False) w).drewN n) (fun h => h) (fun _ _ h => h)
theorem WrB.put {w : World} {g k l d : Nat} {dv : Value} {xs : List Value} (h : WrB w g k dv l d xs) (i : Nat) (u : Value) :
    Has (w.setCell ⟨g, i, none⟩ u) g 46 (#[Value.int .i64 k, dv, .int .u8 (l : Nat)].setIfInBounds i u) ∧ (w.setCell ⟨g, i, none⟩ u).ownsRow 0 5 1 dv d xs :=
  ⟨h.blk.put i u, own_keep h.row fun b hb => Below.heap_setCell w ⟨g, i, none⟩ u b (fun e => h.ne (by rw [hb, e]))⟩
theorem WrB.setAt {w : World} {g k l d : Nat} {dv : Value} {xs : List Value} (h : WrB w g k dv l d xs) (m : Nat) : WrB (w.setCell ⟨g, 0, none⟩ (.int .i64 m)) g m dv l d xs :=
  ⟨by simpa using (h.put 0 (.int .i64 m)).1, (h.put 0 (.int .i64 m)).2⟩
theorem WrB.setLast {w : World} {g k l d : Nat} {dv : Value} {xs : List Value} (h : WrB w g k dv l d xs) (m : Nat) : WrB (w.setCell ⟨g, 2, none⟩ (.int .u8 (m : Nat))) g k dv m d xs :=
  ⟨by simpa using (h.put 2 (.int .u8 (m : Nat))).1, (h.put 2 (.int .u8 (m : Nat))).2⟩
/-- All blocks of the writer are of F. -/
def WrF (F : Nat → Prop) (w : World) (g k N : Nat) : Prop :=
  ∃ dv, F g ∧ (∀ b, dv.ownBlock = some b → F b) ∧ WrB w g k dv (hiN N (k / 8)) (k / 8) (byteCells N (k / 8)) ∧ N < 2 ^ k ∧ ∀ i, F i → i < w.heap.size
def WPost (F : Nat → Prop) (g k N : Nat) (w w' : World) : Prop := ∃ F', WrF F' w' g k N ∧ Keeps F w w' ∧ ∀ i, F' i → F i ∨ w.heap.size ≤ i
theorem WrF.keep {F G : Nat → Prop} {w w' : World} {g k N : Nat} (h : WrF F w g k N) (hk : Keeps G w w') (hd : ∀ i, F i → ¬ G i) : WrF F w' g k N := by
  obtain ⟨dv, h1, h2, h3, h4, h5⟩ := h
  exact ⟨dv, h1, h2, h3.keep hk (hd _ h1) (fun b hb => hd _ (h2 b hb)), h4, fun i hi => Nat.lt_of_lt_of_le (h5 i hi) hk.size⟩
theorem lift_advanceW (g k n : Nat) (hk : k + n ≤ 1152921504606846976) {dv : Value} {l d : Nat} {xs : List Value} (w : World) (h : WrB w g k dv l d xs) :
    Calls Tryd.prog 44 #[.pointer (some ⟨g, 0, none⟩), .int .i64 n] w fun e w' => e = .returned (.tuple #[]) ∧ WrB w' g (k + n) dv l d xs ∧ Keeps (· = g) w w' := by
  refine (advance_any g k n hk w (h.blk.cell 0) (h.blk.frozen 0)).mono ?_
  rintro e w' ⟨rfl, rfl⟩
  exact ⟨rfl, h.setAt (k + n), Keeps.of_setCell (F := (· = g)) (p := ⟨g, 0, none⟩) rfl _⟩
theorem grow_keeps {F F' : Nat → Prop} {w W w5 : World} {o : Obj} {row : Option Nat} (hK : Keeps F w W) (hF : ∀ i, F' i → F i ∨ w.heap.size ≤ i) (hg : (W.alloc o).grownBy w5 row) (hr : ∀ b, row = some b → F' b) : Keeps F w w5 := by
  have hs := hK.size
  refine ⟨hg.os.trans hK.os, hg.tape.trans hK.tape, hg.output.trans hK.output, Nat.le_trans hs (Nat.le_trans (by simp) hg.size), fun i hi hn => ?_⟩
  refine (hg.block i (by simp; omega) (fun e => ?_)).trans ((Below.heap_alloc W o i (by omega)).trans (hK.block i hi hn))
  rcases hF i (hr i e.symm) with h | h
  · exact hn h
  · omega
set_option maxRecDepth 100000 in
set_option maxHeartbeats 2000000 in
theorem put_ok (F : Nat → Prop) (g k N : Nat) (hk : k ≤ 1125899906842592) (v : Nat) (hv32 : v < 4294967296) (n : Nat) (hn : n ≤ 32) (hv : v < 2 ^ n) (w : World) (h : WrF F w g k N) :
    Calls Tryd.prog 23 #[.pointer (some ⟨g, 0, none⟩), .int .u32 v, .int .i64 n] w fun e w' => e = .returned (.int .i64 0) ∧ WPost F g (k + n) (N + v * 2 ^ k) w w' := by
  obtain ⟨i0, hi, hz0, hz1, hz2⟩ := info_parts byteInfoW
  obtain ⟨dv, hFg, hFd, hB, hN, hlt⟩ := h
  have hcn : cntB n = true := decide_eq_true ⟨by omega, by omega⟩
  have hb := isCount_any n w
  rw [hcn] at hb
  have HB0 := hid hb
  have t0 : ((v : Int) / 2 ^ n != 0) = false := by
    have e : (v : Int) / 2 ^ n = ((v / 2 ^ n : Nat) : Int) := by simp
    rw [e, Nat.div_eq_of_lt hv]; rfl
  have hll := last_lt hN
  have hor := or64w N v k hN hv32
  have hNN := lay_lt hN hv
  have hop : hiN (N + v * 2 ^ k) (k / 8) < 18446744073709551616 := by
    unfold hiN
    have h1 : (N + v * 2 ^ k) / 2 ^ (8 * (k / 8)) < 2 ^ (k % 8 + n) := div_lt_pow (by rw [show 8 * (k / 8) + (k % 8 + n) = k + n by omega]; exact hNN)
    exact Nat.lt_of_lt_of_le h1 (Nat.le_trans (Nat.pow_le_pow_right (by decide) (show k % 8 + n ≤ 40 by omega)) (by decide))
  have hcong : byteCells N (k / 8) = byteCells (N + v * 2 ^ k) (k / 8) := byteCells_cong (lay_cong N v k (k / 8) (by omega)).symm
  rw [hcong] at hB
  generalize hM : N + v * 2 ^ k = M at *
  generalize hL : hiN N (k / 8) = L at *
  have HM := hid hM
  have HL := hid hL
  have HFd := hid hFd
  have Hlt := hid hlt
  have HNN := hid hNN
  clear hb hcn hM hL hFd hlt hcong hN hv hNN
  obtain ⟨kn, hkn⟩ : ∃ kn, k + n = kn := ⟨_, rfl⟩
  have hkn2 : kn ≤ 1152921504606846976 := by omega
  have hkn3 : k + n ≤ 1152921504606846976 := by omega
  rw [hkn] at HNN ⊢
  have HKN := hid hkn
  clear hkn
  obtain ⟨q, hq⟩ : ∃ q, k / 8 = q := ⟨_, rfl⟩
  obtain ⟨r, hr⟩ : ∃ r, k % 8 = r := ⟨_, rfl⟩
  have HQ := hid hq
  have HR := hid hr
  rw [hq] at hB hop hor
  rw [hr] at hor
  have hr8 : r < 8 := by omega
  have HB := hid hB
  have hc0 : w.cell? ⟨g, 0, none⟩ = some (.int .i64 k) := hB.blk.cell 0
  have hc2 : w.cell? ⟨g, 2, none⟩ = some (.int .u8 (L : Nat)) := hB.blk.cell 2
  clear hq hr hB
  go_enter Tryd.func23, Tryd.ntmps23
  go_wp2_with fail
  refine HB0.out.mono ?_
  rintro e w' ⟨rfl, rfl⟩
  go_wp2_with fail
  go_quiet ((go_at_call 28; exact Calls.quiet_of_same (begun_q g _ r (by omega) HR _ (by simpa using hc0))))
  have HOR := hid hor
  clear hor
  go_wp2_with fail
  refine (lift_advanceW g k n hkn3 _ (HB.out.drewN nq)).mono ?_
  rintro e w1 ⟨rfl, hB1, hK1⟩
  have hK2 : Keeps (· = g) w w1 := ((Keeps.refl (· = g) w).drewN nq).trans hK1
  have HB1 := hid hB1
  have HK2 := hid hK2
  clear hB1 hK1 hK2 HB hc0 hc2
  obtain ⟨d, hd⟩ : ∃ d, (k + n) / 8 = d := ⟨_, rfl⟩
  have hqd : q ≤ d := by have := HQ.out; omega
  have hdk : d ≤ 140737488355328 := by have := HKN.out; omega
  have HD := hid hd
  rw [HKN.out] at HB1 HD
  clear hd
  go_wp2_with fail
  go_loopw [7] (fun o wr => ∃ j : Nat, ∃ dv' : Value, ∃ F' : Nat → Prop, j ≤ d ∧ q ≤ j ∧ o = .int .u64 (hiN M j : Nat) ∧ WrB wr g kn dv' L j (byteCells M j) ∧ F' g ∧ (∀ b, dv'.ownBlock = some b → F' b) ∧ Keeps F w wr ∧ (∀ i, F' i → F i ∨ w.heap.size ≤ i) ∧ ∀ i, F' i → i < wr.heap.size)
    (fun o wr => d - (match wr.cell? ⟨g, 1, none⟩ with | some (.slice _ m _) => m | _ => 0))
  case atStart =>
    exact ⟨q, dv, F, hqd, Nat.le_refl _, rfl, HB1.out, hFg, HFd.out, HK2.out.mono (fun i _ h => by rw [h]; exact hFg), fun i h => .inl h, fun i h => Nat.lt_of_lt_of_le (Hlt.out i h) HK2.out.size⟩
  case round =>
    rename_i wr
    obtain ⟨j, dv', F', hjd, hqj, rfl, hB', hF'g, hF'd, hK', hF'F, hF'l⟩ := hrel
    obtain ⟨ao, cap, rfl⟩ := own_slice hB'.row
    have d0 : wr.cell? ⟨g, 0, none⟩ = some (.int .i64 kn) := hB'.blk.cell 0
    have d1 : wr.cell? ⟨g, 1, none⟩ = some (.slice ao j cap) := hB'.blk.cell 1
    have HB' := hid hB'
    have HFd' := hid hF'd
    have HFF' := hid hF'F
    have HFl' := hid hF'l
    have HK' := hid hK'
    clear hB' hF'd hK' hF'F hF'l
    by_cases hlt : j < d
    · have ht : decide ((j : Int) < d) = true := by simpa using hlt
      go_wp2_with fail
      go_quiet ((go_at_call 45; exact Calls.quiet_of_same (whole_q g _ d hkn2 HD _ (by simpa using d0))))
      have hB4 : WrB (wr.drewN nq) g kn (.slice ao j cap) L j (byteCells M j) := HB'.out.drewN nq
      have hK4 : Keeps F w (wr.drewN nq) := HK'.out.drewN nq
      have hFl4 : ∀ i, F' i → i < (wr.drewN nq).heap.size := HFl'.out
      generalize wr.drewN nq = W4 at *
      have HB4 := hid hB4
      have HK4 := hid hK4
      have HFl4 := hid hFl4
      clear hB4 hK4 hFl4
      have e0 : W4.cell? ⟨g, 1, none⟩ = some (.slice ao j cap) := HB4.out.blk.cell 1
      have hx1 : hiN M j % 256 < 256 := Nat.mod_lt _ (by decide)
      go_wp2_with (at_builtin; refine wpList_append_own_at _ rfl (.tmp 53) (.tmp 56) 42 rfl 0 5 i0 (.int .u8 0) 1 1 Tryd.underlying42 hi hz0 hz1 hz2 rfl (by decide) (.slice ao j cap) j (byteCells M j) rfl (own_keep HB4.out.row (fun b hb => Below.heap_alloc _ _ _ (own_lt HB4.out.row hb))) ⟨W4.heap.size, 0, none⟩ 1 1 [.int .u8 ((hiN M j : Int) % 256)] rfl rfl (cell_one_new _ _ _) (by intro u hu; simp at hu; rw [hu]; rfl) (by unfold maxLen; omega) (by omega) (Nat.zero_le _) ?_; intro rd' w5 hown5 hgrow5 _ hblk5; obtain ⟨ao2, cap2, rfl⟩ := own_slice hown5; have hH5 : Has w5 g 46 #[.int .i64 kn, .slice ao j cap, .int .u8 (L : Nat)] := (hgrow5.block g (by have := HB4.out.blk.lt; simp; omega) (fun e => HB4.out.ne e.symm)).trans (HB4.out.blk.alloc _); have y5 : w5.cell? ⟨g, 1, none⟩ = some (.slice ao j cap) := hH5.cell 1; have z5 := hH5.frozen 1; have HG5 := hid hgrow5; have HO5 := hid hown5; have HBL := hid hblk5; have HH5 := hid hH5; clear hgrow5 hown5 hblk5 hH5 d0 d1 e0)
      have hne : (Value.slice ao2 (j + 1) cap2).ownBlock ≠ some g := own_ne_has HO5.out HH5.out (by decide)
      have hB6 : WrB (w5.setCell ⟨g, 1, none⟩ (.slice ao2 (j + 1) cap2)) g kn (.slice ao2 (j + 1) cap2) L (j + 1) (byteCells M (j + 1)) := by
        refine ⟨by simpa using HH5.out.put 1 (.slice ao2 (j + 1) cap2), own_keep ?_ (fun b hb => Below.heap_setCell w5 ⟨g, 1, none⟩ _ b (fun e => hne (by rw [hb, e])))⟩
        rw [byteCells_succ]
        simpa using HO5.out
      have hK5 : Keeps F w w5 := grow_keeps HK4.out HFF'.out HG5.out HFd'.out
      have hz5 : W4.heap.size < w5.heap.size := by have := HG5.out.size; simp at this; omega
      have hzK := HK4.out.size
      go_roundw
      case rel =>
        refine ⟨j + 1, .slice ao2 (j + 1) cap2, fun i => F' i ∨ (w.heap.size ≤ i ∧ i < w5.heap.size), by omega, by omega, by rw [← div_step]; simp, hB6, .inl hF'g, fun b hb => ?_, hK5.setCell (p := ⟨g, 1, none⟩) (.inl hFg) _, fun i h => ?_, fun i h => ?_⟩
        · rcases HBL.out with h | h
          · exact .inl (HFd'.out b (by rw [← h]; exact hb))
          · right
            have e : (W4.alloc (Obj.cells #[Value.int IntKind.u8 ((hiN M j : Int) % 256)] 5)).heap.size = b := by rw [h] at hb; exact Option.some.inj hb
            simp at e
            exact ⟨by omega, own_lt HO5.out hb⟩
        · rcases h with h | h
          · exact HFF'.out i h
          · exact .inr h.1
        · rcases h with h | h
          · have := HFl4.out i h; simp [World.setCell]; omega
          · simpa [World.setCell] using h.2
      case measure =>
        have e6 : (w5.setCell ⟨g, 1, none⟩ (.slice ao2 (j + 1) cap2)).cell? ⟨g, 1, none⟩ = some (.slice ao2 (j + 1) cap2) := hB6.blk.cell 1
        have e7 : wr.cell? ⟨g, 1, none⟩ = some (.slice ao j cap) := HB'.out.blk.cell 1
        rw [e6, e7]
        simp
        omega
    · obtain rfl : d = j := by omega
      have ht : decide ((d : Int) < d) = false := by simp
      go_wp2_with fail
      go_quiet ((go_at_call 45; exact Calls.quiet_of_same (whole_q g _ d hkn2 HD _ (by simpa using d0))))
      have hB4 : WrB (wr.drewN nq) g kn (.slice ao d cap) L d (byteCells M d) := HB'.out.drewN nq
      have hK4 : Keeps F w (wr.drewN nq) := HK'.out.drewN nq
      have hFl4 : ∀ i, F' i → i < (wr.drewN nq).heap.size := HFl'.out
      generalize wr.drewN nq = W4 at *
      have HB4 := hid hB4
      have HK4 := hid hK4
      have HFl4 := hid hFl4
      clear hB4 hK4 hFl4
      have e0 := HB4.out.blk.frozen 2
      have e2 : W4.cell? ⟨g, 2, none⟩ = some (.int .u8 (L : Nat)) := HB4.out.blk.cell 2
      have hm : hiN M d % 256 = hiN M d := by
        have h1 := last_lt HNN.out
        rw [HD.out] at h1
        omega
      have hm2 : ((hiN M d : Int) % 256) = (hiN M d : Nat) := by omega
      have HM2 := hid hm2
      clear hm hm2
      go_wp2
      go_returns
      refine ⟨rfl, F', ⟨.slice ao d cap, hF'g, HFd'.out, ?_, HNN.out, ?_⟩, HK4.out.setCell (p := ⟨g, 2, none⟩) (.inl hFg) _, HFF'.out⟩
      · rw [HD.out]
        have := HB4.out.setLast (hiN M d)
        rw [← HM2.out] at this
        exact this
      · intro i h
        simpa [World.setCell] using HFl4.out i h
end Go.Proofs.YtacgnadhpgkcmaaDoor
/- What Len and String of bits's writer return, for huff (contracts of the functions). -/
namespace Go.Proofs.YtacgnadhpgkcmaaDoor
open Go.RowKit
set_option linter.unusedVariables false

theorem WPost.refl {F : Nat → Prop} {w : World} {g k N : Nat} (h : WrF F w g k N) : WPost F g k N w w := ⟨F, h, Keeps.refl _ _, fun i hi => .inl hi⟩

theorem WrF.fresh {w : World} {g : Nat} (h : Has w g 46 #[.int .i64 0, .slice none 0 0, .int .u8 0]) : WrF (· = g) w g 0 0 :=
  ⟨.slice none 0 0, rfl, fun b hb => by simp [Value.ownBlock] at hb, ⟨h, rfl, .inl ⟨rfl, rfl⟩⟩, by simp, fun i hi => by rw [hi]; exact h.lt⟩
theorem leN_zero_of {N k : Nat} (h : N < 2 ^ k) (d : Nat) (hd : k ≤ 8 * d) : hiN N d = 0 := Nat.div_eq_of_lt (Nat.lt_of_lt_of_le h (Nat.pow_le_pow_right (by decide) hd))
def strN (N d : Nat) : ByteArray := ⟨((List.range d).map fun j => UInt8.ofNat (hiN N j % 256)).toArray⟩
theorem strN_size (N d : Nat) : (strN N d).size = d := by simp [strN, ByteArray.size]
theorem strN_succ (N d : Nat) : strN N (d + 1) = strN N d ++ ⟨#[UInt8.ofNat (hiN N d % 256)]⟩ := by
  show (⟨_⟩ : ByteArray) = _
  rw [List.range_succ, List.map_append]
  simp [strN]
  rfl
theorem byteCells_get (N d i : Nat) (h : i < d) : (byteCells N d)[i]? = some (Value.int .u8 ((hiN N i % 256 : Nat) : Int)) := by simp [byteCells, h]
theorem own_cell {w : World} {e : TypeId} {n : Nat} {a : Addr} {cap : Nat} {xs : List Value} (h : w.ownsRow 0 e 1 (.slice (some a) n cap) n xs) {j : Nat} {u : Value} (hj : xs[j]? = some u) : w.cell? (a.add j) = some u := by
  rcases h.2 with ⟨h0, _⟩ | ⟨g, cap', cur, h0, _⟩
  · cases h0
  · have : a = ⟨g, 0, none⟩ := by injection h0 with h1; injection h1
    subst this
    exact h.cells (g := g) rfl j u hj
theorem conv_row {w : World} {N d : Nat} {v : Value} (h : w.ownsRow 0 5 1 v d (byteCells N d)) :
    (convert 42 9 v).run Tryd.prog w = .ok (.string (strN N d)) w := by
  obtain ⟨ao, cap, rfl⟩ := own_slice h
  cases ao with
  | none =>
    have h0 : d = 0 := by
      rcases h.2 with ⟨h1, h2⟩ | ⟨g, cap', cur, h1, _⟩
      · exact h2
      · cases h1
    subst h0
    exact run_convert_bytes_nil (P := Tryd.prog) (w := w) 42 5 Tryd.underlying42 Tryd.underlying5 0 cap 9 Tryd.underlying9
  | some a =>
    have hl : ((List.range d).map fun j => UInt8.ofNat (hiN N j % 256)).length = d := by simp
    have := run_convert_bytes_back (P := Tryd.prog) w 42 9 5 a cap ((List.range d).map fun j => UInt8.ofNat (hiN N j % 256)) Tryd.underlying42 Tryd.underlying5 Tryd.underlying9 (fun j hj => by
      have hj' : j < d := by simpa using hj
      rw [own_cell h (byteCells_get N d j hj')]
      simp)
    rw [hl] at this
    exact this
theorem wstr_nil (w : World) :
    Calls Tryd.prog 14 #[.pointer none] w fun e w' => e = .returned (.string ⟨#[]⟩) ∧ w = w' := by
  go_enter Tryd.func14, Tryd.ntmps14
  go_wp2
  go_ret
  exact ⟨rfl, rfl⟩
set_option maxHeartbeats 1000000 in
theorem wstr_even (F : Nat → Prop) (g k N : Nat) (hk : k ≤ 1152921504606846976) (q : Nat) (h8 : k = 8 * q) (w : World) (h : WrF F w g k N) :
    Calls Tryd.prog 14 #[.pointer (some ⟨g, 0, none⟩)] w fun e w' => e = .returned (.string (strN N q)) ∧ w = w' := by
  obtain ⟨dv, _, _, hB, hN, _⟩ := h
  have hq : k / 8 = q := by omega
  rw [hq] at hB
  have hc0 : w.cell? ⟨g, 0, none⟩ = some (.int .i64 k) := hB.blk.cell 0
  have hc1 : w.cell? ⟨g, 1, none⟩ = some dv := hB.blk.cell 1
  have hcv := conv_row hB.row
  have hbg := (begun_q g k 0 hk (by unfold Hid; omega) w hc0).mono (fun _ _ h => (⟨h.1, h.2.symm⟩ : _ ∧ w = _))
  have HB := hid hbg
  clear hB hbg hq h8
  go_enter Tryd.func14, Tryd.ntmps14
  go_wp2_with fail
  refine HB.out.mono ?_
  rintro e w' ⟨rfl, rfl⟩
  go_wp2
  go_ret
  exact ⟨rfl, rfl⟩
set_option maxRecDepth 100000 in
set_option maxHeartbeats 1000000 in
theorem wstr_odd (F : Nat → Prop) (g k N : Nat) (hk : k ≤ 1152921504606846976) (q r : Nat) (hr : 0 < r) (hr8 : r < 8) (h8 : Hid (k = 8 * q + r)) (w : World) (h : WrF F w g k N) :
    Calls Tryd.prog 14 #[.pointer (some ⟨g, 0, none⟩)] w fun e w' => e = .returned (.string (strN N (q + 1))) ∧ Bw w w' := by
  obtain ⟨dv, _, _, hB, hN, _⟩ := h
  have hq : k / 8 = q := by have := h8.out; omega
  have hll := last_lt hN
  rw [hq] at hB hll
  have hc0 : w.cell? ⟨g, 0, none⟩ = some (.int .i64 k) := hB.blk.cell 0
  have hbg := (begun_q g k r hk (by have := h8.out; unfold Hid; omega) w hc0).mono (fun _ _ h => (⟨h.1, h.2.symm⟩ : _ ∧ w = _))
  have HB := hid hbg
  have HBB := hid hB
  clear hB hbg hq hc0 hN
  have hz : ((r : Int) == 0) = false := by simp; omega
  go_enter Tryd.func14, Tryd.ntmps14
  go_wp2_with fail
  refine HB.out.mono ?_
  rintro e w' ⟨rfl, rfl⟩
  have hc1 : w.drew.cell? ⟨g, 1, none⟩ = some dv := HBB.out.blk.cell 1
  have hc2 : w.drew.cell? ⟨g, 2, none⟩ = some (.int .u8 (hiN N q : Nat)) := HBB.out.blk.cell 2
  have hcv : (convert 42 9 dv).run Tryd.prog w.drew = .ok (.string (strN N q)) w.drew := conv_row (HBB.out.drewN 1).row
  have hW2 : WrB (w.alloc (.cells #[.int .u8 (hiN N q : Nat)] 5)).drew g k dv (hiN N q) q (byteCells N q) := HBB.out.keep (((Keeps.refl (fun _ => False) w).alloc (.cells #[.int .u8 (hiN N q : Nat)] 5)).drewN 1) (fun h => h) (fun _ _ h => h)
  have hcv2 := conv_row hW2.row
  have hd1 : (w.alloc (.cells #[.int .u8 (hiN N q : Nat)] 5)).drew.cell? ⟨g, 1, none⟩ = some dv := hW2.blk.cell 1
  have hcv3 : (convert 42 9 (.slice (some ⟨w.heap.size, 0, none⟩) 1 1)).run Tryd.prog (w.alloc (.cells #[.int .u8 (hiN N q : Nat)] 5)).drew = .ok (.string ⟨#[UInt8.ofNat (hiN N q)]⟩) (w.alloc (.cells #[.int .u8 (hiN N q : Nat)] 5)).drew := by
    have hn := (Has.new w 5 #[.int .u8 (hiN N q : Nat)]).drew
    exact run_convert_bytes_back (P := Tryd.prog) _ 42 9 5 ⟨w.heap.size, 0, none⟩ 1 [UInt8.ofNat (hiN N q)] Tryd.underlying42 Tryd.underlying5 Tryd.underlying9 (fun j hj => by
      obtain rfl : j = 0 := by simpa using hj
      have := hn.cell 0
      simp [Addr.add, this]
      omega)
  clear hW2
  have hsz : (strN N q).size + 1 ≤ 9223372036854775807 := by rw [strN_size]; have := h8.out; omega
  go_wp2_with fail
  go_region
  all_goals go_wp2
  all_goals go_returns
  all_goals refine ⟨?_, (((Bw.refl w).alloc _).drewN 1)⟩
  all_goals rw [strN_succ, Nat.mod_eq_of_lt (show hiN N q < 256 by omega)]
  all_goals rfl
theorem wstr_any (F : Nat → Prop) (g k N : Nat) (hk : k ≤ 1152921504606846976) (w : World) (h : WrF F w g k N) :
    Calls Tryd.prog 14 #[.pointer (some ⟨g, 0, none⟩)] w fun e w' => e = .returned (.string (strN N ((k + 7) / 8))) ∧ Bw w w' := by
  by_cases hr : k % 8 = 0
  · rw [show (k + 7) / 8 = k / 8 by omega]
    refine (wstr_even F g k N hk (k / 8) (by omega) w h).mono ?_
    rintro e w' ⟨rfl, rfl⟩
    exact ⟨rfl, Bw.refl _⟩
  · rw [show (k + 7) / 8 = k / 8 + 1 by omega]
    exact wstr_odd F g k N hk (k / 8) (k % 8) (by omega) (by omega) (by unfold Hid; omega) w h
end Go.Proofs.YtacgnadhpgkcmaaDoor
/- Align and Add of the writer that lies in deflate's own (contracts of the methods). -/
namespace Go.Proofs.YtacgnadhpgkcmaaDoor
open Go.RowKit Go.Conc
set_option linter.unusedVariables false
/- What Align returns, and what it leaves (contract of the function). -/
theorem miss_add (k : Nat) : k + miss k = (k + 7) / 8 * 8 := by unfold miss; omega
/-- The next whole byte. -/
def upK (k : Nat) : Nat := (k + 7) / 8 * 8
theorem upK_le (k n : Nat) (h : k ≤ 8 * n) : upK k ≤ 8 * n := by unfold upK; omega
theorem upK_8 (k : Nat) : upK k = 8 * (upK k / 8) := by unfold upK; omega
/- What Put, Align and Len of bits's writer return, and what they leave (contracts of the functions). -/
/-- May it be put? -/
def putB (v : Nat) (n : Int) : Bool := cntB n && decide (v < 2 ^ n.toNat)
def putE (v : Nat) (n : Int) : Int := if putB v n then 0 else 1
def putK (k v : Nat) (n : Int) : Nat := if putB v n then k + n.toNat else k
def putN (N k v : Nat) (n : Int) : Nat := if putB v n then N + v * 2 ^ k else N
def PutPost (F : Nat → Prop) (g k N v : Nat) (n : Int) (w : World) (e : Ending) (w' : World) : Prop := e = .returned (.int .i64 (putE v n)) ∧ WPost F g (putK k v n) (putN N k v n) w w'
set_option maxHeartbeats 400000 in
theorem put_cnt (g v : Nat) (n : Int) (hn : cntB n = false) (w : World) :
    Calls Tryd.prog 23 #[.pointer (some ⟨g, 0, none⟩), .int .u32 v, .int .i64 n] w fun e w' => e = .returned (.int .i64 1) ∧ w = w' := by
  have hb := isCount_any n w
  rw [hn] at hb
  have HB := hid hb
  clear hb hn
  go_enter Tryd.func23, Tryd.ntmps23
  go_wp2_with fail
  refine HB.out.mono ?_
  rintro e w' ⟨rfl, rfl⟩
  go_wp2
  go_returns
  exact ⟨rfl, rfl⟩
set_option maxHeartbeats 400000 in
theorem put_great (g v : Nat) (hv32 : v < 4294967296) (n : Nat) (hn : n ≤ 32) (hv : ¬ v < 2 ^ n) (w : World) :
    Calls Tryd.prog 23 #[.pointer (some ⟨g, 0, none⟩), .int .u32 v, .int .i64 n] w fun e w' => e = .returned (.int .i64 1) ∧ w = w' := by
  have hcn : cntB n = true := decide_eq_true ⟨by omega, by omega⟩
  have hb := isCount_any n w
  rw [hcn] at hb
  have HB := hid hb
  have t0 : ((v : Int) / 2 ^ n != 0) = true := by
    have e : (v : Int) / 2 ^ n = ((v / 2 ^ n : Nat) : Int) := by simp
    have h1 : 0 < v / 2 ^ n := Nat.div_pos (by omega) (Nat.two_pow_pos n)
    rw [e]; simp; omega
  clear hb hcn hv
  go_enter Tryd.func23, Tryd.ntmps23
  go_wp2_with fail
  refine HB.out.mono ?_
  rintro e w' ⟨rfl, rfl⟩
  go_wp2
  go_returns
  exact ⟨rfl, rfl⟩
theorem put_any (F : Nat → Prop) (g k N : Nat) (hk : k ≤ 1125899906842592) (v : Nat) (hv : v < 4294967296) (n : Int) (w : World) (h : WrF F w g k N) :
    Calls Tryd.prog 23 #[.pointer (some ⟨g, 0, none⟩), .int .u32 v, .int .i64 n] w (PutPost F g k N v n w) := by
  unfold PutPost putE putK putN
  cases hn : cntB n with
  | false =>
    simp only [putB, hn, Bool.false_and, Bool.false_eq_true, if_false]
    refine (put_cnt g v n hn w).mono ?_
    rintro e w' ⟨rfl, rfl⟩
    exact ⟨rfl, WPost.refl h⟩
  | true =>
    obtain ⟨h0, h1⟩ := cntB_true hn
    obtain ⟨m, rfl⟩ := Int.eq_ofNat_of_zero_le h0
    by_cases hl : v < 2 ^ m
    · simp only [putB, hn, Bool.true_and, Int.toNat_natCast, hl, decide_true, if_true]
      exact put_ok F g k N hk v hv m (by omega) hl w h
    · simp only [putB, hn, Bool.true_and, Int.toNat_natCast, hl, decide_false, Bool.false_eq_true, if_false]
      refine (put_great g v hv m (by omega) hl w).mono ?_
      rintro e w' ⟨rfl, rfl⟩
      exact ⟨rfl, WPost.refl h⟩
set_option maxHeartbeats 400000 in
theorem walign_any (F : Nat → Prop) (g k N : Nat) (hk : k ≤ 1125899906842592) (w : World) (h : WrF F w g k N) :
    Calls Tryd.prog 32 #[.pointer (some ⟨g, 0, none⟩)] w fun e w' => e = .returned (.tuple #[]) ∧ WPost F g (upK k) N w w' := by
  have hp := put_ok F g k N hk 0 (by omega) (miss k) (by have := miss_lt k; omega) (Nat.two_pow_pos _) w h
  rw [Nat.zero_mul, Nat.add_zero, show k + miss k = upK k from miss_add k] at hp
  obtain ⟨dv, _, _, hB, _⟩ := h
  have hc0 : w.cell? ⟨g, 0, none⟩ = some (.int .i64 k) := hB.blk.cell 0
  have hm := missing_any g k (by omega) w hc0
  have HM := hid hm
  have HP := hid hp
  clear hp hm hB
  go_enter Tryd.func32, Tryd.ntmps32
  go_wp2_with fail
  refine HM.out.mono ?_
  rintro e w' ⟨rfl, rfl⟩
  go_wp2_with fail
  refine HP.out.mono ?_
  rintro e w' ⟨rfl, hw⟩
  have HW := hid hw
  clear hw
  go_wp2
  go_returns
  exact ⟨rfl, HW.out⟩
/-- A text is laid on top of whole bytes. -/
theorem byteCells_add (N d : Nat) (s : ByteArray) (h : N < 2 ^ (8 * d)) : byteCells (N + leN s.data.toList * 2 ^ (8 * d)) (d + s.size) = byteCells N d ++ Lib.strCells s := by
  have hl : s.data.toList.length = s.size := by simp
  have e1 : byteCells N d = byteCells (N + leN s.data.toList * 2 ^ (8 * d)) d := byteCells_cong (lay_cong N _ (8 * d) d (Nat.le_refl _)).symm
  rw [e1]
  apply List.ext_getElem
  · simp [byteCells, Lib.strCells]
  · intro i h1 h2
    have hi : i < d + s.size := by simpa [byteCells] using h1
    by_cases hid : i < d
    · rw [List.getElem_append_left (by simpa [byteCells] using hid)]
      simp [byteCells]
    · obtain ⟨j, rfl⟩ : ∃ j, i = d + j := ⟨i - d, by omega⟩
      rw [List.getElem_append_right (by simp [byteCells])]
      have hj : j < s.data.toList.length := by omega
      have e2 := leN_byte s.data.toList j hj
      have e3 : hiN (N + leN s.data.toList * 2 ^ (8 * d)) (d + j) = leN s.data.toList / 2 ^ (8 * j) := by
        unfold hiN
        rw [Nat.mul_add, Nat.pow_add, ← Nat.div_div_eq_div_mul, Nat.add_mul_div_right _ _ (Nat.two_pow_pos _), Nat.div_eq_of_lt h, Nat.zero_add]
      simp [byteCells, Lib.strCells, e3]
      have e4 : ((leN s.data.toList / 2 ^ (8 * j) % 256 : Nat) : Int) = ((s.data.toList[j].toNat : Nat) : Int) := by rw [e2]
      simpa using e4
/-- A text is appended: the row is the one that was there, or a new one. -/
theorem app_strW {P : Program} (w : World) (t u ty e : TypeId) (i : TypeInfo) (ht : P.underlying t = some (.slice e)) (hu : P.underlying u = some .string) (hi : P.info? e = some i) (hz : i.zero = some (.int .u8 0))
    (h1 : i.size = 1) (h2 : i.bytes = 1) (v : Value) (n : Nat) (xs : List Value) (hown : w.ownsRow 0 e 1 v n xs) (s : ByteArray) (hb : n + s.size ≤ 140737488355328) :
    ∃ v' w', (Builtin.append_ #[t, u] ty #[v, .string s]).run P w = .ok v' w' ∧ w'.ownsRow 0 e 1 v' (n + s.size) (xs ++ Lib.strCells s) ∧ w.grownBy w' v.ownBlock ∧ (v'.ownBlock = v.ownBlock ∨ ∀ b, v'.ownBlock = some b → w.heap.size ≤ b) := by
  have hm : n + s.size ≤ maxLen := by unfold maxLen; omega
  rcases hown.2 with ⟨rfl, rfl⟩ | ⟨g, cap, cur, rfl, hg0, hg, hnc, hcm, hcs, htk⟩
  · obtain ⟨v', w', hr, ho, hgr, _⟩ := Lib.run_append_own_string w w.heap.size t u ty e i ht hu hi hz h1 h2 (.slice none 0 0) 0 xs ⟨hown.1, .inl ⟨rfl, rfl⟩⟩ s hm hb (Nat.le_refl _)
    refine ⟨v', w', hr, ⟨ho.1, ?_⟩, hgr, .inr fun b hbb => ?_⟩
    · rcases ho.2 with h | ⟨g, cap, cur, e1, _, e3⟩
      · exact .inl h
      · exact .inr ⟨g, cap, cur, e1, Nat.zero_le _, e3⟩
    · rcases ho.2 with ⟨rfl, _⟩ | ⟨g, cap, cur, rfl, e2, _⟩
      · simp [Value.ownBlock] at hbb
      · have : g = b := by simpa [Value.ownBlock] using hbb
        omega
  · obtain ⟨v', w', hr, ho, hgr, _⟩ := Lib.run_append_own_string w 0 t u ty e i ht hu hi hz h1 h2 (.slice (some ⟨g, 0, none⟩) n cap) n xs hown s hm hb (Nat.zero_le _)
    refine ⟨v', w', hr, ho, hgr, ?_⟩
    have hcs' : cur.size = cap := by simpa using hcs
    by_cases hroom : n + s.size ≤ cap
    · have hr2 := Lib.run_append_room_string (P := P) w t u ty e i ht hu hi h1 g n cap cur hg s hroom (by omega)
      rw [hr] at hr2
      injection hr2 with e1 _
      left; rw [e1]; rfl
    · have hr2 := Lib.run_append_grow_string (P := P) w t u ty e i (.int .u8 0) ht hu hi hz ⟨g, 0, none⟩ n cap xs (by rw [h1]; exact hown.1) (hown.cells (g := g) rfl) s (by omega) (by omega) (by rw [h2]; exact growslice_fits (by omega) (by omega))
      rw [hr] at hr2
      injection hr2 with e1 _
      right; intro b hbb
      rw [e1] at hbb
      have : w.heap.size = b := by simpa [Value.ownBlock] using hbb
      omega
theorem wpList_app_strW {P : Program} {w : World} {ops : Array Oper} {rest : List Oper} {o : Oper} {a : Act} {Q : Exit → Act → World → Prop} (hgd : o.guard = none) (x y : Operand) (t u : TypeId)
    (ho : o.op = .call { callee := .builtin .append, args := #[x, y], argTypes := #[t, u] }) {e : TypeId} {i : TypeInfo} (ht : P.underlying t = some (.slice e)) (hu : P.underlying u = some .string) (hi : P.info? e = some i) (hz : i.zero = some (.int .u8 0))
    (h1 : i.size = 1) (h2 : i.bytes = 1) (v : Value) (n : Nat) (xs : List Value) (hx : a.eval x = v) (hown : w.ownsRow 0 e 1 v n xs) (s : ByteArray) (hy : a.eval y = .string s) (hb : n + s.size ≤ 140737488355328)
    (h : ∀ v' w', w'.ownsRow 0 e 1 v' (n + s.size) (xs ++ Lib.strCells s) → w.grownBy w' v.ownBlock → (v'.ownBlock = v.ownBlock ∨ ∀ b, v'.ownBlock = some b → w.heap.size ≤ b) → wpList P ops Q rest (a.put o.dst v') w') : wpList P ops Q (o :: rest) a w := by
  obtain ⟨v', w', hr, k1, k2, k3⟩ := app_strW (P := P) w t u o.type e i ht hu hi hz h1 h2 v n xs hown s hb
  refine wpList_plain hgd fun K hK => ?_
  unfold Oper.wp execOp
  simp only [ho, resolve, invoke, builtin, Sem.run_bind, Sem.run_pure, Result.andThen_ok, List.map_toArray, List.map_cons, List.map_nil, hx, hy, hr]
  exact hK _ _ (h v' w' k1 k2 k3)
set_option maxRecDepth 100000 in
set_option maxHeartbeats 1000000 in
theorem wadd_any (F : Nat → Prop) (g k N : Nat) (s : ByteArray) (hs : k / 8 + s.size + 8 ≤ 140737488355328) (w : World) (h : WrF F w g k N) :
    Calls Tryd.prog 33 #[.pointer (some ⟨g, 0, none⟩), .string s] w fun e w' => e = .returned (.tuple #[]) ∧ WPost F g (upK k + 8 * s.size) (N + leN s.data.toList * 2 ^ upK k) w w' := by
  obtain ⟨i0, hi, hz0, hz1, hz2⟩ := info_parts byteInfoW
  have HS := hid hs
  have hal := walign_any F g k N (by omega) w h
  have HAL := hid hal
  have hN : N < 2 ^ upK k := Nat.lt_of_lt_of_le h.choose_spec.2.2.2.1 (Nat.pow_le_pow_right (by decide) (by unfold upK; omega))
  obtain ⟨q, hq⟩ : ∃ q, upK k = 8 * q := ⟨upK k / 8, upK_8 k⟩
  have hq2 : q ≤ k / 8 + 1 := by unfold upK at hq; omega
  have hqs : q + s.size ≤ 140737488355328 := by omega
  rw [hq] at hN ⊢
  have HQ := hid hq
  have HN := hid hN
  clear h hal hq hN hs
  go_enter Tryd.func33, Tryd.ntmps33
  go_wp2_with fail
  refine HAL.out.mono ?_
  rintro e w1 ⟨rfl, F1, ⟨dv, hFg, hFd, hB, hN1, hFl⟩, hK1, hF1⟩
  rw [HQ.out, show 8 * q / 8 = q by omega, leN_zero_of HN.out q (Nat.le_refl _)] at hB
  obtain ⟨ao, cap, rfl⟩ := own_slice hB.row
  have HB := hid hB
  have HFd := hid hFd
  have HFl := hid hFl
  have HF1 := hid hF1
  have HK1 := hid hK1
  clear hB hFd hFl hF1 hK1 hN1
  have e0 : w1.cell? ⟨g, 1, none⟩ = some (.slice ao q cap) := HB.out.blk.cell 1
  go_wp2_with (at_builtin; refine wpList_app_strW rfl _ _ 42 9 rfl Tryd.underlying42 Tryd.underlying9 hi hz0 hz1 hz2 (.slice ao q cap) q (byteCells N q) rfl HB.out.row s rfl (by omega) ?_; intro rd' w5 hown5 hgrow5 hblk5; obtain ⟨ao2, cap2, rfl⟩ := own_slice hown5; have hH5 : Has w5 g 46 #[.int .i64 (8 * q : Nat), .slice ao q cap, .int .u8 (0 : Nat)] := (hgrow5.block g (by have := HB.out.blk.lt; simp; omega) (fun e => HB.out.ne e.symm)).trans HB.out.blk; have y5 : w5.cell? ⟨g, 1, none⟩ = some (.slice ao q cap) := hH5.cell 1; have z5 := hH5.frozen 1; have HG5 := hid hgrow5; have HO5 := hid hown5; have HBL := hid hblk5; have HH5 := hid hH5; clear hgrow5 hown5 hH5 hblk5 e0)
  have hne : (Value.slice ao2 (q + s.size) cap2).ownBlock ≠ some g := own_ne_has HO5.out HH5.out (by decide)
  have hB6 : WrB (w5.setCell ⟨g, 1, none⟩ (.slice ao2 (q + s.size) cap2)) g (8 * q) (.slice ao2 (q + s.size) cap2) 0 (q + s.size) (byteCells (N + leN s.data.toList * 2 ^ (8 * q)) (q + s.size)) := by
    refine ⟨by simpa using HH5.out.put 1 (.slice ao2 (q + s.size) cap2), own_keep ?_ (fun b hb => Below.heap_setCell w5 ⟨g, 1, none⟩ _ b (fun e => hne (by rw [hb, e])))⟩
    rw [byteCells_add N q s HN.out]
    exact HO5.out
  have HB6 := hid hB6
  clear hB6
  have hla := lift_advanceW g (8 * q) (8 * s.size) (by omega) _ HB6.out
  rw [show ((8 * s.size : Nat) : Int) = 8 * (s.size : Int) by omega] at hla
  refine hla.mono ?_
  rintro e w6 ⟨rfl, hB7, hK7⟩
  have HB7 := hid hB7
  have HK7 := hid hK7
  clear hB7 hK7 hla
  go_wp2
  go_returns
  have hz5 := HG5.out.size
  have hz6 : w5.heap.size ≤ w6.heap.size := by have := HK7.out.size; simpa [World.setCell] using this
  have hl := leN_lt s.data.toList
  have hls : s.data.toList.length = s.size := by simp
  rw [hls] at hl
  have hN2 : N + leN s.data.toList * 2 ^ (8 * q) < 2 ^ (8 * q + 8 * s.size) := lay_lt HN.out hl
  have hk8 : (8 * q + 8 * s.size) / 8 = q + s.size := by omega
  have hw1 := HK1.out.size
  refine ⟨rfl, fun i => F1 i ∨ (w.heap.size ≤ i ∧ i < w5.heap.size), ⟨.slice ao2 (q + s.size) cap2, .inl hFg, fun b hb => ?_, ?_, hN2, fun i h => ?_⟩, ?_, fun i h => ?_⟩
  · rcases HBL.out with h | h
    · exact .inl (HFd.out b (by rw [← h]; exact hb))
    · exact .inr ⟨by have := h b hb; omega, own_lt HO5.out hb⟩
  · rw [hk8, leN_zero_of hN2 (q + s.size) (by omega)]
    exact HB7.out
  · rcases h with h | h
    · have := HFl.out i h; omega
    · have := h.2; omega
  · have hF1k : Keeps F w w5 := by
      refine ⟨HG5.out.os.trans HK1.out.os, HG5.out.tape.trans HK1.out.tape, HG5.out.output.trans HK1.out.output, by omega, fun i hi hn => ?_⟩
      refine (HG5.out.block i (by omega) (fun e => ?_)).trans (HK1.out.block i hi hn)
      rcases HF1.out i (HFd.out i e.symm) with h | h
      · exact hn h
      · omega
    have hgF : F g ∨ w.heap.size ≤ g := HF1.out g hFg
    have hk6 := hF1k.setCell (p := ⟨g, 1, none⟩) (u := .slice ao2 (q + s.size) cap2) hgF
    refine ⟨HK7.out.os.trans hk6.os, HK7.out.tape.trans hk6.tape, HK7.out.output.trans hk6.output, by omega, fun i hi hn => ?_⟩
    refine (HK7.out.block i (Nat.lt_of_lt_of_le hi hk6.size) (fun e => ?_)).trans (hk6.block i hi hn)
    rcases hgF with h | h
    · exact hn (by rw [e]; exact h)
    · omega
  · rcases h with h | h
    · exact HF1.out i h
    · exact .inr h.1
end Go.Proofs.YtacgnadhpgkcmaaDoor
/- What deflate's reversed, fixedLength, grouped, literal and distance return (contracts of the functions). -/
namespace Go.Proofs.YtacgnadhpgkcmaaDoor
open Go.RowKit
set_option linter.unusedVariables false
/-- The lowest bits of a code, the first one highest. -/
def revB (c : Nat) : Nat → Nat
  | 0 => 0
  | j + 1 => 2 * revB c j + c / 2 ^ j % 2
theorem revB_lt (c : Nat) : ∀ j, revB c j < 2 ^ j
  | 0 => by simp [revB]
  | j + 1 => by
    have := revB_lt c j
    have h2 : c / 2 ^ j % 2 < 2 := Nat.mod_lt _ (by decide)
    rw [revB, Nat.pow_succ]; omega
theorem or_bit (y b : Nat) (hy : y < 2147483648) (hb : b < 2) : bits .or .u32 ((y : Int) * 2) (b : Int) = ((2 * y + b : Nat) : Int) := by
  have h := u32_or_nat (2 * y) b (by omega) (by omega)
  rw [← Nat.two_pow_add_eq_or_of_lt (i := 1) (b := b) hb y] at h
  rw [show ((y : Int) * 2) = ((2 * y : Nat) : Int) by omega]
  exact h
theorem and_bit (x : Nat) (hx : x < 4611686018427387904) : bits .and .i64 ((x : Nat) : Int) 1 = ((x % 2 : Nat) : Int) := by
  exact and_one x (by omega)
set_option maxHeartbeats 1000000 in
theorem reversed_any (c n : Nat) (hc : c < 32768) (hn : n ≤ 15) (w : World) :
    Calls Tryd.prog 41 #[.int .i64 c, .int .i64 n] w fun e w' => e = .returned (.int .u32 ((revB c n : Nat) : Int)) ∧ w = w' := by
  go_enter Tryd.func41, Tryd.ntmps41
  go_wp2
  go_loop [0, 5, 7] (fun vc v i => ∃ j : Nat, j ≤ n ∧ i = .int .i64 j ∧ v = .int .u32 ((revB c j : Nat) : Int) ∧ vc = .int .i64 ((c / 2 ^ j : Nat) : Int)) (fun _ _ i => n - (intOf i).toNat)
  case atStart => exact ⟨0, Nat.zero_le _, rfl, rfl, by rw [Nat.pow_zero, Nat.div_one]⟩
  case round =>
    obtain ⟨j, hj, rfl, rfl, rfl⟩ := hrel
    by_cases hlt : j < n
    · have hlti : (j : Int) < n := by omega
      have hy := revB_lt c j
      have hp : 2 ^ j ≤ 2 ^ 15 := Nat.pow_le_pow_right (by decide) (by omega)
      have hx : c / 2 ^ j ≤ c := Nat.div_le_self _ _
      have HN := hid (show c / 2 ^ (j + 1) = c / 2 ^ j / 2 by rw [Nat.pow_succ, Nat.div_div_eq_div_mul])
      have HR := hid (show revB c (j + 1) = 2 * revB c j + c / 2 ^ j % 2 from rfl)
      have hy2 : revB c j < 32768 := by omega
      clear hy hp
      generalize revB c j = y at *
      generalize c / 2 ^ j = x at *
      obtain ⟨b, hb⟩ : ∃ b, x % 2 = b := ⟨_, rfl⟩
      have hb2 : b < 2 := by omega
      have hbe : bits .and .i64 (x : Int) 1 = (b : Int) := by rw [and_bit x (by omega), hb]
      have hor := or_bit y b (by omega) hb2
      rw [hb] at HR
      clear hb
      go_wp2
      go_round
      case rel => exact ⟨j + 1, by omega, by go_num, by rw [HR.out]; go_num, by rw [HN.out]; go_num⟩
      case measure => simp [intOf]; omega
    · obtain rfl : j = n := by omega
      go_wp2
      go_ret
      exact ⟨rfl, rfl⟩
/-- The fixed code's lengths. -/
def fxL (s : Nat) : Nat := if s < 144 then 8 else if s < 256 then 9 else if s < 280 then 7 else 8
theorem fixedLength_any (s : Nat) (hs : s < 288) (w : World) :
    Calls Tryd.prog 31 #[.int .i64 s] w fun e w' => e = .returned (.int .i64 ((fxL s : Nat) : Int)) ∧ w = w' := by
  obtain ⟨x, hx⟩ : ∃ x, ((s : Nat) : Int) = x := ⟨_, rfl⟩
  have h0 : 0 ≤ x := by omega
  have h1 : x < 288 := by omega
  have HF := hid (show ((fxL s : Nat) : Int) = if x < 144 then 8 else if x < 256 then 9 else if x < 280 then 7 else 8 by
    unfold fxL
    rw [← hx]
    repeat' split
    all_goals first | rfl | omega)
  rw [hx]
  generalize ((fxL s : Nat) : Int) = fl at *
  clear hx hs
  go_enter Tryd.func31, Tryd.ntmps31
  go_wp2
  all_goals
    go_ret
    refine ⟨?_, rfl⟩
    have h := HF.out
    subst h
    repeat' split
    all_goals first | rfl | omega
/-- How many extra bits a number has: e is the least with n / 2^e < 2 g. -/
structure ExG (g n e : Nat) : Prop where
  lt : n / 2 ^ e < 2 * g
  ge : ∀ i, i < e → 2 * g ≤ n / 2 ^ i
theorem ExG.unique {g n a b : Nat} (h : ExG g n a) (k : ExG g n b) : a = b := by
  rcases Nat.lt_trichotomy a b with e | e | e
  · have := k.ge a e; have := h.lt; omega
  · exact e
  · have := h.ge b e; have := k.lt; omega
set_option maxRecDepth 100000 in
set_option maxHeartbeats 2000000 in
theorem grouped_any (g n : Nat) (hg : g = 2 ∨ g = 4) (hn : n < 65536) (w : World) :
    Calls Tryd.prog 39 #[.int .i64 n, .int .i64 g] w fun e' w' => ∃ e, ExG g n e ∧ e ≤ 16 ∧ e' = .returned (.agg #[.int .i64 ((e * g + n / 2 ^ e : Nat) : Int), .int .i64 e, .int .u32 ((n % 2 ^ e : Nat) : Int)]) ∧ Bw w w' := by
  have hg4 : g ≤ 4 := by omega
  have hg2 : 2 ≤ g := by omega
  clear hg
  go_enter Tryd.func39, Tryd.ntmps39
  go_wp2
  go_loopw [5] (fun ve wr => ∃ e : Nat, ve = .int .i64 e ∧ e ≤ 16 ∧ (∀ i, i < e → 2 * g ≤ n / 2 ^ i) ∧ wr = w.alloc (.cells #[.int .i64 0, .int .i64 0, .int .u32 0] 61)) (fun ve _ => 17 - (intOf ve).toNat)
  case atStart => exact ⟨0, rfl, by omega, fun i h => by omega, rfl⟩
  case round =>
    obtain ⟨e, rfl, he, hge, rfl⟩ := hrel
    have HGE := hid hge
    have h16 : n / 2 ^ 16 = 0 := Nat.div_eq_of_lt hn
    have hx : n / 2 ^ e ≤ n := Nat.div_le_self _ _
    have HD := hid (Nat.div_add_mod n (2 ^ e))
    have hml := Nat.mod_lt n (Nat.two_pow_pos e)
    have hp16 : 2 ^ e ≤ 2 ^ 16 := Nat.pow_le_pow_right (by decide) he
    obtain ⟨p, hp⟩ : ∃ p, 2 ^ e = p := ⟨_, rfl⟩
    obtain ⟨m, hm⟩ : ∃ m, n / 2 ^ e = m := ⟨_, rfl⟩
    have hmi : ((n : Nat) : Int) / 2 ^ e = (m : Int) := by
      rw [← hm]; simp
    have HM := hid hm
    have HP := hid hp
    rw [hm] at hx
    rw [hp] at hml hp16
    clear hge
    by_cases hlt : 2 * g ≤ m
    · have hlti : 2 * (g : Int) ≤ m := by omega
      have he2 : e < 16 := by
        rcases Nat.lt_or_ge e 16 with h | h
        · exact h
        · obtain rfl : e = 16 := by omega
          rw [h16] at hm; omega
      clear hm hp
      go_wp2
      go_roundw
      case rel => exact ⟨e + 1, by go_num, by omega, fun i hi => by
          rcases (show i < e ∨ i = e by omega) with h | h
          · exact HGE.out i h
          · subst h; rw [HM.out]; exact hlt, trivial⟩
      case measure => simp [intOf]; omega
    · have hlti : ¬ 2 * (g : Int) ≤ m := by omega
      obtain ⟨q, hq⟩ : ∃ q, e * g = q := ⟨_, rfl⟩
      have hqi : ((e : Nat) : Int) * ((g : Nat) : Int) = (q : Int) := by rw [← hq, Int.natCast_mul]
      have hqb : q ≤ 16 * 4 := by rw [← hq]; exact Nat.mul_le_mul he hg4
      obtain ⟨s, hs⟩ : ∃ s, p * m = s := ⟨_, rfl⟩
      have hsi : ((m : Nat) : Int) * 2 ^ e = (s : Int) := by
        rw [← hs, ← hp, Int.natCast_mul, Int.mul_comm]; simp
      obtain ⟨r, hr⟩ : ∃ r, n % 2 ^ e = r := ⟨_, rfl⟩
      have hsr : s + r = n := by
        have := HD.out
        rw [hm, hr, hp, hs] at this
        exact this
      have hmodi : ((n : Nat) : Int) % 2 ^ e = (r : Int) := by rw [← hr]; simp
      have HMO := hid hmodi
      clear hmodi
      have hri : ((n : Nat) : Int) - ((s : Nat) : Int) = (r : Int) := by omega
      have hrb : r < 65536 := by omega
      clear hm hp hq hs hr
      go_wp2
      go_returns
      refine ⟨e, ⟨by rw [HM.out]; omega, HGE.out⟩, he, ?_, (Bw.refl w).alloc _⟩
      simp only [hqi, hmi, HMO.out]
set_option maxRecDepth 100000 in
set_option maxHeartbeats 2000000 in
theorem distance_any (lit : Int) (ln : Int) (d : Nat) (h1 : 1 ≤ d) (h2 : d ≤ 32768) (w : World) :
    Calls Tryd.prog 20 #[.agg #[.int .u8 lit, .int .i64 ln, .int .i64 d]] w fun e' w' => ∃ e, ExG 2 (d - 1) e ∧ e ≤ 16 ∧ e' = .returned (.agg #[.int .i64 ((e * 2 + (d - 1) / 2 ^ e : Nat) : Int), .int .i64 e, .int .u32 (((d - 1) % 2 ^ e : Nat) : Int)]) ∧ Bw w w' := by
  have HG := hid (fun w => grouped_any 2 (d - 1) (.inl rfl) (by omega) w)
  rw [show ((d - 1 : Nat) : Int) = (d : Int) - 1 by omega] at HG
  go_enter Tryd.func20, Tryd.ntmps20
  go_wp2_with fail
  refine (HG.out _).mono ?_
  rintro e' w1 ⟨e, he, he16, rfl, hb⟩
  have HE := hid he
  have HH := hid (hb.has (Has.new (w.alloc (.cells #[.int .u8 lit, .int .i64 ln, .int .i64 d] 30)) 61 #[.int .i64 0, .int .i64 0, .int .u32 0]))
  have HB := hid (show Bw w w1 from (((Bw.refl w).alloc _).alloc _).trans hb)
  have hz1 := hb.size
  rw [World.size_alloc] at HH
  have c0 := HH.out.cell 0
  have c1 := HH.out.cell 1
  have c2 := HH.out.cell 2
  have f0 := HH.out.frozen 0
  have f1 := HH.out.frozen 1
  have f2 := HH.out.frozen 2
  clear hb
  obtain ⟨ix, hix⟩ : ∃ ix, ((e * 2 + (d - 1) / 2 ^ e : Nat) : Int) = ix := ⟨_, rfl⟩
  obtain ⟨mo, hmo⟩ : ∃ mo, (((d - 1) % 2 ^ e : Nat) : Int) = mo := ⟨_, rfl⟩
  rw [hix, hmo]
  have HIX := hid hix
  have HMO := hid hmo
  clear hix hmo
  have HP := hid (((HH.out.put 0 (.int .i64 ix)).put 1 (.int .i64 e)).put 2 (.int .u32 mo))
  have HBW := hid (show Bw w _ from Below.setCell (Below.setCell (Below.setCell HB.out (p := ⟨w.heap.size + 1, 0, none⟩) (Nat.le_succ _) (.int .i64 ix)) (p := ⟨w.heap.size + 1, 1, none⟩) (Nat.le_succ _) (.int .i64 e)) (p := ⟨w.heap.size + 1, 2, none⟩) (Nat.le_succ _) (.int .u32 mo))
  go_wp2
  generalize ((w1.setCell ⟨w.heap.size + 1, 0, none⟩ (.int .i64 ix)).setCell ⟨w.heap.size + 1, 1, none⟩ (.int .i64 e)).setCell ⟨w.heap.size + 1, 2, none⟩ (.int .u32 mo) = w2 at *
  clear c0 c1 c2 f0 f1 f2 HH
  have e0 : w2.cell? ⟨w.heap.size + 1, 0, none⟩ = some (.int .i64 ix) := HP.out.cell 0
  have e1 : w2.cell? ⟨w.heap.size + 1, 1, none⟩ = some (.int .i64 e) := HP.out.cell 1
  have e2 : w2.cell? ⟨w.heap.size + 1, 2, none⟩ = some (.int .u32 mo) := HP.out.cell 2
  (try simp only [Exit.inBlock, Exit.then])
  refine bodyPost_ret (by simp [results, Tryd.results20, go_sem, e0, e1, e2]; try rfl) rfl ?_
  exact ⟨e, HE.out, he16, by rw [HIX.out, HMO.out], HBW.out⟩
set_option maxRecDepth 100000 in
set_option maxHeartbeats 2000000 in
theorem literal_lit (lit : Nat) (hl : lit < 256) (ln : Int) (w : World) :
    Calls Tryd.prog 19 #[.agg #[.int .u8 lit, .int .i64 ln, .int .i64 0]] w fun e' w' => e' = .returned (.agg #[.int .i64 lit, .int .i64 0, .int .u32 0]) ∧ Bw w w' := by
  go_enter Tryd.func19, Tryd.ntmps19
  go_wp2
  go_returns
  exact ⟨rfl, by unfold Bw; go_grown⟩
set_option maxRecDepth 100000 in
set_option maxHeartbeats 2000000 in
theorem literal_258 (lit : Int) (d : Nat) (h1 : 1 ≤ d) (w : World) :
    Calls Tryd.prog 19 #[.agg #[.int .u8 lit, .int .i64 258, .int .i64 d]] w fun e' w' => e' = .returned (.agg #[.int .i64 285, .int .i64 0, .int .u32 0]) ∧ Bw w w' := by
  have hd : ((d : Nat) : Int) ≠ 0 := by omega
  have hd2 : ¬ ((d : Nat) : Int) = 0 := hd
  go_enter Tryd.func19, Tryd.ntmps19
  go_wp2
  go_returns
  exact ⟨rfl, by unfold Bw; go_grown⟩
set_option maxRecDepth 100000 in
set_option maxHeartbeats 2000000 in
theorem literal_len (lit : Int) (ln d : Nat) (h1 : 1 ≤ d) (h3 : 3 ≤ ln) (h258 : ln < 258) (w : World) :
    Calls Tryd.prog 19 #[.agg #[.int .u8 lit, .int .i64 ln, .int .i64 d]] w fun e' w' => ∃ e, ExG 4 (ln - 3) e ∧ e ≤ 16 ∧ e' = .returned (.agg #[.int .i64 ((e * 4 + (ln - 3) / 2 ^ e + 257 : Nat) : Int), .int .i64 e, .int .u32 (((ln - 3) % 2 ^ e : Nat) : Int)]) ∧ Bw w w' := by
  have HG := hid (fun w => grouped_any 4 (ln - 3) (.inr rfl) (by omega) w)
  rw [show ((ln - 3 : Nat) : Int) = (ln : Int) - 3 by omega] at HG
  have hd : ((d : Nat) : Int) ≠ 0 := by omega
  have hd2 : ¬ ((d : Nat) : Int) = 0 := hd
  have hn2 : ¬ ((ln : Nat) : Int) = 258 := by omega
  go_enter Tryd.func19, Tryd.ntmps19
  go_wp2_with fail
  refine (HG.out _).mono ?_
  rintro e' w1 ⟨e, he, he16, rfl, hb⟩
  have HE := hid he
  have HH := hid (hb.has (Has.new (w.alloc (.cells #[.int .u8 lit, .int .i64 ln, .int .i64 d] 30)) 61 #[.int .i64 0, .int .i64 0, .int .u32 0]))
  have HB := hid (show Bw w w1 from (((Bw.refl w).alloc _).alloc _).trans hb)
  have hz1 := hb.size
  rw [World.size_alloc] at HH
  have c0 := HH.out.cell 0
  have c1 := HH.out.cell 1
  have c2 := HH.out.cell 2
  have f0 := HH.out.frozen 0
  have f1 := HH.out.frozen 1
  have f2 := HH.out.frozen 2
  clear hb
  have hix0 : e * 4 + (ln - 3) / 2 ^ e ≤ 16 * 4 + 255 := by
    have : (ln - 3) / 2 ^ e ≤ ln - 3 := Nat.div_le_self _ _
    omega
  obtain ⟨ix, hix⟩ : ∃ ix, e * 4 + (ln - 3) / 2 ^ e = ix := ⟨_, rfl⟩
  obtain ⟨mo, hmo⟩ : ∃ mo, (((ln - 3) % 2 ^ e : Nat) : Int) = mo := ⟨_, rfl⟩
  rw [hix] at hix0
  rw [hix, hmo]
  have HIX := hid hix
  have HMO := hid hmo
  clear hix hmo
  have HA := hid (HH.out.alloc (.cells #[.int .i64 ((ix : Int) + 257), .int .i64 e, .int .u32 mo] 61))
  have a0 := HA.out.cell 0
  have a1 := HA.out.cell 1
  have a2 := HA.out.cell 2
  have b0 := HA.out.frozen 0
  have b1 := HA.out.frozen 1
  have b2 := HA.out.frozen 2
  have HP := hid (((HA.out.put 0 (.int .i64 ((ix : Int) + 257))).put 1 (.int .i64 e)).put 2 (.int .u32 mo))
  have HBA := hid (show Bw w _ from HB.out.alloc (.cells #[.int .i64 ((ix : Int) + 257), .int .i64 e, .int .u32 mo] 61))
  have HBW := hid (show Bw w _ from Below.setCell (Below.setCell (Below.setCell HBA.out (p := ⟨w.heap.size + 1, 0, none⟩) (Nat.le_succ _) (.int .i64 ((ix : Int) + 257))) (p := ⟨w.heap.size + 1, 1, none⟩) (Nat.le_succ _) (.int .i64 e)) (p := ⟨w.heap.size + 1, 2, none⟩) (Nat.le_succ _) (.int .u32 mo))
  go_wp2
  generalize (((w1.alloc (.cells #[.int .i64 ((ix : Int) + 257), .int .i64 e, .int .u32 mo] 61)).setCell ⟨w.heap.size + 1, 0, none⟩ (.int .i64 ((ix : Int) + 257))).setCell ⟨w.heap.size + 1, 1, none⟩ (.int .i64 e)).setCell ⟨w.heap.size + 1, 2, none⟩ (.int .u32 mo) = w2 at *
  clear c0 c1 c2 f0 f1 f2 HH a0 a1 a2 b0 b1 b2 HA
  have e0 : w2.cell? ⟨w.heap.size + 1, 0, none⟩ = some (.int .i64 ((ix : Int) + 257)) := HP.out.cell 0
  have e1 : w2.cell? ⟨w.heap.size + 1, 1, none⟩ = some (.int .i64 e) := HP.out.cell 1
  have e2 : w2.cell? ⟨w.heap.size + 1, 2, none⟩ = some (.int .u32 mo) := HP.out.cell 2
  (try simp only [Exit.inBlock, Exit.then])
  refine bodyPost_ret (by simp [results, Tryd.results19, go_sem, e0, e1, e2]; try rfl) rfl ?_
  exact ⟨e, HE.out, he16, by rw [HIX.out, HMO.out]; simp, HBW.out⟩
end Go.Proofs.YtacgnadhpgkcmaaDoor
/- A block of bytes as they are (contracts of the methods). -/
namespace Go.Proofs.YtacgnadhpgkcmaaDoor
open Go.RowKit Go.Conc
set_option linter.unusedVariables false
/- Inflate, plain: blocks as they are, one behind the other. -/
/- Inflate, plain: blocks as they are, one behind the other. -/
def lb1 (b : Bool) : Nat := if b then 1 else 0
/-- A block as it is: five bytes, and the text. -/
def blkB (last : Bool) (c : List UInt8) : List UInt8 :=
  [UInt8.ofNat (lb1 last), UInt8.ofNat c.length, UInt8.ofNat (c.length / 256), UInt8.ofNat (65535 - c.length), UInt8.ofNat ((65535 - c.length) / 256)] ++ c
theorem blkB_len (last : Bool) (c : List UInt8) : (blkB last c).length = 5 + c.length := by simp [blkB]; omega
theorem lb1_le (b : Bool) : lb1 b ≤ 1 := by cases b <;> decide
theorem leN_blkB (last : Bool) (c : List UInt8) (hc : c.length ≤ 65535) : leN (blkB last c) = lb1 last + 256 * c.length + 16777216 * (65535 - c.length) + 1099511627776 * leN c := by
  have hb := lb1_le last
  show (UInt8.ofNat (lb1 last)).toNat + 256 * ((UInt8.ofNat c.length).toNat + 256 * ((UInt8.ofNat (c.length / 256)).toNat + 256 * ((UInt8.ofNat (65535 - c.length)).toNat + 256 * ((UInt8.ofNat ((65535 - c.length) / 256)).toNat + 256 * leN c)))) = _
  simp only [UInt8.toNat_ofNat']
  omega
theorem lay_blk (bl c : List UInt8) (last : Bool) (hc : c.length ≤ 65535) :
    leN bl + lb1 last * 2 ^ (8 * bl.length) + c.length * 2 ^ (8 * bl.length + 8) + (65535 - c.length) * 2 ^ (8 * bl.length + 24) + leN c * 2 ^ (8 * bl.length + 40) = leN (bl ++ blkB last c) := by
  rw [leN_append, leN_blkB last c hc, Nat.pow_add, Nat.pow_add, Nat.pow_add]
  generalize 2 ^ (8 * bl.length) = P
  generalize 65535 - c.length = m
  rw [show (2 : Nat) ^ 8 = 256 by rfl, show (2 : Nat) ^ 24 = 16777216 by rfl, show (2 : Nat) ^ 40 = 1099511627776 by rfl]
  rw [Nat.mul_add, Nat.mul_add, Nat.mul_add, Nat.mul_comm (lb1 last) P, Nat.mul_left_comm c.length P 256, Nat.mul_left_comm m P 16777216, Nat.mul_left_comm (leN c) P 1099511627776, Nat.mul_comm c.length 256, Nat.mul_comm m 16777216, Nat.mul_comm (leN c) 1099511627776]
  omega
theorem strN_leN (l : List UInt8) : strN (leN l) l.length = ⟨l.toArray⟩ := by
  unfold strN
  congr 2
  apply List.ext_getElem
  · simp
  · intro i h1 h2
    have := leN_byte l i h2
    simp only [List.getElem_map, List.getElem_range]
    unfold hiN
    rw [this]
    simp
theorem WPost.step {F F1 : Nat → Prop} {g k' N' : Nat} {w w1 w2 : World} (hk : Keeps F w w1) (hF : ∀ i, F1 i → F i ∨ w.heap.size ≤ i) (h2 : WPost F1 g k' N' w1 w2) : WPost F g k' N' w w2 := by
  obtain ⟨F2, a2, hk2, hF2⟩ := h2
  have hs := hk.size
  refine ⟨F2, a2, ⟨hk2.os.trans hk.os, hk2.tape.trans hk.tape, hk2.output.trans hk.output, Nat.le_trans hs hk2.size, fun i hi hn => (hk2.block i (Nat.lt_of_lt_of_le hi hs) fun hf => ?_).trans (hk.block i hi hn)⟩, fun i hi => (hF2 i hi).elim (hF i) fun h => .inr (Nat.le_trans hs h)⟩
  rcases hF i hf with h | h
  · exact hn h
  · omega

set_option maxRecDepth 100000 in
set_option maxHeartbeats 2000000 in
theorem begin_0 (F : Nat → Prop) (g k N : Nat) (hk : k ≤ 1125899906842000) (kind : Nat) (hkd : kind < 4) (w : World) (h : WrF F w g k N) :
    Calls Tryd.prog 11 #[.pointer (some ⟨g, 0, none⟩), .int .u32 (kind : Nat), .bool false] w fun e w' => e = .returned (.tuple #[]) ∧ WPost F g (k + 3) (N + (0 + 2 * kind) * 2 ^ k) w w' := by
  have HP := hid (put_ok F g k N (by omega) 0 (by omega) 1 (by omega) (by omega) w h)
  have HQ := hid (fun F1 w1 h1 => put_ok F1 g (k + 1) (N + 0 * 2 ^ k) (by omega) kind (by omega) 2 (by omega) (by omega) w1 h1)
  have HE := hid (show N + 0 * 2 ^ k + kind * 2 ^ (k + 1) = N + (0 + 2 * kind) * 2 ^ k by rw [Nat.pow_succ, Nat.add_mul, Nat.mul_comm 2 kind, Nat.mul_assoc, Nat.mul_comm 2 (2 ^ k)]; omega)
  clear h
  go_enter Tryd.func11, Tryd.ntmps11
  go_wp2_with fail
  refine HP.out.mono ?_
  rintro e w1 ⟨rfl, F1, hw1, hk1, hf1⟩
  have HW1 := hid hw1
  have HK1 := hid hk1
  have HF1 := hid hf1
  clear hw1 hk1 hf1
  go_wp2_with fail
  refine (HQ.out _ _ HW1.out).mono ?_
  rintro e w2 ⟨rfl, h2⟩
  rw [HE.out] at h2
  have H2 := hid (WPost.step HK1.out HF1.out h2)
  clear h2
  go_wp2
  go_returns
  exact ⟨rfl, H2.out⟩
set_option maxRecDepth 100000 in
set_option maxHeartbeats 2000000 in
theorem begin_1 (F : Nat → Prop) (g k N : Nat) (hk : k ≤ 1125899906842000) (kind : Nat) (hkd : kind < 4) (w : World) (h : WrF F w g k N) :
    Calls Tryd.prog 11 #[.pointer (some ⟨g, 0, none⟩), .int .u32 (kind : Nat), .bool true] w fun e w' => e = .returned (.tuple #[]) ∧ WPost F g (k + 3) (N + (1 + 2 * kind) * 2 ^ k) w w' := by
  have HP := hid (put_ok F g k N (by omega) 1 (by omega) 1 (by omega) (by omega) w h)
  have HQ := hid (fun F1 w1 h1 => put_ok F1 g (k + 1) (N + 1 * 2 ^ k) (by omega) kind (by omega) 2 (by omega) (by omega) w1 h1)
  have HE := hid (show N + 1 * 2 ^ k + kind * 2 ^ (k + 1) = N + (1 + 2 * kind) * 2 ^ k by rw [Nat.pow_succ, Nat.add_mul, Nat.mul_comm 2 kind, Nat.mul_assoc, Nat.mul_comm 2 (2 ^ k)]; omega)
  clear h
  go_enter Tryd.func11, Tryd.ntmps11
  go_wp2_with fail
  refine HP.out.mono ?_
  rintro e w1 ⟨rfl, F1, hw1, hk1, hf1⟩
  have HW1 := hid hw1
  have HK1 := hid hk1
  have HF1 := hid hf1
  clear hw1 hk1 hf1
  go_wp2_with fail
  refine (HQ.out _ _ HW1.out).mono ?_
  rintro e w2 ⟨rfl, h2⟩
  rw [HE.out] at h2
  have H2 := hid (WPost.step HK1.out HF1.out h2)
  clear h2
  go_wp2
  go_returns
  exact ⟨rfl, H2.out⟩
theorem begin_any (F : Nat → Prop) (g k N : Nat) (hk : k ≤ 1125899906842000) (kind : Nat) (hkd : kind < 4) (last : Bool) (w : World) (h : WrF F w g k N) :
    Calls Tryd.prog 11 #[.pointer (some ⟨g, 0, none⟩), .int .u32 (kind : Nat), .bool last] w fun e w' => e = .returned (.tuple #[]) ∧ WPost F g (k + 3) (N + (lb1 last + 2 * kind) * 2 ^ k) w w' := by
  cases last
  · exact begin_0 F g k N hk kind hkd w h
  · exact begin_1 F g k N hk kind hkd w h
theorem xor_mask (n : Nat) (hn : n < 65536) : bits .xor .u32 (n : Int) 65535 = ((65535 - n : Nat) : Int) := by
  have h := u32_xor_nat n 65535 (by omega) (by omega)
  have e : n ^^^ 65535 = 65535 - n := by
    apply Nat.eq_of_testBit_eq
    intro i
    have h16 : (65535 : Nat) = 2 ^ 16 - 1 := rfl
    rw [Nat.testBit_xor, h16, Nat.testBit_two_pow_sub_one, show 2 ^ 16 - 1 - n = 2 ^ 16 - (n + 1) by omega, Nat.testBit_two_pow_sub_succ hn]
    by_cases hi : i < 16
    · simp [hi]
    · have : n.testBit i = false := Nat.testBit_lt_two_pow (Nat.lt_of_lt_of_le hn (show 65536 ≤ 2 ^ i from Nat.pow_le_pow_right (n := 2) (by decide) (by omega : 16 ≤ i)))
      simp [hi, this]
  rw [e] at h
  exact h
set_option maxRecDepth 100000 in
set_option maxHeartbeats 2000000 in
theorem stored_any (F : Nat → Prop) (g q N : Nat) (hk : q ≤ 140737488000) (s : ByteArray) (hs : s.size ≤ 65535) (last : Bool) (w : World) (h : WrF F w g (8 * q) N) :
    Calls Tryd.prog 17 #[.pointer (some ⟨g, 0, none⟩), .string s, .bool last] w fun e w' => e = .returned (.tuple #[]) ∧
      WPost F g (8 * (q + (5 + s.size))) (N + lb1 last * 2 ^ (8 * q) + s.size * 2 ^ (8 * q + 8) + (65535 - s.size) * 2 ^ (8 * q + 24) + leN s.data.toList * 2 ^ (8 * q + 40)) w w' := by
  have u1 : upK (8 * q + 3) = 8 * q + 8 := by unfold upK; omega
  have u2 : upK (8 * q + 8 + 16 + 16) = 8 * q + 40 := by unfold upK; omega
  have HB := hid (begin_any F g (8 * q) N (by omega) 0 (by omega) last w h)
  have HA := hid (fun F1 w1 h1 => walign_any F1 g (8 * q + 3) (N + (lb1 last + 2 * 0) * 2 ^ (8 * q)) (by omega) w1 h1)
  rw [u1] at HA
  have HP := hid (fun F1 w1 h1 => put_ok F1 g (8 * q + 8) (N + (lb1 last + 2 * 0) * 2 ^ (8 * q)) (by omega) s.size (by omega) 16 (by omega) (by omega) w1 h1)
  have HQ := hid (fun F1 w1 h1 => put_ok F1 g (8 * q + 8 + 16) (N + (lb1 last + 2 * 0) * 2 ^ (8 * q) + s.size * 2 ^ (8 * q + 8)) (by omega) (65535 - s.size) (by omega) 16 (by omega) (by omega) w1 h1)
  have HD := hid (fun F1 w1 h1 => wadd_any F1 g (8 * q + 8 + 16 + 16) (N + (lb1 last + 2 * 0) * 2 ^ (8 * q) + s.size * 2 ^ (8 * q + 8) + (65535 - s.size) * 2 ^ (8 * q + 8 + 16)) s (by omega) w1 h1)
  rw [u2] at HD
  have HE1 := hid (show 8 * q + 40 + 8 * s.size = 8 * (q + (5 + s.size)) by omega)
  have hxm := xor_mask s.size (by omega)
  clear h u1 u2
  go_enter Tryd.func17, Tryd.ntmps17
  go_wp2_with fail
  refine HB.out.mono ?_
  rintro e w1 ⟨rfl, F1, hw1, hk1, hf1⟩
  have HW1 := hid hw1
  have HK1 := hid hk1
  have HF1 := hid hf1
  clear hw1 hk1 hf1
  go_wp2_with fail
  refine (HA.out _ _ HW1.out).mono ?_
  rintro e w2 ⟨rfl, h2⟩
  obtain ⟨F2, hw2, hk2, hf2⟩ := WPost.step HK1.out HF1.out h2
  have HW2 := hid hw2
  have HK2 := hid hk2
  have HF2 := hid hf2
  clear h2 hw2 hk2 hf2
  go_wp2_with fail
  refine (HP.out _ _ HW2.out).mono ?_
  rintro e w3 ⟨rfl, h3⟩
  obtain ⟨F3, hw3, hk3, hf3⟩ := WPost.step HK2.out HF2.out h3
  have HW3 := hid hw3
  have HK3 := hid hk3
  have HF3 := hid hf3
  clear h3 hw3 hk3 hf3
  go_wp2_with fail
  refine (HQ.out _ _ HW3.out).mono ?_
  rintro e w4 ⟨rfl, h4⟩
  obtain ⟨F4, hw4, hk4, hf4⟩ := WPost.step HK3.out HF3.out h4
  have HW4 := hid hw4
  have HK4 := hid hk4
  have HF4 := hid hf4
  clear h4 hw4 hk4 hf4
  go_wp2_with fail
  refine (HD.out _ _ HW4.out).mono ?_
  rintro e w5 ⟨rfl, h5⟩
  have H5 := hid (WPost.step HK4.out HF4.out h5)
  clear h5
  go_wp2
  go_returns
  refine ⟨rfl, ?_⟩
  have := H5.out
  rw [HE1.out, Nat.mul_zero, Nat.add_zero, show 8 * q + 8 + 16 = 8 * q + 24 by omega] at this
  exact this
end Go.Proofs.YtacgnadhpgkcmaaDoor
/- Stored: a text in blocks of bytes as they are (contract of the function). -/
namespace Go.Proofs.YtacgnadhpgkcmaaDoor
open Go.RowKit Go.Conc
set_option linter.unusedVariables false
/-- The blocks. -/
def stoL (c : List UInt8) : List UInt8 := if h : c.length ≤ 65535 then blkB true c else blkB false (c.take 65535) ++ stoL (c.drop 65535)
termination_by c.length
decreasing_by rw [List.length_drop]; omega
theorem stoL_last {c : List UInt8} (h : c.length ≤ 65535) : stoL c = blkB true c := by rw [stoL, dif_pos h]
theorem stoL_more {c : List UInt8} (h : ¬ c.length ≤ 65535) : stoL c = blkB false (c.take 65535) ++ stoL (c.drop 65535) := by rw [stoL, dif_neg h]
theorem ext_take (t : ByteArray) (n : Nat) : (t.extract 0 n).data.toList = t.data.toList.take n := by simp
theorem size_list (t : ByteArray) : t.data.toList.length = t.size := by simp
theorem ext_drop (t : ByteArray) (n : Nat) : (t.extract n t.size).data.toList = t.data.toList.drop n := by
  simp only [ByteArray.data_extract, Array.toList_extract, List.extract_eq_take_drop]
  exact List.take_of_length_le (by rw [List.length_drop, size_list]; exact Nat.le_refl _)
/-- How long a text is. -/
def strSz : Value → Nat
  | .string s => s.size
  | _ => 0
theorem stoL_len : ∀ (m : Nat) (c : List UInt8), c.length ≤ m → (stoL c).length ≤ c.length + 5 * (c.length / 65535 + 1)
  | m, c, hm => by
    by_cases h : c.length ≤ 65535
    · rw [stoL_last h, blkB_len]; omega
    · rw [stoL_more h, List.length_append, blkB_len, List.length_take]
      have hd : (c.drop 65535).length = c.length - 65535 := List.length_drop
      match m with
      | 0 => omega
      | m + 1 =>
        have ih := stoL_len m (c.drop 65535) (by omega)
        rw [hd] at ih
        omega
set_option maxRecDepth 100000 in
set_option maxHeartbeats 4000000 in
theorem Stored_any (s : ByteArray) (hs : s.size ≤ 1000000) (w : World) :
    Calls Tryd.prog 8 #[.string s] w fun e w' => e = .returned (.string ⟨(stoL s.data.toList).toArray⟩) ∧ Bw w w' := by
  go_enter Tryd.func8, Tryd.ntmps8
  go_wp2_with fail
  have HF := hid (WrF.fresh (Has.new w 46 #[.int .i64 0, .slice none 0 0, .int .u8 0]))
  have HB0 := hid ((Bw.refl w).alloc (.cells #[.int .i64 0, .slice none 0 0, .int .u8 0] 46))
  have HZ := hid (show (w.alloc (.cells #[.int .i64 0, .slice none 0 0, .int .u8 0] 46)).heap.size = w.heap.size + 1 by simp)
  generalize w.alloc (.cells #[.int .i64 0, .slice none 0 0, .int .u8 0] 46) = W1 at *
  obtain ⟨g, hg⟩ : ∃ g, w.heap.size = g := ⟨_, rfl⟩
  rw [hg] at HF HZ ⊢
  have HG := hid hg
  clear hg
  go_loopw [0] (fun vs wr => ∃ (L : List UInt8) (t : ByteArray), vs = .string t ∧ L ++ stoL t.data.toList = stoL s.data.toList ∧ t.size ≤ s.size ∧ WPost (· = g) g (8 * L.length) (leN L) W1 wr) (fun vs _ => strSz vs)
  case atStart => exact ⟨[], s, rfl, rfl, Nat.le_refl _, WPost.refl HF.out⟩
  case round =>
    obtain ⟨L, t, rfl, hL, hts, hw⟩ := hrel
    rename World => wr
    have hlen := congrArg List.length hL
    have hsl := stoL_len _ _ (Nat.le_refl s.data.toList.length)
    rw [List.length_append] at hlen
    rw [size_list] at hsl
    have hLn : L.length ≤ 2000000 := by omega
    obtain ⟨F1, hw1, hk1, hf1⟩ := hw
    have HW1 := hid hw1
    have HK1 := hid hk1
    have HF1 := hid hf1
    have HL := hid hL
    clear hw1 hk1 hf1 hL hlen hsl
    by_cases hlt : 65535 < t.size
    · have hlti : (65535 : Int) < t.size := by omega
      have hz : (t.extract 0 65535).size = 65535 := by simp; omega
      have HC := hid (stored_any F1 g L.length (leN L) (by omega) (t.extract 0 65535) (by omega) false wr HW1.out)
      have e1 := lay_blk L (t.data.toList.take 65535) false (by rw [List.length_take]; omega)
      have e2 : (t.data.toList.take 65535).length = 65535 := by rw [List.length_take, size_list]; omega
      rw [e2] at e1
      rw [hz, ext_take, e1] at HC
      have HLL := hid (show L.length + (5 + 65535) = (L ++ blkB false (t.data.toList.take 65535)).length by rw [List.length_append, blkB_len, e2])
      rw [HLL.out] at HC
      have HNX := hid (show (L ++ blkB false (t.data.toList.take 65535)) ++ stoL (t.extract 65535 t.size).data.toList = stoL s.data.toList by
        rw [ext_drop, ← HL.out, stoL_more (c := t.data.toList) (by rw [size_list]; omega), List.append_assoc])
      have HTZ := hid (show (t.extract 65535 t.size).size = t.size - 65535 by simp)
      clear e1 e2 hz
      go_wp2_with fail
      refine HC.out.mono ?_
      rintro e w2 ⟨rfl, h2⟩
      have H2 := hid (WPost.step HK1.out HF1.out h2)
      clear h2
      go_wp2
      refine ⟨⟨_, _, rfl, HNX.out, by rw [HTZ.out]; omega, H2.out⟩, ?_⟩
      show (t.extract 65535 t.size).size < t.size
      rw [HTZ.out]; omega
    · have hlti : ¬ (65535 : Int) < t.size := by omega
      have HC := hid (stored_any F1 g L.length (leN L) (by omega) t (by omega) true wr HW1.out)
      have e1 := lay_blk L t.data.toList true (by rw [size_list]; omega)
      rw [size_list] at e1
      rw [e1] at HC
      have HE := hid (show L ++ blkB true t.data.toList = stoL s.data.toList by rw [← HL.out, stoL_last (by rw [size_list]; omega)])
      have HLL := hid (show L.length + (5 + t.size) = (L ++ blkB true t.data.toList).length by rw [List.length_append, blkB_len, size_list])
      rw [HLL.out, HE.out] at HC
      have hSL : (stoL s.data.toList).length ≤ 2000000 := by
        have hsl := stoL_len _ _ (Nat.le_refl s.data.toList.length)
        rw [size_list] at hsl; omega
      clear e1
      go_wp2_with fail
      refine HC.out.mono ?_
      rintro e w2 ⟨rfl, h2⟩
      obtain ⟨F2, hw2, hk2, hf2⟩ := WPost.step HK1.out HF1.out h2
      have HS := hid (wstr_any F2 g (8 * (stoL s.data.toList).length) (leN (stoL s.data.toList)) (by omega) w2 hw2)
      rw [show (8 * (stoL s.data.toList).length + 7) / 8 = (stoL s.data.toList).length by omega, strN_leN] at HS
      have HK2 := hid hk2
      have HF2 := hid hf2
      clear h2 hw2 hk2 hf2
      go_wp2_with fail
      refine HS.out.mono ?_
      rintro e w3 ⟨rfl, hb3⟩
      have HB3 := hid (show Bw w w3 from (show Bw w w2 from Below.trans HB0.out (HK2.out.below (B := w.heap.size) (by rw [HG.out, HZ.out]; omega) (fun i hi => by rw [HG.out]; omega))).trans hb3)
      clear hb3
      go_wp2
      go_returns
      exact ⟨rfl, HB3.out⟩
end Go.Proofs.YtacgnadhpgkcmaaDoor
