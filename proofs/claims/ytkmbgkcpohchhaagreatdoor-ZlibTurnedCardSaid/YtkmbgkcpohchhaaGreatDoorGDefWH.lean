import Derived.Test.YtkmbgkcpohchhaaGreatDoorGBase
import Derived.Test.YtkmbgkcpohchhaaGreatDoorGHufG
import Derived.Lib.AppendStr
import Derived.Laws.BytesArg
import Derived.Deep.Cut
import Derived.Laws.ShiftsVarLaws
import Derived.StillTailTactics
namespace Go.Proofs.YtkmbgkcpohchhaaGreatDoor
open Go.RowKit
set_option linter.unusedVariables false
theorem whole_q (g k q : Nat) (hk : k ≤ 1152921504606846976) (hq : Hid (k / 8 = q)) (w : World) (hc : w.cell? ⟨g, 0, none⟩ = some (.int .i64 k)) :
    Calls Tryz.prog 96 #[.pointer (some ⟨g, 0, none⟩)] w fun e w' => e = .returned (.int .i64 (q : Nat)) ∧ w' = w := by
  have := whole_any g k hk w hc
  rw [hq.out] at this
  exact quiet_flip this
theorem begun_q (g k q : Nat) (hk : k ≤ 1152921504606846976) (hq : Hid (k % 8 = q)) (w : World) (hc : w.cell? ⟨g, 0, none⟩ = some (.int .i64 k)) :
    Calls Tryz.prog 65 #[.pointer (some ⟨g, 0, none⟩)] w fun e w' => e = .returned (.int .i64 (q : Nat)) ∧ w' = w := by
  have := begun_any g k hk w hc
  rw [hq.out] at this
  exact quiet_flip this
theorem byteInfoW : (Tryz.prog.info? 5).map (fun i => (i.zero, i.size, i.bytes)) = some (some (.int .u8 0), 1, 1) := by kernel_rfl
theorem Keeps.own {F : Nat → Prop} {w w' : World} (h : Keeps F w w') {e : TypeId} {size n : Nat} {v : Value} {xs : List Value} (k : w.ownsRow 0 e size v n xs) (hF : ∀ b, v.ownBlock = some b → ¬ F b) : w'.ownsRow 0 e size v n xs :=
  own_keep k fun b hb => h.block b (own_lt k hb) (hF b hb)
theorem Keeps.grown {F : Nat → Prop} {a w w' : World} (h : Keeps F a w) {row : Option Nat} (hg : w.grownBy w' row) (hr : ∀ b, row = some b → F b) : Keeps F a w' :=
  ⟨hg.os.trans h.os, hg.tape.trans h.tape, hg.output.trans h.output, Nat.le_trans h.size hg.size, fun i hi hn => (hg.block i (Nat.lt_of_lt_of_le hi h.size) (fun e => hn (hr i e.symm))).trans (h.block i hi hn)⟩

structure WrB (w : World) (g : Nat) (k : Nat) (dv : Value) (l : Nat) (d : Nat) (xs : List Value) : Prop where
  blk : Has w g 57 #[.int .i64 k, dv, .int .u8 (l : Nat)]
  row : w.ownsRow 0 5 1 dv d xs
theorem WrB.ne {w : World} {g k l d : Nat} {dv : Value} {xs : List Value} (h : WrB w g k dv l d xs) : dv.ownBlock ≠ some g := own_ne_has h.row h.blk (by decide)
theorem WrB.keep {w w' : World} {g k l d : Nat} {dv : Value} {xs : List Value} (h : WrB w g k dv l d xs) {F : Nat → Prop} (hk : Keeps F w w') (hg : ¬ F g) (hd : ∀ b, dv.ownBlock = some b → ¬ F b) : WrB w' g k dv l d xs :=
  ⟨hk.has h.blk hg, hk.own h.row hd⟩
theorem WrB.drewN {w : World} {g k l d : Nat} {dv : Value} {xs : List Value} (h : WrB w g k dv l d xs) (n : Nat) : WrB (w.drewN n) g k dv l d xs :=
  h.keep ((Keeps.refl (fun _ => False) w).drewN n) (fun h => h) (fun _ _ h => h)
theorem WrB.put {w : World} {g k l d : Nat} {dv : Value} {xs : List Value} (h : WrB w g k dv l d xs) (i : Nat) (u : Value) :
    Has (w.setCell ⟨g, i, none⟩ u) g 57 (#[Value.int .i64 k, dv, .int .u8 (l : Nat)].setIfInBounds i u) ∧ (w.setCell ⟨g, i, none⟩ u).ownsRow 0 5 1 dv d xs :=
  ⟨h.blk.put i u, own_keep h.row fun b hb => Below.heap_setCell w ⟨g, i, none⟩ u b (fun e => h.ne (by rw [hb, e]))⟩
theorem WrB.setAt {w : World} {g k l d : Nat} {dv : Value} {xs : List Value} (h : WrB w g k dv l d xs) (m : Nat) : WrB (w.setCell ⟨g, 0, none⟩ (.int .i64 m)) g m dv l d xs :=
  ⟨by simpa using (h.put 0 (.int .i64 m)).1, (h.put 0 (.int .i64 m)).2⟩
theorem WrB.setLast {w : World} {g k l d : Nat} {dv : Value} {xs : List Value} (h : WrB w g k dv l d xs) (m : Nat) : WrB (w.setCell ⟨g, 2, none⟩ (.int .u8 (m : Nat))) g k dv m d xs :=
  ⟨by simpa using (h.put 2 (.int .u8 (m : Nat))).1, (h.put 2 (.int .u8 (m : Nat))).2⟩
def WrF (F : Nat → Prop) (w : World) (g k N : Nat) : Prop :=
  ∃ dv, F g ∧ (∀ b, dv.ownBlock = some b → F b) ∧ WrB w g k dv (hiN N (k / 8)) (k / 8) (byteCells N (k / 8)) ∧ N < 2 ^ k ∧ ∀ i, F i → i < w.heap.size
def WPost (F : Nat → Prop) (g k N : Nat) (w w' : World) : Prop := ∃ F', WrF F' w' g k N ∧ Keeps F w w' ∧ ∀ i, F' i → F i ∨ w.heap.size ≤ i
theorem WrF.keep {F G : Nat → Prop} {w w' : World} {g k N : Nat} (h : WrF F w g k N) (hk : Keeps G w w') (hd : ∀ i, F i → ¬ G i) : WrF F w' g k N := by
  obtain ⟨dv, h1, h2, h3, h4, h5⟩ := h
  exact ⟨dv, h1, h2, h3.keep hk (hd _ h1) (fun b hb => hd _ (h2 b hb)), h4, fun i hi => Nat.lt_of_lt_of_le (h5 i hi) hk.size⟩
theorem lift_advanceW (g k n : Nat) (hk : k + n ≤ 1152921504606846976) {dv : Value} {l d : Nat} {xs : List Value} (w : World) (h : WrB w g k dv l d xs) :
    Calls Tryz.prog 95 #[.pointer (some ⟨g, 0, none⟩), .int .i64 n] w fun e w' => e = .returned (.tuple #[]) ∧ WrB w' g (k + n) dv l d xs ∧ Keeps (· = g) w w' := by
  refine (advance_any g k n hk w (h.blk.cell 0) (h.blk.frozen 0)).mono ?_
  rintro e w' ⟨rfl, rfl⟩
  exact ⟨rfl, h.setAt (k + n), Keeps.of_setCell (F := (· = g)) (p := ⟨g, 0, none⟩) rfl _⟩
theorem grow_keeps {F F' : Nat → Prop} {w W w5 : World} {o : Obj} {row : Option Nat} (hK : Keeps F w W) (hF : ∀ i, F' i → F i ∨ w.heap.size ≤ i) (hg : (W.alloc o).grownBy w5 row) (hr : ∀ b, row = some b → F' b) : Keeps F w w5 := by
  have hs := hK.size
  refine ⟨hg.os.trans hK.os, hg.tape.trans hK.tape, hg.output.trans hK.output, Nat.le_trans hs (Nat.le_trans (by simp) hg.size), fun i hi hn => ?_⟩
  refine (hg.block i (by simp; omega) (fun e => ?_)).trans ((Below.heap_alloc W o i (by omega)).trans (hK.block i hi hn))
  rcases hF i (hr i e.symm) with h | h
  · exact hn h
  · omega
set_option maxRecDepth 100000 in
set_option maxHeartbeats 2000000 in
theorem put_ok (F : Nat → Prop) (g k N : Nat) (hk : k ≤ 1125899906842592) (v : Nat) (hv32 : v < 4294967296) (n : Nat) (hn : n ≤ 32) (hv : v < 2 ^ n) (w : World) (h : WrF F w g k N) :
    Calls Tryz.prog 60 #[.pointer (some ⟨g, 0, none⟩), .int .u32 v, .int .i64 n] w fun e w' => e = .returned (.int .i64 0) ∧ WPost F g (k + n) (N + v * 2 ^ k) w w' := by
  obtain ⟨i0, hi, hz0, hz1, hz2⟩ := info_parts byteInfoW
  obtain ⟨dv, hFg, hFd, hB, hN, hlt⟩ := h
  have hcn : cntB n = true := decide_eq_true ⟨by omega, by omega⟩
  have hb := isCount_any n w
  rw [hcn] at hb
  have HB0 := hid hb
  have t0 : ((v : Int) / 2 ^ n != 0) = false := by
    have e : (v : Int) / 2 ^ n = ((v / 2 ^ n : Nat) : Int) := by simp
    rw [e, Nat.div_eq_of_lt hv]; rfl
  have hll := last_lt hN
  have hor := or64w N v k hN hv32
  have hNN := lay_lt hN hv
  have hop : hiN (N + v * 2 ^ k) (k / 8) < 18446744073709551616 := by
    unfold hiN
    have h1 : (N + v * 2 ^ k) / 2 ^ (8 * (k / 8)) < 2 ^ (k % 8 + n) := div_lt_pow (by rw [show 8 * (k / 8) + (k % 8 + n) = k + n by omega]; exact hNN)
    exact Nat.lt_of_lt_of_le h1 (Nat.le_trans (Nat.pow_le_pow_right (by decide) (show k % 8 + n ≤ 40 by omega)) (by decide))
  have hcong : byteCells N (k / 8) = byteCells (N + v * 2 ^ k) (k / 8) := byteCells_cong (lay_cong N v k (k / 8) (by omega)).symm
  rw [hcong] at hB
  generalize hM : N + v * 2 ^ k = M at *
  generalize hL : hiN N (k / 8) = L at *
  have HM := hid hM
  have HL := hid hL
  have HFd := hid hFd
  have Hlt := hid hlt
  have HNN := hid hNN
  clear hb hcn hM hL hFd hlt hcong hN hv hNN
  obtain ⟨kn, hkn⟩ : ∃ kn, k + n = kn := ⟨_, rfl⟩
  have hkn2 : kn ≤ 1152921504606846976 := by omega
  have hkn3 : k + n ≤ 1152921504606846976 := by omega
  rw [hkn] at HNN ⊢
  have HKN := hid hkn
  clear hkn
  obtain ⟨q, hq⟩ : ∃ q, k / 8 = q := ⟨_, rfl⟩
  obtain ⟨r, hr⟩ : ∃ r, k % 8 = r := ⟨_, rfl⟩
  have HQ := hid hq
  have HR := hid hr
  rw [hq] at hB hop hor
  rw [hr] at hor
  have hr8 : r < 8 := by omega
  have HB := hid hB
  have hc0 : w.cell? ⟨g, 0, none⟩ = some (.int .i64 k) := hB.blk.cell 0
  have hc2 : w.cell? ⟨g, 2, none⟩ = some (.int .u8 (L : Nat)) := hB.blk.cell 2
  clear hq hr hB
  go_enter Tryz.func60, Tryz.ntmps60
  go_wp2_with fail
  refine HB0.out.mono ?_
  rintro e w' ⟨rfl, rfl⟩
  go_wp2_with fail
  go_quiet ((go_at_call 65; exact Calls.quiet_of_same (begun_q g _ r (by omega) HR _ (by simpa using hc0))))
  have HOR := hid hor
  clear hor
  go_wp2_with fail
  refine (lift_advanceW g k n hkn3 _ (HB.out.drewN nq)).mono ?_
  rintro e w1 ⟨rfl, hB1, hK1⟩
  have hK2 : Keeps (· = g) w w1 := ((Keeps.refl (· = g) w).drewN nq).trans hK1
  have HB1 := hid hB1
  have HK2 := hid hK2
  clear hB1 hK1 hK2 HB hc0 hc2
  obtain ⟨d, hd⟩ : ∃ d, (k + n) / 8 = d := ⟨_, rfl⟩
  have hqd : q ≤ d := by have := HQ.out; omega
  have hdk : d ≤ 140737488355328 := by have := HKN.out; omega
  have HD := hid hd
  rw [HKN.out] at HB1 HD
  clear hd
  go_wp2_with fail
  go_loopw [7] (fun o wr => ∃ j : Nat, ∃ dv' : Value, ∃ F' : Nat → Prop, j ≤ d ∧ q ≤ j ∧ o = .int .u64 (hiN M j : Nat) ∧ WrB wr g kn dv' L j (byteCells M j) ∧ F' g ∧ (∀ b, dv'.ownBlock = some b → F' b) ∧ Keeps F w wr ∧ (∀ i, F' i → F i ∨ w.heap.size ≤ i) ∧ ∀ i, F' i → i < wr.heap.size)
    (fun o wr => d - (match wr.cell? ⟨g, 1, none⟩ with | some (.slice _ m _) => m | _ => 0))
  case atStart =>
    exact ⟨q, dv, F, hqd, Nat.le_refl _, rfl, HB1.out, hFg, HFd.out, HK2.out.mono (fun i _ h => by rw [h]; exact hFg), fun i h => .inl h, fun i h => Nat.lt_of_lt_of_le (Hlt.out i h) HK2.out.size⟩
  case round =>
    rename_i wr
    obtain ⟨j, dv', F', hjd, hqj, rfl, hB', hF'g, hF'd, hK', hF'F, hF'l⟩ := hrel
    obtain ⟨ao, cap, rfl⟩ := own_slice hB'.row
    have d0 : wr.cell? ⟨g, 0, none⟩ = some (.int .i64 kn) := hB'.blk.cell 0
    have d1 : wr.cell? ⟨g, 1, none⟩ = some (.slice ao j cap) := hB'.blk.cell 1
    have HB' := hid hB'
    have HFd' := hid hF'd
    have HFF' := hid hF'F
    have HFl' := hid hF'l
    have HK' := hid hK'
    clear hB' hF'd hK' hF'F hF'l
    by_cases hlt : j < d
    · have ht : decide ((j : Int) < d) = true := by simpa using hlt
      go_wp2_with fail
      go_quiet ((go_at_call 96; exact Calls.quiet_of_same (whole_q g _ d hkn2 HD _ (by simpa using d0))))
      have hB4 : WrB (wr.drewN nq) g kn (.slice ao j cap) L j (byteCells M j) := HB'.out.drewN nq
      have hK4 : Keeps F w (wr.drewN nq) := HK'.out.drewN nq
      have hFl4 : ∀ i, F' i → i < (wr.drewN nq).heap.size := HFl'.out
      generalize wr.drewN nq = W4 at *
      have HB4 := hid hB4
      have HK4 := hid hK4
      have HFl4 := hid hFl4
      clear hB4 hK4 hFl4
      have e0 : W4.cell? ⟨g, 1, none⟩ = some (.slice ao j cap) := HB4.out.blk.cell 1
      have hx1 : hiN M j % 256 < 256 := Nat.mod_lt _ (by decide)
      go_wp2_with (at_builtin; refine wpList_append_own_at _ rfl (.tmp 53) (.tmp 56) 41 rfl 0 5 i0 (.int .u8 0) 1 1 Tryz.underlying41 hi hz0 hz1 hz2 rfl (by decide) (.slice ao j cap) j (byteCells M j) rfl (own_keep HB4.out.row (fun b hb => Below.heap_alloc _ _ _ (own_lt HB4.out.row hb))) ⟨W4.heap.size, 0, none⟩ 1 1 [.int .u8 ((hiN M j : Int) % 256)] rfl rfl (cell_one_new _ _ _) (by intro u hu; simp at hu; rw [hu]; rfl) (by unfold maxLen; omega) (by omega) (Nat.zero_le _) ?_; intro rd' w5 hown5 hgrow5 _ hblk5; obtain ⟨ao2, cap2, rfl⟩ := own_slice hown5; have hH5 : Has w5 g 57 #[.int .i64 kn, .slice ao j cap, .int .u8 (L : Nat)] := (hgrow5.block g (by have := HB4.out.blk.lt; simp; omega) (fun e => HB4.out.ne e.symm)).trans (HB4.out.blk.alloc _); have y5 : w5.cell? ⟨g, 1, none⟩ = some (.slice ao j cap) := hH5.cell 1; have z5 := hH5.frozen 1; have HG5 := hid hgrow5; have HO5 := hid hown5; have HBL := hid hblk5; have HH5 := hid hH5; clear hgrow5 hown5 hblk5 hH5 d0 d1 e0)
      have hne : (Value.slice ao2 (j + 1) cap2).ownBlock ≠ some g := own_ne_has HO5.out HH5.out (by decide)
      have hB6 : WrB (w5.setCell ⟨g, 1, none⟩ (.slice ao2 (j + 1) cap2)) g kn (.slice ao2 (j + 1) cap2) L (j + 1) (byteCells M (j + 1)) := by
        refine ⟨by simpa using HH5.out.put 1 (.slice ao2 (j + 1) cap2), own_keep ?_ (fun b hb => Below.heap_setCell w5 ⟨g, 1, none⟩ _ b (fun e => hne (by rw [hb, e])))⟩
        rw [byteCells_succ]
        simpa using HO5.out
      have hK5 : Keeps F w w5 := grow_keeps HK4.out HFF'.out HG5.out HFd'.out
      have hz5 : W4.heap.size < w5.heap.size := by have := HG5.out.size; simp at this; omega
      have hzK := HK4.out.size
      go_roundw
      case rel =>
        refine ⟨j + 1, .slice ao2 (j + 1) cap2, fun i => F' i ∨ (w.heap.size ≤ i ∧ i < w5.heap.size), by omega, by omega, by rw [← div_step]; simp, hB6, .inl hF'g, fun b hb => ?_, hK5.setCell (p := ⟨g, 1, none⟩) (.inl hFg) _, fun i h => ?_, fun i h => ?_⟩
        · rcases HBL.out with h | h
          · exact .inl (HFd'.out b (by rw [← h]; exact hb))
          · right
            have e : (W4.alloc (Obj.cells #[Value.int IntKind.u8 ((hiN M j : Int) % 256)] 5)).heap.size = b := by rw [h] at hb; exact Option.some.inj hb
            simp at e
            exact ⟨by omega, own_lt HO5.out hb⟩
        · rcases h with h | h
          · exact HFF'.out i h
          · exact .inr h.1
        · rcases h with h | h
          · have := HFl4.out i h; simp [World.setCell]; omega
          · simpa [World.setCell] using h.2
      case measure =>
        have e6 : (w5.setCell ⟨g, 1, none⟩ (.slice ao2 (j + 1) cap2)).cell? ⟨g, 1, none⟩ = some (.slice ao2 (j + 1) cap2) := hB6.blk.cell 1
        have e7 : wr.cell? ⟨g, 1, none⟩ = some (.slice ao j cap) := HB'.out.blk.cell 1
        rw [e6, e7]
        simp
        omega
    · obtain rfl : d = j := by omega
      have ht : decide ((d : Int) < d) = false := by simp
      go_wp2_with fail
      go_quiet ((go_at_call 96; exact Calls.quiet_of_same (whole_q g _ d hkn2 HD _ (by simpa using d0))))
      have hB4 : WrB (wr.drewN nq) g kn (.slice ao d cap) L d (byteCells M d) := HB'.out.drewN nq
      have hK4 : Keeps F w (wr.drewN nq) := HK'.out.drewN nq
      have hFl4 : ∀ i, F' i → i < (wr.drewN nq).heap.size := HFl'.out
      generalize wr.drewN nq = W4 at *
      have HB4 := hid hB4
      have HK4 := hid hK4
      have HFl4 := hid hFl4
      clear hB4 hK4 hFl4
      have e0 := HB4.out.blk.frozen 2
      have e2 : W4.cell? ⟨g, 2, none⟩ = some (.int .u8 (L : Nat)) := HB4.out.blk.cell 2
      have hm : hiN M d % 256 = hiN M d := by
        have h1 := last_lt HNN.out
        rw [HD.out] at h1
        omega
      have hm2 : ((hiN M d : Int) % 256) = (hiN M d : Nat) := by omega
      have HM2 := hid hm2
      clear hm hm2
      go_wp2
      go_returns
      refine ⟨rfl, F', ⟨.slice ao d cap, hF'g, HFd'.out, ?_, HNN.out, ?_⟩, HK4.out.setCell (p := ⟨g, 2, none⟩) (.inl hFg) _, HFF'.out⟩
      · rw [HD.out]
        have := HB4.out.setLast (hiN M d)
        rw [← HM2.out] at this
        exact this
      · intro i h
        simpa [World.setCell] using HFl4.out i h
end Go.Proofs.YtkmbgkcpohchhaaGreatDoor
namespace Go.Proofs.YtkmbgkcpohchhaaGreatDoor
open Go.RowKit
set_option linter.unusedVariables false
theorem WPost.refl {F : Nat → Prop} {w : World} {g k N : Nat} (h : WrF F w g k N) : WPost F g k N w w := ⟨F, h, Keeps.refl _ _, fun i hi => .inl hi⟩

theorem WrF.fresh {w : World} {g : Nat} (h : Has w g 57 #[.int .i64 0, .slice none 0 0, .int .u8 0]) : WrF (· = g) w g 0 0 :=
  ⟨.slice none 0 0, rfl, fun b hb => by simp [Value.ownBlock] at hb, ⟨h, rfl, .inl ⟨rfl, rfl⟩⟩, by simp, fun i hi => by rw [hi]; exact h.lt⟩
theorem leN_zero_of {N k : Nat} (h : N < 2 ^ k) (d : Nat) (hd : k ≤ 8 * d) : hiN N d = 0 := Nat.div_eq_of_lt (Nat.lt_of_lt_of_le h (Nat.pow_le_pow_right (by decide) hd))
def strN (N d : Nat) : ByteArray := ⟨((List.range d).map fun j => UInt8.ofNat (hiN N j % 256)).toArray⟩
theorem strN_size (N d : Nat) : (strN N d).size = d := by simp [strN, ByteArray.size]
theorem strN_succ (N d : Nat) : strN N (d + 1) = strN N d ++ ⟨#[UInt8.ofNat (hiN N d % 256)]⟩ := by
  show (⟨_⟩ : ByteArray) = _
  rw [List.range_succ, List.map_append]
  simp [strN]
  rfl
theorem byteCells_get (N d i : Nat) (h : i < d) : (byteCells N d)[i]? = some (Value.int .u8 ((hiN N i % 256 : Nat) : Int)) := by simp [byteCells, h]
theorem own_cell {w : World} {e : TypeId} {n : Nat} {a : Addr} {cap : Nat} {xs : List Value} (h : w.ownsRow 0 e 1 (.slice (some a) n cap) n xs) {j : Nat} {u : Value} (hj : xs[j]? = some u) : w.cell? (a.add j) = some u := by
  rcases h.2 with ⟨h0, _⟩ | ⟨g, cap', cur, h0, _⟩
  · cases h0
  · have : a = ⟨g, 0, none⟩ := by injection h0 with h1; injection h1
    subst this
    exact h.cells (g := g) rfl j u hj
theorem conv_row {w : World} {N d : Nat} {v : Value} (h : w.ownsRow 0 5 1 v d (byteCells N d)) :
    (convert 41 9 v).run Tryz.prog w = .ok (.string (strN N d)) w := by
  obtain ⟨ao, cap, rfl⟩ := own_slice h
  cases ao with
  | none =>
    have h0 : d = 0 := by
      rcases h.2 with ⟨h1, h2⟩ | ⟨g, cap', cur, h1, _⟩
      · exact h2
      · cases h1
    subst h0
    exact run_convert_bytes_nil (P := Tryz.prog) (w := w) 41 5 Tryz.underlying41 Tryz.underlying5 0 cap 9 Tryz.underlying9
  | some a =>
    have hl : ((List.range d).map fun j => UInt8.ofNat (hiN N j % 256)).length = d := by simp
    have := run_convert_bytes_back (P := Tryz.prog) w 41 9 5 a cap ((List.range d).map fun j => UInt8.ofNat (hiN N j % 256)) Tryz.underlying41 Tryz.underlying5 Tryz.underlying9 (fun j hj => by
      have hj' : j < d := by simpa using hj
      rw [own_cell h (byteCells_get N d j hj')]
      simp)
    rw [hl] at this
    exact this
set_option maxHeartbeats 1000000 in
theorem wstr_even (F : Nat → Prop) (g k N : Nat) (hk : k ≤ 1152921504606846976) (q : Nat) (h8 : k = 8 * q) (w : World) (h : WrF F w g k N) :
    Calls Tryz.prog 31 #[.pointer (some ⟨g, 0, none⟩)] w fun e w' => e = .returned (.string (strN N q)) ∧ w = w' := by
  obtain ⟨dv, _, _, hB, hN, _⟩ := h
  have hq : k / 8 = q := by omega
  rw [hq] at hB
  have hc0 : w.cell? ⟨g, 0, none⟩ = some (.int .i64 k) := hB.blk.cell 0
  have hc1 : w.cell? ⟨g, 1, none⟩ = some dv := hB.blk.cell 1
  have hcv := conv_row hB.row
  have hbg := (begun_q g k 0 hk (by unfold Hid; omega) w hc0).mono (fun _ _ h => (⟨h.1, h.2.symm⟩ : _ ∧ w = _))
  have HB := hid hbg
  clear hB hbg hq h8
  go_enter Tryz.func31, Tryz.ntmps31
  go_wp2_with fail
  refine HB.out.mono ?_
  rintro e w' ⟨rfl, rfl⟩
  go_wp2
  go_ret
  exact ⟨rfl, rfl⟩
set_option maxRecDepth 100000 in
set_option maxHeartbeats 1000000 in
theorem wstr_odd (F : Nat → Prop) (g k N : Nat) (hk : k ≤ 1152921504606846976) (q r : Nat) (hr : 0 < r) (hr8 : r < 8) (h8 : Hid (k = 8 * q + r)) (w : World) (h : WrF F w g k N) :
    Calls Tryz.prog 31 #[.pointer (some ⟨g, 0, none⟩)] w fun e w' => e = .returned (.string (strN N (q + 1))) ∧ Bw w w' := by
  obtain ⟨dv, _, _, hB, hN, _⟩ := h
  have hq : k / 8 = q := by have := h8.out; omega
  have hll := last_lt hN
  rw [hq] at hB hll
  have hc0 : w.cell? ⟨g, 0, none⟩ = some (.int .i64 k) := hB.blk.cell 0
  have hbg := (begun_q g k r hk (by have := h8.out; unfold Hid; omega) w hc0).mono (fun _ _ h => (⟨h.1, h.2.symm⟩ : _ ∧ w = _))
  have HB := hid hbg
  have HBB := hid hB
  clear hB hbg hq hc0 hN
  have hz : ((r : Int) == 0) = false := by simp; omega
  go_enter Tryz.func31, Tryz.ntmps31
  go_wp2_with fail
  refine HB.out.mono ?_
  rintro e w' ⟨rfl, rfl⟩
  have hc1 : w.drew.cell? ⟨g, 1, none⟩ = some dv := HBB.out.blk.cell 1
  have hc2 : w.drew.cell? ⟨g, 2, none⟩ = some (.int .u8 (hiN N q : Nat)) := HBB.out.blk.cell 2
  have hcv : (convert 41 9 dv).run Tryz.prog w.drew = .ok (.string (strN N q)) w.drew := conv_row (HBB.out.drewN 1).row
  have hW2 : WrB (w.alloc (.cells #[.int .u8 (hiN N q : Nat)] 5)).drew g k dv (hiN N q) q (byteCells N q) := HBB.out.keep (((Keeps.refl (fun _ => False) w).alloc (.cells #[.int .u8 (hiN N q : Nat)] 5)).drewN 1) (fun h => h) (fun _ _ h => h)
  have hcv2 := conv_row hW2.row
  have hd1 : (w.alloc (.cells #[.int .u8 (hiN N q : Nat)] 5)).drew.cell? ⟨g, 1, none⟩ = some dv := hW2.blk.cell 1
  have hcv3 : (convert 41 9 (.slice (some ⟨w.heap.size, 0, none⟩) 1 1)).run Tryz.prog (w.alloc (.cells #[.int .u8 (hiN N q : Nat)] 5)).drew = .ok (.string ⟨#[UInt8.ofNat (hiN N q)]⟩) (w.alloc (.cells #[.int .u8 (hiN N q : Nat)] 5)).drew := by
    have hn := (Has.new w 5 #[.int .u8 (hiN N q : Nat)]).drew
    exact run_convert_bytes_back (P := Tryz.prog) _ 41 9 5 ⟨w.heap.size, 0, none⟩ 1 [UInt8.ofNat (hiN N q)] Tryz.underlying41 Tryz.underlying5 Tryz.underlying9 (fun j hj => by
      obtain rfl : j = 0 := by simpa using hj
      have := hn.cell 0
      simp [Addr.add, this]
      omega)
  clear hW2
  have hsz : (strN N q).size + 1 ≤ 9223372036854775807 := by rw [strN_size]; have := h8.out; omega
  go_wp2_with fail
  go_region
  all_goals go_wp2
  all_goals go_returns
  all_goals refine ⟨?_, (((Bw.refl w).alloc _).drewN 1)⟩
  all_goals rw [strN_succ, Nat.mod_eq_of_lt (show hiN N q < 256 by omega)]
  all_goals rfl
theorem wstr_any (F : Nat → Prop) (g k N : Nat) (hk : k ≤ 1152921504606846976) (w : World) (h : WrF F w g k N) :
    Calls Tryz.prog 31 #[.pointer (some ⟨g, 0, none⟩)] w fun e w' => e = .returned (.string (strN N ((k + 7) / 8))) ∧ Bw w w' := by
  by_cases hr : k % 8 = 0
  · rw [show (k + 7) / 8 = k / 8 by omega]
    refine (wstr_even F g k N hk (k / 8) (by omega) w h).mono ?_
    rintro e w' ⟨rfl, rfl⟩
    exact ⟨rfl, Bw.refl _⟩
  · rw [show (k + 7) / 8 = k / 8 + 1 by omega]
    exact wstr_odd F g k N hk (k / 8) (k % 8) (by omega) (by omega) (by unfold Hid; omega) w h
end Go.Proofs.YtkmbgkcpohchhaaGreatDoor
namespace Go.Proofs.YtkmbgkcpohchhaaGreatDoor
open Go.RowKit
set_option linter.unusedVariables false
def miss (k : Nat) : Nat := (8 - k % 8) % 8
theorem miss_lt (k : Nat) : miss k < 8 := Nat.mod_lt _ (by decide)
set_option maxHeartbeats 400000 in
theorem missing_any (g k : Nat) (hk : k ≤ 1152921504606846976) (w : World) (hc : w.cell? ⟨g, 0, none⟩ = some (.int .i64 k)) :
    Calls Tryz.prog 113 #[.pointer (some ⟨g, 0, none⟩)] w fun e w' => e = .returned (.int .i64 (miss k : Nat)) ∧ w = w' := by
  have h8 : k % 8 < 8 := Nat.mod_lt _ (by decide)
  obtain ⟨r, hr⟩ : ∃ r, k % 8 = r := ⟨_, rfl⟩
  have hb := begun_any g k hk w hc
  rw [hr] at hb h8
  have HR := hid hr
  have HB := hid hb
  clear hr hb
  go_enter Tryz.func113, Tryz.ntmps113
  go_wp2_with fail
  refine HB.out.mono ?_
  rintro e w' ⟨rfl, rfl⟩
  go_wp2
  go_ret
  exact ⟨ret_int (by unfold miss; rw [HR.out]; omega), rfl⟩
end Go.Proofs.YtkmbgkcpohchhaaGreatDoor
namespace Go.Proofs.YtkmbgkcpohchhaaGreatDoor
open Go.RowKit Go.Conc
set_option linter.unusedVariables false
theorem miss_add (k : Nat) : k + miss k = (k + 7) / 8 * 8 := by unfold miss; omega
def upK (k : Nat) : Nat := (k + 7) / 8 * 8
theorem upK_le (k n : Nat) (h : k ≤ 8 * n) : upK k ≤ 8 * n := by unfold upK; omega
theorem upK_8 (k : Nat) : upK k = 8 * (upK k / 8) := by unfold upK; omega
set_option maxHeartbeats 400000 in
theorem walign_any (F : Nat → Prop) (g k N : Nat) (hk : k ≤ 1125899906842592) (w : World) (h : WrF F w g k N) :
    Calls Tryz.prog 83 #[.pointer (some ⟨g, 0, none⟩)] w fun e w' => e = .returned (.tuple #[]) ∧ WPost F g (upK k) N w w' := by
  have hp := put_ok F g k N hk 0 (by omega) (miss k) (by have := miss_lt k; omega) (Nat.two_pow_pos _) w h
  rw [Nat.zero_mul, Nat.add_zero, show k + miss k = upK k from miss_add k] at hp
  obtain ⟨dv, _, _, hB, _⟩ := h
  have hc0 : w.cell? ⟨g, 0, none⟩ = some (.int .i64 k) := hB.blk.cell 0
  have hm := missing_any g k (by omega) w hc0
  have HM := hid hm
  have HP := hid hp
  clear hp hm hB
  go_enter Tryz.func83, Tryz.ntmps83
  go_wp2_with fail
  refine HM.out.mono ?_
  rintro e w' ⟨rfl, rfl⟩
  go_wp2_with fail
  refine HP.out.mono ?_
  rintro e w' ⟨rfl, hw⟩
  have HW := hid hw
  clear hw
  go_wp2
  go_returns
  exact ⟨rfl, HW.out⟩
theorem byteCells_add (N d : Nat) (s : ByteArray) (h : N < 2 ^ (8 * d)) : byteCells (N + leN s.data.toList * 2 ^ (8 * d)) (d + s.size) = byteCells N d ++ Lib.strCells s := by
  have hl : s.data.toList.length = s.size := by simp
  have e1 : byteCells N d = byteCells (N + leN s.data.toList * 2 ^ (8 * d)) d := byteCells_cong (lay_cong N _ (8 * d) d (Nat.le_refl _)).symm
  rw [e1]
  apply List.ext_getElem
  · simp [byteCells, Lib.strCells]
  · intro i h1 h2
    have hi : i < d + s.size := by simpa [byteCells] using h1
    by_cases hid : i < d
    · rw [List.getElem_append_left (by simpa [byteCells] using hid)]
      simp [byteCells]
    · obtain ⟨j, rfl⟩ : ∃ j, i = d + j := ⟨i - d, by omega⟩
      rw [List.getElem_append_right (by simp [byteCells])]
      have hj : j < s.data.toList.length := by omega
      have e2 := leN_byte s.data.toList j hj
      have e3 : hiN (N + leN s.data.toList * 2 ^ (8 * d)) (d + j) = leN s.data.toList / 2 ^ (8 * j) := by
        unfold hiN
        rw [Nat.mul_add, Nat.pow_add, ← Nat.div_div_eq_div_mul, Nat.add_mul_div_right _ _ (Nat.two_pow_pos _), Nat.div_eq_of_lt h, Nat.zero_add]
      simp [byteCells, Lib.strCells, e3]
      have e4 : ((leN s.data.toList / 2 ^ (8 * j) % 256 : Nat) : Int) = ((s.data.toList[j].toNat : Nat) : Int) := by rw [e2]
      simpa using e4
theorem app_strW {P : Program} (w : World) (t u ty e : TypeId) (i : TypeInfo) (ht : P.underlying t = some (.slice e)) (hu : P.underlying u = some .string) (hi : P.info? e = some i) (hz : i.zero = some (.int .u8 0))
    (h1 : i.size = 1) (h2 : i.bytes = 1) (v : Value) (n : Nat) (xs : List Value) (hown : w.ownsRow 0 e 1 v n xs) (s : ByteArray) (hb : n + s.size ≤ 140737488355328) :
    ∃ v' w', (Builtin.append_ #[t, u] ty #[v, .string s]).run P w = .ok v' w' ∧ w'.ownsRow 0 e 1 v' (n + s.size) (xs ++ Lib.strCells s) ∧ w.grownBy w' v.ownBlock ∧ (v'.ownBlock = v.ownBlock ∨ ∀ b, v'.ownBlock = some b → w.heap.size ≤ b) := by
  have hm : n + s.size ≤ maxLen := by unfold maxLen; omega
  rcases hown.2 with ⟨rfl, rfl⟩ | ⟨g, cap, cur, rfl, hg0, hg, hnc, hcm, hcs, htk⟩
  · obtain ⟨v', w', hr, ho, hgr, _⟩ := Lib.run_append_own_string w w.heap.size t u ty e i ht hu hi hz h1 h2 (.slice none 0 0) 0 xs ⟨hown.1, .inl ⟨rfl, rfl⟩⟩ s hm hb (Nat.le_refl _)
    refine ⟨v', w', hr, ⟨ho.1, ?_⟩, hgr, .inr fun b hbb => ?_⟩
    · rcases ho.2 with h | ⟨g, cap, cur, e1, _, e3⟩
      · exact .inl h
      · exact .inr ⟨g, cap, cur, e1, Nat.zero_le _, e3⟩
    · rcases ho.2 with ⟨rfl, _⟩ | ⟨g, cap, cur, rfl, e2, _⟩
      · simp [Value.ownBlock] at hbb
      · have : g = b := by simpa [Value.ownBlock] using hbb
        omega
  · obtain ⟨v', w', hr, ho, hgr, _⟩ := Lib.run_append_own_string w 0 t u ty e i ht hu hi hz h1 h2 (.slice (some ⟨g, 0, none⟩) n cap) n xs hown s hm hb (Nat.zero_le _)
    refine ⟨v', w', hr, ho, hgr, ?_⟩
    have hcs' : cur.size = cap := by simpa using hcs
    by_cases hroom : n + s.size ≤ cap
    · have hr2 := Lib.run_append_room_string (P := P) w t u ty e i ht hu hi h1 g n cap cur hg s hroom (by omega)
      rw [hr] at hr2
      injection hr2 with e1 _
      left; rw [e1]; rfl
    · have hr2 := Lib.run_append_grow_string (P := P) w t u ty e i (.int .u8 0) ht hu hi hz ⟨g, 0, none⟩ n cap xs (by rw [h1]; exact hown.1) (hown.cells (g := g) rfl) s (by omega) (by omega) (by rw [h2]; exact growslice_fits (by omega) (by omega))
      rw [hr] at hr2
      injection hr2 with e1 _
      right; intro b hbb
      rw [e1] at hbb
      have : w.heap.size = b := by simpa [Value.ownBlock] using hbb
      omega
theorem wpList_app_strW {P : Program} {w : World} {ops : Array Oper} {rest : List Oper} {o : Oper} {a : Act} {Q : Exit → Act → World → Prop} (hgd : o.guard = none) (x y : Operand) (t u : TypeId)
    (ho : o.op = .call { callee := .builtin .append, args := #[x, y], argTypes := #[t, u] }) {e : TypeId} {i : TypeInfo} (ht : P.underlying t = some (.slice e)) (hu : P.underlying u = some .string) (hi : P.info? e = some i) (hz : i.zero = some (.int .u8 0))
    (h1 : i.size = 1) (h2 : i.bytes = 1) (v : Value) (n : Nat) (xs : List Value) (hx : a.eval x = v) (hown : w.ownsRow 0 e 1 v n xs) (s : ByteArray) (hy : a.eval y = .string s) (hb : n + s.size ≤ 140737488355328)
    (h : ∀ v' w', w'.ownsRow 0 e 1 v' (n + s.size) (xs ++ Lib.strCells s) → w.grownBy w' v.ownBlock → (v'.ownBlock = v.ownBlock ∨ ∀ b, v'.ownBlock = some b → w.heap.size ≤ b) → wpList P ops Q rest (a.put o.dst v') w') : wpList P ops Q (o :: rest) a w := by
  obtain ⟨v', w', hr, k1, k2, k3⟩ := app_strW (P := P) w t u o.type e i ht hu hi hz h1 h2 v n xs hown s hb
  refine wpList_plain hgd fun K hK => ?_
  unfold Oper.wp execOp
  simp only [ho, resolve, invoke, builtin, Sem.run_bind, Sem.run_pure, Result.andThen_ok, List.map_toArray, List.map_cons, List.map_nil, hx, hy, hr]
  exact hK _ _ (h v' w' k1 k2 k3)
set_option maxRecDepth 100000 in
set_option maxHeartbeats 1000000 in
theorem wadd_any (F : Nat → Prop) (g k N : Nat) (s : ByteArray) (hs : k / 8 + s.size + 8 ≤ 140737488355328) (w : World) (h : WrF F w g k N) :
    Calls Tryz.prog 84 #[.pointer (some ⟨g, 0, none⟩), .string s] w fun e w' => e = .returned (.tuple #[]) ∧ WPost F g (upK k + 8 * s.size) (N + leN s.data.toList * 2 ^ upK k) w w' := by
  obtain ⟨i0, hi, hz0, hz1, hz2⟩ := info_parts byteInfoW
  have HS := hid hs
  have hal := walign_any F g k N (by omega) w h
  have HAL := hid hal
  have hN : N < 2 ^ upK k := Nat.lt_of_lt_of_le h.choose_spec.2.2.2.1 (Nat.pow_le_pow_right (by decide) (by unfold upK; omega))
  obtain ⟨q, hq⟩ : ∃ q, upK k = 8 * q := ⟨upK k / 8, upK_8 k⟩
  have hq2 : q ≤ k / 8 + 1 := by unfold upK at hq; omega
  have hqs : q + s.size ≤ 140737488355328 := by omega
  rw [hq] at hN ⊢
  have HQ := hid hq
  have HN := hid hN
  clear h hal hq hN hs
  go_enter Tryz.func84, Tryz.ntmps84
  go_wp2_with fail
  refine HAL.out.mono ?_
  rintro e w1 ⟨rfl, F1, ⟨dv, hFg, hFd, hB, hN1, hFl⟩, hK1, hF1⟩
  rw [HQ.out, show 8 * q / 8 = q by omega, leN_zero_of HN.out q (Nat.le_refl _)] at hB
  obtain ⟨ao, cap, rfl⟩ := own_slice hB.row
  have HB := hid hB
  have HFd := hid hFd
  have HFl := hid hFl
  have HF1 := hid hF1
  have HK1 := hid hK1
  clear hB hFd hFl hF1 hK1 hN1
  have e0 : w1.cell? ⟨g, 1, none⟩ = some (.slice ao q cap) := HB.out.blk.cell 1
  go_wp2_with (at_builtin; refine wpList_app_strW rfl _ _ 41 9 rfl Tryz.underlying41 Tryz.underlying9 hi hz0 hz1 hz2 (.slice ao q cap) q (byteCells N q) rfl HB.out.row s rfl (by omega) ?_; intro rd' w5 hown5 hgrow5 hblk5; obtain ⟨ao2, cap2, rfl⟩ := own_slice hown5; have hH5 : Has w5 g 57 #[.int .i64 (8 * q : Nat), .slice ao q cap, .int .u8 (0 : Nat)] := (hgrow5.block g (by have := HB.out.blk.lt; simp; omega) (fun e => HB.out.ne e.symm)).trans HB.out.blk; have y5 : w5.cell? ⟨g, 1, none⟩ = some (.slice ao q cap) := hH5.cell 1; have z5 := hH5.frozen 1; have HG5 := hid hgrow5; have HO5 := hid hown5; have HBL := hid hblk5; have HH5 := hid hH5; clear hgrow5 hown5 hH5 hblk5 e0)
  have hne : (Value.slice ao2 (q + s.size) cap2).ownBlock ≠ some g := own_ne_has HO5.out HH5.out (by decide)
  have hB6 : WrB (w5.setCell ⟨g, 1, none⟩ (.slice ao2 (q + s.size) cap2)) g (8 * q) (.slice ao2 (q + s.size) cap2) 0 (q + s.size) (byteCells (N + leN s.data.toList * 2 ^ (8 * q)) (q + s.size)) := by
    refine ⟨by simpa using HH5.out.put 1 (.slice ao2 (q + s.size) cap2), own_keep ?_ (fun b hb => Below.heap_setCell w5 ⟨g, 1, none⟩ _ b (fun e => hne (by rw [hb, e])))⟩
    rw [byteCells_add N q s HN.out]
    exact HO5.out
  have HB6 := hid hB6
  clear hB6
  have hla := lift_advanceW g (8 * q) (8 * s.size) (by omega) _ HB6.out
  rw [show ((8 * s.size : Nat) : Int) = 8 * (s.size : Int) by omega] at hla
  refine hla.mono ?_
  rintro e w6 ⟨rfl, hB7, hK7⟩
  have HB7 := hid hB7
  have HK7 := hid hK7
  clear hB7 hK7 hla
  go_wp2
  go_returns
  have hz5 := HG5.out.size
  have hz6 : w5.heap.size ≤ w6.heap.size := by have := HK7.out.size; simpa [World.setCell] using this
  have hl := leN_lt s.data.toList
  have hls : s.data.toList.length = s.size := by simp
  rw [hls] at hl
  have hN2 : N + leN s.data.toList * 2 ^ (8 * q) < 2 ^ (8 * q + 8 * s.size) := lay_lt HN.out hl
  have hk8 : (8 * q + 8 * s.size) / 8 = q + s.size := by omega
  have hw1 := HK1.out.size
  refine ⟨rfl, fun i => F1 i ∨ (w.heap.size ≤ i ∧ i < w5.heap.size), ⟨.slice ao2 (q + s.size) cap2, .inl hFg, fun b hb => ?_, ?_, hN2, fun i h => ?_⟩, ?_, fun i h => ?_⟩
  · rcases HBL.out with h | h
    · exact .inl (HFd.out b (by rw [← h]; exact hb))
    · exact .inr ⟨by have := h b hb; omega, own_lt HO5.out hb⟩
  · rw [hk8, leN_zero_of hN2 (q + s.size) (by omega)]
    exact HB7.out
  · rcases h with h | h
    · have := HFl.out i h; omega
    · have := h.2; omega
  · have hF1k : Keeps F w w5 := by
      refine ⟨HG5.out.os.trans HK1.out.os, HG5.out.tape.trans HK1.out.tape, HG5.out.output.trans HK1.out.output, by omega, fun i hi hn => ?_⟩
      refine (HG5.out.block i (by omega) (fun e => ?_)).trans (HK1.out.block i hi hn)
      rcases HF1.out i (HFd.out i e.symm) with h | h
      · exact hn h
      · omega
    have hgF : F g ∨ w.heap.size ≤ g := HF1.out g hFg
    have hk6 := hF1k.setCell (p := ⟨g, 1, none⟩) (u := .slice ao2 (q + s.size) cap2) hgF
    refine ⟨HK7.out.os.trans hk6.os, HK7.out.tape.trans hk6.tape, HK7.out.output.trans hk6.output, by omega, fun i hi hn => ?_⟩
    refine (HK7.out.block i (Nat.lt_of_lt_of_le hi hk6.size) (fun e => ?_)).trans (hk6.block i hi hn)
    rcases hgF with h | h
    · exact hn (by rw [e]; exact h)
    · omega
  · rcases h with h | h
    · exact HF1.out i h
    · exact .inr h.1
end Go.Proofs.YtkmbgkcpohchhaaGreatDoor
namespace Go.Proofs.YtkmbgkcpohchhaaGreatDoor
open Go.RowKit
set_option linter.unusedVariables false
def Rd (w : World) (g : Nat) (s : ByteArray) (k : Nat) : Prop := Has w g 142 #[.int .i64 k, .string s]
theorem or64 (s : ByteArray) (q j : Nat) (h : q + j < s.size) (hj : j < 5) :
    bits BinOp.or IntKind.u64 (bv s (8 * q) (8 * j) : Nat) (IntKind.u64.wrap ((s[q + j].toNat : Int) * 2 ^ (8 * j))) = (bv s (8 * q) (8 * (j + 1)) : Nat) := by
  have hx : s[q + j].toNat < 256 := s[q + j].toNat_lt
  have hp : 2 ^ (8 * j) ≤ 2 ^ 32 := Nat.pow_le_pow_right (by decide) (by omega)
  have h1 : s[q + j].toNat * 2 ^ (8 * j) < 256 * 2 ^ 32 := Nat.lt_of_lt_of_le (Nat.mul_lt_mul_of_pos_right hx (Nat.two_pow_pos _)) (Nat.mul_le_mul_left _ hp)
  have e1 : IntKind.u64.wrap ((s[q + j].toNat : Int) * 2 ^ (8 * j)) = ((s[q + j].toNat * 2 ^ (8 * j) : Nat) : Int) := by
    rw [IntKind.wrap_u64]
    have : ((s[q + j].toNat : Int) * 2 ^ (8 * j)) = ((s[q + j].toNat * 2 ^ (8 * j) : Nat) : Int) := by simp
    rw [this]
    omega
  rw [e1, u64_or_nat _ _ (by have := bv_lt40 s (8 * q) (8 * j) (by omega); omega) (by omega), bv_or s q j h]
theorem and64 (s : ByteArray) (q r n : Nat) (hr : r < 8) (hn : n ≤ 32) :
    bits BinOp.and IntKind.u64 ((bv s (8 * q) (8 * ((r + n + 7) / 8)) : Nat) / 2 ^ r) (IntKind.u64.wrap (IntKind.u64.wrap (2 ^ n) - 1)) = (bv s (8 * q + r) n : Nat) := by
  have hp : 2 ^ n ≤ 2 ^ 32 := Nat.pow_le_pow_right (by decide) hn
  have hp0 := Nat.two_pow_pos n
  have e0 : ((2 : Int) ^ n) = ((2 ^ n : Nat) : Int) := by simp
  have e1 : IntKind.u64.wrap (IntKind.u64.wrap ((2 : Int) ^ n) - 1) = ((2 ^ n - 1 : Nat) : Int) := by
    rw [IntKind.wrap_u64, IntKind.wrap_u64, e0]
    omega
  have hv := bv_lt40 s (8 * q) (8 * ((r + n + 7) / 8)) (by omega)
  have hd : bv s (8 * q) (8 * ((r + n + 7) / 8)) / 2 ^ r ≤ bv s (8 * q) (8 * ((r + n + 7) / 8)) := Nat.div_le_self _ _
  have e2 : ((bv s (8 * q) (8 * ((r + n + 7) / 8)) : Nat) : Int) / 2 ^ r = ((bv s (8 * q) (8 * ((r + n + 7) / 8)) / 2 ^ r : Nat) : Int) := by simp
  rw [e1, e2, u64_and_nat _ _ (by omega) (by omega), and_mask, bv_part s _ _ _ _ (by omega)]
set_option maxRecDepth 100000 in
set_option maxHeartbeats 1000000 in
theorem bits_ok (g : Nat) (s : ByteArray) (hs : s.size ≤ 281474976710656) (k n : Nat) (hn : n ≤ 32) (hk : k + n ≤ 8 * s.size) (w : World) (h : Rd w g s k) :
    Calls Tryz.prog 122 #[.pointer (some ⟨g, 0, none⟩), .int .i64 n] w fun e w' => e = .returned (.tuple #[.int .u32 (bv s k n : Nat), .int .i64 0]) ∧ Rd w' g s (k + n) ∧ Keeps (· = g) w w' := by
  have hc0 : w.cell? ⟨g, 0, none⟩ = some (.int .i64 k) := h.cell 0
  have hc1 : w.cell? ⟨g, 1, none⟩ = some (.string s) := h.cell 1
  have hcn : cntB n = true := decide_eq_true ⟨by omega, by omega⟩
  have hb := isCount_any n w
  rw [hcn] at hb
  have HB := hid hb
  have HH := hid h
  clear hb hcn h
  go_enter Tryz.func122, Tryz.ntmps122
  go_wp2_with fail
  refine HB.out.mono ?_
  rintro e w' ⟨rfl, rfl⟩
  go_wp2_with fail
  go_quiet (fail)
  go_wp2_with fail
  obtain ⟨q, hq⟩ : ∃ q, k / 8 = q := ⟨_, rfl⟩
  obtain ⟨r, hr⟩ : ∃ r, k % 8 = r := ⟨_, rfl⟩
  have hqr : k = 8 * q + r := by omega
  have hr8 : r < 8 := by omega
  have hbe : ∀ wr : World, wr.cell? ⟨g, 0, none⟩ = some (.int .i64 k) → Calls Tryz.prog 65 #[.pointer (some ⟨g, 0, none⟩)] wr fun e w' => e = .returned (.int .i64 (r : Nat)) ∧ w' = wr := fun wr hc => by
    have := begun_any g k (by omega) wr hc
    rw [hr] at this
    exact quiet_flip this
  have HBE := hid hbe
  clear hbe
  have hbg := begun_any g k (by omega) (w.drewN nq) (by simpa using hc0)
  rw [hr] at hbg
  have HBG := hid hbg
  have hwh : ∀ wr : World, wr.cell? ⟨g, 0, none⟩ = some (.int .i64 k) → Calls Tryz.prog 96 #[.pointer (some ⟨g, 0, none⟩)] wr fun e w' => e = .returned (.int .i64 (q : Nat)) ∧ w' = wr := fun wr hc => by
    have := whole_any g k (by omega) wr hc
    rw [hq] at this
    exact quiet_flip this
  have HWH := hid hwh
  have HQR := hid hqr
  clear hbg hwh hq hr hqr
  refine HBG.out.mono ?_
  rintro e w' ⟨rfl, rfl⟩
  have hm5 : (r + n + 7) / 8 ≤ 5 := by omega
  go_wp2_with fail
  go_loopw [6, 37] (fun v i wr => ∃ j : Nat, j ≤ (r + n + 7) / 8 ∧ i = .int .i64 j ∧ v = .int .u64 (bv s (8 * q) (8 * j) : Nat) ∧ ∃ z, wr = w.drewN z) (fun _ i _ => 5 - (intOf i).toNat)
  case atStart => exact ⟨0, Nat.zero_le _, rfl, by rw [Nat.mul_zero, bv_zero]; rfl, nq, rfl⟩
  case round =>
    obtain ⟨j, hj, rfl, rfl, z, hz⟩ := hrel
    rename_i wr
    have d0 : wr.cell? ⟨g, 0, none⟩ = some (.int .i64 k) := by rw [hz]; simpa using hc0
    have d1 : wr.cell? ⟨g, 1, none⟩ = some (.string s) := by rw [hz]; simpa using hc1
    have HZ := hid hz
    clear hz
    by_cases hlt : j < (r + n + 7) / 8
    · have hx : q + j < s.size := by have := HQR.out; omega
      have hsx : s[q + j].toNat < 256 := s[q + j].toNat_lt
      have hv := bv_lt40 s (8 * q) (8 * j) (by omega)
      have i0 : (0 : Int) ≤ (q : Int) + j := by omega
      have i1 : (q : Int) + j < s.size := by omega
      have i2 : ((q : Int) + j).toNat = q + j := by omega
      go_wp2_with fail
      go_quiet ((go_at_call 96; exact Calls.quiet_of_same (HWH.out _ (by simpa using d0))))
      go_wp2
      go_roundw
      case rel =>
        exact ⟨j + 1, by omega, by go_num, by rw [or64 s q j hx (by omega)], z + nq, by rw [HZ.out]; simp⟩
      case measure => simp [intOf]; omega
    · obtain rfl : j = (r + n + 7) / 8 := by omega
      go_wp2_with fail
      go_quiet ((go_at_call 65; exact Calls.quiet_of_same (HBE.out _ (by simpa using d0))))
      have HA := hid (and64 s q r n hr8 hn)
      go_wp2_with fail
      rw [HA.out]
      have hv := bv_lt32 s (8 * q + r) n hn
      refine (advance_any g k n (by omega) _ (by simpa using d0) ?_).mono ?_
      · simpa [HZ.out] using HH.out.frozen 0
      rintro e w' ⟨rfl, rfl⟩
      go_wp2
      go_returns
      refine ⟨?_, ?_, ?_⟩
      · rw [HQR.out]; rfl
      · rw [HZ.out]; unfold Rd; simpa using ((HH.out.drewN z).drewN nq).put 0 (.int .i64 ((k + n : Nat) : Int))
      · rw [HZ.out]; exact ((((Keeps.refl (· = g) w).drewN z).drewN nq)).setCell (p := ⟨g, 0, none⟩) (.inl rfl) _
def bitsOk (s : ByteArray) (k : Nat) (n : Int) : Bool := cntB n && decide (n ≤ 8 * (s.size : Int) - k)
def bitsV (s : ByteArray) (k : Nat) (n : Int) : Nat := if bitsOk s k n then bv s k n.toNat else 0
def bitsE (s : ByteArray) (k : Nat) (n : Int) : Int := if cntB n then (if n ≤ 8 * (s.size : Int) - k then 0 else 2) else 1
def bitsK (s : ByteArray) (k : Nat) (n : Int) : Nat := if bitsOk s k n then k + n.toNat else k
theorem bits_range {n : Int} (h : cntB n = false) (s : ByteArray) (k : Nat) : bitsV s k n = 0 ∧ bitsE s k n = 1 ∧ bitsK s k n = k := by
  simp [bitsV, bitsE, bitsK, bitsOk, h]
theorem bits_short {n : Int} (h : cntB n = true) (s : ByteArray) (k : Nat) (hk : ¬ n ≤ 8 * (s.size : Int) - k) : bitsV s k n = 0 ∧ bitsE s k n = 2 ∧ bitsK s k n = k := by
  simp [bitsV, bitsE, bitsK, bitsOk, h, hk]
theorem bits_good (n : Nat) (h : n ≤ 32) (s : ByteArray) (k : Nat) (hk : k + n ≤ 8 * s.size) : bitsV s k n = bv s k n ∧ bitsE s k n = 0 ∧ bitsK s k n = k + n := by
  have h1 : cntB (n : Int) = true := decide_eq_true ⟨by omega, by omega⟩
  have h2 : (n : Int) ≤ 8 * (s.size : Int) - k := by omega
  simp [bitsV, bitsE, bitsK, bitsOk, h1, h2]
def BitsPost (g : Nat) (s : ByteArray) (k : Nat) (n : Int) (w : World) (e : Ending) (w' : World) : Prop :=
  e = .returned (.tuple #[.int .u32 (bitsV s k n : Nat), .int .i64 (bitsE s k n)]) ∧ Rd w' g s (bitsK s k n) ∧ Keeps (· = g) w w'
set_option maxHeartbeats 400000 in
theorem bits_bad (g : Nat) (n : Int) (hn : cntB n = false) (w : World) :
    Calls Tryz.prog 122 #[.pointer (some ⟨g, 0, none⟩), .int .i64 n] w fun e w' => e = .returned (.tuple #[.int .u32 0, .int .i64 1]) ∧ w = w' := by
  have hb := isCount_any n w
  rw [hn] at hb
  have HB := hid hb
  clear hb hn
  go_enter Tryz.func122, Tryz.ntmps122
  go_wp2_with fail
  refine HB.out.mono ?_
  rintro e w' ⟨rfl, rfl⟩
  go_wp2
  go_returns
  exact ⟨rfl, rfl⟩
set_option maxHeartbeats 400000 in
theorem bits_few (g : Nat) (s : ByteArray) (hs : s.size ≤ 281474976710656) (k : Nat) (hk8 : k ≤ 8 * s.size) (n : Int) (hn : cntB n = true) (hk : ¬ n ≤ 8 * (s.size : Int) - k) (w : World) (h : Rd w g s k) :
    Calls Tryz.prog 122 #[.pointer (some ⟨g, 0, none⟩), .int .i64 n] w fun e w' => e = .returned (.tuple #[.int .u32 0, .int .i64 2]) ∧ ∃ z, w' = w.drewN z := by
  have hc0 : w.cell? ⟨g, 0, none⟩ = some (.int .i64 k) := h.cell 0
  have hc1 : w.cell? ⟨g, 1, none⟩ = some (.string s) := h.cell 1
  have hb := isCount_any n w
  have hn2 := cntB_true hn
  rw [hn] at hb
  have HB := hid hb
  clear hb hn h
  go_enter Tryz.func122, Tryz.ntmps122
  go_wp2_with fail
  refine HB.out.mono ?_
  rintro e w' ⟨rfl, rfl⟩
  go_wp2_with fail
  go_quiet (fail)
  go_wp2
  go_returns
  exact ⟨rfl, nq, rfl⟩
theorem bits_any (g : Nat) (s : ByteArray) (hs : s.size ≤ 281474976710656) (k : Nat) (hk : k ≤ 8 * s.size) (n : Int) (w : World) (h : Rd w g s k) :
    Calls Tryz.prog 122 #[.pointer (some ⟨g, 0, none⟩), .int .i64 n] w (BitsPost g s k n w) := by
  unfold BitsPost
  cases hn : cntB n with
  | false =>
    obtain ⟨e1, e2, e3⟩ := bits_range hn s k
    rw [e1, e2, e3]
    refine (bits_bad g n hn w).mono ?_
    rintro e w' ⟨rfl, rfl⟩
    exact ⟨rfl, h, Keeps.refl _ _⟩
  | true =>
    by_cases hl : n ≤ 8 * (s.size : Int) - k
    · obtain ⟨h0, h1⟩ := cntB_true hn
      obtain ⟨m, rfl⟩ := Int.eq_ofNat_of_zero_le h0
      obtain ⟨e1, e2, e3⟩ := bits_good m (by omega) s k (by omega)
      rw [e1, e2, e3]
      exact bits_ok g s hs k m (by omega) (by omega) w h
    · obtain ⟨e1, e2, e3⟩ := bits_short hn s k hl
      rw [e1, e2, e3]
      refine (bits_few g s hs k hk n hn hl w h).mono ?_
      rintro e w' ⟨rfl, z, rfl⟩
      exact ⟨rfl, h.drewN z, (Keeps.refl _ _).drewN z⟩
set_option maxHeartbeats 400000 in
theorem at_any (g : Nat) (s : ByteArray) (k : Nat) (w : World) (h : Rd w g s k) :
    Calls Tryz.prog 46 #[.pointer (some ⟨g, 0, none⟩)] w fun e w' => e = .returned (.int .i64 k) ∧ w = w' := by
  have hc0 : w.cell? ⟨g, 0, none⟩ = some (.int .i64 k) := h.cell 0
  clear h
  go_enter Tryz.func46, Tryz.ntmps46
  go_wp2
  go_ret
  exact ⟨rfl, rfl⟩
set_option maxHeartbeats 400000 in
theorem newR_any (s : ByteArray) (w : World) :
    Calls Tryz.prog 44 #[.string s] w fun e w' => e = .returned (.pointer (some ⟨w.heap.size, 0, none⟩)) ∧ Rd w' w.heap.size s 0 ∧ Bw w w' ∧ w.heap.size < w'.heap.size := by
  go_enter Tryz.func44, Tryz.ntmps44
  go_wp2
  go_ret
  exact ⟨rfl, Has.new w _ _, (Bw.refl w).alloc _, by simp⟩
theorem lift_advance (g k n : Nat) (hk : k + n ≤ 1152921504606846976) (s : ByteArray) (w : World) (h : Rd w g s k) :
    Calls Tryz.prog 95 #[.pointer (some ⟨g, 0, none⟩), .int .i64 n] w fun e w' => e = .returned (.tuple #[]) ∧ Rd w' g s (k + n) ∧ Keeps (· = g) w w' := by
  refine (advance_any g k n hk w (h.cell 0) (h.frozen 0)).mono ?_
  rintro e w' ⟨rfl, rfl⟩
  refine ⟨rfl, ?_, Keeps.of_setCell (F := (· = g)) (p := ⟨g, 0, none⟩) rfl _⟩
  have := Has.put h 0 (.int .i64 ((k + n : Nat) : Int))
  unfold Rd
  simpa using this
end Go.Proofs.YtkmbgkcpohchhaaGreatDoor
namespace Go.Proofs.YtkmbgkcpohchhaaGreatDoor
open Go.RowKit
set_option linter.unusedVariables false
set_option maxRecDepth 100000 in
set_option maxHeartbeats 1000000 in
theorem ralign_any (g : Nat) (s : ByteArray) (hs : s.size ≤ 281474976710656) (k : Nat) (hk : k ≤ 8 * s.size) (w : World) (h : Rd w g s k) :
    Calls Tryz.prog 124 #[.pointer (some ⟨g, 0, none⟩)] w fun e w' => e = .returned (.tuple #[]) ∧ Rd w' g s (upK k) ∧ Keeps (· = g) w w' := by
  have hc0 : w.cell? ⟨g, 0, none⟩ = some (.int .i64 k) := h.cell 0
  have HH := hid h
  clear h
  go_enter Tryz.func124, Tryz.ntmps124
  go_wp2_with fail
  refine wp_region_still_tail 7 (by kernel_rfl) (by kernel_rfl) ?_
  simp only [List.take_succ_cons, List.take_zero, List.drop_succ_cons, List.drop_zero]
  repeat still_step
  still_call (quiet_flip (missing_any g k (by omega) _ (by simpa using hc0)))
  refine wpStill_nil ?_
  change wpList _ _ _ _ _ w.drew
  have h1 : Rd w.drew g s k := HH.out.drew
  have hK : Keeps (· = g) w w.drew := (Keeps.refl (· = g) w).drewN 1
  have hm := miss_lt k
  have HU := hid (miss_add k)
  generalize w.drew = w1 at *
  have H1 := hid h1
  clear h1 hc0
  go_wp2_with fail
  refine (lift_advance g k (miss k) (by omega) s _ H1.out).mono ?_
  rintro e w' ⟨rfl, h2, hK2⟩
  go_wp2
  go_returns
  exact ⟨rfl, by unfold upK; rw [← HU.out]; exact h2, hK.trans hK2⟩
end Go.Proofs.YtkmbgkcpohchhaaGreatDoor
namespace Go.Proofs.YtkmbgkcpohchhaaGreatDoor
open Go.RowKit
set_option linter.unusedVariables false
structure TokR where
  lit : Nat
  len : Int
  dist : Int
def isB (t : TokR) : Bool := decide (t.dist = 0 ∧ t.len = 0)
def isM (t : TokR) : Bool := decide (1 ≤ t.dist ∧ t.dist ≤ 32768 ∧ 3 ≤ t.len ∧ t.len ≤ 258 ∧ t.lit = 0)
def tokE (t : TokR) (k : Nat) (limit : Int) : Int :=
  if isB t then (if limit - k < 1 then 11 else 0) else if isM t then (if (k : Int) < t.dist then 3 else if limit - k < t.len then 11 else 0) else 1
def rep1 (out : List UInt8) (d : Nat) : List UInt8 := out ++ [out.getD (out.length - d) 0]
def rep (out : List UInt8) (d : Nat) : Nat → List UInt8
  | 0 => out
  | n + 1 => rep1 (rep out d n) d
theorem rep_len (out : List UInt8) (d n : Nat) : (rep out d n).length = out.length + n := by
  induction n with
  | zero => rfl
  | succ n ih => rw [rep, rep1, List.length_append, ih]; rfl
def tokX (t : TokR) (out : List UInt8) : List UInt8 := if isB t then out ++ [UInt8.ofNat t.lit] else rep out t.dist.toNat t.len.toNat
def expGo (limit : Int) : List TokR → List UInt8 → Int × List UInt8
  | [], out => (0, out)
  | t :: l, out => if tokE t out.length limit = 0 then expGo limit l (tokX t out) else (tokE t out.length limit, [])
def lmB (limit : Int) : Bool := decide (0 ≤ limit ∧ limit ≤ 1073741824)
def expE (l : List TokR) (limit : Int) : Int := if lmB limit then (expGo limit l []).1 else 1
def expS (l : List TokR) (limit : Int) : ByteArray := ⟨(if lmB limit then (expGo limit l []).2 else []).toArray⟩
theorem isB_iff {t : TokR} : isB t = true ↔ t.dist = 0 ∧ t.len = 0 := by unfold isB; simp
theorem isM_iff {t : TokR} : isM t = true ↔ 1 ≤ t.dist ∧ t.dist ≤ 32768 ∧ 3 ≤ t.len ∧ t.len ≤ 258 ∧ t.lit = 0 := by unfold isM; simp
theorem tokX_len {t : TokR} {out : List UInt8} {limit : Int} (h : tokE t out.length limit = 0) : (tokX t out).length = out.length + (if isB t then 1 else t.len.toNat) ∧ ((tokX t out).length : Int) ≤ limit := by
  unfold tokE at h
  unfold tokX
  cases hb : isB t with
  | true =>
    simp only [hb, if_true] at h ⊢
    split at h
    · omega
    · simp; omega
  | false =>
    simp only [hb, Bool.false_eq_true, if_false] at h ⊢
    cases hm : isM t with
    | false => simp [hm] at h
    | true =>
      have := isM_iff.1 hm
      simp only [hm, if_true] at h
      rw [rep_len]
      split at h
      · omega
      · split at h
        · omega
        · omega
theorem expGo_next {l : List TokR} {k : Nat} (hk : k < l.length) (limit : Int) (out : List UInt8) (h : tokE l[k] out.length limit = 0) : expGo limit (l.drop k) out = expGo limit (l.drop (k + 1)) (tokX l[k] out) := by
  rw [List.drop_eq_getElem_cons hk, expGo, if_pos h]
theorem expGo_bad {l : List TokR} {k : Nat} (hk : k < l.length) (limit : Int) (out : List UInt8) (h : tokE l[k] out.length limit ≠ 0) : expGo limit (l.drop k) out = (tokE l[k] out.length limit, []) := by
  rw [List.drop_eq_getElem_cons hk, expGo, if_neg h]
theorem expGo_end {l : List TokR} {k : Nat} (hk : l.length ≤ k) (limit : Int) (out : List UInt8) : expGo limit (l.drop k) out = (0, out) := by
  rw [List.drop_eq_nil_of_le hk]; rfl
def bcs (l : List UInt8) : List Value := l.map fun b => Value.int .u8 b.toNat
theorem bcs_snoc (l : List UInt8) (b : UInt8) : bcs (l ++ [b]) = bcs l ++ [Value.int .u8 b.toNat] := by simp [bcs]
theorem bcs_get (l : List UInt8) (i : Nat) (h : i < l.length) : (bcs l)[i]? = some (Value.int .u8 (l[i].toNat : Nat)) := by simp [bcs, h]
def litC (b : Nat) : Int := if b < 144 then 8 else 9
end Go.Proofs.YtkmbgkcpohchhaaGreatDoor
