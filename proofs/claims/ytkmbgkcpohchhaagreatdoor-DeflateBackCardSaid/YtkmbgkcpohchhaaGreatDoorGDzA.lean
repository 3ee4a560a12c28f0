import Derived.Test.YtkmbgkcpohchhaaGreatDoorGDefWH
import Derived.Test.YtkmbgkcpohchhaaGreatDoorGRowB
import Derived.StillTailTactics
import Derived.Test.YtkmbgkcpohchhaaGreatDoorGInfP
import Derived.IntWalk
import Derived.Test.YtkmbgkcpohchhaaGreatDoorWinM
import Derived.Test.YtkmbgkcpohchhaaGreatDoorGMatH
import Derived.Laws.MakeOwn
import Derived.Test.YtkmbgkcpohchhaaGreatDoorGDzM
import Derived.Test.YtkmbgkcpohchhaaGreatDoorGDefR
namespace Go.Proofs.YtkmbgkcpohchhaaGreatDoor
open Go.RowKit
set_option linter.unusedVariables false
structure ZrB (w : World) (g : Nat) (dv : Value) (k : Nat) (xs : List Value) : Prop where
  blk : Has w g 77 #[dv]
  row : w.ownsRow 0 5 1 dv k xs
theorem ZrB.ne {w : World} {g k : Nat} {dv : Value} {xs : List Value} (h : ZrB w g dv k xs) : dv.ownBlock ≠ some g := own_ne_has h.row h.blk (by decide)
theorem ZrB.keep {w w' : World} {g k : Nat} {dv : Value} {xs : List Value} (h : ZrB w g dv k xs) {F : Nat → Prop} (hk : Keeps F w w') (hg : ¬ F g) (hd : ∀ b, dv.ownBlock = some b → ¬ F b) : ZrB w' g dv k xs :=
  ⟨hk.has h.blk hg, hk.own h.row hd⟩
def ZrF (F : Nat → Prop) (w : World) (g k N : Nat) : Prop :=
  ∃ dv, F g ∧ (∀ b, dv.ownBlock = some b → F b) ∧ ZrB w g dv k (bitCells N k) ∧ N < 2 ^ k ∧ ∀ i, F i → i < w.heap.size
def ZPost (F : Nat → Prop) (g k N : Nat) (w w' : World) : Prop := ∃ F', ZrF F' w' g k N ∧ Keeps F w w' ∧ ∀ i, F' i → F i ∨ w.heap.size ≤ i
theorem ZrF.keep {F G : Nat → Prop} {w w' : World} {g k N : Nat} (h : ZrF F w g k N) (hk : Keeps G w w') (hd : ∀ i, F i → ¬ G i) : ZrF F w' g k N := by
  obtain ⟨dv, h1, h2, h3, h4, h5⟩ := h
  exact ⟨dv, h1, h2, h3.keep hk (hd _ h1) (fun b hb => hd _ (h2 b hb)), h4, fun i hi => Nat.lt_of_lt_of_le (h5 i hi) hk.size⟩
theorem ZPost.refl {F : Nat → Prop} {w : World} {g k N : Nat} (h : ZrF F w g k N) : ZPost F g k N w w := ⟨F, h, Keeps.refl _ _, fun i hi => .inl hi⟩
theorem ZrF.fresh {w : World} {g : Nat} (h : Has w g 77 #[.slice none 0 0]) : ZrF (· = g) w g 0 0 :=
  ⟨.slice none 0 0, rfl, fun b hb => by simp [Value.ownBlock] at hb, ⟨h, rfl, .inl ⟨rfl, rfl⟩⟩, by simp, fun i hi => by rw [hi]; exact h.lt⟩
theorem ZrF.lt {F : Nat → Prop} {w : World} {g k N : Nat} (h : ZrF F w g k N) : N < 2 ^ k := h.choose_spec.2.2.2.1
theorem z_push {F F' : Nat → Prop} {w W4 w5 : World} {g j M : Nat} {ao ao2 : Option Addr} {cap cap2 : Nat} {o : Obj} (hB : ZrB W4 g (.slice ao j cap) j (bitCells M j)) (hg : F' g) (hd : ∀ b, (Value.slice ao j cap).ownBlock = some b → F' b) (hK : Keeps F w W4) (hFF : ∀ i, F' i → F i ∨ w.heap.size ≤ i) (hFl : ∀ i, F' i → i < W4.heap.size)
    (hG : (W4.alloc o).grownBy w5 (Value.slice ao j cap).ownBlock) (hO : w5.ownsRow 0 5 1 (.slice ao2 (j + 1) cap2) (j + 1) (bitCells M (j + 1))) (hL : (Value.slice ao2 (j + 1) cap2).ownBlock = (Value.slice ao j cap).ownBlock ∨ (Value.slice ao2 (j + 1) cap2).ownBlock = some (W4.alloc o).heap.size) :
    ∃ F2 : Nat → Prop, ZrB (w5.setCell ⟨g, 0, none⟩ (.slice ao2 (j + 1) cap2)) g (.slice ao2 (j + 1) cap2) (j + 1) (bitCells M (j + 1)) ∧ F2 g ∧ (∀ b, (Value.slice ao2 (j + 1) cap2).ownBlock = some b → F2 b) ∧ Keeps F w (w5.setCell ⟨g, 0, none⟩ (.slice ao2 (j + 1) cap2)) ∧ (∀ i, F2 i → F i ∨ w.heap.size ≤ i) ∧ ∀ i, F2 i → i < (w5.setCell ⟨g, 0, none⟩ (.slice ao2 (j + 1) cap2)).heap.size := by
  have hH5 : Has w5 g 77 #[.slice ao j cap] := (hG.block g (by have := hB.blk.lt; simp; omega) (fun e => hB.ne e.symm)).trans (hB.blk.alloc _)
  have hne : (Value.slice ao2 (j + 1) cap2).ownBlock ≠ some g := own_ne_has hO hH5 (by decide)
  have hz := hG.size
  have ha : (W4.alloc o).heap.size = W4.heap.size + 1 := by simp
  rw [ha] at hz
  have hzK := hK.size
  have hK5 : Keeps F w w5 := grow_keeps hK hFF hG hd
  refine ⟨fun i => F' i ∨ (w.heap.size ≤ i ∧ i < w5.heap.size), ⟨by simpa using hH5.put 0 (.slice ao2 (j + 1) cap2), own_keep hO (fun b hb => Below.heap_setCell w5 ⟨g, 0, none⟩ _ b (fun e => hne (by rw [hb, e])))⟩, .inl hg, fun b hb => ?_, hK5.setCell (p := ⟨g, 0, none⟩) (hFF g hg) _, fun i h => ?_, fun i h => ?_⟩
  · rcases hL with h | h
    · exact .inl (hd b (by rw [← h]; exact hb))
    · right
      have e : (W4.alloc o).heap.size = b := by rw [h] at hb; exact Option.some.inj hb
      rw [ha] at e
      exact ⟨by omega, own_lt hO hb⟩
  · rcases h with h | h
    · exact hFF i h
    · exact .inr h.1
  · rcases h with h | h
    · have := hFl i h; simp [World.setCell]; omega
    · simpa [World.setCell] using h.2
theorem bit_lay {N v k : Nat} (h : N < 2 ^ k) (j : Nat) : (N + v * 2 ^ k) / 2 ^ (k + j) % 2 = v / 2 ^ j % 2 := by
  rw [Nat.pow_add, ← Nat.div_div_eq_div_mul, Nat.add_mul_div_right _ _ (Nat.two_pow_pos _), Nat.div_eq_of_lt h, Nat.zero_add]
def shN (v j : Nat) : Nat := v / 2 ^ j
theorem shN_succ (v j : Nat) : shN v (j + 1) = shN v j / 2 := by unfold shN; rw [Nat.pow_succ, Nat.div_div_eq_div_mul]
theorem shN_le (v j : Nat) : shN v j ≤ v := Nat.div_le_self _ _
theorem bitCells_lay (N v k : Nat) : bitCells N k = bitCells (N + v * 2 ^ k) k := bitCells_cong (by rw [Nat.add_mul_mod_self_right])
set_option maxRecDepth 100000 in
set_option maxHeartbeats 2000000 in
theorem zput_ok (F : Nat → Prop) (g k N : Nat) (hk : k ≤ 1000000000) (v : Nat) (hv32 : v < 4294967296) (n : Nat) (hn : n ≤ 32) (hv : v < 2 ^ n) (w : World) (h : ZrF F w g k N) :
    Calls Tryz.prog 35 #[.pointer (some ⟨g, 0, none⟩), .int .u32 v, .int .i64 n] w fun e w' => e = .returned (.int .i64 0) ∧ ZPost F g (k + n) (N + v * 2 ^ k) w w' := by
  obtain ⟨i0, hi, hz0, hz1, hz2⟩ := info_parts byteInfo
  obtain ⟨dv, hFg, hFd, hB, hN, hlt⟩ := h
  rw [bitCells_lay N v k] at hB
  have hNN := lay_lt hN hv
  have hbit := fun j => bit_lay (v := v) hN j
  generalize hM : N + v * 2 ^ k = M at *
  have t0 : n < 32 → decide ((2 : Int) ^ n % 4294967296 ≤ v) = false := fun h => by
    have hp : 2 ^ n ≤ 2 ^ 31 := Nat.pow_le_pow_right (by decide) (by omega)
    have e : ((2 : Int) ^ n) = ((2 ^ n : Nat) : Int) := by simp
    rw [e]; simp only [decide_eq_false_iff_not]; omega
  have tn : decide ((n : Int) < 0) = false := by simp
  have tm : decide ((32 : Int) < n) = false := by simp; omega
  have HB := hid hB
  have HN := hid hNN
  have HBIT := hid hbit
  have HFd := hid hFd
  have Hlt := hid hlt
  have H0 := hid t0
  clear hM hbit hFd hlt hN hNN hB hv t0
  have hor : (decide ((n : Int) < 32) = true ∧ decide ((2 : Int) ^ n % 4294967296 ≤ v) = false) ∨ decide ((n : Int) < 32) = false := by
    by_cases h : n < 32
    · exact .inl ⟨by simp; omega, H0.out h⟩
    · exact .inr (by simp; omega)
  rcases hor with ⟨t1, t2⟩ | t1
  all_goals
    go_enter Tryz.func35, Tryz.ntmps35
    go_wp2
    go_loopw [1, 7] (fun x i wr => ∃ j : Nat, ∃ dv' : Value, ∃ F' : Nat → Prop, j ≤ n ∧ i = .int .i64 j ∧ x = .int .u32 (shN v j : Nat) ∧ ZrB wr g dv' (k + j) (bitCells M (k + j)) ∧ F' g ∧ (∀ b, dv'.ownBlock = some b → F' b) ∧ Keeps F w wr ∧ (∀ i, F' i → F i ∨ w.heap.size ≤ i) ∧ ∀ i, F' i → i < wr.heap.size) (fun _ i _ => n - (intOf i).toNat)
    case atStart => exact ⟨0, dv, F, Nat.zero_le _, rfl, by simp [shN], HB.out, hFg, HFd.out, Keeps.refl _ _, fun i h => .inl h, Hlt.out⟩
    case round =>
      obtain ⟨j, dv', F', hj, rfl, rfl, hB', hF'g, hF'd, hK', hF'F, hF'l⟩ := hrel
      obtain ⟨ao, cap, rfl⟩ := own_slice hB'.row
      have HB' := hid hB'
      have HFd' := hid hF'd
      have HFF' := hid hF'F
      have HFl' := hid hF'l
      have HK' := hid hK'
      have d1 := HB'.out.blk.cell 0
      have hsh := shN_le v j
      by_cases hlt : j < n
      · have HS := hid (shN_succ v j)
        obtain ⟨kj, hkj⟩ : ∃ kj, k + j = kj := ⟨_, rfl⟩
        have HKJ := hid hkj
        have hb2 : shN v j % 2 = M / 2 ^ kj % 2 := by rw [← hkj, HBIT.out j]; rfl
        have HB2 := hid hb2
        rw [hkj] at HB' d1 HFd'
        clear hkj hb2 hB' hF'd hF'F hF'l hK'
        have e0 : wr.cell? ⟨g, 0, none⟩ = some (.slice ao kj cap) := d1
        clear d1
        have hkj9 : kj ≤ 1000000032 := by have := HKJ.out; omega
        have hsv : shN v j < 4294967296 := by omega
        clear hsh
        go_wp2_with (at_builtin; refine wpList_append_own_at _ rfl (.tmp 34) (.tmp 38) 41 rfl 0 5 i0 (.int .u8 0) 1 1 Tryz.underlying41 hi hz0 hz1 hz2 rfl (by decide) (.slice ao kj cap) kj (bitCells M kj) rfl (own_keep HB'.out.row (fun b hb => Below.heap_alloc _ _ _ (own_lt HB'.out.row hb))) ⟨wr.heap.size, 0, none⟩ 1 1 [_] rfl rfl (cell_one_new _ _ _) (by intro u hu; simp at hu; rw [hu]; rfl) (by unfold maxLen; omega) (by omega) (Nat.zero_le _) ?_; intro rd' w5 hown5 hgrow5 _ hblk5; obtain ⟨ao2, cap2, rfl⟩ := own_slice hown5; have hrow5 : w5.ownsRow 0 5 1 (.slice ao2 (kj + 1) cap2) (kj + 1) (bitCells M (kj + 1)) := (by rw [bitCells_succ, ← HB2.out]; simpa using hown5); have hH5 : Has w5 g 77 #[.slice ao kj cap] := (hgrow5.block g (by have := HB'.out.blk.lt; simp; omega) (fun e => HB'.out.ne e.symm)).trans (HB'.out.blk.alloc _); have y5 : w5.cell? ⟨g, 0, none⟩ = some (.slice ao kj cap) := hH5.cell 0; have z5 := hH5.frozen 0; have HP := hid (z_push HB'.out hF'g HFd'.out HK'.out HFF'.out HFl'.out hgrow5 hrow5 hblk5); clear hown5 hgrow5 hblk5 hrow5 hH5 e0)
        go_roundw
        case rel =>
          obtain ⟨F2, p1, p2, p3, p4, p5, p6⟩ := HP.out
          refine ⟨j + 1, .slice ao2 (kj + 1) cap2, F2, by omega, by go_num, by rw [HS.out]; simp, ?_, p2, p3, p4, p5, p6⟩
          rw [← Nat.add_assoc, HKJ.out]
          exact p1
        case measure => simp [intOf]; omega
      · obtain rfl : n = j := by omega
        go_wp2
        go_returns
        exact ⟨rfl, F', ⟨.slice ao (k + n) cap, hF'g, HFd'.out, HB'.out, HN.out, HFl'.out⟩, HK'.out, HFF'.out⟩
end Go.Proofs.YtkmbgkcpohchhaaGreatDoor
namespace Go.Proofs.YtkmbgkcpohchhaaGreatDoor
open Go.RowKit Go.Conc
set_option linter.unusedVariables false
def bitU (c n j : Nat) : List (Nat × Nat) := (List.range j).map fun i => (c / 2 ^ (n - 1 - i) % 2, 1)
theorem bitU_succ (c n j : Nat) : bitU c n (j + 1) = bitU c n j ++ [(c / 2 ^ (n - 1 - j) % 2, 1)] := by
  unfold bitU
  rw [List.range_succ, List.map_append]
  rfl
theorem bitU_len (c n : Nat) : ∀ j, pcK (bitU c n j) = j
  | 0 => rfl
  | j + 1 => by rw [bitU_succ, pcK_app, bitU_len c n j]; rfl
theorem bitU_all (c : Nat) : ∀ n, pcN (bitU c n n) = revB c n
  | 0 => rfl
  | n + 1 => by
    have e : bitU c (n + 1) (n + 1) = (c / 2 ^ n % 2, 1) :: bitU c n n := by
      unfold bitU
      rw [List.range_succ_eq_map, List.map_cons, List.map_map]
      congr 1
      apply List.map_congr_left
      intro i _
      show (c / 2 ^ (n + 1 - 1 - (i + 1)) % 2, 1) = _
      rw [show n + 1 - 1 - (i + 1) = n - 1 - i by omega]
    rw [e, pcN, bitU_all c n, revB]
    show c / 2 ^ n % 2 + 2 ^ 1 * revB c n = _
    omega
theorem ZPost.step {F F1 : Nat → Prop} {g k' N' : Nat} {w w1 w2 : World} (hk : Keeps F w w1) (hF : ∀ i, F1 i → F i ∨ w.heap.size ≤ i) (h2 : ZPost F1 g k' N' w1 w2) : ZPost F g k' N' w w2 := by
  obtain ⟨F2, a2, hk2, hF2⟩ := h2
  have hs := hk.size
  refine ⟨F2, a2, ⟨hk2.os.trans hk.os, hk2.tape.trans hk.tape, hk2.output.trans hk.output, Nat.le_trans hs hk2.size, fun i hi hn => (hk2.block i (Nat.lt_of_lt_of_le hi hs) fun hf => ?_).trans (hk.block i hi hn)⟩, fun i hi => (hF2 i hi).elim (hF i) fun h => .inr (Nat.le_trans hs h)⟩
  rcases hF i hf with h | h
  · exact hn h
  · omega
theorem ZPost.bw {F : Nat → Prop} {g k N : Nat} {w w1 w2 : World} (h : ZPost F g k N w w1) (hb : Bw w1 w2) : ZPost F g k N w w2 := by
  obtain ⟨F1, h1, h2, h3⟩ := h
  exact ⟨F1, h1.keep (G := fun _ => False) (.of_bw hb) fun _ _ h => h, h2.trans (.of_bw hb), h3⟩
theorem zput_pc (F : Nat → Prop) (g k N : Nat) (P : List (Nat × Nat)) (hk : k + pcK P ≤ 1000000000) (v n : Nat) (hn : n ≤ 16) (hv : v < 2 ^ n) (W w : World) (h : ZPost F g (k + pcK P) (N + pcN P * 2 ^ k) W w) :
    Calls Tryz.prog 35 #[.pointer (some ⟨g, 0, none⟩), .int .u32 v, .int .i64 n] w fun e w' => e = .returned (.int .i64 0) ∧ ZPost F g (k + pcK (P ++ [(v, n)])) (N + pcN (P ++ [(v, n)]) * 2 ^ k) W w' := by
  obtain ⟨F1, hw, hk1, hf⟩ := h
  have h16 : (2 : Nat) ^ n ≤ 2 ^ 16 := Nat.pow_le_pow_right (by decide) hn
  rw [show (2 : Nat) ^ 16 = 65536 by rfl] at h16
  have := zput_ok F1 g (k + pcK P) (N + pcN P * 2 ^ k) (by omega) v (by omega) n (by omega) hv w hw
  have e1 := pcN_at N k P [(v, n)]
  rw [show pcN [(v, n)] = v by simp [pcN]] at e1
  rw [e1] at this
  refine this.mono ?_
  rintro e w' ⟨rfl, h3⟩
  refine ⟨rfl, ?_⟩
  rw [pcK_app, show pcK [(v, n)] = n by simp [pcK], ← Nat.add_assoc]
  exact h3.step hk1 hf
structure CodeZ (w : World) (lb cb : Nat) (l : List Int) : Prop where
  l1 : lb < w.heap.size
  u1 : cb < w.heap.size
  lc : ∀ i, i < l.length → w.cell? ⟨lb, i, none⟩ = some (.int .i64 (lenF l i : Nat))
  uc : ∀ i, i < l.length → w.cell? ⟨cb, i, none⟩ = some (.int .i64 (codeF l i : Nat))
theorem CodeZ.blocks {w w' : World} {lb ub : Nat} {l : List Int} (h : CodeZ w lb ub l) (hs : w.heap.size ≤ w'.heap.size) (h1 : w'.heap[lb]? = w.heap[lb]?) (h2 : w'.heap[ub]? = w.heap[ub]?) : CodeZ w' lb ub l :=
  ⟨Nat.lt_of_lt_of_le h.l1 hs, Nat.lt_of_lt_of_le h.u1 hs, fun i hi => (World.cell?_of_block h1).trans (h.lc i hi), fun i hi => (World.cell?_of_block h2).trans (h.uc i hi)⟩
theorem CodeZ.keep {F : Nat → Prop} {w w' : World} {lb ub : Nat} {l : List Int} (h : CodeZ w lb ub l) (hk : Keeps F w w') (h1 : ¬ F lb) (h2 : ¬ F ub) : CodeZ w' lb ub l := h.blocks hk.size (hk.block lb h.l1 h1) (hk.block ub h.u1 h2)
theorem tmod_two (c b : Nat) : ((c : Int) / 2 ^ b).tmod 2 = ((c / 2 ^ b % 2 : Nat) : Int) := by
  have e : (c : Int) / 2 ^ b = ((c / 2 ^ b : Nat) : Int) := by simp
  rw [e, Int.tmod_eq_emod_of_nonneg (Int.natCast_nonneg _)]
  omega
set_option maxRecDepth 100000 in
set_option maxHeartbeats 4000000 in
theorem rput_any (F : Nat → Prop) (g k N lb lc cb cc len : Nat) (l : List Int) (P : List (Nat × Nat)) (hIC : IsCode l) (hll : Hid (l.length = len)) (sy : Nat) (hs : sy < len) (hk : k + pcK P ≤ 999999000) (W w : World) (hc : CodeZ W lb cb l) (h1 : ¬ F lb) (h2 : ¬ F cb) (h : ZPost F g (k + pcK P) (N + pcN P * 2 ^ k) W w) :
    Calls Tryz.prog 36 #[.pointer (some ⟨g, 0, none⟩), .slice (some ⟨lb, 0, none⟩) len lc, .slice (some ⟨cb, 0, none⟩) len cc, .int .i64 sy] w fun e w' => e = .returned (.tuple #[]) ∧ ZPost F g (k + pcK (P ++ [(revB (codeF l sy) (lenF l sy), lenF l sy)])) (N + pcN (P ++ [(revB (codeF l sy) (lenF l sy), lenF l sy)]) * 2 ^ k) W w' := by
  have hl15 := (hIC.len sy).1
  have hcs : codeF l sy < 32768 := by
    rcases Nat.eq_zero_or_pos (lenF l sy) with h0 | h0
    · rw [code_zero hIC h0]; decide
    · have h1 := code_lt hIC h0
      have h2 : (2 : Nat) ^ lenF l sy ≤ 2 ^ 15 := Nat.pow_le_pow_right (by decide) hl15
      rw [show (2 : Nat) ^ 15 = 32768 by rfl] at h2
      omega
  have hsl : sy < l.length := by rw [hll.out]; exact hs
  have HCE := hid (show ∀ V k' N', ZPost F g k' N' W V → V.cell? ⟨lb, sy, none⟩ = some (.int .i64 (lenF l sy : Nat)) ∧ V.cell? ⟨cb, sy, none⟩ = some (.int .i64 (codeF l sy : Nat)) from fun V k' N' hp => by
    obtain ⟨F1, _, hk1, _⟩ := hp
    have hc2 := hc.keep hk1 h1 h2
    exact ⟨hc2.lc sy hsl, hc2.uc sy hsl⟩)
  have HEND := hid (show k + pcK (P ++ bitU (codeF l sy) (lenF l sy) (lenF l sy)) = k + pcK (P ++ [(revB (codeF l sy) (lenF l sy), lenF l sy)]) ∧ N + pcN (P ++ bitU (codeF l sy) (lenF l sy) (lenF l sy)) * 2 ^ k = N + pcN (P ++ [(revB (codeF l sy) (lenF l sy), lenF l sy)]) * 2 ^ k by
    rw [pcK_app, pcK_app, pcN_app, pcN_app, bitU_len, bitU_all]
    exact ⟨by simp [pcK], by simp [pcN]⟩)
  rw [← HEND.out.1, ← HEND.out.2]
  have HP0 := hid (show ZPost F g (k + pcK (P ++ bitU (codeF l sy) (lenF l sy) 0)) (N + pcN (P ++ bitU (codeF l sy) (lenF l sy) 0) * 2 ^ k) W w by rw [show bitU (codeF l sy) (lenF l sy) 0 = [] from rfl, List.append_nil]; exact h)
  have c0 := (HCE.out w _ _ h).1
  generalize codeF l sy = c at *
  generalize lenF l sy = n at *
  have hsi : (sy : Int) < len := by omega
  clear hIC hsl hc h1 h2 h
  go_enter Tryz.func36, Tryz.ntmps36
  go_wp2_with fail
  clear c0
  go_loopw [8] (fun i wr => ∃ j : Nat, j ≤ n ∧ i = .int .i64 ((n : Int) - 1 - j) ∧ ZPost F g (k + pcK (P ++ bitU c n j)) (N + pcN (P ++ bitU c n j) * 2 ^ k) W wr) (fun i _ => ((intOf i) + 1).toNat)
  case atStart => exact ⟨0, Nat.zero_le _, by simp, HP0.out⟩
  case round =>
    rename World => wr
    obtain ⟨j, hj, rfl, hp⟩ := hrel
    by_cases hlt : j < n
    · obtain ⟨b, hb⟩ : ∃ b, n - 1 - j = b := ⟨_, rfl⟩
      have hbi : (n : Int) - 1 - j = (b : Nat) := by omega
      have hb15 : b < 15 := by omega
      have HPC := hid (zput_pc F g k N (P ++ bitU c n j) (by rw [pcK_app, bitU_len]; omega) (c / 2 ^ b % 2) 1 (by decide) (Nat.mod_lt _ (by decide)) W wr hp)
      have HNX := hid (show P ++ bitU c n j ++ [(c / 2 ^ b % 2, 1)] = P ++ bitU c n (j + 1) by rw [bitU_succ, hb, List.append_assoc])
      rw [HNX.out] at HPC
      have c1 := (HCE.out wr _ _ hp).2
      have hbj : (b : Int) - 1 = (n : Int) - 1 - ((j + 1 : Nat) : Int) := by omega
      have HBJ := hid hbj
      rw [hbi]
      clear hp hbi hbj hb HNX
      go_wp2_with fail
      rw [tmod_two c b]
      refine HPC.out.mono ?_
      rintro e w5 ⟨rfl, hp5⟩
      have HP5 := hid hp5
      clear hp5
      go_wp2
      go_roundw
      case rel => exact ⟨j + 1, hlt, by rw [← HBJ.out], HP5.out⟩
      case measure => simp [intOf]
    · obtain rfl : j = n := by omega
      have HP5 := hid hp
      have hneg : decide ((0 : Int) ≤ (j : Int) - 1 - j) = false := decide_eq_false (by omega)
      have hm1 : (j : Int) - 1 - j = -1 := by omega
      rw [hm1]
      clear hp hm1
      go_wp2
      go_returns
      exact ⟨rfl, HP5.out⟩
end Go.Proofs.YtkmbgkcpohchhaaGreatDoor
namespace Go.Proofs.YtkmbgkcpohchhaaGreatDoor
open Go.RowKit
set_option linter.unusedVariables false
def zf (N i j : Nat) : Int := ((hiN (N % 2 ^ i) j % 256 : Nat) : Int)
theorem mod_succ (N i : Nat) : N % 2 ^ (i + 1) = N % 2 ^ i + 2 ^ i * (N / 2 ^ i % 2) := mod_split N i 1
theorem zf_low (N i j : Nat) (h : 8 * (j + 1) ≤ i) : zf N (i + 1) j = zf N i j := by
  unfold zf
  rw [mod_succ]
  have e : (N % 2 ^ i + 2 ^ i * (N / 2 ^ i % 2)) % 2 ^ (8 * (j + 1)) = (N % 2 ^ i) % 2 ^ (8 * (j + 1)) := by
    rw [show 2 ^ i = 2 ^ (8 * (j + 1)) * 2 ^ (i - 8 * (j + 1)) by rw [← Nat.pow_add]; congr 1; omega, Nat.mul_assoc, Nat.add_mul_mod_self_left]
  rw [byte_cong e (Nat.lt_succ_self j)]
theorem zf_high (N i j : Nat) (h : i ≤ 8 * j) : zf N i j = 0 := by
  unfold zf
  rw [leN_zero_of (Nat.mod_lt N (Nat.two_pow_pos i)) j h]
  rfl
theorem zf_at (N i : Nat) : hiN (N % 2 ^ i) (i / 8) < 2 ^ (i % 8) := open_lt (Nat.mod_lt _ (Nat.two_pow_pos _))
theorem zf_next (N i : Nat) : zf N (i + 1) (i / 8) = zf N i (i / 8) + ((N / 2 ^ i % 2 * 2 ^ (i % 8) : Nat) : Int) ∧ 0 ≤ zf N i (i / 8) ∧ zf N i (i / 8) + ((N / 2 ^ i % 2 * 2 ^ (i % 8) : Nat) : Int) < 256 := by
  have h1 := zf_at N i
  have hp := pow_le_128 (Nat.mod_lt i (show 0 < 8 by decide))
  have h2 : hiN (N % 2 ^ (i + 1)) (i / 8) = hiN (N % 2 ^ i) (i / 8) + N / 2 ^ i % 2 * 2 ^ (i % 8) := by
    unfold hiN
    rw [mod_succ, Nat.mul_comm (2 ^ i), lay_open]
  have h3 : N / 2 ^ i % 2 * 2 ^ (i % 8) ≤ 2 ^ (i % 8) := by
    have : N / 2 ^ i % 2 ≤ 1 := by omega
    calc N / 2 ^ i % 2 * 2 ^ (i % 8) ≤ 1 * 2 ^ (i % 8) := Nat.mul_le_mul_right _ this
      _ = _ := Nat.one_mul _
  unfold zf
  rw [h2]
  omega
theorem zfill_step (N d i : Nat) : (fill d (zf N i)).setIfInBounds (i / 8) (.int .u8 (zf N (i + 1) (i / 8))) = fill d (zf N (i + 1)) := by
  rw [fill_set]
  refine fill_congr fun j hj => ?_
  by_cases e : j = i / 8
  · subst e; simp
  · rw [if_neg e]
    by_cases l : j < i / 8
    · exact (zf_low N i j (by omega)).symm
    · rw [zf_high N i j (by omega), zf_high N (i + 1) j (by omega)]
theorem zval (N i : Nat) : IntKind.u8.wrap (zf N i (i / 8) + IntKind.u8.wrap (((N / 2 ^ i % 2 : Nat) : Int) * 2 ^ (i % 8))) = zf N (i + 1) (i / 8) := by
  obtain ⟨h1, h2, h3⟩ := zf_next N i
  have e : (((N / 2 ^ i % 2 : Nat) : Int) * 2 ^ (i % 8)) = ((N / 2 ^ i % 2 * 2 ^ (i % 8) : Nat) : Int) := by simp
  rw [e, IntKind.wrap_u8', IntKind.wrap_u8', h1]
  omega
set_option maxRecDepth 100000 in
set_option maxHeartbeats 2000000 in
theorem zstr_any (F : Nat → Prop) (g k N : Nat) (hk : k ≤ 1000000000) (w : World) (h : ZrF F w g k N) :
    Calls Tryz.prog 41 #[.pointer (some ⟨g, 0, none⟩)] w fun e w' => e = .returned (.string (strN N ((k + 7) / 8))) ∧ Bw w w' := by
  obtain ⟨i0, hi, hz0, hz1, hz2⟩ := info_parts byteInfo
  obtain ⟨dv, hFg, hFd, hB, hN, hlt⟩ := h
  obtain ⟨ao, cap, rfl⟩ := own_slice hB.row
  obtain ⟨d, hd⟩ : ∃ d, (k + 7) / 8 = d := ⟨_, rfl⟩
  have hd2 : ((k : Int) + 7) / 8 = d := by omega
  have hd9 : d ≤ 1000000000 := by omega
  have hmk := fun (w : World) => run_make (P := Tryz.prog) w 41 5 i0 (.int .u8 0) Tryz.underlying41 hi hz0 .i64 .i64 (d : Int) (d : Int) (by omega) (by omega) (by rw [hz2]; omega) (by omega)
  rw [hd]
  have HD := hid hd
  have HB := hid hB
  have HN := hid hN
  have e0 : w.cell? ⟨g, 0, none⟩ = some (.slice ao k cap) := HB.out.blk.cell 0
  clear hd hB hN hFd hlt hFg
  go_enter Tryz.func41, Tryz.ntmps41
  go_wp2
  clear hmk hd2
  have hfz := fill_zero d
  go_loopw [4] (fun i wr => ∃ j : Nat, j ≤ k ∧ i = .int .i64 j ∧ Has wr w.heap.size 5 (fill d (zf N j)) ∧ Below w.heap.size w wr) (fun i _ => k - (intOf i).toNat)
  case atStart =>
    refine ⟨0, Nat.zero_le _, rfl, ?_, (Below.refl _ w).alloc (Nat.le_refl _) _⟩
    have e : fill d (zf N 0) = fill d fun _ => 0 := fill_congr fun j _ => zf_high N 0 j (by omega)
    rw [e, ← hfz]
    exact Has.new w _ _
  case round =>
    rename_i wr
    obtain ⟨j, hj, rfl, hO, hbel⟩ := hrel
    have HO := hid hO
    have HBE := hid hbel
    clear hO hbel hfz
    have hg0 := HB.out.blk.lt
    have d0 : wr.cell? ⟨g, 0, none⟩ = some (.slice ao k cap) := (World.cell?_of_block (HBE.out.block g hg0)).trans e0
    by_cases hlt : j < k
    · have hrow : wr.ownsRow 0 5 1 (.slice ao k cap) k (bitCells N k) := own_keep HB.out.row fun b hb => HBE.out.block b (own_lt HB.out.row hb)
      obtain ⟨gb, rfl⟩ : ∃ gb, ao = some ⟨gb, 0, none⟩ := by
        rcases hrow.2 with ⟨h1, h2⟩ | ⟨g', cap', cur, h1, _⟩
        · omega
        · injection h1 with e1; exact ⟨g', e1⟩
      have hbitc : wr.cell? ⟨gb, j, none⟩ = some (.int .u8 ((N / 2 ^ j % 2 : Nat) : Int)) := by
        have := hrow.cells (g := gb) rfl j _ (bitCells_get N k j hlt)
        have ha : (Addr.add ⟨gb, 0, none⟩ j) = ⟨gb, j, none⟩ := by
          unfold Addr.add; by_cases hz : j = 0 <;> simp [hz]
        rwa [ha] at this
      obtain ⟨q, hq⟩ : ∃ q, j / 8 = q := ⟨_, rfl⟩
      obtain ⟨r, hr⟩ : ∃ r, j % 8 = r := ⟨_, rfl⟩
      have hq2 : (j : Int) / 8 = q := by omega
      have hr2 : (j : Int) % 8 = r := by omega
      have hqd : q < d := by have := HD.out; omega
      have hz := zval N j
      have hst := zfill_step N d j
      obtain ⟨_, hz1, hz2⟩ := zf_next N j
      rw [hq] at hz hst hz1
      rw [hr] at hz
      have hoc : wr.cell? ⟨w.heap.size, q, none⟩ = some (.int .u8 (zf N j q)) := by rw [HO.out.cell q, fill_get d _ q hqd]
      have hof := HO.out.frozen q
      generalize zf N j q = zq at *
      generalize N / 2 ^ j % 2 = bt at *
      have HST := hid hst
      have HZ := hid hz
      have hr8 : r < 8 := by omega
      have HRR := hid hr
      have ew : IntKind.i64.wrap (q : Int) = q := IntWalk.i64_in _ (by omega)
      have er : IntKind.i64.wrap (r : Int) = r := IntWalk.i64_in _ (by omega)
      have qd : (q : Int) < d := by omega
      clear hq hr hst hz hz2 hrow
      go_wp2_with fail
      refine wp_region_still_tail 21 (by kernel_rfl) (by kernel_rfl) ?_
      simp only [List.take_succ_cons, List.take_zero, List.drop_succ_cons, List.drop_zero]
      repeat still_step
      refine wpStill_nil ?_
      change wpList _ _ _ _ _ wr.drew
      have hO2 : Has wr.drew w.heap.size 5 (fill d (zf N j)) := HO.out.drew
      have hB2 : Below w.heap.size w wr.drew := HBE.out.drew
      generalize wr.drew = W1 at *
      have HO2 := hid hO2
      have HB2 := hid hB2
      have hoc2 := HO2.out.cell q
      have hfc := fill_get d (zf N j) q hqd
      rw [hfc] at hoc2
      have hof2 := HO2.out.frozen q
      clear hO2 hB2 ew er hoc hof hbitc d0 hfc
      go_wp2
      go_roundw
      case rel =>
        refine ⟨j + 1, by omega, by go_num, ?_, HB2.out.setCell (p := ⟨w.heap.size, q, none⟩) (Nat.le_refl _) _⟩
        have he : ((zq + (bt : Int) * 2 ^ min (j % 8) 8) % 256) = zf N (j + 1) q := by
          rw [HRR.out, Nat.min_eq_left (by omega), ← HZ.out, IntKind.wrap_u8', IntKind.wrap_u8']
          omega
        rw [← HST.out, he]
        exact HO2.out.put q _
      case measure => simp [intOf]; omega
    · obtain rfl : k = j := by omega
      have hN2 := HN.out
      have hcv := conv_fill (P := Tryz.prog) wr 41 9 5 Tryz.underlying41 Tryz.underlying5 Tryz.underlying9 (c := d) HO.out (fun i hi => by unfold zf; omega)
      have hstr : (⟨(strOf d (zf N k)).toArray⟩ : ByteArray) = strN N d := by
        unfold strOf strN zf
        rw [Nat.mod_eq_of_lt hN2]
        simp only [Int.toNat_natCast]
      rw [hstr] at hcv
      clear hN2 hstr
      go_wp2
      go_returns
      exact ⟨rfl, HBE.out⟩
end Go.Proofs.YtkmbgkcpohchhaaGreatDoor
namespace Go.Proofs.YtkmbgkcpohchhaaGreatDoor
open Go.RowKit
set_option linter.unusedVariables false
set_option maxRecDepth 100000 in
set_option maxHeartbeats 1000000 in
theorem dsym_any (n : Nat) (h1 : n ≤ 32768) (w : World) :
    Calls Tryz.prog 38 #[.int .i64 n] w fun e w' => e = .returned (.int .i64 (dstS n)) ∧ w' = w := by
  go_enter Tryz.func38, Tryz.ntmps38
  go_wp2
  go_loop [3, 4] (fun o s => ∃ k : Nat, k ≤ 30 ∧ s = .int .i64 k ∧ o = .int .i64 (symGo dstF 0 n k)) (fun _ s => 30 - (intOf s).toNat)
  case atStart => exact ⟨0, Nat.zero_le _, rfl, rfl⟩
  case round =>
    obtain ⟨k, hk, rfl, rfl⟩ := hrel
    by_cases hlt : k < 30
    · have HD := hid (fun W => rdst_any k (Nat.zero_le _) (by omega) W)
      have HS := hid (show symGo dstF 0 n (k + 1) = if dstF (0 + k) ≤ n then 0 + k else symGo dstF 0 n k from rfl)
      rw [Nat.zero_add] at HS
      generalize dstF k = F at *
      generalize dstX k = X at *
      by_cases hF : F ≤ n
      · have HS2 := hid (HS.out.trans (if_pos hF))
        have hF2 : decide (F ≤ n) = true := decide_eq_true hF
        clear HS
        go_wp2_with fail
        refine (HD.out _).mono ?_
        rintro e w1 ⟨rfl, hw1⟩
        go_wp2
        go_round
        case rel => exact ⟨k + 1, by omega, by go_num, by rw [HS2.out]⟩
        case measure => simp [intOf]; omega
      · have HS2 := hid (HS.out.trans (if_neg hF))
        have hF2 : decide (F ≤ n) = false := decide_eq_false hF
        clear HS
        go_wp2_with fail
        refine (HD.out _).mono ?_
        rintro e w1 ⟨rfl, hw1⟩
        go_wp2
        go_round
        case rel => exact ⟨k + 1, by omega, by go_num, by rw [HS2.out]⟩
        case measure => simp [intOf]; omega
    · obtain rfl : k = 30 := by omega
      go_wp2
      go_returns
      exact ⟨rfl, rfl⟩
set_option maxRecDepth 100000 in
set_option maxHeartbeats 1000000 in
theorem lsym_any (n : Nat) (h1 : n ≤ 258) (w : World) :
    Calls Tryz.prog 37 #[.int .i64 n] w fun e w' => e = .returned (.int .i64 (mlenS n)) ∧ w' = w := by
  by_cases h : n = 258
  · subst h
    go_enter Tryz.func37, Tryz.ntmps37
    go_wp2
    go_returns
    exact ⟨rfl, rfl⟩
  have HL := hid (show mlenS n = symGo mlenF 257 n 28 from if_neg h)
  have t0 : ((n : Int) == 258) = false := by simp; omega
  rw [HL.out]
  clear h
  go_enter Tryz.func37, Tryz.ntmps37
  go_wp2
  go_loop [3, 4] (fun o s => ∃ k p : Nat, k ≤ 28 ∧ Hid (257 + k = p) ∧ 257 ≤ p ∧ s = .int .i64 p ∧ o = .int .i64 (symGo mlenF 257 n k)) (fun _ s => 285 - (intOf s).toNat)
  case atStart => exact ⟨0, 257, Nat.zero_le _, hid rfl, by omega, rfl, rfl⟩
  case round =>
    obtain ⟨k, p, hk, HP, hp, rfl, rfl⟩ := hrel
    by_cases hlt : p < 285
    · have HD := hid (fun W => rlen_any p (by omega) (by omega) W)
      have HS := hid (show symGo mlenF 257 n (k + 1) = if mlenF (257 + k) ≤ n then 257 + k else symGo mlenF 257 n k from rfl)
      rw [HP.out] at HS
      have hk28 : k < 28 := by have := HP.out; omega
      generalize mlenF p = F at *
      generalize lenX p = X at *
      by_cases hF : F ≤ n
      · have HS2 := hid (HS.out.trans (if_pos hF))
        have hF2 : decide (F ≤ n) = true := decide_eq_true hF
        clear HS
        go_wp2_with fail
        refine (HD.out _).mono ?_
        rintro e w1 ⟨rfl, hw1⟩
        go_wp2
        go_round
        case rel => exact ⟨k + 1, p + 1, by omega, hid (by have := HP.out; omega), by omega, by go_num, by rw [HS2.out]⟩
        case measure => simp [intOf]; omega
      · have HS2 := hid (HS.out.trans (if_neg hF))
        have hF2 : decide (F ≤ n) = false := decide_eq_false hF
        clear HS
        go_wp2_with fail
        refine (HD.out _).mono ?_
        rintro e w1 ⟨rfl, hw1⟩
        go_wp2
        go_round
        case rel => exact ⟨k + 1, p + 1, by omega, hid (by have := HP.out; omega), by omega, by go_num, by rw [HS2.out]⟩
        case measure => simp [intOf]; omega
    · have hkp : k = 28 := by have := HP.out; omega
      have hpp : p = 285 := by have := HP.out; omega
      subst hkp hpp
      go_wp2
      go_returns
      exact ⟨rfl, rfl⟩
end Go.Proofs.YtkmbgkcpohchhaaGreatDoor
namespace Go.Proofs.YtkmbgkcpohchhaaGreatDoor
open Go.RowKit Go.Conc
set_option linter.unusedVariables false
set_option maxRecDepth 100000 in
theorem fixLL_lit : fixLL = (List.range 288).map fun i => ((litF i : Nat) : Int) := by decide +kernel
theorem pre_all (L D : List Int) (ts : List TokR) (s : List (Nat × Nat)) : preP L D ts ts.length ++ s = ts.flatMap (tokP L D) ++ s := by rw [preP_all]
theorem none_k (P : List (Nat × Nat)) (a : Nat × Nat) : pcK (P ++ [a]) = pcK (P ++ [a, (0, 0)]) ∧ pcN (P ++ [a]) = pcN (P ++ [a, (0, 0)]) := by
  rw [pcK_app, pcK_app, pcN_app, pcN_app]
  exact ⟨by simp [pcK], by simp [pcN]⟩
theorem bad_cost {ts : List TokR} {t : TokR} (h : t ∈ ts) (hb : tokOk t = false) : costOk ts = false := by
  cases hc : costOk ts with
  | false => rfl
  | true =>
    have := List.all_eq_true.1 hc t h
    rw [hb] at this
    cases this
theorem codeZ_of {w : World} {g1 rb : Nat} {l : List Int} {n : Nat} {f : Nat → Nat} (hl : l = (List.range n).map fun i => ((f i : Nat) : Int)) (h1 : Has w g1 3 (fillArr f n n)) (h2 : Has w rb 3 (cArr l n n)) : CodeZ w g1 rb l := by
  have hn : l.length = n := by rw [hl]; simp
  refine ⟨h1.lt, h2.lt, fun i hi => ?_, fun i hi => ?_⟩
  · rw [hn] at hi
    rw [h1.cell i, fillArr_get f n n i hi, if_pos hi, hl]
    simp [lenF, List.getD, hi]
  · rw [hn] at hi
    rw [h2.cell i, cArr_get l n n i hi, if_pos hi]
theorem toks_lit2 {w : World} {a : Option Addr} {ts : List TokR} (h : ToksAt w a ts) : ∀ t ∈ ts, t.lit < 256 := fun t ht => by
  obtain ⟨i, hi, rfl⟩ := List.getElem_of_mem ht
  obtain ⟨_, _, _, _, _, _, _, h⟩ := h i hi
  exact h
theorem pre_ok {L D : List Int} (hL : IsCode L) (hD : IsCode D) {ts : List TokR} {j : Nat} (h : ∀ i (hi : i < ts.length), i < j → tokOk ts[i] = true) (hl : ∀ t ∈ ts, t.lit < 256) : pcK (preP L D ts j) ≤ 56 * ts.length := by
  have h1 : costOk (ts.take j) = true := by
    unfold costOk
    rw [List.all_eq_true]
    intro x hx
    obtain ⟨i, hi, rfl⟩ := List.getElem_of_mem hx
    have h2 : i < j ∧ i < ts.length := by rw [List.length_take] at hi; omega
    rw [List.getElem_take]
    exact h i h2.2 h2.1
  have h2 := toks_le hL hD (ts.take j) h1 fun t ht => hl t (List.mem_of_mem_take ht)
  have h3 : (ts.take j).length ≤ ts.length := by rw [List.length_take]; omega
  exact Nat.le_trans h2 (Nat.mul_le_mul_left 56 h3)
set_option maxRecDepth 100000 in
theorem lenF_le : ∀ k : Fin 256, mlenF (mlenS (k.val + 3)) ≤ k.val + 3 ∧ 257 ≤ mlenS (k.val + 3) ∧ mlenS (k.val + 3) ≤ 285 ∧ lenX (mlenS (k.val + 3)) ≤ 5 := by decide
set_option maxRecDepth 100000 in
set_option maxHeartbeats 8000000 in
theorem rFixed_any (a : Option Addr) (n cap : Nat) (hn : n ≤ 10000) (ts : List TokR) (hts : Hid (ts.length = n)) (w : World) (hst : ToksAt w a ts) :
    Calls Tryz.prog 16 #[.slice a n cap] w fun e w' => (costOk ts = true ∧ e = .returned (.tuple #[.string (outS (fixP ts)), .int .i64 0]) ∨ costOk ts = false ∧ e = .returned (.tuple #[.string ⟨#[]⟩, .int .i64 1])) ∧ Bw w w' := by
  have HST := hid hst
  have HC1 := hid (fun g1 W (h : ZsAt W (some ⟨g1, 0, none⟩) fixLL) => rcodes_ok (some ⟨g1, 0, none⟩) 288 288 fixLL (hid fixLL_len) fixLL_check W h)
  have HC2 := hid (fun g2 W (h : ZsAt W (some ⟨g2, 0, none⟩) fixDD) => rcodes_ok (some ⟨g2, 0, none⟩) 32 32 fixDD (hid fixDD_len) fixDD_check W h)
  clear hst
  go_enter Tryz.func16, Tryz.ntmps16
  go_wp2_with fail
  refine (rfixed0_any w).mono ?_
  rintro e w1 ⟨g1, g2, rfl, h1, h2, hb1⟩
  have HF1 := hid h1
  have HF2 := hid h2
  have HB1 := hid hb1
  clear h1 h2 hb1
  go_wp2_with fail
  refine (HC1.out g1 w1 (fill_zs HF1.out fixLL_lit)).mono ?_
  rintro e w2 ⟨r1, rfl, hr1, hc1, hb2⟩
  have HA1 := hid hc1
  have HB2 := hid hb2
  clear hr1 hc1 hb2
  go_wp2_with fail
  refine (HC2.out g2 w2 (fill_zs (HB2.out.has HF2.out) rfl)).mono ?_
  rintro e w3 ⟨r2, rfl, hr2, hc2, hb3⟩
  have HA2 := hid hc2
  have HB3 := hid hb3
  clear hr2 hc2 hb3
  go_wp2_with fail
  have HZ := hid (ZrF.fresh (Has.new w3 77 #[.slice none 0 0]))
  have HBA := hid ((Bw.refl w3).alloc (.cells #[.slice none 0 0] 77))
  generalize w3.alloc (.cells #[.slice none 0 0] 77) = W4 at *
  have HB4 := hid (HB1.out.trans (HB2.out.trans (HB3.out.trans HBA.out)))
  have HL := hid (codeZ_of fixLL_lit ((HB2.out.trans (HB3.out.trans HBA.out)).has HF1.out) ((HB3.out.trans HBA.out).has HA1.out))
  have HD := hid (codeZ_of (l := fixDD) rfl ((HB2.out.trans (HB3.out.trans HBA.out)).has HF2.out) (HBA.out.has HA2.out))
  have HNE := hid (show g1 ≠ w3.heap.size ∧ r1 ≠ w3.heap.size ∧ g2 ≠ w3.heap.size ∧ r2 ≠ w3.heap.size by
    have a1 := HF1.out.lt
    have a2 := HF2.out.lt
    have a3 := HA1.out.lt
    have a4 := HA2.out.lt
    have a5 := HB2.out.size
    have a6 := HB3.out.size
    omega)
  have hz3 : w.heap.size ≤ w3.heap.size := (HB1.out.trans (HB2.out.trans HB3.out)).size
  obtain ⟨g, hg⟩ : ∃ g, w3.heap.size = g := ⟨_, rfl⟩
  rw [hg] at HZ HNE hz3 ⊢
  have HGW := hid hz3
  have HT4 := hid (HST.out.below HB4.out)
  clear hg hz3 HC1 HC2
  have HIL := hid (IsCode.of_check fixLL_check)
  have HID := hid (IsCode.of_check fixDD_check)
  have HLN := hid fixLL_len
  have HDN := hid fixDD_len
  have HFX := hid (show ∀ ts, fixP ts = (3, 3) :: (ts.flatMap (tokP fixLL fixDD) ++ symP fixLL ⟨256, 0, 0⟩) from fun _ => rfl)
  generalize fixLL = LL at *
  generalize fixDD = DD at *
  refine (zput_pc (· = g) g 0 0 [] (by decide) 3 3 (by decide) (by decide) W4 W4 (ZPost.refl HZ.out)).mono ?_
  rintro e w5 ⟨rfl, hp5⟩
  have HP5 := hid (show ZPost (· = g) g (0 + pcK ((3, 3) :: preP LL DD ts 0)) (0 + pcN ((3, 3) :: preP LL DD ts 0) * 2 ^ 0) W4 w5 from hp5)
  clear hp5
  go_wp2_with fail
  go_loopw [11] (fun i wr => ∃ j : Nat, j ≤ n ∧ i = .int .i64 j ∧ Hid (∀ i (h : i < ts.length), i < j → tokOk ts[i] = true) ∧ ZPost (· = g) g (0 + pcK ((3, 3) :: preP LL DD ts j)) (0 + pcN ((3, 3) :: preP LL DD ts j) * 2 ^ 0) W4 wr) (fun i _ => n - (intOf i).toNat)
  case atStart => exact ⟨0, Nat.zero_le _, rfl, hid (fun i _ h => by omega), HP5.out⟩
  case round =>
    rename World => wr
    obtain ⟨j, hj, rfl, HOK, hp⟩ := hrel
    have HPR := hid hp
    by_cases hlt : j < n
    · have hlti : (j : Int) < n := by omega
      have hjl : j < ts.length := by rw [hts.out]; exact hlt
      obtain ⟨F1, hw1, hk1, hf1⟩ := hp
      obtain ⟨ab, aoff, rfl, hab, c0, c1, c2, hv⟩ := HT4.out j hjl
      have hag : ¬ ab = g := by
        obtain ⟨b', off', e', hl', _⟩ := HST.out j hjl
        injection e' with e'
        injection e' with e1
        have := HGW.out
        omega
      have hbk := hk1.block ab hab hag
      have d0 : wr.cell? ⟨ab, aoff + j * 3, none⟩ = _ := (World.cell?_of_block hbk).trans c0
      have d1 : wr.cell? ⟨ab, aoff + j * 3 + 1, none⟩ = _ := (World.cell?_of_block hbk).trans c1
      have d2 : wr.cell? ⟨ab, aoff + j * 3 + 2, none⟩ = _ := (World.cell?_of_block hbk).trans c2
      have hpb := pre_ok HIL.out HID.out HOK.out (toks_lit2 HT4.out)
      rw [hts.out] at hpb
      have HSUC := hid (preP_succ LL DD ts j hjl)
      have HOK2 := hid (show tokOk ts[j] = true → ∀ i (h : i < ts.length), i < j + 1 → tokOk ts[i] = true from fun h i hi hij => by
        rcases Nat.lt_or_ge i j with h1 | h1
        · exact HOK.out i hi h1
        · obtain rfl : i = j := by omega
          exact h)
      have HBAD := hid (fun h => bad_cost (List.getElem_mem hjl) h)
      generalize ts[j] = t at *
      have HPB := hid (show pcK ((3, 3) :: preP LL DD ts j) ≤ 3 + 56 * n by rw [pcK]; exact Nat.add_le_add_left hpb 3)
      have HSU2 := hid (show (3, 3) :: preP LL DD ts (j + 1) = ((3, 3) :: preP LL DD ts j) ++ tokP LL DD t by rw [HSUC.out]; rfl)
      generalize (3, 3) :: preP LL DD ts j = P at *
      obtain ⟨x0, x1, x2⟩ := t
      have HMA := hid (fun W => may_any x0 x1 x2 W)
      obtain ⟨W2, hW2⟩ : ∃ W2, wr.alloc (.cells #[.int .u8 x0, .int .i64 x1, .int .i64 x2] 29) = W2 := ⟨_, rfl⟩
      have HB2 : Hid (Bw wr W2) := hid (by rw [← hW2]; exact (Bw.refl wr).alloc _)
      have HT2 : Hid (Has W2 wr.heap.size 29 #[.int .u8 x0, .int .i64 x1, .int .i64 x2]) := hid (by rw [← hW2]; exact Has.new wr _ _)
      have HP0 : Hid (ZPost F1 g (0 + pcK P) (0 + pcN P * 2 ^ 0) W2 W2) := hid (ZPost.refl (hw1.keep (G := fun _ => False) (.of_bw HB2.out) fun _ _ h => h))
      have hF1 : ∀ i, F1 i → i < wr.heap.size := by obtain ⟨_, _, _, _, _, h5⟩ := hw1; exact h5
      have HTK := hid (show ∀ V k' N', ZPost F1 g k' N' W2 V → V.cell? ⟨wr.heap.size, 0, none⟩ = some (.int .u8 x0) ∧ V.cell? ⟨wr.heap.size, 1, none⟩ = some (.int .i64 x1) ∧ V.cell? ⟨wr.heap.size, 2, none⟩ = some (.int .i64 x2) from fun V k' N' hp => by
        obtain ⟨F2, _, hk2, _⟩ := hp
        have h := hk2.has HT2.out fun h => by have := hF1 _ h; omega
        exact ⟨h.cell 0, h.cell 1, h.cell 2⟩)
      have n1 : ¬ F1 g1 := fun h => by rcases hf1 _ h with h | h; exact HNE.out.1 h; exact absurd h (by have := HL.out.l1; omega)
      have n2 : ¬ F1 r1 := fun h => by rcases hf1 _ h with h | h; exact HNE.out.2.1 h; exact absurd h (by have := HL.out.u1; omega)
      have n3 : ¬ F1 g2 := fun h => by rcases hf1 _ h with h | h; exact HNE.out.2.2.1 h; exact absurd h (by have := HD.out.l1; omega)
      have n4 : ¬ F1 r2 := fun h => by rcases hf1 _ h with h | h; exact HNE.out.2.2.2 h; exact absurd h (by have := HD.out.u1; omega)
      have hL2 := (HL.out.keep hk1 HNE.out.1 HNE.out.2.1).keep (F := fun _ => False) (.of_bw HB2.out) (fun h => h) (fun h => h)
      have hD2 := (HD.out.keep hk1 HNE.out.2.2.1 HNE.out.2.2.2).keep (F := fun _ => False) (.of_bw HB2.out) (fun h => h) (fun h => h)
      have HPL := hid (fun (Q : List (Nat × Nat)) (hQ : pcK Q ≤ 1000000) sy (hs : sy < 288) V hp => rput_any F1 g 0 0 g1 288 r1 288 288 LL Q HIL.out HLN.out sy hs (by omega) W2 V hL2 n1 n2 hp)
      have HPD := hid (fun (Q : List (Nat × Nat)) (hQ : pcK Q ≤ 1000000) sy (hs : sy < 32) V hp => rput_any F1 g 0 0 g2 32 r2 32 32 DD Q HID.out HDN.out sy hs (by omega) W2 V hD2 n3 n4 hp)
      have HPP := hid (fun (Q : List (Nat × Nat)) (hQ : pcK Q ≤ 1000000) v m (hm : m ≤ 16) (hv : v < 2 ^ m) V hp => zput_pc F1 g 0 0 Q (by omega) v m hm hv W2 V hp)
      have HSTEP := hid (show ∀ k' N' V, ZPost F1 g k' N' W2 V → ZPost (· = g) g k' N' W4 V from fun k' N' V hp => hp.step (hk1.trans (.of_bw HB2.out)) hf1)
      have HBR := hid (show Bw w wr from Below.trans HB4.out (hk1.below (B := w.heap.size) HB4.out.size (fun i (hi : i = g) => by have := HGW.out; omega)))
      clear hw1 hk1 hf1 hF1 n1 n2 n3 n4 hL2 hD2 hpb hbk hag hab c0 c1 c2 HOK HSUC
      have hlen : n ≤ 10000 := hn
      have z0 := HT2.out.cell 0
      have z1 := HT2.out.cell 1
      have z2 := HT2.out.cell 2
      go_wp2_with fail
      clear d0 d1 d2 hW2 z0 z1 z2
      refine (HMA.out W2).mono ?_
      rintro e w6 ⟨rfl, hb6⟩
      have HP6 := hid (HP0.out.bw hb6)
      have HB6 := hid (HBR.out.trans (HB2.out.trans hb6))
      obtain ⟨y0, y1, y2⟩ := HTK.out _ _ _ HP6.out
      clear hb6 HMA
      by_cases hok : tokOk ⟨x0, x1, x2⟩ = true
      · rw [hok]
        have HOK3 := hid (HOK2.out hok)
        cases hbt : isB ⟨x0, x1, x2⟩ with
        | true =>
          obtain ⟨h2, h1⟩ := isB_iff.1 hbt
          simp only at h1 h2
          subst h1 h2
          have HTP := hid (show tokP LL DD ⟨x0, 0, 0⟩ = [(revB (codeF LL x0) (lenF LL x0), lenF LL x0), (0, 0)] by
            unfold tokP litY
            rw [hbt, if_pos rfl, if_pos rfl]; rfl)
          clear hok hbt HBAD HOK2
          have hx288 : x0 < 288 := by have : x0 < 256 := hv; omega
          go_wp2_with fail
          refine (HPL.out P (by have := HPB.out; omega) x0 hx288 w6 HP6.out).mono ?_
          rintro e w7 ⟨rfl, hp7⟩
          have HP7 := hid (HSTEP.out _ _ _ hp7)
          clear hp7 y0 y1 y2
          have HE := hid (none_k P (revB (codeF LL x0) (lenF LL x0), lenF LL x0))
          rw [HE.out.1, HE.out.2] at HP7
          go_wp2
          go_roundw
          case rel => exact ⟨j + 1, by omega, by go_num, HOK3, by rw [HSU2.out, HTP.out]; exact HP7.out⟩
          case measure => simp [intOf]; omega
        | false =>
          have hm : isM ⟨x0, x1, x2⟩ = true := by simpa [tokOk, hbt] using hok
          obtain ⟨b1, b2, b3, b4, _⟩ := isM_iff.1 hm
          simp only at b1 b2 b3 b4
          have hnl : x1 ≤ 258 := b4
          have hnd : x2 ≤ 32768 := b2
          obtain ⟨nl, rfl⟩ := Int.eq_ofNat_of_zero_le (show 0 ≤ x1 by omega)
          obtain ⟨nd, rfl⟩ := Int.eq_ofNat_of_zero_le (show 0 ≤ x2 by omega)
          have HTP := hid (show tokP LL DD ⟨x0, (nl : Nat), (nd : Nat)⟩ = [(revB (codeF LL (mlenS nl)) (lenF LL (mlenS nl)), lenF LL (mlenS nl))] ++ [(nl - mlenF (mlenS nl), lenX (mlenS nl))] ++ [(revB (codeF DD (dstS nd)) (lenF DD (dstS nd)), lenF DD (dstS nd))] ++ [(nd - dstF (dstS nd), dstX (dstS nd))] by
            unfold tokP litY dstY
            rw [hbt]
            simp [symP])
          have hly := litY_ok hok hv
          have hdy := dstY_ok hm
          unfold litY at hly
          unfold dstY at hdy
          rw [hbt] at hly
          simp only [Bool.false_eq_true, if_false, Int.toNat_natCast] at hly hdy
          obtain ⟨q1, q2, q3⟩ := hly
          obtain ⟨q4, q5, q6⟩ := hdy
          have hle := lenF_le ⟨nl - 3, by omega⟩
          simp only [show nl - 3 + 3 = nl by omega] at hle
          obtain ⟨s, hs30, hsd, hsf, _⟩ := dstS_lt nd (by omega) (by omega)
          have hdf : dstF (dstS nd) ≤ nd := by rw [hsd]; exact hsf
          have HS1 := hid (fun W => lsym_any nl (by omega) W)
          have HS2 := hid (fun W => dsym_any nd (by omega) W)
          have HS3 := hid (fun W => rlen_any (mlenS nl) hle.2.1 hle.2.2.1 W)
          have HS4 := hid (fun W => rdst_any (dstS nd) (Nat.zero_le _) (by omega) W)
          obtain ⟨l1, -, -, -⟩ := hle
          have hne0 : ((nd : Int) == 0) = false := by simp; omega
          clear hok hbt hm b1 b2 b3 b4 hsd hsf HBAD HOK2 hs30
          generalize mlenS nl = sl at *
          generalize dstS nd = sd at *
          generalize mlenF sl = fl at *
          generalize dstF sd = fd at *
          generalize lenX sl = xl at *
          generalize dstX sd = xd at *
          go_wp2_with fail
          refine (HS1.out w6).mono ?_
          rintro e w7 ⟨rfl, hww⟩
          subst hww
          go_wp2_with fail
          refine (HS2.out w7).mono ?_
          rintro e w8 ⟨rfl, hww⟩
          subst hww
          go_wp2_with fail
          refine (HS3.out w8).mono ?_
          rintro e w9 ⟨rfl, hww⟩
          subst hww
          go_wp2_with fail
          refine (HS4.out w9).mono ?_
          rintro e w10 ⟨rfl, hww⟩
          subst hww
          have hs288 : sl < 288 := by omega
          have hs32 : sd < 32 := by omega
          have hpb := HPB.out
          have hlt15 := (HIL.out.len sl).1
          have hdt15 := (HID.out.len sd).1
          have HQ1 := hid (HPL.out P (by omega) sl hs288 w10 HP6.out)
          have HQ2 := hid (fun V hp => HPP.out (P ++ [(revB (codeF LL sl) (lenF LL sl), lenF LL sl)]) (by rw [pcK_app]; show pcK P + (lenF LL sl + 0) ≤ _; omega) (nl - fl) xl (by omega) q3 V hp)
          have HQ3 := hid (fun V hp => HPD.out (P ++ [(revB (codeF LL sl) (lenF LL sl), lenF LL sl)] ++ [(nl - fl, xl)]) (by rw [pcK_app, pcK_app]; show pcK P + (lenF LL sl + 0) + (xl + 0) ≤ _; omega) sd hs32 V hp)
          have HQ4 := hid (fun V hp => HPP.out (P ++ [(revB (codeF LL sl) (lenF LL sl), lenF LL sl)] ++ [(nl - fl, xl)] ++ [(revB (codeF DD sd) (lenF DD sd), lenF DD sd)]) (by rw [pcK_app, pcK_app, pcK_app]; show pcK P + (lenF LL sl + 0) + (xl + 0) + (lenF DD sd + 0) ≤ _; omega) (nd - fd) xd (by omega) q6 V hp)
          have el : ((nl - fl : Nat) : Int) = (nl : Int) - fl := by omega
          have ed : ((nd - fd : Nat) : Int) = (nd : Int) - fd := by omega
          rw [el] at HQ2
          rw [ed] at HQ4
          have hlb : (fl : Int) ≤ nl := by omega
          have hdb : (fd : Int) ≤ nd := by omega
          clear el ed q1 q2 q3 q4 q5 q6 hpb hlt15 hdt15
          go_wp2_with fail
          refine HQ1.out.mono ?_
          rintro e w11 ⟨rfl, hp⟩
          have HP11 := hid hp
          obtain ⟨v0, v1, v2⟩ := HTK.out _ _ _ hp
          clear hp y0 y1 y2
          go_wp2_with fail
          refine (HQ2.out w11 HP11.out).mono ?_
          rintro e w12 ⟨rfl, hp⟩
          have HP12 := hid hp
          obtain ⟨y0, y1, y2⟩ := HTK.out _ _ _ hp
          clear hp v0 v1 v2
          go_wp2_with fail
          refine (HQ3.out w12 HP12.out).mono ?_
          rintro e w13 ⟨rfl, hp⟩
          have HP13 := hid hp
          obtain ⟨v0, v1, v2⟩ := HTK.out _ _ _ hp
          clear hp y0 y1 y2
          go_wp2_with fail
          refine (HQ4.out w13 HP13.out).mono ?_
          rintro e w14 ⟨rfl, hp⟩
          have HP14 := hid (HSTEP.out _ _ _ hp)
          clear hp v0 v1 v2
          go_wp2
          go_roundw
          case rel => exact ⟨j + 1, by omega, by go_num, HOK3, by rw [HSU2.out, HTP.out, ← List.append_assoc, ← List.append_assoc, ← List.append_assoc]; exact HP14.out⟩
          case measure => simp [intOf]; omega
      · have hokf : tokOk ⟨x0, x1, x2⟩ = false := by cases h : tokOk ⟨x0, x1, x2⟩ with | false => rfl | true => exact absurd h hok
        rw [hokf]
        have HBD := hid (HBAD.out hokf)
        clear hok hokf
        go_wp2
        go_returns
        exact ⟨.inr ⟨HBD.out, rfl⟩, HB6.out⟩
    · obtain rfl : j = n := by omega
      have hok : costOk ts = true := by
        unfold costOk
        rw [List.all_eq_true]
        intro x hx
        obtain ⟨i, hi, rfl⟩ := List.getElem_of_mem hx
        exact HOK.out i hi (by rw [← hts.out]; exact hi)
      have hpb := pre_ok HIL.out HID.out HOK.out (toks_lit2 HT4.out)
      rw [hts.out] at hpb
      have hpb2 : pcK ((3, 3) :: preP LL DD ts j) ≤ 3 + 56 * j := by rw [pcK]; exact Nat.add_le_add_left hpb 3
      have HFP := hid (show fixP ts = ((3, 3) :: preP LL DD ts j) ++ symP LL ⟨256, 0, 0⟩ by
        rw [HFX.out ts, ← hts.out, List.cons_append, pre_all])
      have hq := rput_any (· = g) g 0 0 g1 288 r1 288 288 LL ((3, 3) :: preP LL DD ts j) HIL.out HLN.out 256 (by decide) (by omega) W4 wr HL.out HNE.out.1 HNE.out.2.1 hp
      have HQ := hid hq
      have hl15 := (HIL.out.len 256).1
      have HOK4 := hid hok
      have HKB := hid (show pcK (((3, 3) :: preP LL DD ts j) ++ [(revB (codeF LL 256) (lenF LL 256), lenF LL 256)]) ≤ 1000000 by rw [pcK_app]; show _ + (lenF LL 256 + 0) ≤ _; omega)
      have HNK := hid (none_k ((3, 3) :: preP LL DD ts j) (revB (codeF LL 256) (lenF LL 256), lenF LL 256))
      clear hok hpb hpb2 hq hl15 hp
      go_wp2_with fail
      refine HQ.out.mono ?_
      rintro e w5 ⟨rfl, hp⟩
      obtain ⟨F5, h5, k5, f5⟩ := hp
      have HB5 := hid (show Bw w w5 from Below.trans HB4.out (k5.below (B := w.heap.size) HB4.out.size (fun i (hi : i = g) => by have := HGW.out; omega)))
      have HZS := hid (zstr_any F5 g _ _ (by have := HKB.out; omega) w5 h5)
      have HE := hid (show strN (0 + pcN (((3, 3) :: preP LL DD ts j) ++ [(revB (codeF LL 256) (lenF LL 256), lenF LL 256)]) * 2 ^ 0) ((0 + pcK (((3, 3) :: preP LL DD ts j) ++ [(revB (codeF LL 256) (lenF LL 256), lenF LL 256)]) + 7) / 8) = outS (fixP ts) by
        rw [HNK.out.1, HNK.out.2, HFP.out]
        unfold outS
        rw [Nat.zero_add, Nat.zero_add, Nat.pow_zero, Nat.mul_one]
        rfl)
      clear h5 k5 f5
      go_wp2_with fail
      refine HZS.out.mono ?_
      rintro e w6 ⟨rfl, hb6⟩
      rw [HE.out]
      have HB6 := hid (HB5.out.trans hb6)
      clear hb6
      go_wp2
      go_returns
      exact ⟨.inl ⟨HOK4.out, rfl⟩, HB6.out⟩
end Go.Proofs.YtkmbgkcpohchhaaGreatDoor
