/- What the document's writer returns, and what it leaves: its bits, one by one (contracts of the functions). -/
import Derived.Test.YtfmilakgpocnnaaBitWC
import Derived.StillTailTactics
namespace Go.Proofs.Ytfmilakgpocnnaa
open Go.RowKit
set_option linter.unusedVariables false

/-- The document's writer in memory. -/
structure ZrB (w : World) (g : Nat) (dv : Value) (k : Nat) (xs : List Value) : Prop where
  blk : Has w g 46 #[dv]
  row : w.ownsRow 0 5 1 dv k xs
theorem ZrB.ne {w : World} {g k : Nat} {dv : Value} {xs : List Value} (h : ZrB w g dv k xs) : dv.ownBlock ≠ some g := own_ne_has h.row h.blk (by decide)
theorem ZrB.keep {w w' : World} {g k : Nat} {dv : Value} {xs : List Value} (h : ZrB w g dv k xs) {F : Nat → Prop} (hk : Keeps F w w') (hg : ¬ F g) (hd : ∀ b, dv.ownBlock = some b → ¬ F b) : ZrB w' g dv k xs :=
  ⟨hk.has h.blk hg, hk.own h.row hd⟩
def ZrF (F : Nat → Prop) (w : World) (g k N : Nat) : Prop :=
  ∃ dv, F g ∧ (∀ b, dv.ownBlock = some b → F b) ∧ ZrB w g dv k (bitCells N k) ∧ N < 2 ^ k ∧ ∀ i, F i → i < w.heap.size
def ZPost (F : Nat → Prop) (g k N : Nat) (w w' : World) : Prop := ∃ F', ZrF F' w' g k N ∧ Keeps F w w' ∧ ∀ i, F' i → F i ∨ w.heap.size ≤ i
theorem ZrF.keep {F G : Nat → Prop} {w w' : World} {g k N : Nat} (h : ZrF F w g k N) (hk : Keeps G w w') (hd : ∀ i, F i → ¬ G i) : ZrF F w' g k N := by
  obtain ⟨dv, h1, h2, h3, h4, h5⟩ := h
  exact ⟨dv, h1, h2, h3.keep hk (hd _ h1) (fun b hb => hd _ (h2 b hb)), h4, fun i hi => Nat.lt_of_lt_of_le (h5 i hi) hk.size⟩
theorem ZPost.refl {F : Nat → Prop} {w : World} {g k N : Nat} (h : ZrF F w g k N) : ZPost F g k N w w := ⟨F, h, Keeps.refl _ _, fun i hi => .inl hi⟩
theorem ZrF.fresh {w : World} {g : Nat} (h : Has w g 46 #[.slice none 0 0]) : ZrF (· = g) w g 0 0 :=
  ⟨.slice none 0 0, rfl, fun b hb => by simp [Value.ownBlock] at hb, ⟨h, rfl, .inl ⟨rfl, rfl⟩⟩, by simp, fun i hi => by rw [hi]; exact h.lt⟩
theorem ZrF.lt {F : Nat → Prop} {w : World} {g k N : Nat} (h : ZrF F w g k N) : N < 2 ^ k := h.choose_spec.2.2.2.1
/-- One bit behind the others: what is left once its byte was appended and the slice was stored. -/
theorem z_push {F F' : Nat → Prop} {w W4 w5 : World} {g j M : Nat} {ao ao2 : Option Addr} {cap cap2 : Nat} {o : Obj} (hB : ZrB W4 g (.slice ao j cap) j (bitCells M j)) (hg : F' g) (hd : ∀ b, (Value.slice ao j cap).ownBlock = some b → F' b) (hK : Keeps F w W4) (hFF : ∀ i, F' i → F i ∨ w.heap.size ≤ i) (hFl : ∀ i, F' i → i < W4.heap.size)
    (hG : (W4.alloc o).grownBy w5 (Value.slice ao j cap).ownBlock) (hO : w5.ownsRow 0 5 1 (.slice ao2 (j + 1) cap2) (j + 1) (bitCells M (j + 1))) (hL : (Value.slice ao2 (j + 1) cap2).ownBlock = (Value.slice ao j cap).ownBlock ∨ (Value.slice ao2 (j + 1) cap2).ownBlock = some (W4.alloc o).heap.size) :
    ∃ F2 : Nat → Prop, ZrB (w5.setCell ⟨g, 0, none⟩ (.slice ao2 (j + 1) cap2)) g (.slice ao2 (j + 1) cap2) (j + 1) (bitCells M (j + 1)) ∧ F2 g ∧ (∀ b, (Value.slice ao2 (j + 1) cap2).ownBlock = some b → F2 b) ∧ Keeps F w (w5.setCell ⟨g, 0, none⟩ (.slice ao2 (j + 1) cap2)) ∧ (∀ i, F2 i → F i ∨ w.heap.size ≤ i) ∧ ∀ i, F2 i → i < (w5.setCell ⟨g, 0, none⟩ (.slice ao2 (j + 1) cap2)).heap.size := by
  have hH5 : Has w5 g 46 #[.slice ao j cap] := (hG.block g (by have := hB.blk.lt; simp; omega) (fun e => hB.ne e.symm)).trans (hB.blk.alloc _)
  have hne : (Value.slice ao2 (j + 1) cap2).ownBlock ≠ some g := own_ne_has hO hH5 (by decide)
  have hz := hG.size
  have ha : (W4.alloc o).heap.size = W4.heap.size + 1 := by simp
  rw [ha] at hz
  have hzK := hK.size
  have hK5 : Keeps F w w5 := grow_keeps hK hFF hG hd
  refine ⟨fun i => F' i ∨ (w.heap.size ≤ i ∧ i < w5.heap.size), ⟨by simpa using hH5.put 0 (.slice ao2 (j + 1) cap2), own_keep hO (fun b hb => Below.heap_setCell w5 ⟨g, 0, none⟩ _ b (fun e => hne (by rw [hb, e])))⟩, .inl hg, fun b hb => ?_, hK5.setCell (p := ⟨g, 0, none⟩) (hFF g hg) _, fun i h => ?_, fun i h => ?_⟩
  · rcases hL with h | h
    · exact .inl (hd b (by rw [← h]; exact hb))
    · right
      have e : (W4.alloc o).heap.size = b := by rw [h] at hb; exact Option.some.inj hb
      rw [ha] at e
      exact ⟨by omega, own_lt hO hb⟩
  · rcases h with h | h
    · exact hFF i h
    · exact .inr h.1
  · rcases h with h | h
    · have := hFl i h; simp [World.setCell]; omega
    · simpa [World.setCell] using h.2
theorem bit_lay {N v k : Nat} (h : N < 2 ^ k) (j : Nat) : (N + v * 2 ^ k) / 2 ^ (k + j) % 2 = v / 2 ^ j % 2 := by
  rw [Nat.pow_add, ← Nat.div_div_eq_div_mul, Nat.add_mul_div_right _ _ (Nat.two_pow_pos _), Nat.div_eq_of_lt h, Nat.zero_add]
/-- A number without its j lowest bits. -/
def shN (v j : Nat) : Nat := v / 2 ^ j
theorem shN_succ (v j : Nat) : shN v (j + 1) = shN v j / 2 := by unfold shN; rw [Nat.pow_succ, Nat.div_div_eq_div_mul]
theorem shN_le (v j : Nat) : shN v j ≤ v := Nat.div_le_self _ _
theorem bitCells_lay (N v k : Nat) : bitCells N k = bitCells (N + v * 2 ^ k) k := bitCells_cong (by rw [Nat.add_mul_mod_self_right])
set_option maxRecDepth 100000 in
set_option maxHeartbeats 2000000 in
theorem zput_ok (F : Nat → Prop) (g k N : Nat) (hk : k ≤ 1000000000) (v : Nat) (hv32 : v < 4294967296) (n : Nat) (hn : n ≤ 32) (hv : v < 2 ^ n) (w : World) (h : ZrF F w g k N) :
    Calls Try.prog 28 #[.pointer (some ⟨g, 0, none⟩), .int .u32 v, .int .i64 n] w fun e w' => e = .returned (.int .i64 0) ∧ ZPost F g (k + n) (N + v * 2 ^ k) w w' := by
  obtain ⟨i0, hi, hz0, hz1, hz2⟩ := info_parts byteInfo
  obtain ⟨dv, hFg, hFd, hB, hN, hlt⟩ := h
  rw [bitCells_lay N v k] at hB
  have hNN := lay_lt hN hv
  have hbit := fun j => bit_lay (v := v) hN j
  generalize hM : N + v * 2 ^ k = M at *
  have t0 : n < 32 → decide ((2 : Int) ^ n % 4294967296 ≤ v) = false := fun h => by
    have hp : 2 ^ n ≤ 2 ^ 31 := Nat.pow_le_pow_right (by decide) (by omega)
    have e : ((2 : Int) ^ n) = ((2 ^ n : Nat) : Int) := by simp
    rw [e]; simp only [decide_eq_false_iff_not]; omega
  have tn : decide ((n : Int) < 0) = false := by simp
  have tm : decide ((32 : Int) < n) = false := by simp; omega
  have HB := hid hB
  have HN := hid hNN
  have HBIT := hid hbit
  have HFd := hid hFd
  have Hlt := hid hlt
  have H0 := hid t0
  clear hM hbit hFd hlt hN hNN hB hv t0
  have hor : (decide ((n : Int) < 32) = true ∧ decide ((2 : Int) ^ n % 4294967296 ≤ v) = false) ∨ decide ((n : Int) < 32) = false := by
    by_cases h : n < 32
    · exact .inl ⟨by simp; omega, H0.out h⟩
    · exact .inr (by simp; omega)
  rcases hor with ⟨t1, t2⟩ | t1
  all_goals
    go_enter Try.func28, Try.ntmps28
    go_wp2
    go_loopw [1, 7] (fun x i wr => ∃ j : Nat, ∃ dv' : Value, ∃ F' : Nat → Prop, j ≤ n ∧ i = .int .i64 j ∧ x = .int .u32 (shN v j : Nat) ∧ ZrB wr g dv' (k + j) (bitCells M (k + j)) ∧ F' g ∧ (∀ b, dv'.ownBlock = some b → F' b) ∧ Keeps F w wr ∧ (∀ i, F' i → F i ∨ w.heap.size ≤ i) ∧ ∀ i, F' i → i < wr.heap.size) (fun _ i _ => n - (intOf i).toNat)
    case atStart => exact ⟨0, dv, F, Nat.zero_le _, rfl, by simp [shN], HB.out, hFg, HFd.out, Keeps.refl _ _, fun i h => .inl h, Hlt.out⟩
    case round =>
      obtain ⟨j, dv', F', hj, rfl, rfl, hB', hF'g, hF'd, hK', hF'F, hF'l⟩ := hrel
      obtain ⟨ao, cap, rfl⟩ := own_slice hB'.row
      have HB' := hid hB'
      have HFd' := hid hF'd
      have HFF' := hid hF'F
      have HFl' := hid hF'l
      have HK' := hid hK'
      have d1 := HB'.out.blk.cell 0
      have hsh := shN_le v j
      by_cases hlt : j < n
      · have HS := hid (shN_succ v j)
        obtain ⟨kj, hkj⟩ : ∃ kj, k + j = kj := ⟨_, rfl⟩
        have HKJ := hid hkj
        have hb2 : shN v j % 2 = M / 2 ^ kj % 2 := by rw [← hkj, HBIT.out j]; rfl
        have HB2 := hid hb2
        rw [hkj] at HB' d1 HFd'
        clear hkj hb2 hB' hF'd hF'F hF'l hK'
        have e0 : wr.cell? ⟨g, 0, none⟩ = some (.slice ao kj cap) := d1
        clear d1
        have hkj9 : kj ≤ 1000000032 := by have := HKJ.out; omega
        have hsv : shN v j < 4294967296 := by omega
        clear hsh
        go_wp2_with (at_builtin; refine wpList_append_own_at _ rfl (.tmp 34) (.tmp 38) 41 rfl 0 5 i0 (.int .u8 0) 1 1 Try.underlying41 hi hz0 hz1 hz2 rfl (by decide) (.slice ao kj cap) kj (bitCells M kj) rfl (own_keep HB'.out.row (fun b hb => Below.heap_alloc _ _ _ (own_lt HB'.out.row hb))) ⟨wr.heap.size, 0, none⟩ 1 1 [_] rfl rfl (cell_one_new _ _ _) (by intro u hu; simp at hu; rw [hu]; rfl) (by unfold maxLen; omega) (by omega) (Nat.zero_le _) ?_; intro rd' w5 hown5 hgrow5 _ hblk5; obtain ⟨ao2, cap2, rfl⟩ := own_slice hown5; have hrow5 : w5.ownsRow 0 5 1 (.slice ao2 (kj + 1) cap2) (kj + 1) (bitCells M (kj + 1)) := (by rw [bitCells_succ, ← HB2.out]; simpa using hown5); have hH5 : Has w5 g 46 #[.slice ao kj cap] := (hgrow5.block g (by have := HB'.out.blk.lt; simp; omega) (fun e => HB'.out.ne e.symm)).trans (HB'.out.blk.alloc _); have y5 : w5.cell? ⟨g, 0, none⟩ = some (.slice ao kj cap) := hH5.cell 0; have z5 := hH5.frozen 0; have HP := hid (z_push HB'.out hF'g HFd'.out HK'.out HFF'.out HFl'.out hgrow5 hrow5 hblk5); clear hown5 hgrow5 hblk5 hrow5 hH5 e0)
        go_roundw
        case rel =>
          obtain ⟨F2, p1, p2, p3, p4, p5, p6⟩ := HP.out
          refine ⟨j + 1, .slice ao2 (kj + 1) cap2, F2, by omega, by go_num, by rw [HS.out]; simp, ?_, p2, p3, p4, p5, p6⟩
          rw [← Nat.add_assoc, HKJ.out]
          exact p1
        case measure => simp [intOf]; omega
      · obtain rfl : n = j := by omega
        go_wp2
        go_returns
        exact ⟨rfl, F', ⟨.slice ao (k + n) cap, hF'g, HFd'.out, HB'.out, HN.out, HFl'.out⟩, HK'.out, HFF'.out⟩
set_option maxHeartbeats 400000 in
theorem zput_bad (g v : Nat) (hv32 : v < 4294967296) (n : Int) (hp : putB v n = false) (w : World) :
    Calls Try.prog 28 #[.pointer (some ⟨g, 0, none⟩), .int .u32 v, .int .i64 n] w fun e w' => e = .returned (.int .i64 1) ∧ w = w' := by
  by_cases hn : n < 0
  · clear hp
    go_enter Try.func28, Try.ntmps28
    go_wp2
    go_returns
    exact ⟨rfl, rfl⟩
  · by_cases hm : 32 < n
    · clear hp
      go_enter Try.func28, Try.ntmps28
      go_wp2
      go_returns
      exact ⟨rfl, rfl⟩
    · obtain ⟨m, rfl⟩ := Int.eq_ofNat_of_zero_le (show 0 ≤ n by omega)
      have hc : cntB (m : Int) = true := decide_eq_true ⟨by omega, by omega⟩
      have hv : ¬ v < 2 ^ m := by
        unfold putB at hp
        rw [hc, Bool.true_and] at hp
        simpa using of_decide_eq_false hp
      have h32 : m < 32 := by
        rcases Nat.lt_or_ge m 32 with h | h
        · exact h
        · obtain rfl : m = 32 := by omega
          exact absurd hv32 hv
      have t1 : decide ((m : Int) < 32) = true := by simp; omega
      have t2 : decide ((2 : Int) ^ m % 4294967296 ≤ v) = true := by
        have hp3 := Nat.two_pow_pos m
        have hp2 : 2 ^ m ≤ 2 ^ 31 := Nat.pow_le_pow_right (by decide) (by omega)
        have e : ((2 : Int) ^ m) = ((2 ^ m : Nat) : Int) := by simp
        rw [e]; simp only [decide_eq_true_eq]; omega
      have tn : decide ((m : Int) < 0) = false := by simp
      have tm : decide ((32 : Int) < m) = false := by simp; omega
      clear hp hc hv hn hm
      go_enter Try.func28, Try.ntmps28
      go_wp2
      go_returns
      exact ⟨rfl, rfl⟩
def ZPutPost (F : Nat → Prop) (g k N v : Nat) (n : Int) (w : World) (e : Ending) (w' : World) : Prop := e = .returned (.int .i64 (putE v n)) ∧ ZPost F g (putK k v n) (putN N k v n) w w'
theorem zput_any (F : Nat → Prop) (g k N : Nat) (hk : k ≤ 1000000000) (v : Nat) (hv : v < 4294967296) (n : Int) (w : World) (h : ZrF F w g k N) :
    Calls Try.prog 28 #[.pointer (some ⟨g, 0, none⟩), .int .u32 v, .int .i64 n] w (ZPutPost F g k N v n w) := by
  unfold ZPutPost putE putK putN
  cases hp : putB v n with
  | false =>
    simp only [Bool.false_eq_true, if_false]
    refine (zput_bad g v hv n hp w).mono ?_
    rintro e w' ⟨rfl, rfl⟩
    exact ⟨rfl, ZPost.refl h⟩
  | true =>
    simp only [if_true]
    unfold putB at hp
    rw [Bool.and_eq_true] at hp
    obtain ⟨h0, h1⟩ := cntB_true hp.1
    obtain ⟨m, rfl⟩ := Int.eq_ofNat_of_zero_le h0
    exact zput_ok F g k N hk v hv m (by omega) (by simpa using hp.2) w h
end Go.Proofs.Ytfmilakgpocnnaa
