/- What Add and String of bits's writer return, and what they leave (contracts of the functions). -/
import Derived.Test.YtfmilakgpocnnaaBitWB
import Derived.Laws.BytesArg
namespace Go.Proofs.Ytfmilakgpocnnaa
open Go.RowKit
set_option linter.unusedVariables false

theorem leN_zero_of {N k : Nat} (h : N < 2 ^ k) (d : Nat) (hd : k ≤ 8 * d) : hiN N d = 0 := Nat.div_eq_of_lt (Nat.lt_of_lt_of_le h (Nat.pow_le_pow_right (by decide) hd))
/-- A text is laid on top of whole bytes. -/
theorem byteCells_add (N d : Nat) (s : ByteArray) (h : N < 2 ^ (8 * d)) : byteCells (N + leN s.data.toList * 2 ^ (8 * d)) (d + s.size) = byteCells N d ++ Lib.strCells s := by
  have hl : s.data.toList.length = s.size := by simp
  have e1 : byteCells N d = byteCells (N + leN s.data.toList * 2 ^ (8 * d)) d := byteCells_cong (lay_cong N _ (8 * d) d (Nat.le_refl _)).symm
  rw [e1]
  apply List.ext_getElem
  · simp [byteCells, Lib.strCells]
  · intro i h1 h2
    have hi : i < d + s.size := by simpa [byteCells] using h1
    by_cases hid : i < d
    · rw [List.getElem_append_left (by simpa [byteCells] using hid)]
      simp [byteCells]
    · obtain ⟨j, rfl⟩ : ∃ j, i = d + j := ⟨i - d, by omega⟩
      rw [List.getElem_append_right (by simp [byteCells])]
      have hj : j < s.data.toList.length := by omega
      have e2 := leN_byte s.data.toList j hj
      have e3 : hiN (N + leN s.data.toList * 2 ^ (8 * d)) (d + j) = leN s.data.toList / 2 ^ (8 * j) := by
        unfold hiN
        rw [Nat.mul_add, Nat.pow_add, ← Nat.div_div_eq_div_mul, Nat.add_mul_div_right _ _ (Nat.two_pow_pos _), Nat.div_eq_of_lt h, Nat.zero_add]
      simp [byteCells, Lib.strCells, e3]
      have e4 : ((leN s.data.toList / 2 ^ (8 * j) % 256 : Nat) : Int) = ((s.data.toList[j].toNat : Nat) : Int) := by rw [e2]
      simpa using e4
/-- The text of the first d bytes of a number. -/
def strN (N d : Nat) : ByteArray := ⟨((List.range d).map fun j => UInt8.ofNat (hiN N j % 256)).toArray⟩
theorem strN_size (N d : Nat) : (strN N d).size = d := by simp [strN, ByteArray.size]
theorem strN_succ (N d : Nat) : strN N (d + 1) = strN N d ++ ⟨#[UInt8.ofNat (hiN N d % 256)]⟩ := by
  show (⟨_⟩ : ByteArray) = _
  rw [List.range_succ, List.map_append]
  simp [strN]
  rfl
theorem byteCells_get (N d i : Nat) (h : i < d) : (byteCells N d)[i]? = some (Value.int .u8 ((hiN N i % 256 : Nat) : Int)) := by simp [byteCells, h]
theorem own_cell {w : World} {e : TypeId} {n : Nat} {a : Addr} {cap : Nat} {xs : List Value} (h : w.ownsRow 0 e 1 (.slice (some a) n cap) n xs) {j : Nat} {u : Value} (hj : xs[j]? = some u) : w.cell? (a.add j) = some u := by
  rcases h.2 with ⟨h0, _⟩ | ⟨g, cap', cur, h0, _⟩
  · cases h0
  · have : a = ⟨g, 0, none⟩ := by injection h0 with h1; injection h1
    subst this
    exact h.cells (g := g) rfl j u hj
theorem conv_row {w : World} {N d : Nat} {v : Value} (h : w.ownsRow 0 5 1 v d (byteCells N d)) :
    (convert 41 9 v).run Try.prog w = .ok (.string (strN N d)) w := by
  obtain ⟨ao, cap, rfl⟩ := own_slice h
  cases ao with
  | none =>
    have h0 : d = 0 := by
      rcases h.2 with ⟨h1, h2⟩ | ⟨g, cap', cur, h1, _⟩
      · exact h2
      · cases h1
    subst h0
    exact run_convert_bytes_nil (P := Try.prog) (w := w) 41 5 Try.underlying41 Try.underlying5 0 cap 9 Try.underlying9
  | some a =>
    have hl : ((List.range d).map fun j => UInt8.ofNat (hiN N j % 256)).length = d := by simp
    have := run_convert_bytes_back (P := Try.prog) w 41 9 5 a cap ((List.range d).map fun j => UInt8.ofNat (hiN N j % 256)) Try.underlying41 Try.underlying5 Try.underlying9 (fun j hj => by
      have hj' : j < d := by simpa using hj
      rw [own_cell h (byteCells_get N d j hj')]
      simp)
    rw [hl] at this
    exact this
theorem wstr_nil (w : World) :
    Calls Try.prog 30 #[.pointer none] w fun e w' => e = .returned (.string ⟨#[]⟩) ∧ w = w' := by
  go_enter Try.func30, Try.ntmps30
  go_wp2
  go_ret
  exact ⟨rfl, rfl⟩
set_option maxHeartbeats 1000000 in
theorem wstr_even (F : Nat → Prop) (g k N : Nat) (hk : k ≤ 1152921504606846976) (q : Nat) (h8 : k = 8 * q) (w : World) (h : WrF F w g k N) :
    Calls Try.prog 30 #[.pointer (some ⟨g, 0, none⟩)] w fun e w' => e = .returned (.string (strN N q)) ∧ w = w' := by
  obtain ⟨dv, _, _, hB, hN, _⟩ := h
  have hq : k / 8 = q := by omega
  rw [hq] at hB
  have hc0 : w.cell? ⟨g, 0, none⟩ = some (.int .i64 k) := hB.blk.cell 0
  have hc1 : w.cell? ⟨g, 1, none⟩ = some dv := hB.blk.cell 1
  have hcv := conv_row hB.row
  have hbg := (begun_q g k 0 hk (by unfold Hid; omega) w hc0).mono (fun _ _ h => (⟨h.1, h.2.symm⟩ : _ ∧ w = _))
  have HB := hid hbg
  clear hB hbg hq h8
  go_enter Try.func30, Try.ntmps30
  go_wp2_with fail
  refine HB.out.mono ?_
  rintro e w' ⟨rfl, rfl⟩
  go_wp2
  go_ret
  exact ⟨rfl, rfl⟩
set_option maxRecDepth 100000 in
set_option maxHeartbeats 1000000 in
theorem wstr_odd (F : Nat → Prop) (g k N : Nat) (hk : k ≤ 1152921504606846976) (q r : Nat) (hr : 0 < r) (hr8 : r < 8) (h8 : Hid (k = 8 * q + r)) (w : World) (h : WrF F w g k N) :
    Calls Try.prog 30 #[.pointer (some ⟨g, 0, none⟩)] w fun e w' => e = .returned (.string (strN N (q + 1))) ∧ Bw w w' := by
  obtain ⟨dv, _, _, hB, hN, _⟩ := h
  have hq : k / 8 = q := by have := h8.out; omega
  have hll := last_lt hN
  rw [hq] at hB hll
  have hc0 : w.cell? ⟨g, 0, none⟩ = some (.int .i64 k) := hB.blk.cell 0
  have hbg := (begun_q g k r hk (by have := h8.out; unfold Hid; omega) w hc0).mono (fun _ _ h => (⟨h.1, h.2.symm⟩ : _ ∧ w = _))
  have HB := hid hbg
  have HBB := hid hB
  clear hB hbg hq hc0 hN
  have hz : ((r : Int) == 0) = false := by simp; omega
  go_enter Try.func30, Try.ntmps30
  go_wp2_with fail
  refine HB.out.mono ?_
  rintro e w' ⟨rfl, rfl⟩
  have hc1 : w.drew.cell? ⟨g, 1, none⟩ = some dv := HBB.out.blk.cell 1
  have hc2 : w.drew.cell? ⟨g, 2, none⟩ = some (.int .u8 (hiN N q : Nat)) := HBB.out.blk.cell 2
  have hcv : (convert 41 9 dv).run Try.prog w.drew = .ok (.string (strN N q)) w.drew := conv_row (HBB.out.drewN 1).row
  have hW2 : WrB (w.alloc (.cells #[.int .u8 (hiN N q : Nat)] 5)).drew g k dv (hiN N q) q (byteCells N q) := HBB.out.keep (((Keeps.refl (fun _ => False) w).alloc (.cells #[.int .u8 (hiN N q : Nat)] 5)).drewN 1) (fun h => h) (fun _ _ h => h)
  have hcv2 := conv_row hW2.row
  have hd1 : (w.alloc (.cells #[.int .u8 (hiN N q : Nat)] 5)).drew.cell? ⟨g, 1, none⟩ = some dv := hW2.blk.cell 1
  have hcv3 : (convert 41 9 (.slice (some ⟨w.heap.size, 0, none⟩) 1 1)).run Try.prog (w.alloc (.cells #[.int .u8 (hiN N q : Nat)] 5)).drew = .ok (.string ⟨#[UInt8.ofNat (hiN N q)]⟩) (w.alloc (.cells #[.int .u8 (hiN N q : Nat)] 5)).drew := by
    have hn := (Has.new w 5 #[.int .u8 (hiN N q : Nat)]).drew
    exact run_convert_bytes_back (P := Try.prog) _ 41 9 5 ⟨w.heap.size, 0, none⟩ 1 [UInt8.ofNat (hiN N q)] Try.underlying41 Try.underlying5 Try.underlying9 (fun j hj => by
      obtain rfl : j = 0 := by simpa using hj
      have := hn.cell 0
      simp [Addr.add, this]
      omega)
  clear hW2
  have hsz : (strN N q).size + 1 ≤ 9223372036854775807 := by rw [strN_size]; have := h8.out; omega
  go_wp2_with fail
  go_region
  all_goals go_wp2
  all_goals go_returns
  all_goals refine ⟨?_, (((Bw.refl w).alloc _).drewN 1)⟩
  all_goals rw [strN_succ, Nat.mod_eq_of_lt (show hiN N q < 256 by omega)]
  all_goals rfl
theorem wstr_any (F : Nat → Prop) (g k N : Nat) (hk : k ≤ 1152921504606846976) (w : World) (h : WrF F w g k N) :
    Calls Try.prog 30 #[.pointer (some ⟨g, 0, none⟩)] w fun e w' => e = .returned (.string (strN N ((k + 7) / 8))) ∧ Bw w w' := by
  by_cases hr : k % 8 = 0
  · rw [show (k + 7) / 8 = k / 8 by omega]
    refine (wstr_even F g k N hk (k / 8) (by omega) w h).mono ?_
    rintro e w' ⟨rfl, rfl⟩
    exact ⟨rfl, Bw.refl _⟩
  · rw [show (k + 7) / 8 = k / 8 + 1 by omega]
    exact wstr_odd F g k N hk (k / 8) (k % 8) (by omega) (by omega) (by unfold Hid; omega) w h
/-- A text is appended: the row is the one that was there, or a new one. -/
theorem app_str {P : Program} (w : World) (t u ty e : TypeId) (i : TypeInfo) (ht : P.underlying t = some (.slice e)) (hu : P.underlying u = some .string) (hi : P.info? e = some i) (hz : i.zero = some (.int .u8 0))
    (h1 : i.size = 1) (h2 : i.bytes = 1) (v : Value) (n : Nat) (xs : List Value) (hown : w.ownsRow 0 e 1 v n xs) (s : ByteArray) (hb : n + s.size ≤ 140737488355328) :
    ∃ v' w', (Builtin.append_ #[t, u] ty #[v, .string s]).run P w = .ok v' w' ∧ w'.ownsRow 0 e 1 v' (n + s.size) (xs ++ Lib.strCells s) ∧ w.grownBy w' v.ownBlock ∧ (v'.ownBlock = v.ownBlock ∨ ∀ b, v'.ownBlock = some b → w.heap.size ≤ b) := by
  have hm : n + s.size ≤ maxLen := by unfold maxLen; omega
  rcases hown.2 with ⟨rfl, rfl⟩ | ⟨g, cap, cur, rfl, hg0, hg, hnc, hcm, hcs, htk⟩
  · obtain ⟨v', w', hr, ho, hgr, _⟩ := Lib.run_append_own_string w w.heap.size t u ty e i ht hu hi hz h1 h2 (.slice none 0 0) 0 xs ⟨hown.1, .inl ⟨rfl, rfl⟩⟩ s hm hb (Nat.le_refl _)
    refine ⟨v', w', hr, ⟨ho.1, ?_⟩, hgr, .inr fun b hbb => ?_⟩
    · rcases ho.2 with h | ⟨g, cap, cur, e1, _, e3⟩
      · exact .inl h
      · exact .inr ⟨g, cap, cur, e1, Nat.zero_le _, e3⟩
    · rcases ho.2 with ⟨rfl, _⟩ | ⟨g, cap, cur, rfl, e2, _⟩
      · simp [Value.ownBlock] at hbb
      · have : g = b := by simpa [Value.ownBlock] using hbb
        omega
  · obtain ⟨v', w', hr, ho, hgr, _⟩ := Lib.run_append_own_string w 0 t u ty e i ht hu hi hz h1 h2 (.slice (some ⟨g, 0, none⟩) n cap) n xs hown s hm hb (Nat.zero_le _)
    refine ⟨v', w', hr, ho, hgr, ?_⟩
    have hcs' : cur.size = cap := by simpa using hcs
    by_cases hroom : n + s.size ≤ cap
    · have hr2 := Lib.run_append_room_string (P := P) w t u ty e i ht hu hi h1 g n cap cur hg s hroom (by omega)
      rw [hr] at hr2
      injection hr2 with e1 _
      left; rw [e1]; rfl
    · have hr2 := Lib.run_append_grow_string (P := P) w t u ty e i (.int .u8 0) ht hu hi hz ⟨g, 0, none⟩ n cap xs (by rw [h1]; exact hown.1) (hown.cells (g := g) rfl) s (by omega) (by omega) (by rw [h2]; exact growslice_fits (by omega) (by omega))
      rw [hr] at hr2
      injection hr2 with e1 _
      right; intro b hbb
      rw [e1] at hbb
      have : w.heap.size = b := by simpa [Value.ownBlock] using hbb
      omega
theorem wpList_app_str {P : Program} {w : World} {ops : Array Oper} {rest : List Oper} {o : Oper} {a : Act} {Q : Exit → Act → World → Prop} (hgd : o.guard = none) (x y : Operand) (t u : TypeId)
    (ho : o.op = .call { callee := .builtin .append, args := #[x, y], argTypes := #[t, u] }) {e : TypeId} {i : TypeInfo} (ht : P.underlying t = some (.slice e)) (hu : P.underlying u = some .string) (hi : P.info? e = some i) (hz : i.zero = some (.int .u8 0))
    (h1 : i.size = 1) (h2 : i.bytes = 1) (v : Value) (n : Nat) (xs : List Value) (hx : a.eval x = v) (hown : w.ownsRow 0 e 1 v n xs) (s : ByteArray) (hy : a.eval y = .string s) (hb : n + s.size ≤ 140737488355328)
    (h : ∀ v' w', w'.ownsRow 0 e 1 v' (n + s.size) (xs ++ Lib.strCells s) → w.grownBy w' v.ownBlock → (v'.ownBlock = v.ownBlock ∨ ∀ b, v'.ownBlock = some b → w.heap.size ≤ b) → wpList P ops Q rest (a.put o.dst v') w') : wpList P ops Q (o :: rest) a w := by
  obtain ⟨v', w', hr, k1, k2, k3⟩ := app_str (P := P) w t u o.type e i ht hu hi hz h1 h2 v n xs hown s hb
  refine wpList_plain hgd fun K hK => ?_
  unfold Oper.wp execOp
  simp only [ho, resolve, invoke, builtin, Sem.run_bind, Sem.run_pure, Result.andThen_ok, List.map_toArray, List.map_cons, List.map_nil, hx, hy, hr]
  exact hK _ _ (h v' w' k1 k2 k3)
theorem wadd_nil (s : ByteArray) (w : World) :
    Calls Try.prog 25 #[.pointer none, .string s] w fun e w' => e = .returned (.tuple #[]) ∧ w = w' := by
  go_enter Try.func25, Try.ntmps25
  go_wp2
  go_returns
  exact ⟨rfl, rfl⟩
set_option maxRecDepth 100000 in
set_option maxHeartbeats 1000000 in
theorem wadd_any (F : Nat → Prop) (g k N : Nat) (s : ByteArray) (hs : k / 8 + s.size + 8 ≤ 140737488355328) (w : World) (h : WrF F w g k N) :
    Calls Try.prog 25 #[.pointer (some ⟨g, 0, none⟩), .string s] w fun e w' => e = .returned (.tuple #[]) ∧ WPost F g (upK k + 8 * s.size) (N + leN s.data.toList * 2 ^ upK k) w w' := by
  obtain ⟨i0, hi, hz0, hz1, hz2⟩ := info_parts byteInfo
  have HS := hid hs
  have hal := walign_any F g k N (by omega) w h
  have HAL := hid hal
  have hN : N < 2 ^ upK k := Nat.lt_of_lt_of_le h.choose_spec.2.2.2.1 (Nat.pow_le_pow_right (by decide) (by unfold upK; omega))
  obtain ⟨q, hq⟩ : ∃ q, upK k = 8 * q := ⟨upK k / 8, upK_8 k⟩
  have hq2 : q ≤ k / 8 + 1 := by unfold upK at hq; omega
  have hqs : q + s.size ≤ 140737488355328 := by omega
  rw [hq] at hN ⊢
  have HQ := hid hq
  have HN := hid hN
  clear h hal hq hN hs
  go_enter Try.func25, Try.ntmps25
  go_wp2_with fail
  refine HAL.out.mono ?_
  rintro e w1 ⟨rfl, F1, ⟨dv, hFg, hFd, hB, hN1, hFl⟩, hK1, hF1⟩
  rw [HQ.out, show 8 * q / 8 = q by omega, leN_zero_of HN.out q (Nat.le_refl _)] at hB
  obtain ⟨ao, cap, rfl⟩ := own_slice hB.row
  have HB := hid hB
  have HFd := hid hFd
  have HFl := hid hFl
  have HF1 := hid hF1
  have HK1 := hid hK1
  clear hB hFd hFl hF1 hK1 hN1
  have e0 : w1.cell? ⟨g, 1, none⟩ = some (.slice ao q cap) := HB.out.blk.cell 1
  go_wp2_with (at_builtin; refine wpList_app_str rfl _ _ 41 9 rfl Try.underlying41 Try.underlying9 hi hz0 hz1 hz2 (.slice ao q cap) q (byteCells N q) rfl HB.out.row s rfl (by omega) ?_; intro rd' w5 hown5 hgrow5 hblk5; obtain ⟨ao2, cap2, rfl⟩ := own_slice hown5; have hH5 : Has w5 g 43 #[.int .i64 (8 * q : Nat), .slice ao q cap, .int .u8 (0 : Nat)] := (hgrow5.block g (by have := HB.out.blk.lt; simp; omega) (fun e => HB.out.ne e.symm)).trans HB.out.blk; have y5 : w5.cell? ⟨g, 1, none⟩ = some (.slice ao q cap) := hH5.cell 1; have z5 := hH5.frozen 1; have HG5 := hid hgrow5; have HO5 := hid hown5; have HBL := hid hblk5; have HH5 := hid hH5; clear hgrow5 hown5 hH5 hblk5 e0)
  have hne : (Value.slice ao2 (q + s.size) cap2).ownBlock ≠ some g := own_ne_has HO5.out HH5.out (by decide)
  have hB6 : WrB (w5.setCell ⟨g, 1, none⟩ (.slice ao2 (q + s.size) cap2)) g (8 * q) (.slice ao2 (q + s.size) cap2) 0 (q + s.size) (byteCells (N + leN s.data.toList * 2 ^ (8 * q)) (q + s.size)) := by
    refine ⟨by simpa using HH5.out.put 1 (.slice ao2 (q + s.size) cap2), own_keep ?_ (fun b hb => Below.heap_setCell w5 ⟨g, 1, none⟩ _ b (fun e => hne (by rw [hb, e])))⟩
    rw [byteCells_add N q s HN.out]
    exact HO5.out
  have HB6 := hid hB6
  clear hB6
  have hla := lift_advanceW g (8 * q) (8 * s.size) (by omega) _ HB6.out
  rw [show ((8 * s.size : Nat) : Int) = 8 * (s.size : Int) by omega] at hla
  refine hla.mono ?_
  rintro e w6 ⟨rfl, hB7, hK7⟩
  have HB7 := hid hB7
  have HK7 := hid hK7
  clear hB7 hK7 hla
  go_wp2
  go_returns
  have hz5 := HG5.out.size
  have hz6 : w5.heap.size ≤ w6.heap.size := by have := HK7.out.size; simpa [World.setCell] using this
  have hl := leN_lt s.data.toList
  have hls : s.data.toList.length = s.size := by simp
  rw [hls] at hl
  have hN2 : N + leN s.data.toList * 2 ^ (8 * q) < 2 ^ (8 * q + 8 * s.size) := lay_lt HN.out hl
  have hk8 : (8 * q + 8 * s.size) / 8 = q + s.size := by omega
  have hw1 := HK1.out.size
  refine ⟨rfl, fun i => F1 i ∨ (w.heap.size ≤ i ∧ i < w5.heap.size), ⟨.slice ao2 (q + s.size) cap2, .inl hFg, fun b hb => ?_, ?_, hN2, fun i h => ?_⟩, ?_, fun i h => ?_⟩
  · rcases HBL.out with h | h
    · exact .inl (HFd.out b (by rw [← h]; exact hb))
    · exact .inr ⟨by have := h b hb; omega, own_lt HO5.out hb⟩
  · rw [hk8, leN_zero_of hN2 (q + s.size) (by omega)]
    exact HB7.out
  · rcases h with h | h
    · have := HFl.out i h; omega
    · have := h.2; omega
  · have hF1k : Keeps F w w5 := by
      refine ⟨HG5.out.os.trans HK1.out.os, HG5.out.tape.trans HK1.out.tape, HG5.out.output.trans HK1.out.output, by omega, fun i hi hn => ?_⟩
      refine (HG5.out.block i (by omega) (fun e => ?_)).trans (HK1.out.block i hi hn)
      rcases HF1.out i (HFd.out i e.symm) with h | h
      · exact hn h
      · omega
    have hgF : F g ∨ w.heap.size ≤ g := HF1.out g hFg
    have hk6 := hF1k.setCell (p := ⟨g, 1, none⟩) (u := .slice ao2 (q + s.size) cap2) hgF
    refine ⟨HK7.out.os.trans hk6.os, HK7.out.tape.trans hk6.tape, HK7.out.output.trans hk6.output, by omega, fun i hi hn => ?_⟩
    refine (HK7.out.block i (Nat.lt_of_lt_of_le hi hk6.size) (fun e => ?_)).trans (hk6.block i hi hn)
    rcases hgF with h | h
    · exact hn (by rw [e]; exact h)
    · omega
  · rcases h with h | h
    · exact HF1.out i h
    · exact .inr h.1
end Go.Proofs.Ytfmilakgpocnnaa
