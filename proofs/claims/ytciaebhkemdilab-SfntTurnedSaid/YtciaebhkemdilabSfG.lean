/- sfnt's reader: the tables (contract of the function). -/
import Derived.Test.YtciaebhkemdilabSfE
import Derived.Test.YtciaebhkemdilabSfTI
import Derived.Test.YtciaebhkemdilabRowzg
namespace Go.Proofs.Ytciaebhkemdilab
open Go.RowKit
set_option linter.unusedVariables false
set_option linter.unusedSimpArgs false
/-- What the tables tell: an error. -/
def totE (s : ByteArray) (n : Nat) : Int := if s.size < eAt n then 2 else if tabsE s n ≠ 0 then tabsE s n else if 1073741824 ≤ allN s n then 3 else 0
theorem read_tot {s : ByteArray} (h : leadE s = 0) : readE s = totE s (b2 s 4) := by unfold readE totE; rw [if_neg (by rw [h]; decide)]
theorem addL_nil (lo hi : Int) (x : Int) (h : spB lo hi = true) : addL [] lo hi x = [⟨lo.toNat, hi.toNat, x⟩] := by
  unfold addL
  have hc : clashB [] lo hi = false := by
    have := clash_eq (L := []) (show Rising [] from trivial) lo hi
    rw [this]
    unfold rclashB
    simp
  rw [h, hc]
  rfl
theorem tabKInfo : (Try.prog.info? 35).map (fun i => (i.zero, i.size, i.bytes)) = some (some (.agg #[.string ⟨#[]⟩, .string ⟨#[]⟩]), 2, 32) := by kernel_rfl
theorem make_tabs (N : Nat) (hN : N ≤ 2000) (w : World) : (Instr.makeSlice 23 (.int .i64 N) (.int .i64 N)).run Try.prog w = .ok (.slice (some ⟨w.heap.size, 0, none⟩) N N) (w.alloc (.cells (madeCells #[.string ⟨#[]⟩, .string ⟨#[]⟩] (N * 2)) 35)) := by
  obtain ⟨i0, hinf, hz0, hz1, hz2⟩ := info_parts tabKInfo
  have := run_makeSlice (P := Try.prog) (w := w) 23 35 i0 (.agg #[.string ⟨#[]⟩, .string ⟨#[]⟩]) Try.underlying23 hinf hz0 .i64 .i64 N N (by omega) (by omega) (by rw [hz1]; simp; omega) (by rw [hz2]; omega) (by omega)
  rw [this, hz1]
  simp only [Int.toNat_natCast]
  rfl
/-- The row of tables, the first k of them read. -/
def tabF (s : ByteArray) (k i : Nat) : List Value := if i < k then [.string (tagOf s i), .string (datOf s i)] else [.string ⟨#[]⟩, .string ⟨#[]⟩]
def TabsQ (s : ByteArray) (n : Nat) (w : World) (e : Ending) (w' : World) : Prop :=
  Bw w w' ∧ ((totE s n = 0 ∧ ∃ lb, e = .returned (.tuple #[.slice (some ⟨lb, 0, none⟩) n n, .int .i64 0]) ∧ w.heap.size ≤ lb ∧ RowZ 35 2 w' lb n (tabF s n)) ∨ (totE s n ≠ 0 ∧ e = .returned (.tuple #[.slice none 0 0, .int .i64 (totE s n)])))
theorem entry_at (s : ByteArray) (hs : s.size ≤ 1000000000) (n k : Nat) (hn : n ≤ 1000) (hk : k < n) (h : eAt n ≤ s.size) (w : World) :
    Calls Try.prog 43 #[.agg #[.int .i64 12, .string (s.extract 12 (12 + 16 * n))], .int .i64 (16 * k : Nat)] w fun e w' => e = .returned (.agg #[.string (tagOf s k), .int .u32 (sumOf s k : Nat), .int .i64 (atOf s k : Nat), .int .i64 (lenOf s k : Nat)]) ∧ Bw w w' := by
  unfold eAt at h
  have hz : (s.extract 12 (12 + 16 * n)).size = 16 * n := by simp; omega
  have q := entry_any (s.extract 12 (12 + 16 * n)) (by rw [hz]; unfold lim; omega) 12 (16 * k) (by omega) (by rw [hz]; omega) w
  have e0 : (s.extract 12 (12 + 16 * n)).extract (16 * k) (16 * k + 4) = tagOf s k := by
    rw [ext2 s 12 (12 + 16 * n) _ _ (by omega) (by omega)]
    rfl
  have e1 : ∀ a, a + 4 ≤ 16 → b4 (s.extract 12 (12 + 16 * n)) (16 * k + a) = b4 s (eAt k + a) := fun a ha => by
    show numAt _ _ 4 true = numAt _ _ 4 true
    rw [num_part s 12 (16 * n) (16 * k + a) 4 (by omega) (by omega)]
    unfold eAt
    congr 1
    omega
  rw [e0, e1 4 (by omega), e1 8 (by omega), e1 12 (by omega)] at q
  exact q
theorem set2 {w : World} {lb n k : Nat} {f : Nat → List Value} {x0 x1 : Value} (h : RowZ 35 2 w lb n f) (hk : k < n) (hf : f k = [x0, x1]) (a b : Value) : RowZ 35 2 ((w.setCell ⟨lb, k * 2, none⟩ a).setCell ⟨lb, k * 2 + 1, none⟩ b) lb n (fun i => if i = k then [a, b] else f i) := by
  have h1 := h.put (i := k) (j := 0) hk (by omega) a
  have h2 := h1.put (i := k) (j := 1) hk (by omega) b
  refine h2.congr fun i hi => ?_
  by_cases e : i = k
  · subst e
    rw [if_pos rfl, if_pos rfl, if_pos rfl, hf]
    rfl
  · rw [if_neg e, if_neg e, if_neg e]
theorem tabF_set (s : ByteArray) (k : Nat) : (fun i => if i = k then [Value.string (tagOf s k), .string (datOf s k)] else tabF s k i) = tabF s (k + 1) := by
  funext i
  unfold tabF
  by_cases e : i = k
  · subst e; rw [if_pos rfl, if_pos (Nat.lt_succ_self _)]
  · rw [if_neg e]
    by_cases h : i < k
    · rw [if_pos h, if_pos (by omega)]
    · rw [if_neg h, if_neg (by omega)]
theorem tab0_len {s : ByteArray} {n i : Nat} (h : tabE s n i = 0) : lenOf s i ≤ 16777216 := by
  cases hf : formB s i with
  | false => rw [tab_form hf] at h; cases h
  | true =>
    unfold formB at hf
    exact of_decide_eq_true (Bool.and_eq_true_iff.1 hf).2
set_option maxRecDepth 100000 in
set_option maxHeartbeats 16000000 in
theorem tables_any (s : ByteArray) (hs : s.size ≤ 1000000000) (n : Nat) (h1 : 1 ≤ n) (hn : n ≤ 1000) (w : World) :
    Calls Try.prog 25 #[.agg #[.int .i64 0, .string s], .int .i64 n] w (TabsQ s n w) := by
  have hlm : s.size ≤ lim := by unfold lim; omega
  have HBD := hid (fun e w' (E : Int) (hb : Bw w w') (h0 : totE s n = E) (h1 : E ≠ 0) (he : e = .returned (.tuple #[.slice none 0 0, .int .i64 E])) => (show TabsQ s n w e w' from ⟨hb, .inr ⟨by rw [h0]; exact h1, by rw [h0]; exact he⟩⟩))
  have HGD := hid (fun e w' lb (hb : Bw w w') (h0 : totE s n = 0) (he : e = .returned (.tuple #[.slice (some ⟨lb, 0, none⟩) n n, .int .i64 0])) (h1 : w.heap.size ≤ lb) (h2 : RowZ 35 2 w' lb n (tabF s n)) => (show TabsQ s n w e w' from ⟨hb, .inl ⟨h0, lb, he, h1, h2⟩⟩))
  have v1 : IntKind.i64.wrap ((n : Int) * 16) = ((16 * n : Nat) : Int) := by rw [IntWalk.i64_in _ (by omega)]; omega
  obtain ⟨q, hq⟩ : ∃ q, 16 * n = q := ⟨_, rfl⟩
  have HQ := hid hq
  have hqn : q ≤ 16000 := by omega
  rw [hq] at v1
  have HW1 := hid ((Bw.refl w).alloc (.cells #[.int .i64 0, .string s] 57))
  have HA1 := hid (Has.new w 57 #[.int .i64 0, .string s])
  obtain ⟨wb, hwb⟩ : ∃ x, w.heap.size = x := ⟨_, rfl⟩
  have HWB := hid hwb
  rw [hwb] at HA1
  by_cases hc : s.size < 12 + q
  · have HE := hid (show totE s n = 2 from by unfold totE eAt; rw [if_pos (by omega)])
    have HSB := hid (fun W => (show Calls Try.prog 36 #[.agg #[.int .i64 0, .string s], .int .i64 12, .int .i64 q] W fun e w' => e = .returned (.tuple #[.agg #[.int .i64 0, .string ⟨#[]⟩], .int .i64 2]) ∧ Bw W w' from sub_out 0 (by omega) s hlm 12 q hc W))
    clear hc hq
    go_enter Try.func25, Try.ntmps25
    go_wp2_with fail
    refine (HSB.out _).mono ?_
    rintro e w2 ⟨rfl, hb⟩
    have HB2 := hid ((HW1.out.trans hb).alloc (.cells #[.int .i64 0, .string ⟨#[]⟩] 57))
    clear hb
    go_wp2
    go_returns
    exact HBD.out _ _ 2 HB2.out HE.out (by decide) rfl
  have HC := hid (show ¬ s.size < eAt n from by unfold eAt; omega)
  have HTO := hid (show totE s n = if tabsE s n ≠ 0 then tabsE s n else if 1073741824 ≤ allN s n then 3 else 0 from by unfold totE; rw [if_neg HC.out])
  obtain ⟨D, hD⟩ : ∃ D, s.extract 12 (12 + q) = D := ⟨_, rfl⟩
  have HSB := hid (fun W => (show Calls Try.prog 36 #[.agg #[.int .i64 0, .string s], .int .i64 12, .int .i64 q] W fun e w' => e = .returned (.tuple #[.agg #[.int .i64 12, .string D], .int .i64 0]) ∧ Bw W w' from by
    have := sub_in 0 (by omega) s hlm 12 q (by omega) W
    rw [hD] at this
    simpa using this))
  have hDz : D.size = q := by rw [← hD]; simp; omega
  have hDl : D.size ≤ lim := by rw [hDz]; unfold lim; omega
  have HLN := hid (fun W => len_any 12 D hDl W)
  rw [hDz] at HLN
  have HEN := hid (fun k (hk : k < n) W => entry_at s hs n k hn hk (by have := HC.out; omega) W)
  rw [hq, hD] at HEN
  have HMK := hid (fun W => make_tabs n (by omega) W)
  have v2 : IntKind.i64.wrap (12 + (q : Int)) = ((12 + q : Nat) : Int) := by rw [IntWalk.i64_in _ (by omega)]; omega
  obtain ⟨r, hr⟩ : ∃ r, 12 + q = r := ⟨_, rfl⟩
  have HR := hid hr
  have hr9 : r ≤ 17000 := by omega
  rw [hr] at v2
  have hr0 : 0 < r := by omega
  clear hc hq hD hr hDl
  go_enter Try.func25, Try.ntmps25
  go_wp2_with fail
  refine (HSB.out _).mono ?_
  rintro e w2 ⟨rfl, hb⟩
  have HB2 := hid ((HW1.out.trans hb).alloc (.cells #[.int .i64 12, .string D] 57))
  have HA2 := hid ((hb.has HA1.out).alloc (.cells #[.int .i64 12, .string D] 57))
  have HD2 := hid (Has.new w2 57 #[.int .i64 12, .string D])
  obtain ⟨db, hdb⟩ : ∃ x, w2.heap.size = x := ⟨_, rfl⟩
  rw [hdb] at HD2
  have HDB := hid (show wb < db from by rw [← hdb]; exact (hb.has HA1.out).lt)
  clear hb hwb HSB
  go_upto_region 4 with fail
  generalize w2.alloc (.cells #[.int .i64 12, .string D] 57) = w3 at *
  clear hdb
  have HB0 := hid (show Bw w3 w3.drew from (Bw.refl w3).drewN 1)
  have HS := hid (fun W (h : Bw w3 W) => (show W.cell? ⟨wb, 0, none⟩ = some (.int .i64 0) ∧ W.cell? ⟨wb, 1, none⟩ = some (.string s) from ⟨(h.has HA2.out).cell 0, (h.has HA2.out).cell 1⟩))
  go_region_held3 (fun W => W.cell? ⟨wb, 0, none⟩ = some (.int .i64 0) ∧ W.cell? ⟨wb, 1, none⟩ = some (.string s))
    (first | (with_reducible exact HS.out _ HB0.out) | (with_reducible exact HS.out _ HB4.out) | (with_reducible exact HS.out _ (Bw.alloc HB4.out _)))
    (first | (go_at_call 39; refine (new_has _).mono ?_; rintro e w4 ⟨g, rfl, hg4, hgl, hb4⟩; have HB4 := hid (HB0.out.trans hb4); have HG4 := hid hg4; have HGL := hid hgl; clear hg4 hgl hb4))
  have HR5 := hid (Has.new w4 86 #[.int .i64 0, .string s, .pointer (some ⟨g, 0, none⟩), .string ⟨#[]⟩, .int .i64 0])
  have HG5 := hid (HG4.out.alloc (.cells #[.int .i64 0, .string s, .pointer (some ⟨g, 0, none⟩), .string ⟨#[]⟩, .int .i64 0] 86))
  have HA5 := hid ((HB4.out.has HA2.out).alloc (.cells #[.int .i64 0, .string s, .pointer (some ⟨g, 0, none⟩), .string ⟨#[]⟩, .int .i64 0] 86))
  have HD5 := hid ((HB4.out.has HD2.out).alloc (.cells #[.int .i64 0, .string s, .pointer (some ⟨g, 0, none⟩), .string ⟨#[]⟩, .int .i64 0] 86))
  have HB5 := hid ((HB2.out.trans HB4.out).alloc (.cells #[.int .i64 0, .string s, .pointer (some ⟨g, 0, none⟩), .string ⟨#[]⟩, .int .i64 0] 86))
  obtain ⟨rb, hrb⟩ : ∃ x, w4.heap.size = x := ⟨_, rfl⟩
  rw [hrb] at HR5
  have HGR := hid (show db < g ∧ g < rb from ⟨by have := HGL.out; have := HD2.out.lt; simp at *; omega, by rw [← hrb]; exact HG4.out.lt⟩)
  have HOT := hid (show ¬ Oth wb [wb, db, rb] wb ∧ ¬ Oth wb [wb, db, rb] db ∧ ¬ Oth wb [wb, db, rb] rb from ⟨fun h => h.2 (by simp), fun h => h.2 (by simp), fun h => h.2 (by simp)⟩)
  have HP5 := hid (show SetP (Oth wb [wb, db, rb]) (w4.alloc (.cells #[.int .i64 0, .string s, .pointer (some ⟨g, 0, none⟩), .string ⟨#[]⟩, .int .i64 0] 86)) g [] from ⟨_, HG5.out, ⟨by have := HGR.out; have := HDB.out; omega, fun hm => by
    have := HGR.out; have := HDB.out
    simp at hm; omega⟩, .inl ⟨rfl, rfl⟩⟩)
  go_upto_region 5 with fail
  rw [hrb]
  generalize w4.alloc (.cells #[.int .i64 0, .string s, .pointer (some ⟨g, 0, none⟩), .string ⟨#[]⟩, .int .i64 0] 86) = w5 at *
  clear hrb HG4 HG5 HS HB0 HB4 HGL HB2 HA2 HD2
  have d0 : w5.cell? ⟨db, 0, none⟩ = some (.int .i64 12) := HD5.out.cell 0
  have d1 : w5.cell? ⟨db, 1, none⟩ = some (.string D) := HD5.out.cell 1
  have HCL := hid (fun W (h : Bw w5 W) => (show Calls Try.prog 40 #[.pointer (some ⟨rb, 0, none⟩), .int .i64 0, .int .i64 r] W fun e w' => (∃ E, e = .returned (.int .i64 E)) ∧ SetP (Oth wb [wb, db, rb]) w' g (spnL s n 0) ∧ Keeps (Oth wb [wb, db, rb]) W w' from by
    have hz5 := Below.size h
    have hlt := HR5.out.lt
    have q := claim_any wb [wb, db, rb] rb g 0 0 s ⟨#[]⟩ [] trivial (Nat.zero_le _) 0 r (by omega) 0 W (by have := HGR.out; have := HDB.out; omega) (fun j hm => by
      have := HGR.out; have := HDB.out
      simp at hm; omega) (h.has HR5.out) (HP5.out.bw h)
    refine q.mono ?_
    rintro e w' ⟨q1, q2, q3⟩
    refine ⟨⟨_, q1⟩, ?_, q3⟩
    rw [if_neg (by omega), addL_nil _ _ _ (by unfold spB; exact decide_eq_true ⟨by omega, by omega, by omega⟩)] at q2
    have e : spnL s n 0 = [⟨((0 : Nat) : Int).toNat, ((0 + r : Nat) : Int).toNat, 0⟩] := by
      show [(⟨0, 12 + 16 * n, 0⟩ : PartR)] = _
      rw [HQ.out, HR.out]
      simp
    rw [e]
    exact q2))
  go_wp2_with fail
  refine (HLN.out _).mono ?_
  rintro e w6 ⟨rfl, hb6⟩
  have HB6 := hid hb6
  clear hb6 d0 d1
  go_wp2_with fail
  refine (HCL.out _ HB6.out).mono ?_
  rintro e w7 ⟨⟨E0, rfl⟩, hp7, hk7⟩
  have HP7 := hid hp7
  have HR7 := hid (hk7.has (HB6.out.has HR5.out) HOT.out.2.2)
  have HD7 := hid (hk7.has (HB6.out.has HD5.out) HOT.out.2.1)
  have HB7 := hid (show Bw w w7 from Below.trans (HB5.out.trans HB6.out) (hk7.below (Below.size (HB5.out.trans HB6.out)) fun j h => by rw [HWB.out]; exact h.1))
  clear hp7 hk7 HP5 HR5 HA5 HD5 HB5 HCL HB6
  have hmk := HMK.out w7
  go_upto_region 7 with fail
  have HP8 := hid (HP7.out.bw ((Bw.refl w7).alloc (.cells (madeCells #[.string ⟨#[]⟩, .string ⟨#[]⟩] (n * 2)) 35)))
  have HR8 := hid (HR7.out.alloc (.cells (madeCells #[.string ⟨#[]⟩, .string ⟨#[]⟩] (n * 2)) 35))
  have HD8 := hid (HD7.out.alloc (.cells (madeCells #[.string ⟨#[]⟩, .string ⟨#[]⟩] (n * 2)) 35))
  have HB8 := hid (HB7.out.alloc (.cells (madeCells #[.string ⟨#[]⟩, .string ⟨#[]⟩] (n * 2)) 35))
  have HZ8 := hid (show RowZ 35 2 (w7.alloc (.cells (madeCells #[.string ⟨#[]⟩, .string ⟨#[]⟩] (n * 2)) 35)) w7.heap.size n (tabF s 0) from (RowZ.made w7 35 #[.string ⟨#[]⟩, .string ⟨#[]⟩] n).congr fun i hi => by unfold tabF; rw [if_neg (Nat.not_lt_zero i)])
  obtain ⟨lb, hlb⟩ : ∃ x, w7.heap.size = x := ⟨_, rfl⟩
  have HLB := hid (show rb < lb from by rw [← hlb]; exact HR7.out.lt)
  have HSL := hid (show SetP (Oth wb [lb, wb, db, rb]) (w7.alloc (.cells (madeCells #[.string ⟨#[]⟩, .string ⟨#[]⟩] (n * 2)) 35)) g (spnL s n 0) from (HP7.out.mono fun j hj h => ⟨h.1, fun hm => by
    rcases List.mem_cons.1 hm with rfl | hm
    · omega
    · exact h.2 hm⟩).bw ((Bw.refl w7).alloc _))
  rw [hlb] at HZ8
  go_wp2_with fail
  rw [hlb]
  generalize w7.alloc (.cells (madeCells #[.string ⟨#[]⟩, .string ⟨#[]⟩] (n * 2)) 35) = w8 at *
  clear hmk hlb HP7 HR7 HD7 HB7 HP8
  have HNL := hid (show ¬ (Oth wb [lb, wb, db, rb] db ∨ db = rb) ∧ ¬ (Oth wb [lb, wb, db, rb] lb ∨ lb = rb) from ⟨fun h => by
    rcases h with h | h
    · exact h.2 (by simp)
    · have := HGR.out; omega, fun h => by
    rcases h with h | h
    · exact h.2 (by simp)
    · have := HLB.out; omega⟩)
  go_loopw [34] (fun vi wr => ∃ k : Nat, k ≤ n ∧ vi = .int .i64 k ∧ Bw w wr ∧ Has wr rb 86 #[.int .i64 0, .string s, .pointer (some ⟨g, 0, none⟩), .string (prevT s k), .int .i64 (allN s k : Nat)] ∧ SetP (Oth wb [lb, wb, db, rb]) wr g (spnL s n k) ∧ Has wr db 57 #[.int .i64 12, .string D] ∧ RowZ 35 2 wr lb n (tabF s k) ∧ Hid (∀ i, i < k → tabE s n i = 0)) (fun vi _ => n - (intOf vi).toNat)
  case atStart => exact ⟨0, Nat.zero_le _, rfl, HB8.out, HR8.out, HSL.out, HD8.out, HZ8.out, hid (fun i hi => absurd hi (Nat.not_lt_zero i))⟩
  case round =>
    rename World => wr
    obtain ⟨k, hk, rfl, hb, hr, hp, hd, hz, HA⟩ := hrel
    have HB := hid hb
    have HRK := hid hr
    have HPK := hid hp
    have HDK := hid hd
    have HZK := hid hz
    clear hb hr hp hd hz
    have HAL := hid (show allN s k ≤ 100000000000 from by
      have := allN_le (s := s) (n := k) (fun i hi => tab0_len (HA.out i hi)) k (Nat.le_refl _)
      omega)
    by_cases hlt : k < n
    · have hlt1 : (k : Int) < (n : Int) := by omega
      have HLT := hid hlt
      have HE1 := hid (HEN.out k hlt)
      obtain ⟨kk, hkk⟩ : ∃ x, 16 * k = x := ⟨_, rfl⟩
      have v3 : IntKind.i64.wrap ((k : Int) * 16) = (kk : Int) := by rw [IntWalk.i64_in _ (by omega)]; omega
      rw [hkk] at HE1
      have d0 : wr.cell? ⟨db, 0, none⟩ = some (.int .i64 12) := HDK.out.cell 0
      have d1 : wr.cell? ⟨db, 1, none⟩ = some (.string D) := HDK.out.cell 1
      have HTA := hid (fun W (h : Bw wr W) => table_any s hs n k hn hlt wb [lb, wb, db, rb] rb g W (by have := (h.has HRK.out).lt; have := HGR.out; have := HDB.out; omega) (fun j hm => by
        have := (HZK.out.bw h).lt; have := HLB.out; have := HGR.out; have := HDB.out
        simp at hm; omega) (by simp) HAL.out (h.has HRK.out) (HPK.out.bw h))
      clear hkk hlt
      go_wp2_with fail
      refine (HE1.out _).mono ?_
      rintro e wa ⟨rfl, hba⟩
      have HBA := hid hba
      clear hba d0 d1
      go_wp2_with fail
      refine (HTA.out _ HBA.out).mono ?_
      rintro e wt ⟨hkt, hqt⟩
      have HKT := hid hkt
      have HZT := hid ((HZK.out.bw HBA.out).keeps hkt HNL.out.2)
      have HDT := hid (hkt.has (HBA.out.has HDK.out) HNL.out.1)
      have HBT := hid (show Bw w wt from Below.trans (HB.out.trans HBA.out) (hkt.below (Below.size (HB.out.trans HBA.out)) fun j h => by
        rw [HWB.out]
        rcases h with h | h
        · exact h.1
        · rw [h]; have := HGR.out; have := HDB.out; omega))
      clear hkt HTA HE1
      have x0 : wt.cell? ⟨lb, k * 2, none⟩ = some (.string ⟨#[]⟩) := by
        have := HZT.out.cell (i := k) (j := 0) HLT.out (by omega)
        rw [show tabF s k k = [.string ⟨#[]⟩, .string ⟨#[]⟩] from if_neg (Nat.lt_irrefl _)] at this
        exact this
      have x1 : wt.cell? ⟨lb, k * 2 + 1, none⟩ = some (.string ⟨#[]⟩) := by
        have := HZT.out.cell (i := k) (j := 1) HLT.out (by omega)
        rw [show tabF s k k = [.string ⟨#[]⟩, .string ⟨#[]⟩] from if_neg (Nat.lt_irrefl _)] at this
        exact this
      have y0 := HZT.out.frozen (k * 2)
      have y1 := HZT.out.frozen (k * 2 + 1)
      rcases hqt with ⟨h0, rfl, hrt, hpt⟩ | ⟨h0, rfl⟩
      · have H0 := hid h0
        have HRT := hid hrt
        have HPT := hid hpt
        clear h0 hrt hpt
        have HZN := hid (show RowZ 35 2 ((wt.setCell ⟨lb, k * 2, none⟩ (.string (tagOf s k))).setCell ⟨lb, k * 2 + 1, none⟩ (.string (datOf s k))) lb n (tabF s (k + 1)) from by
          rw [← tabF_set s k]
          exact set2 HZT.out HLT.out (if_neg (Nat.lt_irrefl _)) _ _)
        have HBN := hid (show Bw w ((wt.setCell ⟨lb, k * 2, none⟩ (.string (tagOf s k))).setCell ⟨lb, k * 2 + 1, none⟩ (.string (datOf s k))) from Below.setCell (p := ⟨lb, k * 2 + 1, none⟩) (Below.setCell (p := ⟨lb, k * 2, none⟩) HBT.out (by rw [HWB.out]; show wb ≤ lb; have := HLB.out; have := HGR.out; have := HDB.out; omega) _) (by rw [HWB.out]; show wb ≤ lb; have := HLB.out; have := HGR.out; have := HDB.out; omega) _)
        have HRN := hid ((HRT.out.far (p := ⟨lb, k * 2, none⟩) (show rb ≠ lb by have := HLB.out; omega) (.string (tagOf s k))).far (p := ⟨lb, k * 2 + 1, none⟩) (show rb ≠ lb by have := HLB.out; omega) (.string (datOf s k)))
        have HDN := hid ((HDT.out.far (p := ⟨lb, k * 2, none⟩) (show db ≠ lb by have := HLB.out; have := HGR.out; omega) (.string (tagOf s k))).far (p := ⟨lb, k * 2 + 1, none⟩) (show db ≠ lb by have := HLB.out; have := HGR.out; omega) (.string (datOf s k)))
        have HPN := hid (show SetP (Oth wb [lb, wb, db, rb]) ((wt.setCell ⟨lb, k * 2, none⟩ (.string (tagOf s k))).setCell ⟨lb, k * 2 + 1, none⟩ (.string (datOf s k))) g (spnL s n (k + 1)) from HPT.out.keep (F := fun j => j = lb) (Keeps.setCell (F := fun j => j = lb) (Keeps.setCell (F := fun j => j = lb) (Keeps.refl _ wt) (p := ⟨lb, k * 2, none⟩) (.inl rfl) _) (p := ⟨lb, k * 2 + 1, none⟩) (.inl rfl) _) fun j hj e => hj.2 (by rw [e]; simp))
        go_wp2
        exact ⟨⟨k + 1, by have := HLT.out; omega, by go_num, HBN.out, HRN.out, HPN.out, HDN.out, HZN.out, hid (fun i hi => by
          by_cases e : i = k
          · rw [e]; exact H0.out
          · exact HA.out i (by omega))⟩, by have := HLT.out; simp [intOf]; omega⟩
      · obtain ⟨E, hE⟩ : ∃ E, tabE s n k = E := ⟨_, rfl⟩
        have HE := hid (show tabsE s n = E from by
          unfold tabsE
          rw [first_is (f := tabE s n) (n := n) (i := 0) (k := k) (Nat.zero_le _) (by have := HLT.out; omega) (fun j _ h2 => HA.out j h2) h0]
          exact hE)
        rw [hE] at h0 ⊢
        have HTE := hid (show totE s n = E from by rw [HTO.out, HE.out, if_pos h0])
        have H0 := hid h0
        have t0 : (E != 0) = true := by rw [bne_iff_ne]; exact h0
        have HBN := hid (show Bw w ((wt.setCell ⟨lb, k * 2, none⟩ (.string ⟨#[]⟩)).setCell ⟨lb, k * 2 + 1, none⟩ (.string ⟨#[]⟩)) from Below.setCell (p := ⟨lb, k * 2 + 1, none⟩) (Below.setCell (p := ⟨lb, k * 2, none⟩) HBT.out (by rw [HWB.out]; show wb ≤ lb; have := HLB.out; have := HGR.out; have := HDB.out; omega) _) (by rw [HWB.out]; show wb ≤ lb; have := HLB.out; have := HGR.out; have := HDB.out; omega) _)
        clear hE h0
        go_wp2
        go_returns
        exact HBD.out _ _ E HBN.out HTE.out H0.out rfl
    · obtain rfl : k = n := by omega
      have r4 : wr.cell? ⟨rb, 4, none⟩ = some (.int .i64 (allN s k : Nat)) := HRK.out.cell 4
      have HE := hid (show tabsE s k = 0 from first_all fun j _ h => HA.out j (by omega))
      obtain ⟨al, hal⟩ : ∃ x, allN s k = x := ⟨_, rfl⟩
      rw [hal] at r4 HTO HAL
      have hal9 := HAL.out
      clear hal
      by_cases hm : (1073741823 : Int) < (al : Int)
      · have HTE := hid (show totE s k = 3 from by rw [HTO.out, if_neg (by rw [HE.out]; decide), if_pos (by omega)])
        go_wp2
        go_returns
        exact HBD.out _ _ 3 HB.out HTE.out (by decide) rfl
      · have HTE := hid (show totE s k = 0 from by rw [HTO.out, if_neg (by rw [HE.out]; decide), if_neg (by omega)])
        go_wp2
        go_returns
        exact HGD.out _ _ lb HB.out HTE.out rfl (by rw [HWB.out]; have := HLB.out; have := HGR.out; have := HDB.out; omega) HZK.out
end Go.Proofs.Ytciaebhkemdilab
