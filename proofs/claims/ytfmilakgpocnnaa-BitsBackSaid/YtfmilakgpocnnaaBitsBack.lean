/- BitsBack returns true for every list of ops and every text, and changes nothing that was there; no condition. -/
import Derived.Test.YtfmilakgpocnnaaBackM
import Derived.Test.YtfmilakgpocnnaaBitL
import Derived.Test.YtfmilakgpocnnaaBitXB
import Derived.StillTailTactics
import Derived.SizedLaws
import Derived.ProofKit
import Derived.OpenShut
import Derived.ShutString
import Derived.ChangeOld
namespace Go.Proofs.Ytfmilakgpocnnaa.bitsBack
open Go.RowKit Go.ChangeShapes Go.WideShapes Go.ChangeAt
set_option linter.unusedVariables false
open Go.WideMaps Go.WideElems
open Go.ChangeMaps (open_string shut_string)
theorem str_le {s : ByteArray} (h : s.data.toList.length ≤ reachBytes) : s.size ≤ 140737488351232 := by
  have h4 : s.size = s.data.toList.length := by simp
  have h5 : reachBytes = 140737488351232 := by decide
  omega
theorem opInfo : (Try.prog.info? 30).map (fun i => (i.zero, i.size, i.bytes)) = some (some (.agg #[.int .i64 0, .int .u32 0, .int .i64 0, .string ⟨#[]⟩]), 4, 40) := by kernel_rfl
theorem own_four (w : World) (t : TypeId) (o : OpR) : ∀ j u, (opCell o)[j]? = some u → (w.alloc (.cells (opCell o).toArray t)).cell? ((⟨w.heap.size, 0, none⟩ : Addr).add j) = some u := by
  intro j u hj
  have hn := Has.new w t (opCell o).toArray
  have ha : (Addr.add ⟨w.heap.size, 0, none⟩ j) = ⟨w.heap.size, j, none⟩ := by
    unfold Addr.add
    by_cases hz : j = 0 <;> simp [hz]
  rw [ha, hn.cell j]
  simpa using hj
theorem put_yes (F : Nat → Prop) (g k N : Nat) (hk : k ≤ 1125899906842592) (v : Nat) (hv : v < 4294967296) (n : Int) (hp : putB v n = true) (w : World) (h : WrF F w g k N) :
    Calls Try.prog 27 #[.pointer (some ⟨g, 0, none⟩), .int .u32 v, .int .i64 n] w fun e w' => e = .returned (.int .i64 0) ∧ WPost F g (k + n.toNat) (N + v * 2 ^ k) w w' := by
  have := put_any F g k N hk v hv n w h
  unfold PutPost putE putK putN at this
  simpa [hp] using this
theorem put_no (F : Nat → Prop) (g k N : Nat) (hk : k ≤ 1125899906842592) (v : Nat) (hv : v < 4294967296) (n : Int) (hp : putB v n = false) (w : World) (h : WrF F w g k N) :
    Calls Try.prog 27 #[.pointer (some ⟨g, 0, none⟩), .int .u32 v, .int .i64 n] w fun e w' => e = .returned (.int .i64 1) ∧ WPost F g k N w w' := by
  have := put_any F g k N hk v hv n w h
  unfold PutPost putE putK putN at this
  simpa [hp] using this
/-- What is kept, and what was written. -/
structure Inv (w : World) (F : Nat → Prop) (kl : List OpR) (kv : Value) (wr : World) : Prop where
  ok : OkOps kl
  wrf : WrF F wr w.heap.size (layKN kl).1 (layKN kl).2
  row : wr.ownsRow 0 30 4 kv kl.length (opCells kl)
  apart : ∀ b, kv.ownBlock = some b → ¬ F b ∧ w.heap.size ≤ b
  new : ∀ i, F i → w.heap.size ≤ i
  bel : Below w.heap.size w wr
theorem Inv.drew {w wr : World} {F : Nat → Prop} {kl : List OpR} {kv : Value} (h : Inv w F kl kv wr) : Inv w F kl kv wr.drew :=
  ⟨h.ok, h.wrf.keep ((Keeps.refl (fun _ => False) wr).drewN 1) (fun _ _ h => h), ((Keeps.refl (fun _ => False) wr).drewN 1).own h.row (fun _ _ h => h), h.apart, h.new, h.bel.drew⟩
/-- The whole text's number, and what is read of it. -/
def wholeN (kl : List OpR) (q : Nat) (s : ByteArray) : Nat := (layKN kl).2 + leN s.data.toList * 2 ^ (8 * q)
theorem whole_lt (kl : List OpR) (h : OkOps kl) (q : Nat) (hq : (layKN kl).1 ≤ 8 * q) (s : ByteArray) : wholeN kl q s < 2 ^ (8 * (q + s.size)) := by
  have h1 : (layKN kl).2 < 2 ^ (8 * q) := Nat.lt_of_lt_of_le (lay_facts kl h).1 (Nat.pow_le_pow_right (by decide) hq)
  have h2 := leN_lt s.data.toList
  have h3 : s.data.toList.length = s.size := by simp
  rw [h3] at h2
  rw [Nat.mul_add]
  exact lay_lt h1 h2
theorem whole_mod (kl : List OpR) (h : OkOps kl) (q : Nat) (hq : (layKN kl).1 ≤ 8 * q) (s : ByteArray) : wholeN kl q s % 2 ^ (layKN kl).1 = (layKN kl).2 := by
  unfold wholeN
  have e : 2 ^ (8 * q) = 2 ^ (layKN kl).1 * 2 ^ (8 * q - (layKN kl).1) := by rw [← Nat.pow_add]; congr 1; omega
  rw [e, Nat.mul_left_comm, Nat.add_mul_mod_self_left, Nat.mod_eq_of_lt (lay_facts kl h).1]
theorem read_at (kl : List OpR) (h : OkOps kl) (q : Nat) (hq : (layKN kl).1 ≤ 8 * q) (s : ByteArray) (i : Nat) (hi : i < kl.length) :
    bitsV (strN (wholeN kl q s) (q + s.size)) (layKN (kl.take i)).1 kl[i].n = kl[i].v ∧ bitsE (strN (wholeN kl q s) (q + s.size)) (layKN (kl.take i)).1 kl[i].n = 0 ∧ bitsK (strN (wholeN kl q s) (q + s.size)) (layKN (kl.take i)).1 kl[i].n = (layKN (kl.take (i + 1))).1 := by
  have e0 : kl.take (i + 1) = kl.take i ++ [kl[i]] := List.take_succ_eq_append_getElem hi
  have e1 : (kl.take i ++ [kl[i]]) ++ kl.drop (i + 1) = kl := by rw [← e0]; exact List.take_append_drop _ _
  have hok := h
  rw [← e1] at hok
  have hw := whole_mod kl h q hq s
  have hb := back_bits (kl.take i) (kl.drop (i + 1)) kl[i] (wholeN kl q s) hok (by rw [e1]; exact hw)
  obtain ⟨p1, p2, p3⟩ := putB_facts (h kl[i] (List.getElem_mem hi)).1
  have hl2 := (lay_low (kl.take i ++ [kl[i]]) (kl.drop (i + 1)) hok).2
  rw [e1] at hl2
  have e2 : (layKN (kl.take (i + 1))).1 = (layKN (kl.take i)).1 + kl[i].n.toNat := by rw [e0, layKN_snoc]
  rw [e0.symm] at hl2
  obtain ⟨m, hm⟩ := Int.eq_ofNat_of_zero_le p1
  rw [hm] at p2 hb e2 ⊢
  simp only [Int.toNat_natCast] at hb e2
  obtain ⟨g1, g2, g3⟩ := bits_good m (by omega) (strN (wholeN kl q s) (q + s.size)) (layKN (kl.take i)).1 (by rw [strN_size]; omega)
  rw [g1, g2, g3, bv_str _ _ _ _ (whole_lt kl h q hq s), e2]
  exact ⟨hb, rfl, rfl⟩
set_option maxRecDepth 100000 in
set_option maxHeartbeats 4000000 in
theorem walk (a : Option Addr) (len cap : Nat) (hlen : len ≤ 9223372036854775807) (l : List OpR) (hll : Hid (l.length = len)) (s : ByteArray) (hs : s.size ≤ 140737488351232) (w : World) (hops : OpsAt w a l) :
    Calls Try.prog 5 #[.slice a len cap, .string s] w fun e w' => e = .returned (.bool true) ∧ Bw w w' := by
  obtain ⟨i0, hi, hz0, hz1, hz2⟩ := info_parts opInfo
  have HOPS := hid hops
  clear hops
  go_enter Try.func5, Try.ntmps5
  go_wp2
  go_loopw [6, 7] (fun kv i wr => ∃ j : Nat, ∃ kl : List OpR, ∃ F : Nat → Prop, j ≤ len ∧ j ≤ 60 ∧ i = .int .i64 j ∧ kl.length ≤ j ∧ Inv w F kl kv wr) (fun _ i _ => len - (intOf i).toNat)
  case atStart =>
    exact ⟨0, [], (· = w.heap.size), Nat.zero_le _, by omega, rfl, by simp, ⟨fun o h => by simp at h, WrF.fresh (Has.new w _ _), ⟨rfl, .inl ⟨rfl, rfl⟩⟩, fun b h => by simp [Value.ownBlock] at h, fun i h => Nat.le_of_eq h.symm, (Below.refl _ w).alloc (Nat.le_refl _) _⟩⟩
  case round =>
    rename_i wr
    obtain ⟨j, kl, F, hj, hj60, rfl, hkl, hI⟩ := hrel
    obtain ⟨ao, cap2, rfl⟩ := own_slice hI.row
    have HI := hid hI
    have hf := lay_facts kl hI.ok
    have HF := hid hf
    clear hI hf
    by_cases hlt : j < len ∧ j < 60
    · obtain ⟨hl1, hl2⟩ := hlt
      obtain ⟨b, off, rfl, hb, c0, c1, c2, c3, hv⟩ := HOPS.out.below HI.out.bel j (by rw [hll.out]; exact hl1)
      obtain ⟨d, v, n, t, hx⟩ : ∃ d v n t, l[j]'(by rw [hll.out]; exact hl1) = ⟨d, v, n, t⟩ := ⟨_, _, _, _, rfl⟩
      rw [hx] at c0 c1 c2 c3 hv
      have HXX := hid hx
      have hv : v < 4294967296 := hv
      clear hx c0 c3
      go_wp2_with fail
      refine wp_region_still_tail 10 (by kernel_rfl) (by kernel_rfl) ?_
      simp only [List.take_succ_cons, List.take_zero, List.drop_succ_cons, List.drop_zero]
      repeat still_step
      refine wpStill_nil ?_
      change wpList _ _ _ _ _ wr.drew
      have hI2 := HI.out.drew
      generalize wr.drew = W1 at *
      have HI2 := hid hI2
      clear hI2
      clear c1 c2
      have hk32 : (layKN kl).1 ≤ 1125899906842592 := by have := HF.out.2; omega
      cases hp : putB v n with
      | false =>
        have HP := hid hp
        clear hp
        go_wp2_with fail
        refine (put_no F w.heap.size _ _ hk32 v hv n HP.out W1 HI2.out.wrf).mono ?_
        rintro e w2 ⟨rfl, F2, hw2, hk2, hf2⟩
        have HW2 := hid hw2
        have HK2 := hid hk2
        have HF2 := hid hf2
        clear hw2 hk2 hf2
        go_wp2
        go_roundw
        case rel =>
          refine ⟨j + 1, kl, F2, by omega, by omega, by go_num, by omega, ⟨HI2.out.ok, HW2.out, HK2.out.own HI2.out.row (fun b hb => (HI2.out.apart b hb).1), fun b hb => ⟨fun h => ?_, (HI2.out.apart b hb).2⟩, fun i h => ?_, HI2.out.bel.trans (HK2.out.below (by have := HI2.out.bel.size; omega) HI2.out.new)⟩⟩
          · rcases HF2.out b h with h | h
            · exact (HI2.out.apart b hb).1 h
            · have := own_lt HI2.out.row hb; omega
          · rcases HF2.out i h with h | h
            · exact HI2.out.new i h
            · have := HI2.out.bel.size; omega
        case measure => simp [intOf]; omega
      | true =>
        have HP := hid hp
        clear hp
        go_wp2_with fail
        refine (put_yes F w.heap.size _ _ hk32 v hv n HP.out W1 HI2.out.wrf).mono ?_
        rintro e w2 ⟨rfl, F2, hw2, hk2, hf2⟩
        have hI3 : Inv w F2 kl (.slice ao kl.length cap2) w2 → True := fun _ => trivial
        have hbel2 : Below w.heap.size w w2 := HI2.out.bel.trans (hk2.below (by have := HI2.out.bel.size; omega) HI2.out.new)
        have hrow2 := hk2.own HI2.out.row (fun b hb => (HI2.out.apart b hb).1)
        obtain ⟨b', off', he, hb', c0, c1, c2, c3, _⟩ := HOPS.out.below hbel2 j (by rw [hll.out]; exact hl1)
        have hbe : b' = b ∧ off' = off := by injection he with he; injection he with h1 h2; exact ⟨h1.symm, h2.symm⟩
        obtain ⟨rfl, rfl⟩ := hbe
        rw [HXX.out] at c0 c1 c2 c3
        have HW2 := hid hw2
        have HK2 := hid hk2
        have HF2 := hid hf2
        have HB2 := hid hbel2
        have HR2 := hid hrow2
        clear hw2 hk2 hf2 hI3 hbel2 hrow2 he
        go_wp2_with (at_builtin; refine wpList_append_own_at _ rfl (.tmp 38) (.tmp 43) 22 rfl 0 30 i0 (.agg #[.int .i64 0, .int .u32 0, .int .i64 0, .string ⟨#[]⟩]) 4 40 Try.underlying22 hi hz0 hz1 hz2 rfl (by decide) (.slice ao kl.length cap2) kl.length (opCells kl) rfl (own_keep HR2.out (fun b hb => Below.heap_alloc _ _ _ (own_lt HR2.out hb))) ⟨w2.heap.size, 0, none⟩ 1 1 (opCell ⟨d, v, n, t⟩) rfl rfl (own_four w2 _ ⟨d, v, n, t⟩) (by intro u hu; simp [opCell] at hu; rcases hu with rfl | rfl | rfl | rfl <;> rfl) (by unfold maxLen; omega) (by omega) (Nat.zero_le _) ?_; intro rd' w5 hown5 hgrow5 _ hblk5; obtain ⟨ao2, cap3, rfl⟩ := own_slice hown5; have HG5 := hid hgrow5; have HO5 := hid hown5; have HBL := hid hblk5; clear hgrow5 hown5 hblk5)
        have hG : Keeps (fun i => (Value.slice ao kl.length cap2).ownBlock = some i) w2 w5 := ((Keeps.refl _ w2).alloc _).grown HG5.out (fun b h => h)
        have hlt5 : ∀ i, F2 i → i < w2.heap.size := HW2.out.choose_spec.2.2.2.2
        have hsz0 := HI2.out.bel.size
        have hsz2 := HK2.out.size
        have hap : ∀ i, F2 i → ¬ (Value.slice ao kl.length cap2).ownBlock = some i := fun i h e => by
          rcases HF2.out i h with h | h
          · exact (HI2.out.apart i e).1 h
          · have := own_lt HI2.out.row e; omega
        go_roundw
        case rel =>
          refine ⟨j + 1, kl ++ [⟨d, v, n, t⟩], F2, by omega, by omega, by go_num, by simp; omega, ⟨?_, ?_, ?_, fun b hb => ?_, fun i h => ?_, HB2.out.trans (hG.below (by omega) (fun i h => (HI2.out.apart i h).2))⟩⟩
          · intro o ho
            rcases List.mem_append.1 ho with h | h
            · exact HI2.out.ok o h
            · rw [List.mem_singleton.1 h]; exact ⟨HP.out, hv⟩
          · rw [layKN_snoc]; exact HW2.out.keep hG hap
          · rw [opCells_snoc, List.length_append]; exact HO5.out
          · rcases HBL.out with h | h
            · rw [h] at hb
              exact ⟨fun h2 => hap b h2 hb, (HI2.out.apart b hb).2⟩
            · rw [h] at hb
              have e : w2.heap.size + 1 = b := by simpa using hb
              refine ⟨fun h2 => ?_, by omega⟩
              have := hlt5 b h2
              omega
          · rcases HF2.out i h with h | h
            · exact HI2.out.new i h
            · omega
        case measure => simp [intOf]; omega
    · have hk32 : (layKN kl).1 ≤ 1920 := by have := HF.out.2; omega
      have hor : (¬ j < len) ∨ (j < len ∧ ¬ j < 60) := by omega
      have HJ := hid hj60
      clear hj hlt hj60
      obtain ⟨q, hq⟩ : ∃ q, upK (layKN kl).1 = 8 * q := ⟨upK (layKN kl).1 / 8, upK_8 _⟩
      have hq1 : (layKN kl).1 ≤ 8 * q := by rw [← hq]; unfold upK; omega
      have hq2 : 8 * q ≤ (layKN kl).1 + 7 := by rw [← hq]; unfold upK; omega
      have hadd := wadd_any F w.heap.size (layKN kl).1 (layKN kl).2 s (by omega) wr HI.out.wrf
      rw [hq] at hadd
      have hstr : ∀ (F2 : Nat → Prop) (W : World), WrF F2 W w.heap.size (8 * q + 8 * s.size) (wholeN kl q s) → Calls Try.prog 30 #[.pointer (some ⟨w.heap.size, 0, none⟩)] W fun e w' => e = .returned (.string (strN (wholeN kl q s) (q + s.size))) ∧ Bw W w' := fun F2 W h => by
        have := wstr_any F2 w.heap.size (8 * q + 8 * s.size) (wholeN kl q s) (by omega) W h
        rwa [show (8 * q + 8 * s.size + 7) / 8 = q + s.size by omega] at this
      have hrd := fun i hi => read_at kl HI.out.ok q hq1 s i hi
      have hby : ∀ (g : Nat) (W : World), Rd W g (strN (wholeN kl q s) (q + s.size)) (layKN kl).1 → Calls Try.prog 17 #[.pointer (some ⟨g, 0, none⟩), .int .i64 s.size] W fun e w' => e = .returned (.tuple #[.string s, .int .i64 0]) ∧ Rd w' g (strN (wholeN kl q s) (q + s.size)) (8 * (q + s.size)) ∧ Keeps (· = g) W w' := fun g W h => by
        have := rbytes_any g (strN (wholeN kl q s) (q + s.size)) (by rw [strN_size]; omega) (layKN kl).1 (by rw [strN_size]; omega) s.size W h
        obtain ⟨g1, g2, g3⟩ := rbytes_good s.size (strN (wholeN kl q s) (q + s.size)) (layKN kl).1 q (by rw [hq]; omega) (by rw [strN_size]; omega)
        unfold RBytesPost at this
        rw [g1, g2, g3, hq, show 8 * q + 8 * s.size = 8 * (q + s.size) by omega] at this
        have et := str_tail (layKN kl).2 q s (Nat.lt_of_lt_of_le (lay_facts kl HI.out.ok).1 (Nat.pow_le_pow_right (by decide) hq1))
        rw [show strN (wholeN kl q s) (q + s.size) = strN ((layKN kl).2 + leN s.data.toList * 2 ^ (8 * q)) (q + s.size) from rfl, et] at this
        exact this
      have hend : ∀ (g : Nat) (W : World), Rd W g (strN (wholeN kl q s) (q + s.size)) (8 * (q + s.size)) → Calls Try.prog 19 #[.pointer (some ⟨g, 0, none⟩), .int .i64 1] W fun e w' => e = .returned (.tuple #[.int .u32 0, .int .i64 2]) ∧ Keeps (· = g) W w' := fun g W h => by
        have := bits_any g (strN (wholeN kl q s) (q + s.size)) (by rw [strN_size]; omega) (8 * (q + s.size)) (by rw [strN_size]; omega) 1 W h
        obtain ⟨g1, g2, g3⟩ := bits_short (n := 1) (by decide) (strN (wholeN kl q s) (q + s.size)) (8 * (q + s.size)) (by rw [strN_size]; omega)
        unfold BitsPost at this
        rw [g1, g2, g3] at this
        exact this.mono fun _ _ h => ⟨h.1, h.2.2⟩
      have hsz : (strN (wholeN kl q s) (q + s.size)).size ≤ 281474976710656 := by rw [strN_size]; omega
      have hk8 : ∀ i, i ≤ kl.length → (layKN (kl.take i)).1 ≤ 8 * (strN (wholeN kl q s) (q + s.size)).size := fun i hi => by
        have := (lay_low (kl.take i) (kl.drop i) (by rw [List.take_append_drop]; exact HI.out.ok)).2
        rw [List.take_append_drop] at this
        rw [strN_size]; omega
      have hT : (layKN kl).2 + leN s.data.toList * 2 ^ (8 * q) = wholeN kl q s := rfl
      rw [hT] at hadd
      have hv32 : ∀ o ∈ kl, o.v < 4294967296 := fun o ho => (HI.out.ok o ho).2
      have hkl60 : kl.length ≤ 60 := Nat.le_trans hkl HJ.out
      have hk0 : (layKN (kl.take 0)).1 = 0 := by simp [layKN]
      have hkL : (layKN (kl.take kl.length)).1 = (layKN kl).1 := by simp
      generalize strN (wholeN kl q s) (q + s.size) = str at *
      generalize wholeN kl q s = T at *
      have HADD := hid hadd
      have HSTR := hid hstr
      have HRD := hid hrd
      have HBY := hid hby
      have HEND := hid hend
      have HK8 := hid hk8
      have HV32 := hid hv32
      have HK0 := hid hk0
      have HKL := hid hkL
      clear hadd hstr hrd hby hend hk8 hv32 hk0 hkL hT hq hq1 hq2 hk32 hkl
      rcases hor with h | ⟨h, h'⟩
      all_goals
        go_wp2_with fail
        refine HADD.out.mono ?_
        rintro e w2 ⟨rfl, F2, hw2, hk2, hf2⟩
        have hb2 : Below w.heap.size w w2 := HI.out.bel.trans (hk2.below HI.out.bel.size HI.out.new)
        have hr2 := hk2.own HI.out.row (fun b hb => (HI.out.apart b hb).1)
        have HW2 := hid hw2
        have HB2 := hid hb2
        have HR2 := hid hr2
        clear hw2 hk2 hf2 hb2 hr2
        go_wp2_with fail
        refine (HSTR.out F2 _ HW2.out).mono ?_
        rintro e w3 ⟨rfl, hb3⟩
        go_wp2_with fail
        refine (newR_any str _).mono ?_
        rintro e w4 ⟨rfl, hr4, hb4, hz4⟩
        have hz3 := hb3.size
        have hb04 : Below w.heap.size w w4 := (HB2.out.trans (Below.mono hb3 HB2.out.size)).trans (Below.mono hb4 (Nat.le_trans HB2.out.size hz3))
        have hrow4 := ((Keeps.of_bw (F := fun _ => False) hb3).trans (Keeps.of_bw hb4)).own HR2.out (fun _ _ h => h)
        have hbl : ∀ b, (Value.slice ao kl.length cap2).ownBlock = some b → b < w3.heap.size := fun b hb => Nat.lt_of_lt_of_le (own_lt HR2.out hb) hz3
        have HR4 := hid hr4
        have HB4 := hid hb04
        have HROW4 := hid hrow4
        have HBL := hid hbl
        have hw3 : w.heap.size ≤ w3.heap.size := Nat.le_trans HB2.out.size hz3
        clear hr4 hb4 hb3 hb04 hrow4 hbl
        go_wp2_with fail
        go_loopw [9] (fun i wr2 => ∃ p : Nat, p ≤ kl.length ∧ i = .int .i64 p ∧ Rd wr2 w3.heap.size str (layKN (kl.take p)).1 ∧ wr2.ownsRow 0 30 4 (.slice ao kl.length cap2) kl.length (opCells kl) ∧ Below w.heap.size w wr2) (fun i _ => kl.length - (intOf i).toNat)
        case atStart => exact ⟨0, Nat.zero_le _, rfl, by rw [HK0.out]; exact HR4.out, HROW4.out, HB4.out⟩
        case round =>

          obtain ⟨p, hp, rfl, hR, hRow, hBel⟩ := hrel
          have HR := hid hR
          have HRow := hid hRow
          have HBel := hid hBel
          clear hR hRow hBel
          by_cases hpl : p < kl.length
          · obtain ⟨b2, off2, he2, hbb2, c0, c1, c2, c3, hv⟩ := opsAt_own HRow.out HV32.out p hpl
            subst he2
            have hbits := bits_any w3.heap.size str hsz _ (HK8.out p hp) kl[p].n _ HR.out
            unfold BitsPost at hbits
            rw [(HRD.out p hpl).1, (HRD.out p hpl).2.1, (HRD.out p hpl).2.2] at hbits
            obtain ⟨d, v, n, t, hx⟩ : ∃ d v n t, kl[p] = ⟨d, v, n, t⟩ := ⟨_, _, _, _, rfl⟩
            rw [hx] at c0 c1 c2 c3 hv hbits
            simp only at c0 c1 c2 c3 hv hbits
            have HBITS := hid hbits
            have HX := hid hx
            clear hx hbits c0 c3
            have hlt3 : b2 < w3.heap.size := HBL.out b2 rfl
            go_wp2_with fail
            refine HBITS.out.mono ?_
            rintro e w6 ⟨rfl, hr6, hk6⟩
            have c1b : w6.cell? ⟨b2, off2 + p * 4 + 1, none⟩ = some (.int .u32 v) := (World.cell?_of_block (hk6.block b2 hbb2 (by omega))).trans c1
            have HR6 := hid hr6
            have HK6 := hid hk6
            clear hr6 hk6 c1
            go_wp2_with fail
            go_roundw
            case rel =>
              exact ⟨p + 1, by omega, by go_num, HR6.out, HK6.out.own HRow.out (fun b hb h => by have := HBL.out b hb; omega), HBel.out.trans (HK6.out.below HBel.out.size (fun i h => by omega))⟩
            case measure => simp [intOf]; omega
          · have hpe : p = kl.length := by omega
            subst hpe
            have hR7 := HR.out
            rw [HKL.out] at hR7
            have HR7 := hid hR7
            clear hR7 hpl hp
            go_wp2_with fail
            refine (HBY.out _ _ HR7.out).mono ?_
            rintro e w6 ⟨rfl, hr6, hk6⟩
            have HR6 := hid hr6
            have HK6 := hid hk6
            clear hr6 hk6
            go_wp2_with fail
            refine (HEND.out _ _ HR6.out).mono ?_
            rintro e w7 ⟨rfl, hk7⟩
            have HK7 := hid hk7
            clear hk7
            go_wp2_with fail
            refine (live_any _).mono ?_
            rintro e w9 ⟨rfl, h9⟩
            go_wp2
            go_returns
            refine ⟨rfl, ?_⟩
            have z6 := HK6.out.size
            have z7 := HK7.out.size
            have z := HBel.out.size
            exact Bw.trans ((HBel.out.trans (HK6.out.below z (fun i h => by omega))).trans (HK7.out.below (by omega) (fun i h => by omega))) h9


/-! The frame: from the walk to the statement. -/
theorem own : ownKnob Try.prog.godebug = none := by kernel_rfl
theorem laidOut : laidOutB Try.prog = true := by kernel_rfl
set_option maxRecDepth 100000 in
theorem lifted (os : Os) (started : os.Started) (H : Type) (enc : TypeId × Value → H) :
    ReturnsInHanded {} Try.checked os 5 .any (Rows.bitsBackSpec.pre6 enc Try.prog Try.f5 Rows.bitsBackRow.domain false) (Rows.bitsBackSpec.post enc Try.prog Try.f5 false true false false) := by
  refine returnsInHanded_of_change_sized (C := Try.checked) own started (by kernel_rfl) Try.func5
    (ChangeSpec.witness6 (enc := enc) (C := Try.checked) false ⟨#[], #[.slice none 0 0, .string ⟨#[]⟩], []⟩ 8 (by kernel_rfl) (by kernel_rfl) (by kernel_rfl) (by kernel_rfl)) ?_
  intro W base args ds gs before hval0 hW hcnd hsz0 _
  have hval : ∀ (j : Nat) t v, Try.f5.params[j]? = some t → args[j]? = some v → Value.okWide Try.prog W .any base t v := hval0
  have hW' := hW
  obtain ⟨p, q, hA0, hV, rfl, hfz, hnd⟩ := hW
  have hA : DataW.TrodAll enc Try.prog W 0 (fun _ => true) true Try.f5.params.toList args.toList ds p := hA0
  have hsz : (DataW.weightsEach Try.prog (Try.f5.params.toList ++ Rows.bitsBackSpec.plain.varTypes Try.prog) (ds ++ gs)).all (· ≤ reachBytes) = true := hsz0
  rw [Try.params5] at hA hval hsz
  obtain ⟨v0, vs0, d0, ds0, p0, q0, hargs, rfl, rfl, h0, r0⟩ := trodAll_cons hA
  obtain ⟨v1, vs1, d1, ds1, p1, q1, rfl, rfl, rfl, h1, r1⟩ := trodAll_cons r0
  obtain ⟨rfl, rfl, rfl⟩ := trodAll_nil r1
  obtain rfl : args = #[v0, v1] := by cases args; simp_all
  obtain ⟨rfl, rfl⟩ := trodVars_none hV
  have k0 := h0
  have lt0 : ∀ x ∈ p0, x.block < W.heap.size := by obtain ⟨m, hm⟩ := k0; exact DataW.trod_lt m _ _ _ hm
  obtain ⟨oa0, ol0, oc0, rfl⟩ := okWide_slice Try.underlying22 (hval 0 22 v0 rfl rfl)
  obtain ⟨m0, t0⟩ := h0
  obtain ⟨A0, len0, cap0, l0, he0, hl0, hll0, hst0⟩ := open_ops t0
  obtain ⟨a1, rfl, rfl, rfl, w1⟩ := open_string Try.underlying9 (hval 1 9 v1 rfl rfl) h1
  have z1 := sized_string hsz (j := 1) (t := 9) (bytes := a1.data.toList) rfl rfl
  rw [he0] at hW' k0 ⊢
  clear hA0 hval0
  try simp only [List.append_nil] at hW'
  refine (walk A0 len0 cap0 hl0 l0 hll0 a1 (str_le z1) W hst0).mono fun e W' ⟨he, bel⟩ => ?_
  subst he
  exact ⟨_, rfl, _, _, _, [], _, [], hW', trodAll_mk1 (shut_bool Try.underlying4 _), (trodAll_cons_mk (Below.trod laidOut (by kernel_rfl) (of_decide_eq_true (by kernel_rfl)) k0 bel lt0) (trodAll_cons_mk (shut_string Try.underlying9 w1) trodAll_mk0)), rfl, Below.frame bel _, fun h => by cases h⟩

theorem proved : Rows.BitsBackSaid :=
  OpenClaim.holds_of_wide 5 Try.f5 rfl rfl rfl rfl rfl rfl rfl ⟨rfl, rfl, rfl, rfl, rfl⟩ rfl rfl rfl rfl rfl (by kernel_rfl) Try.func5 (by kernel_rfl)
    (of_decide_eq_true (by kernel_rfl)) (by unfold Func.isWrapper; first | (rw [if_pos (by decide +kernel)]; kernel_rfl) | (rw [if_neg (by decide +kernel)]; exact ⟨rfl, rfl⟩))
    (fun os started H enc _ => lifted os started H enc)
end Go.Proofs.Ytfmilakgpocnnaa.bitsBack
