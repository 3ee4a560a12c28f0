import Derived.Test.YtciaebhkemdilaaElfA
import Derived.Test.YtciaebhkemdilaaKitE
import Derived.Deep.DeepCutAuto
import Derived.Test.YtciaebhkemdilaaKitS
import Derived.Test.YtciaebhkemdilaaShelfEl
/- Whether numbers are all within (contracts of the functions). -/
namespace Go.Proofs.Ytciaebhkemdilaa
open Go.RowKit Go.Conc
set_option linter.unusedVariables false
set_option linter.unusedSimpArgs false
def inB (most n : Int) : Bool := decide (0 ≤ n) && decide (n ≤ most)
def betB (most : Int) (l : List Int) : Bool := l.all (inB most)
set_option maxHeartbeats 400000 in
theorem out_any (most n : Int) (mb : Nat) (w : World) (h : Has w mb 3 #[.int .i64 most]) :
    Calls Try.prog 83 #[.int .i64 n, .pointer (some ⟨mb, 0, none⟩)] w fun e w' => e = .returned (.bool (!inB most n)) ∧ w' = w := by
  have c0 : w.cell? ⟨mb, 0, none⟩ = some (.int .i64 most) := h.cell 0
  clear h
  unfold inB
  by_cases h1 : n < 0
  · rw [decide_eq_false (by omega)]
    go_enter Try.func83, Try.ntmps83
    go_wp2
    go_returns
    exact ⟨rfl, rfl⟩
  · have h0 : 0 ≤ n := by omega
    rw [decide_eq_true h0]
    by_cases h2 : n ≤ most
    · have h3 : ¬ most < n := by omega
      rw [decide_eq_true h2]
      go_enter Try.func83, Try.ntmps83
      go_wp2
      go_returns
      exact ⟨rfl, rfl⟩
    · have h3 : most < n := by omega
      rw [decide_eq_false h2]
      go_enter Try.func83, Try.ntmps83
      go_wp2
      go_returns
      exact ⟨rfl, rfl⟩
/-- The first that is not within; -1. -/
def firstOut (most : Int) (l : List Int) : Int := match l.findIdx? (fun n => !inB most n) with | some i => (i : Int) | none => -1
theorem firstOut_ge (most : Int) (l : List Int) : decide (0 ≤ firstOut most l) = !betB most l := by
  unfold firstOut betB
  cases h : l.findIdx? (fun n => !inB most n) with
  | none =>
    rw [List.findIdx?_eq_none_iff] at h
    have : l.all (inB most) = true := List.all_eq_true.2 fun x hx => by simpa using h x hx
    rw [this]; rfl
  | some i =>
    have h2 := List.findIdx?_eq_some_iff_getElem.1 h
    obtain ⟨hi, hp, _⟩ := h2
    have : l.all (inB most) = false := by
      rw [List.all_eq_false]
      exact ⟨l[i], List.getElem_mem _, by simpa using hp⟩
    rw [this]
    simp
set_option maxRecDepth 100000 in
set_option maxHeartbeats 1000000 in
theorem idx_any (most : Int) (mb g : Nat) (l : List Int) (hl : l.length ≤ 1000) (w : World) (hm : Has w mb 3 #[.int .i64 most]) (hg : Has w g 3 (l.map fun n => Value.int .i64 n).toArray) :
    Calls Try.prog 95 #[.slice (some ⟨g, 0, none⟩) l.length l.length, .func (.func 83) #[] #[.pointer (some ⟨mb, 0, none⟩)]] w fun e w' => e = .returned (.int .i64 (firstOut most l)) ∧ w' = w := by
  have HG := hid hg
  have HO := hid (fun n => out_any most n mb w hm)
  have HFO := hid (show firstOut most l = firstOut most l from rfl)
  obtain ⟨len, hlen⟩ : ∃ len, l.length = len := ⟨_, rfl⟩
  rw [hlen] at hl ⊢
  have HLN := hid hlen
  clear hg hm hlen
  go_enter Try.func95, Try.ntmps95
  go_wp2
  go_loopw [8] (fun vk wr => ∃ k : Nat, k ≤ len ∧ vk = .int .i64 k ∧ wr = w ∧ Hid (∀ i (h : i < l.length), i < k → inB most l[i] = true)) (fun vk _ => len - (intOf vk).toNat)
  case atStart => exact ⟨0, by omega, rfl, rfl, hid (fun i h hi => by omega)⟩
  case round =>
    obtain ⟨k, hk, rfl, rfl, HB⟩ := hrel
    by_cases hlt : k < len
    · have c0 : (k : Int) < len := by omega
      have hkl : k < l.length := by rw [HLN.out]; exact hlt
      have HKL := hid hkl
      have c1 : wr.cell? ⟨g, k, none⟩ = some (.int .i64 l[k]) := by
        rw [HG.out.cell k, List.getElem?_toArray, List.getElem?_map, List.getElem?_eq_getElem hkl]
        rfl
      have HC := hid (HO.out l[k])
      cases hx : inB most l[k] with
      | true =>
        have HN := hid (show ∀ i (h : i < l.length), i < k + 1 → inB most l[i] = true from fun i h hi => by
          by_cases e : i = k
          · subst e; exact hx
          · exact HB.out i h (by omega))
        rw [hx] at HC
        generalize l[k] = x at *
        clear hx hkl
        go_wp2_with fail
        refine HC.out.mono ?_
        rintro e w2 ⟨rfl, rfl⟩
        go_wp2
        exact ⟨⟨k + 1, by omega, by go_num, trivial, HN⟩, by simp [intOf]; omega⟩
      | false =>
        have HV := hid (show firstOut most l = (k : Int) from by
          unfold firstOut
          rw [List.findIdx?_eq_some_iff_getElem.2 ⟨hkl, by show (!inB most l[k]) = true; rw [hx]; rfl, fun j hj => by simpa using HB.out j (by omega) hj⟩])
        rw [hx] at HC
        generalize l[k] = x at *
        clear hx hkl
        go_wp2_with fail
        refine HC.out.mono ?_
        rintro e w2 ⟨rfl, rfl⟩
        go_wp2
        go_returns
        exact ⟨by rw [HV.out]; rfl, rfl⟩
    · obtain rfl : k = len := by omega
      have HV := hid (show firstOut most l = -1 from by
        unfold firstOut
        rw [List.findIdx?_eq_none_iff.2 (fun x hx => by
          obtain ⟨i, hi, rfl⟩ := List.getElem_of_mem hx
          simpa using HB.out i hi (by rw [← HLN.out]; exact hi))])
      have c0 : ¬ (k : Int) < k := by omega
      go_wp2
      go_returns
      exact ⟨by rw [HV.out]; rfl, rfl⟩
set_option maxHeartbeats 400000 in
theorem cont_any (most : Int) (mb g : Nat) (l : List Int) (hl : l.length ≤ 1000) (w : World) (hm : Has w mb 3 #[.int .i64 most]) (hg : Has w g 3 (l.map fun n => Value.int .i64 n).toArray) :
    Calls Try.prog 82 #[.slice (some ⟨g, 0, none⟩) l.length l.length, .func (.func 83) #[] #[.pointer (some ⟨mb, 0, none⟩)]] w fun e w' => e = .returned (.bool (!betB most l)) ∧ w' = w := by
  have HI := hid (idx_any most mb g l hl w hm hg)
  have HG := hid (firstOut_ge most l)
  obtain ⟨x, hx⟩ : ∃ x, firstOut most l = x := ⟨_, rfl⟩
  obtain ⟨y, hy⟩ : ∃ y, (!betB most l) = y := ⟨_, rfl⟩
  rw [hx] at HI HG
  rw [hy] at HG ⊢
  clear hx hy hm hg
  have h0 := HG.out
  go_enter Try.func82, Try.ntmps82
  go_wp2_with fail
  refine HI.out.mono ?_
  rintro e w2 ⟨rfl, rfl⟩
  go_wp2
  go_returns
  exact ⟨by first | rfl | (rw [← HG.out]; rfl), rfl⟩
set_option maxHeartbeats 400000 in
theorem between_any (most : Int) (g : Nat) (l : List Int) (hl : l.length ≤ 1000) (w : World) (hg : Has w g 3 (l.map fun n => Value.int .i64 n).toArray) :
    Calls Try.prog 49 #[.int .i64 most, .slice (some ⟨g, 0, none⟩) l.length l.length] w fun e w' => e = .returned (.bool (betB most l)) ∧ Bw w w' := by
  have HB := hid ((Bw.refl w).alloc (.cells #[.int .i64 most] 3))
  have HC := hid (cont_any most w.heap.size g l hl _ (Has.new w 3 #[.int .i64 most]) (hg.alloc (.cells #[.int .i64 most] 3)))
  have hmf : ∀ (fn : Fn) (first cap : Array Value) (w : World), (Instr.makeFunc fn first cap).run Try.prog w = .ok (.func fn first cap) w := fun _ _ _ _ => rfl
  obtain ⟨mb, hmb⟩ : ∃ mb, w.heap.size = mb := ⟨_, rfl⟩
  rw [hmb] at HC
  obtain ⟨y, hy⟩ : ∃ y, betB most l = y := ⟨_, rfl⟩
  rw [hy] at HC ⊢
  clear hy
  cases y
  all_goals
    simp only [Bool.not_true, Bool.not_false] at HC
    go_enter Try.func49, Try.ntmps49
    go_wp2_with fail
    generalize w.alloc (.cells #[.int .i64 most] 3) = w1 at *
    refine HC.out.mono ?_
    rintro e w2 ⟨rfl, rfl⟩
    go_wp2
    go_returns
    exact ⟨rfl, HB.out⟩
end Go.Proofs.Ytciaebhkemdilaa
/- Whether segments are valid (contracts of the functions). -/
namespace Go.Proofs.Ytciaebhkemdilaa
open Go.RowKit Go.Conc
set_option linter.unusedVariables false
set_option linter.unusedSimpArgs false
def segOk (x : SegR) : Bool := betB 4294967295 [x.typ, x.flg] && betB 1099511627776 [x.off, x.fsz]
set_option maxRecDepth 100000 in
set_option maxHeartbeats 2000000 in
theorem isSegment_any (x : SegR) (w : World) :
    Calls Try.prog 52 #[.agg #[.int .i64 x.typ, .int .i64 x.flg, .int .i64 x.off, .int .u64 x.vad, .int .u64 x.pad, .int .i64 x.fsz, .int .u64 x.msz, .int .u64 x.aln]] w fun e w' => e = .returned (.bool (segOk x)) ∧ Bw w w' := by
  unfold segOk
  obtain ⟨t, f, o, va, pa, fz, ms, al⟩ := x
  simp only
  have HB1 := hid ((Bw.refl w).alloc (.cells #[.int .i64 t, .int .i64 f, .int .i64 o, .int .u64 va, .int .u64 pa, .int .i64 fz, .int .u64 ms, .int .u64 al] 61))
  have HX1 := hid (Has.new w 61 #[.int .i64 t, .int .i64 f, .int .i64 o, .int .u64 va, .int .u64 pa, .int .i64 fz, .int .u64 ms, .int .u64 al])
  obtain ⟨xb, hxb⟩ : ∃ xb, w.heap.size = xb := ⟨_, rfl⟩
  rw [hxb] at HX1
  go_enter Try.func52, Try.ntmps52
  go_upto_region 1 with fail
  generalize w.alloc (.cells #[.int .i64 t, .int .i64 f, .int .i64 o, .int .u64 va, .int .u64 pa, .int .i64 fz, .int .u64 ms, .int .u64 al] 61) = w1 at *
  have c0 : w1.cell? ⟨xb, 0, none⟩ = some (.int .i64 t) := HX1.out.cell 0
  have c1 : w1.cell? ⟨xb, 1, none⟩ = some (.int .i64 f) := HX1.out.cell 1
  have HC1 := hid (between_any 4294967295 w1.heap.size [t, f] (by simp) _ (show Has (w1.alloc (.cells #[.int .i64 t, .int .i64 f] 3)) w1.heap.size 3 _ from Has.new w1 _ _))
  have HB2 := hid (HB1.out.alloc (.cells #[.int .i64 t, .int .i64 f] 3))
  have HX2 := hid (HX1.out.alloc (.cells #[.int .i64 t, .int .i64 f] 3))
  obtain ⟨ga, hga⟩ : ∃ g, w1.heap.size = g := ⟨_, rfl⟩
  rw [hga] at HC1
  go_wp2_with fail
  generalize w1.alloc (.cells #[.int .i64 t, .int .i64 f] 3) = w2 at *
  clear hga c0 c1
  refine HC1.out.mono ?_
  rintro e w3 ⟨rfl, hb3⟩
  have HB3 := hid (HB2.out.trans hb3)
  have HX3 := hid (hb3.has HX2.out)
  clear hb3
  cases hq : betB 4294967295 [t, f] with
  | false =>
    go_wp2
    go_returns
    exact ⟨by rw [hq]; rfl, HB3.out⟩
  | true =>
    have c2 : w3.cell? ⟨xb, 2, none⟩ = some (.int .i64 o) := HX3.out.cell 2
    have c5 : w3.cell? ⟨xb, 5, none⟩ = some (.int .i64 fz) := HX3.out.cell 5
    have HC3 := hid (between_any 1099511627776 w3.heap.size [o, fz] (by simp) _ (show Has (w3.alloc (.cells #[.int .i64 o, .int .i64 fz] 3)) w3.heap.size 3 _ from Has.new w3 _ _))
    have HB4 := hid (HB3.out.alloc (.cells #[.int .i64 o, .int .i64 fz] 3))
    obtain ⟨gc, hgc⟩ : ∃ g, w3.heap.size = g := ⟨_, rfl⟩
    rw [hgc] at HC3
    go_wp2_with fail
    generalize w3.alloc (.cells #[.int .i64 o, .int .i64 fz] 3) = w4 at *
    clear hgc c2 c5
    refine HC3.out.mono ?_
    rintro e w5 ⟨rfl, hb5⟩
    have HB5 := hid (HB4.out.trans hb5)
    clear hb5
    go_wp2
    go_returns
    exact ⟨by rw [hq]; rfl, HB5.out⟩
set_option maxHeartbeats 1000000 in
theorem segv_any (x : SegR) (w : World) :
    Calls Try.prog 51 #[.agg #[.int .i64 x.typ, .int .i64 x.flg, .int .i64 x.off, .int .u64 x.vad, .int .u64 x.pad, .int .i64 x.fsz, .int .u64 x.msz, .int .u64 x.aln]] w fun e w' => e = .returned (.bool (!segOk x)) ∧ Bw w w' := by
  have HS := hid (fun W => isSegment_any x W)
  obtain ⟨t, f, o, va, pa, fz, ms, al⟩ := x
  obtain ⟨B, hB⟩ : ∃ B, segOk ⟨t, f, o, va, pa, fz, ms, al⟩ = B := ⟨_, rfl⟩
  rw [hB] at HS ⊢
  simp only at HS ⊢
  clear hB
  have HB1 := hid ((Bw.refl w).alloc (.cells #[.int .i64 t, .int .i64 f, .int .i64 o, .int .u64 va, .int .u64 pa, .int .i64 fz, .int .u64 ms, .int .u64 al] 61))
  have HX1 := hid (Has.new w 61 #[.int .i64 t, .int .i64 f, .int .i64 o, .int .u64 va, .int .u64 pa, .int .i64 fz, .int .u64 ms, .int .u64 al])
  obtain ⟨xb, hxb⟩ : ∃ xb, w.heap.size = xb := ⟨_, rfl⟩
  rw [hxb] at HX1
  go_enter Try.func51, Try.ntmps51
  go_upto_region 1 with fail
  generalize w.alloc (.cells #[.int .i64 t, .int .i64 f, .int .i64 o, .int .u64 va, .int .u64 pa, .int .i64 fz, .int .u64 ms, .int .u64 al] 61) = w1 at *
  refine wp_region_list ?_
  refine wpList_load_mid rfl 61 (.tmp 1) rfl xb 0 rfl [.int .i64 t, .int .i64 f, .int .i64 o, .int .u64 va, .int .u64 pa, .int .i64 fz, .int .u64 ms, .int .u64 al] _ HX1.out.range Try.underlying61 rfl inf_Segment ?_
  go_wp2_with fail
  refine (HS.out _).mono ?_
  rintro e w2 ⟨rfl, hb2⟩
  have HB2 := hid (HB1.out.trans hb2)
  clear hb2
  go_wp2
  go_returns
  exact ⟨rfl, HB2.out⟩
end Go.Proofs.Ytciaebhkemdilaa
/- Whether all segments are valid (contracts of the functions). -/
namespace Go.Proofs.Ytciaebhkemdilaa
open Go.RowKit Go.Conc
set_option linter.unusedVariables false
set_option linter.unusedSimpArgs false
theorem segv_ok (x : SegR) (hx : x.Ok) (w : World) :
    Calls Try.prog 51 #[.agg #[.int .i64 x.typ, .int .i64 x.flg, .int .i64 x.off, .int .u64 x.vad, .int .u64 x.pad, .int .i64 x.fsz, .int .u64 x.msz, .int .u64 x.aln]] w fun e w' => e = .returned (.bool (!segOk x)) ∧ Bw w w' := segv_any x w
/-- The first that is not so; -1. -/
def firstNo {α : Type} (p : α → Bool) (l : List α) : Int := match l.findIdx? (fun x => !p x) with | some i => (i : Int) | none => -1
theorem firstNo_ge {α : Type} (p : α → Bool) (l : List α) : decide (0 ≤ firstNo p l) = !l.all p := by
  unfold firstNo
  cases h : l.findIdx? (fun x => !p x) with
  | none =>
    rw [List.findIdx?_eq_none_iff] at h
    have : l.all p = true := List.all_eq_true.2 fun x hx => by simpa using h x hx
    rw [this]; rfl
  | some i =>
    obtain ⟨hi, hp, _⟩ := List.findIdx?_eq_some_iff_getElem.1 h
    have : l.all p = false := by
      rw [List.all_eq_false]
      exact ⟨l[i], List.getElem_mem _, by simpa using hp⟩
    rw [this]
    simp
theorem seg_range {w : World} {a : Option Addr} {l : List SegR} (h : SegAt w a l) (k : Nat) (hk : k < l.length) : ∃ b off, a = some ⟨b, off, none⟩ ∧ l[k].Ok ∧ w.rangeAt b (off + k * 8) [.int .i64 l[k].typ, .int .i64 l[k].flg, .int .i64 l[k].off, .int .u64 l[k].vad, .int .u64 l[k].pad, .int .i64 l[k].fsz, .int .u64 l[k].msz, .int .u64 l[k].aln] := by
  obtain ⟨b, off, e, _, h0, h1, h2, h3, h4, h5, h6, h7, hok⟩ := h k hk
  refine ⟨b, off, e, hok, fun j v hv => ?_⟩
  match j, hv with
  | 0, hv => simp at hv; subst hv; exact h0
  | 1, hv => simp at hv; subst hv; exact h1
  | 2, hv => simp at hv; subst hv; exact h2
  | 3, hv => simp at hv; subst hv; exact h3
  | 4, hv => simp at hv; subst hv; exact h4
  | 5, hv => simp at hv; subst hv; exact h5
  | 6, hv => simp at hv; subst hv; exact h6
  | 7, hv => simp at hv; subst hv; exact h7
  | j + 8, hv => simp at hv
set_option maxRecDepth 100000 in
set_option maxHeartbeats 1000000 in
theorem segIdx_any (A : Option Addr) (len cap : Nat) (l : List SegR) (hll : l.length = len) (hl : len ≤ 100000) (w : World) (hst : SegAt w A l) :
    Calls Try.prog 84 #[.slice A len cap, .func (.func 51) #[] #[]] w fun e w' => e = .returned (.int .i64 (firstNo segOk l)) ∧ Bw w w' := by
  have HST := hid hst
  have HLN := hid hll
  clear hst hll
  go_enter Try.func84, Try.ntmps84
  go_wp2
  go_loopw [8] (fun vk wr => ∃ k : Nat, k ≤ len ∧ vk = .int .i64 k ∧ Bw w wr ∧ Hid (∀ i (h : i < l.length), i < k → segOk l[i] = true)) (fun vk _ => len - (intOf vk).toNat)
  case atStart => exact ⟨0, by omega, rfl, Bw.refl w, hid (fun i h hi => by omega)⟩
  case round =>
    rename World => wr
    obtain ⟨k, hk, rfl, hb, HB⟩ := hrel
    have HBW := hid hb
    by_cases hlt : k < len
    · have c0 : (k : Int) < len := by omega
      have hkl : k < l.length := by rw [HLN.out]; exact hlt
      obtain ⟨ab, ao, rfl, hok, hrg⟩ := seg_range (HST.out.below hb) k hkl
      have HRG := hid hrg
      have HLT := hid hlt
      have HV := hid (show wrap64 ((k : Int) + 1) = ((k + 1 : Nat) : Int) by unfold wrap64; omega)
      have HTRU := hid (fun (hx : segOk l[k] = true) => (show ∀ i (h : i < l.length), i < k + 1 → segOk l[i] = true from fun i h hi => by
        by_cases e : i = k
        · subst e; exact hx
        · exact HB.out i h (by omega)))
      have HFAL := hid (fun (hx : segOk l[k] = false) => (show firstNo segOk l = (k : Int) from by
        unfold firstNo
        rw [List.findIdx?_eq_some_iff_getElem.2 ⟨hkl, by show (!segOk l[k]) = true; rw [hx]; rfl, fun j hj => by simpa using HB.out j (by omega) hj⟩]))
      obtain ⟨x, hx⟩ : ∃ x, l[k] = x := ⟨_, rfl⟩
      rw [hx] at HRG HTRU HFAL hok
      have HVA := hid (fun W => segv_ok x hok W)
      clear hb hrg hx hkl hok
      go_upto_region 4 with fail
      refine wp_region_list ?_
      refine wpList_plain rfl fun K hK => ?_
      go_simp
      refine hK _ _ ?_
      clear hK K
      refine wpList_plain rfl fun K hK => ?_
      go_simp
      refine hK _ _ ?_
      clear hK K
      refine wpList_plain rfl fun K hK => ?_
      go_simp
      refine hK _ _ ?_
      clear hK K
      refine wpList_plain rfl fun K hK => ?_
      go_simp
      refine hK _ _ ?_
      clear hK K
      refine wpList_load_mid rfl 61 (.tmp 14) rfl ab (ao + k * 8) rfl [.int .i64 x.typ, .int .i64 x.flg, .int .i64 x.off, .int .u64 x.vad, .int .u64 x.pad, .int .i64 x.fsz, .int .u64 x.msz, .int .u64 x.aln] _ HRG.out Try.underlying61 rfl inf_Segment ?_
      go_wp2_with fail
      refine (HVA.out _).mono ?_
      rintro e w2 ⟨rfl, hb2⟩
      have HB2 := hid (HBW.out.trans hb2)
      clear hb2
      cases hq : segOk x with
      | true =>
        have HN := hid (HTRU.out hq)
        go_wp2
        exact ⟨⟨k + 1, HLT.out, by first | rw [HV.out] | rfl, HB2.out, HN.out⟩, by have h1 := HLT.out; first | rw [HV.out] | skip; simp only [intOf]; omega⟩
      | false =>
        have HF := hid (HFAL.out hq)
        go_wp2
        go_returns
        exact ⟨by rw [HF.out]; rfl, HB2.out⟩
    · obtain rfl : k = len := by omega
      have HV := hid (show firstNo segOk l = -1 from by
        unfold firstNo
        rw [List.findIdx?_eq_none_iff.2 (fun x hx => by
          obtain ⟨i, hi, rfl⟩ := List.getElem_of_mem hx
          simpa using HB.out i hi (by rw [← HLN.out]; exact hi))])
      have c0 : ¬ (k : Int) < k := by omega
      clear hb
      go_wp2
      go_returns
      exact ⟨by rw [HV.out]; rfl, HBW.out⟩
set_option maxHeartbeats 400000 in
theorem segCont_any (A : Option Addr) (len cap : Nat) (l : List SegR) (hll : l.length = len) (hl : len ≤ 100000) (w : World) (hst : SegAt w A l) :
    Calls Try.prog 50 #[.slice A len cap, .func (.func 51) #[] #[]] w fun e w' => e = .returned (.bool (!l.all segOk)) ∧ Bw w w' := by
  have HI := hid (segIdx_any A len cap l hll hl w hst)
  have HG := hid (firstNo_ge segOk l)
  obtain ⟨x, hx⟩ : ∃ x, firstNo segOk l = x := ⟨_, rfl⟩
  obtain ⟨y, hy⟩ : ∃ y, (!l.all segOk) = y := ⟨_, rfl⟩
  rw [hx] at HI HG
  rw [hy] at HG ⊢
  clear hx hy hst
  have h0 := HG.out
  go_enter Try.func50, Try.ntmps50
  go_wp2_with fail
  refine HI.out.mono ?_
  rintro e w2 ⟨rfl, hb⟩
  have HB := hid hb
  clear hb
  go_wp2
  go_returns
  exact ⟨by first | rfl | (rw [← HG.out]; rfl), HB.out⟩
end Go.Proofs.Ytciaebhkemdilaa
/- Whether sections are valid (contracts of the functions). -/
namespace Go.Proofs.Ytciaebhkemdilaa
open Go.RowKit Go.Conc
set_option linter.unusedVariables false
set_option linter.unusedSimpArgs false
def sec1 (x : SecR) : Bool := if x.typ = 8 then decide (x.dat.size = 0) else decide (x.siz = 0)
def noZ (s : ByteArray) : Bool := !decide (0 ≤ Lib.indexByte s.data.toList 0)
def secOk (x : SecR) : Bool := sec1 x && (decide (x.nam.size ≤ 200) && (noZ x.nam && (betB 4294967295 [x.typ, x.lnk, x.inf] && betB 1099511627776 [x.siz])))
theorem emp_yes {d : ByteArray} (h : d.size = 0) : d.toList.isEmpty = true := by
  rw [toList_data, List.isEmpty_iff]
  exact List.eq_nil_of_length_eq_zero (by simpa using h)
theorem emp_no {d : ByteArray} (h : ¬ d.size = 0) : d.toList.isEmpty = false := by
  rw [toList_data, Bool.eq_false_iff]
  intro e
  rw [List.isEmpty_iff] at e
  exact h (by have := congrArg List.length e; simpa using this)
set_option maxRecDepth 100000 in
set_option maxHeartbeats 4000000 in
theorem isSection_any (x : SecR) (hx : x.Ok) (w : World) :
    Calls Try.prog 55 #[.agg #[.string x.nam, .int .i64 x.typ, .int .u64 x.flg, .int .u64 x.adr, .string x.dat, .int .i64 x.siz, .int .i64 x.lnk, .int .i64 x.inf, .int .u64 x.aln, .int .u64 x.eac]] w fun e w' => e = .returned (.bool (secOk x)) ∧ Bw w w' := by
  obtain ⟨hx1, -, -, -, hx5, -⟩ := hx
  obtain ⟨nm, ty, fl, ad, dt, sz, lk, inf, al, ea⟩ := x
  simp only at hx1 hx5 ⊢
  have HV := hid (show secOk ⟨nm, ty, fl, ad, dt, sz, lk, inf, al, ea⟩ = (sec1 ⟨nm, ty, fl, ad, dt, sz, lk, inf, al, ea⟩ && (decide (nm.size ≤ 200) && (noZ nm && (betB 4294967295 [ty, lk, inf] && betB 1099511627776 [sz])))) from rfl)
  have HS1 := hid (show sec1 ⟨nm, ty, fl, ad, dt, sz, lk, inf, al, ea⟩ = if ty = 8 then decide (dt.size = 0) else decide (sz = 0) from rfl)
  obtain ⟨V, hVV⟩ : ∃ V, secOk ⟨nm, ty, fl, ad, dt, sz, lk, inf, al, ea⟩ = V := ⟨_, rfl⟩
  rw [hVV] at HV ⊢
  clear hVV
  have HB1 := hid ((Bw.refl w).alloc (.cells #[.string nm, .int .i64 ty, .int .u64 fl, .int .u64 ad, .string dt, .int .i64 sz, .int .i64 lk, .int .i64 inf, .int .u64 al, .int .u64 ea] 43))
  have HX1 := hid (Has.new w 43 #[.string nm, .int .i64 ty, .int .u64 fl, .int .u64 ad, .string dt, .int .i64 sz, .int .i64 lk, .int .i64 inf, .int .u64 al, .int .u64 ea])
  obtain ⟨xb, hxb⟩ : ∃ xb, w.heap.size = xb := ⟨_, rfl⟩
  rw [hxb] at HX1
  have HNC := hid (fun W => lib_Contains nm 0 W)
  go_enter Try.func55, Try.ntmps55
  go_upto_region 1 with fail
  generalize w.alloc (.cells #[.string nm, .int .i64 ty, .int .u64 fl, .int .u64 ad, .string dt, .int .i64 sz, .int .i64 lk, .int .i64 inf, .int .u64 al, .int .u64 ea] 43) = w1 at *
  have c0 : w1.cell? ⟨xb, 0, none⟩ = some (.string nm) := HX1.out.cell 0
  have c1 : w1.cell? ⟨xb, 1, none⟩ = some (.int .i64 ty) := HX1.out.cell 1
  have c4 : w1.cell? ⟨xb, 4, none⟩ = some (.string dt) := HX1.out.cell 4
  have c5 : w1.cell? ⟨xb, 5, none⟩ = some (.int .i64 sz) := HX1.out.cell 5
  have c6 : w1.cell? ⟨xb, 6, none⟩ = some (.int .i64 lk) := HX1.out.cell 6
  have c7 : w1.cell? ⟨xb, 7, none⟩ = some (.int .i64 inf) := HX1.out.cell 7
  have HT : Hid (sec1 ⟨nm, ty, fl, ad, dt, sz, lk, inf, al, ea⟩ = true ∨ sec1 ⟨nm, ty, fl, ad, dt, sz, lk, inf, al, ea⟩ = false) := hid (by cases sec1 ⟨nm, ty, fl, ad, dt, sz, lk, inf, al, ea⟩ <;> simp)
  by_cases h8 : ty = 8
  case' pos =>
    have t8 : (ty == 8) = true := beq_iff_eq.2 h8
    have t9 : (ty != 8) = false := by rw [h8]; rfl
    by_cases hd : dt.size = 0
    case' neg =>
      have e0 := emp_no hd
      have HF := hid (show V = false from by rw [HV.out, HS1.out, if_pos h8, decide_eq_false hd]; rfl)
      clear h8
      go_wp2
      go_returns
      exact ⟨by rw [HF.out]; rfl, HB1.out⟩
    have e0 := emp_yes hd
    have HY := hid (show sec1 ⟨nm, ty, fl, ad, dt, sz, lk, inf, al, ea⟩ = true from by rw [HS1.out, if_pos h8, decide_eq_true hd])
    clear h8 hd
    go_upto_region 3 with fail
  case' neg =>
    have t8 : (ty == 8) = false := beq_eq_false_iff_ne.2 h8
    have t9 : (ty != 8) = true := bne_iff_ne.2 h8
    by_cases hd : sz = 0
    case' neg =>
      have e0 : (sz != 0) = true := bne_iff_ne.2 hd
      have HF := hid (show V = false from by rw [HV.out, HS1.out, if_neg h8, decide_eq_false hd]; rfl)
      clear h8
      go_wp2
      go_returns
      exact ⟨by rw [HF.out]; rfl, HB1.out⟩
    have e0 : (sz != 0) = false := bne_eq_false_iff_eq.2 hd
    have HY := hid (show sec1 ⟨nm, ty, fl, ad, dt, sz, lk, inf, al, ea⟩ = true from by rw [HS1.out, if_neg h8, decide_eq_true hd])
    clear h8 hd
    go_upto_region 3 with fail
  all_goals
    clear t8 t9 e0 c4 HT
    by_cases hn : nm.size ≤ 200
    case' neg =>
      have n0 : decide ((nm.size : Int) ≤ 200) = false := decide_eq_false (by omega)
      have HF := hid (show V = false from by rw [HV.out, HY.out, decide_eq_false hn]; rfl)
      clear hn
      go_wp2
      go_returns
      exact ⟨by rw [HF.out]; rfl, HB1.out⟩
    have n0 : decide ((nm.size : Int) ≤ 200) = true := decide_eq_true (by omega)
    have HN := hid hn
    go_wp2_with fail
    refine (HNC.out _).mono ?_
    rintro e w2 ⟨rfl, rfl⟩
    cases hz : noZ nm with
    | false =>
      have HF := hid (show V = false from by rw [HV.out, HY.out, hz, decide_eq_true HN.out]; rfl)
      have hz2 : decide (0 ≤ Lib.indexByte nm.data.toList 0) = true := by unfold noZ at hz; simpa using hz
      rw [hz2]
      go_wp2
      go_returns
      exact ⟨by rw [HF.out]; rfl, HB1.out⟩
    | true =>
      have hz2 : decide (0 ≤ Lib.indexByte nm.data.toList 0) = false := by unfold noZ at hz; simpa using hz
      rw [hz2]
      have HZ := hid hz
      clear hz hz2 hn n0
      have HC1 := hid (between_any 4294967295 w2.heap.size [ty, lk, inf] (by simp) _ (show Has (w2.alloc (.cells #[.int .i64 ty, .int .i64 lk, .int .i64 inf] 3)) w2.heap.size 3 _ from Has.new w2 _ _))
      have HB2 := hid (HB1.out.alloc (.cells #[.int .i64 ty, .int .i64 lk, .int .i64 inf] 3))
      have HX2 := hid (HX1.out.alloc (.cells #[.int .i64 ty, .int .i64 lk, .int .i64 inf] 3))
      obtain ⟨ga, hga⟩ : ∃ g, w2.heap.size = g := ⟨_, rfl⟩
      rw [hga] at HC1
      go_wp2_with fail
      generalize w2.alloc (.cells #[.int .i64 ty, .int .i64 lk, .int .i64 inf] 3) = w3 at *
      clear hga c0 c1 c5 c6 c7
      refine HC1.out.mono ?_
      rintro e w4 ⟨rfl, hb4⟩
      have HB4 := hid (HB2.out.trans hb4)
      have HX4 := hid (hb4.has HX2.out)
      clear hb4
      cases hq : betB 4294967295 [ty, lk, inf] with
      | false =>
        have HF := hid (show V = false from by rw [HV.out, HY.out, HZ.out, decide_eq_true HN.out, hq]; rfl)
        go_wp2
        go_returns
        exact ⟨by rw [HF.out]; rfl, HB4.out⟩
      | true =>
        have HF := hid (show V = betB 1099511627776 [sz] from by rw [HV.out, HY.out, HZ.out, decide_eq_true HN.out, hq]; rfl)
        have c5 : w4.cell? ⟨xb, 5, none⟩ = some (.int .i64 sz) := HX4.out.cell 5
        have HC3 := hid (between_any 1099511627776 w4.heap.size [sz] (by simp) _ (show Has (w4.alloc (.cells #[.int .i64 sz] 3)) w4.heap.size 3 _ from Has.new w4 _ _))
        have HB5 := hid (HB4.out.alloc (.cells #[.int .i64 sz] 3))
        obtain ⟨gc, hgc⟩ : ∃ g, w4.heap.size = g := ⟨_, rfl⟩
        rw [hgc] at HC3
        go_wp2_with fail
        generalize w4.alloc (.cells #[.int .i64 sz] 3) = w5 at *
        clear hgc c5
        refine HC3.out.mono ?_
        rintro e w6 ⟨rfl, hb6⟩
        have HB6 := hid (HB5.out.trans hb6)
        clear hb6
        go_wp2
        go_returns
        exact ⟨by rw [HF.out]; rfl, HB6.out⟩
set_option maxHeartbeats 1000000 in
theorem secv_any (x : SecR) (hx : x.Ok) (w : World) :
    Calls Try.prog 54 #[.agg #[.string x.nam, .int .i64 x.typ, .int .u64 x.flg, .int .u64 x.adr, .string x.dat, .int .i64 x.siz, .int .i64 x.lnk, .int .i64 x.inf, .int .u64 x.aln, .int .u64 x.eac]] w fun e w' => e = .returned (.bool (!secOk x)) ∧ Bw w w' := by
  have HS := hid (fun W => isSection_any x hx W)
  clear hx
  obtain ⟨nm, ty, fl, ad, dt, sz, lk, inf, al, ea⟩ := x
  obtain ⟨B, hB⟩ : ∃ B, secOk ⟨nm, ty, fl, ad, dt, sz, lk, inf, al, ea⟩ = B := ⟨_, rfl⟩
  rw [hB] at HS ⊢
  simp only at HS ⊢
  clear hB
  have HB1 := hid ((Bw.refl w).alloc (.cells #[.string nm, .int .i64 ty, .int .u64 fl, .int .u64 ad, .string dt, .int .i64 sz, .int .i64 lk, .int .i64 inf, .int .u64 al, .int .u64 ea] 43))
  have HX1 := hid (Has.new w 43 #[.string nm, .int .i64 ty, .int .u64 fl, .int .u64 ad, .string dt, .int .i64 sz, .int .i64 lk, .int .i64 inf, .int .u64 al, .int .u64 ea])
  obtain ⟨xb, hxb⟩ : ∃ xb, w.heap.size = xb := ⟨_, rfl⟩
  rw [hxb] at HX1
  go_enter Try.func54, Try.ntmps54
  go_upto_region 1 with fail
  generalize w.alloc (.cells #[.string nm, .int .i64 ty, .int .u64 fl, .int .u64 ad, .string dt, .int .i64 sz, .int .i64 lk, .int .i64 inf, .int .u64 al, .int .u64 ea] 43) = w1 at *
  refine wp_region_list ?_
  refine wpList_load_mid rfl 43 (.tmp 1) rfl xb 0 rfl [.string nm, .int .i64 ty, .int .u64 fl, .int .u64 ad, .string dt, .int .i64 sz, .int .i64 lk, .int .i64 inf, .int .u64 al, .int .u64 ea] _ HX1.out.range Try.underlying43 rfl inf_Section ?_
  go_wp2_with fail
  refine (HS.out _).mono ?_
  rintro e w2 ⟨rfl, hb2⟩
  have HB2 := hid (HB1.out.trans hb2)
  clear hb2
  go_wp2
  go_returns
  exact ⟨rfl, HB2.out⟩
end Go.Proofs.Ytciaebhkemdilaa
/- Whether all sections are valid (contracts of the functions). -/
namespace Go.Proofs.Ytciaebhkemdilaa
open Go.RowKit Go.Conc
set_option linter.unusedVariables false
set_option linter.unusedSimpArgs false
theorem sec_range {w : World} {a : Option Addr} {l : List SecR} (h : SecAt w a l) (k : Nat) (hk : k < l.length) : ∃ b off, a = some ⟨b, off, none⟩ ∧ l[k].Ok ∧ w.rangeAt b (off + k * 10) [.string l[k].nam, .int .i64 l[k].typ, .int .u64 l[k].flg, .int .u64 l[k].adr, .string l[k].dat, .int .i64 l[k].siz, .int .i64 l[k].lnk, .int .i64 l[k].inf, .int .u64 l[k].aln, .int .u64 l[k].eac] := by
  obtain ⟨b, off, e, _, h0, h1, h2, h3, h4, h5, h6, h7, h8, h9, hok⟩ := h k hk
  refine ⟨b, off, e, hok, fun j v hv => ?_⟩
  match j, hv with
  | 0, hv => simp at hv; subst hv; exact h0
  | 1, hv => simp at hv; subst hv; exact h1
  | 2, hv => simp at hv; subst hv; exact h2
  | 3, hv => simp at hv; subst hv; exact h3
  | 4, hv => simp at hv; subst hv; exact h4
  | 5, hv => simp at hv; subst hv; exact h5
  | 6, hv => simp at hv; subst hv; exact h6
  | 7, hv => simp at hv; subst hv; exact h7
  | 8, hv => simp at hv; subst hv; exact h8
  | 9, hv => simp at hv; subst hv; exact h9
  | j + 10, hv => simp at hv
set_option maxRecDepth 100000 in
set_option maxHeartbeats 1000000 in
theorem secIdx_any (A : Option Addr) (len cap : Nat) (l : List SecR) (hll : l.length = len) (hl : len ≤ 100000) (w : World) (hst : SecAt w A l) :
    Calls Try.prog 85 #[.slice A len cap, .func (.func 54) #[] #[]] w fun e w' => e = .returned (.int .i64 (firstNo secOk l)) ∧ Bw w w' := by
  have HST := hid hst
  have HLN := hid hll
  clear hst hll
  go_enter Try.func85, Try.ntmps85
  go_wp2
  go_loopw [8] (fun vk wr => ∃ k : Nat, k ≤ len ∧ vk = .int .i64 k ∧ Bw w wr ∧ Hid (∀ i (h : i < l.length), i < k → secOk l[i] = true)) (fun vk _ => len - (intOf vk).toNat)
  case atStart => exact ⟨0, by omega, rfl, Bw.refl w, hid (fun i h hi => by omega)⟩
  case round =>
    rename World => wr
    obtain ⟨k, hk, rfl, hb, HB⟩ := hrel
    have HBW := hid hb
    by_cases hlt : k < len
    · have c0 : (k : Int) < len := by omega
      have hkl : k < l.length := by rw [HLN.out]; exact hlt
      obtain ⟨ab, ao, rfl, hok, hrg⟩ := sec_range (HST.out.below hb) k hkl
      have HRG := hid hrg
      have HLT := hid hlt
      have HV := hid (show wrap64 ((k : Int) + 1) = ((k + 1 : Nat) : Int) by unfold wrap64; omega)
      have HTRU := hid (fun (hx : secOk l[k] = true) => (show ∀ i (h : i < l.length), i < k + 1 → secOk l[i] = true from fun i h hi => by
        by_cases e : i = k
        · subst e; exact hx
        · exact HB.out i h (by omega)))
      have HFAL := hid (fun (hx : secOk l[k] = false) => (show firstNo secOk l = (k : Int) from by
        unfold firstNo
        rw [List.findIdx?_eq_some_iff_getElem.2 ⟨hkl, by show (!secOk l[k]) = true; rw [hx]; rfl, fun j hj => by simpa using HB.out j (by omega) hj⟩]))
      obtain ⟨x, hx⟩ : ∃ x, l[k] = x := ⟨_, rfl⟩
      rw [hx] at HRG HTRU HFAL hok
      have HVA := hid (fun W => secv_any x hok W)
      clear hb hrg hx hkl hok
      go_upto_region 4 with fail
      refine wp_region_list ?_
      refine wpList_plain rfl fun K hK => ?_
      go_simp
      refine hK _ _ ?_
      clear hK K
      refine wpList_plain rfl fun K hK => ?_
      go_simp
      refine hK _ _ ?_
      clear hK K
      refine wpList_plain rfl fun K hK => ?_
      go_simp
      refine hK _ _ ?_
      clear hK K
      refine wpList_plain rfl fun K hK => ?_
      go_simp
      refine hK _ _ ?_
      clear hK K
      refine wpList_load_mid rfl 43 (.tmp 14) rfl ab (ao + k * 10) rfl [.string x.nam, .int .i64 x.typ, .int .u64 x.flg, .int .u64 x.adr, .string x.dat, .int .i64 x.siz, .int .i64 x.lnk, .int .i64 x.inf, .int .u64 x.aln, .int .u64 x.eac] _ HRG.out Try.underlying43 rfl inf_Section ?_
      go_wp2_with fail
      refine (HVA.out _).mono ?_
      rintro e w2 ⟨rfl, hb2⟩
      have HB2 := hid (HBW.out.trans hb2)
      clear hb2
      cases hq : secOk x with
      | true =>
        have HN := hid (HTRU.out hq)
        go_wp2
        exact ⟨⟨k + 1, HLT.out, by first | rw [HV.out] | rfl, HB2.out, HN.out⟩, by have h1 := HLT.out; first | rw [HV.out] | skip; simp only [intOf]; omega⟩
      | false =>
        have HF := hid (HFAL.out hq)
        go_wp2
        go_returns
        exact ⟨by rw [HF.out]; rfl, HB2.out⟩
    · obtain rfl : k = len := by omega
      have HV := hid (show firstNo secOk l = -1 from by
        unfold firstNo
        rw [List.findIdx?_eq_none_iff.2 (fun x hx => by
          obtain ⟨i, hi, rfl⟩ := List.getElem_of_mem hx
          simpa using HB.out i hi (by rw [← HLN.out]; exact hi))])
      have c0 : ¬ (k : Int) < k := by omega
      clear hb
      go_wp2
      go_returns
      exact ⟨by rw [HV.out]; rfl, HBW.out⟩
set_option maxHeartbeats 400000 in
theorem secCont_any (A : Option Addr) (len cap : Nat) (l : List SecR) (hll : l.length = len) (hl : len ≤ 100000) (w : World) (hst : SecAt w A l) :
    Calls Try.prog 53 #[.slice A len cap, .func (.func 54) #[] #[]] w fun e w' => e = .returned (.bool (!l.all secOk)) ∧ Bw w w' := by
  have HI := hid (secIdx_any A len cap l hll hl w hst)
  have HG := hid (firstNo_ge secOk l)
  obtain ⟨x, hx⟩ : ∃ x, firstNo secOk l = x := ⟨_, rfl⟩
  obtain ⟨y, hy⟩ : ∃ y, (!l.all secOk) = y := ⟨_, rfl⟩
  rw [hx] at HI HG
  rw [hy] at HG ⊢
  clear hx hy hst
  have h0 := HG.out
  go_enter Try.func53, Try.ntmps53
  go_wp2_with fail
  refine HI.out.mono ?_
  rintro e w2 ⟨rfl, hb⟩
  have HB := hid hb
  clear hb
  go_wp2
  go_returns
  exact ⟨by first | rfl | (rw [← HG.out]; rfl), HB.out⟩
end Go.Proofs.Ytciaebhkemdilaa
/- Whether a model is valid (contract of the function). -/
namespace Go.Proofs.Ytciaebhkemdilaa
open Go.RowKit Go.Conc
set_option linter.unusedVariables false
set_option linter.unusedSimpArgs false
def validB (m : ElfR) : Bool := betB 65535 [m.typ, m.mac] && (betB 4294967295 [m.flg] && (betB 1000 [(m.segs.length : Int), (m.secs.length : Int)] && (m.segs.all segOk && m.secs.all secOk)))
set_option maxRecDepth 100000 in
set_option maxHeartbeats 4000000 in
theorem isValid_any (m : ElfR) (a b : Option Addr) (n c k d : Nat) (hn : m.segs.length = n) (hk : m.secs.length = k) (hn9 : n ≤ 100000) (hk9 : k ≤ 100000) (w : World) (hsg : SegAt w a m.segs) (hsc : SecAt w b m.secs) :
    Calls Try.prog 27 #[.agg #[.int .i64 m.typ, .int .i64 m.mac, .int .u64 m.ent, .int .i64 m.flg, .slice a n c, .slice b k d]] w fun e w' => e = .returned (.bool (validB m)) ∧ Bw w w' := by
  have HV := hid (show validB m = (betB 65535 [m.typ, m.mac] && (betB 4294967295 [m.flg] && (betB 1000 [(n : Int), (k : Int)] && (m.segs.all segOk && m.secs.all secOk)))) from by unfold validB; rw [hn, hk])
  obtain ⟨V, hVV⟩ : ∃ V, validB m = V := ⟨_, rfl⟩
  rw [hVV] at HV ⊢
  have HSG := hid hsg
  have HSC := hid hsc
  obtain ⟨ty, ma, en, fl, sg, sc⟩ := m
  simp only at hn hk HV HSG HSC ⊢
  have HNN := hid hn
  have HKK := hid hk
  clear hVV hsg hsc hn hk
  have HB1 := hid ((Bw.refl w).alloc (.cells #[.int .i64 ty, .int .i64 ma, .int .u64 en, .int .i64 fl, .slice a n c, .slice b k d] 27))
  have HX1 := hid (Has.new w 27 #[.int .i64 ty, .int .i64 ma, .int .u64 en, .int .i64 fl, .slice a n c, .slice b k d])
  obtain ⟨xb, hxb⟩ : ∃ xb, w.heap.size = xb := ⟨_, rfl⟩
  rw [hxb] at HX1
  go_enter Try.func27, Try.ntmps27
  go_upto_region 1 with fail
  generalize w.alloc (.cells #[.int .i64 ty, .int .i64 ma, .int .u64 en, .int .i64 fl, .slice a n c, .slice b k d] 27) = w1 at *
  have c0 : w1.cell? ⟨xb, 0, none⟩ = some (.int .i64 ty) := HX1.out.cell 0
  have c1 : w1.cell? ⟨xb, 1, none⟩ = some (.int .i64 ma) := HX1.out.cell 1
  have HC1 := hid (between_any 65535 w1.heap.size [ty, ma] (by simp) _ (show Has (w1.alloc (.cells #[.int .i64 ty, .int .i64 ma] 3)) w1.heap.size 3 _ from Has.new w1 _ _))
  have HB2 := hid (HB1.out.alloc (.cells #[.int .i64 ty, .int .i64 ma] 3))
  have HX2 := hid (HX1.out.alloc (.cells #[.int .i64 ty, .int .i64 ma] 3))
  obtain ⟨g1, hg1⟩ : ∃ g, w1.heap.size = g := ⟨_, rfl⟩
  rw [hg1] at HC1
  go_wp2_with fail
  generalize w1.alloc (.cells #[.int .i64 ty, .int .i64 ma] 3) = w2 at *
  clear hg1 c0 c1
  refine HC1.out.mono ?_
  rintro e w3 ⟨rfl, hb3⟩
  have HB3 := hid (HB2.out.trans hb3)
  have HX3 := hid (hb3.has HX2.out)
  clear hb3
  cases q1 : betB 65535 [ty, ma] with
  | false =>
    have HF := hid (show V = false from by rw [HV.out, q1]; rfl)
    go_wp2
    go_returns
    exact ⟨by rw [HF.out]; rfl, HB3.out⟩
  | true =>
  have c3 : w3.cell? ⟨xb, 3, none⟩ = some (.int .i64 fl) := HX3.out.cell 3
  have HC3 := hid (between_any 4294967295 w3.heap.size [fl] (by simp) _ (show Has (w3.alloc (.cells #[.int .i64 fl] 3)) w3.heap.size 3 _ from Has.new w3 _ _))
  have HB4 := hid (HB3.out.alloc (.cells #[.int .i64 fl] 3))
  have HX4 := hid (HX3.out.alloc (.cells #[.int .i64 fl] 3))
  obtain ⟨g3, hg3⟩ : ∃ g, w3.heap.size = g := ⟨_, rfl⟩
  rw [hg3] at HC3
  go_wp2_with fail
  generalize w3.alloc (.cells #[.int .i64 fl] 3) = w4 at *
  clear hg3 c3
  refine HC3.out.mono ?_
  rintro e w5 ⟨rfl, hb5⟩
  have HB5 := hid (HB4.out.trans hb5)
  have HX5 := hid (hb5.has HX4.out)
  clear hb5
  cases q2 : betB 4294967295 [fl] with
  | false =>
    have HF := hid (show V = false from by rw [HV.out, q1, q2]; rfl)
    go_wp2
    go_returns
    exact ⟨by rw [HF.out]; rfl, HB5.out⟩
  | true =>
  have c4 : w5.cell? ⟨xb, 4, none⟩ = some (.slice a n c) := HX5.out.cell 4
  have c5 : w5.cell? ⟨xb, 5, none⟩ = some (.slice b k d) := HX5.out.cell 5
  have HC5 := hid (between_any 1000 w5.heap.size [(n : Int), (k : Int)] (by simp) _ (show Has (w5.alloc (.cells #[.int .i64 n, .int .i64 k] 3)) w5.heap.size 3 _ from Has.new w5 _ _))
  have HB6 := hid (HB5.out.alloc (.cells #[.int .i64 n, .int .i64 k] 3))
  have HX6 := hid (HX5.out.alloc (.cells #[.int .i64 n, .int .i64 k] 3))
  obtain ⟨g5, hg5⟩ : ∃ g, w5.heap.size = g := ⟨_, rfl⟩
  rw [hg5] at HC5
  go_wp2_with fail
  generalize w5.alloc (.cells #[.int .i64 n, .int .i64 k] 3) = w6 at *
  clear hg5 c4 c5
  refine HC5.out.mono ?_
  rintro e w7 ⟨rfl, hb7⟩
  have HB7 := hid (HB6.out.trans hb7)
  have HX7 := hid (hb7.has HX6.out)
  clear hb7
  cases q3 : betB 1000 [(n : Int), (k : Int)] with
  | false =>
    have HF := hid (show V = false from by rw [HV.out, q1, q2, q3]; rfl)
    go_wp2
    go_returns
    exact ⟨by rw [HF.out]; rfl, HB7.out⟩
  | true =>
  have c4 : w7.cell? ⟨xb, 4, none⟩ = some (.slice a n c) := HX7.out.cell 4
  have HS7 := hid (segCont_any a n c sg HNN.out hn9 w7 (HSG.out.below HB7.out))
  go_wp2_with fail
  refine HS7.out.mono ?_
  rintro e w8 ⟨rfl, hb8⟩
  have HB8 := hid (HB7.out.trans hb8)
  have HX8 := hid (hb8.has HX7.out)
  clear hb8 c4
  cases q4 : sg.all segOk with
  | false =>
    have HF := hid (show V = false from by rw [HV.out, q1, q2, q3, q4]; rfl)
    go_wp2
    go_returns
    exact ⟨by rw [HF.out]; rfl, HB8.out⟩
  | true =>
  have HF := hid (show V = sc.all secOk from by rw [HV.out, q1, q2, q3, q4]; rfl)
  have c5 : w8.cell? ⟨xb, 5, none⟩ = some (.slice b k d) := HX8.out.cell 5
  have HS8 := hid (secCont_any b k d sc HKK.out hk9 w8 (HSC.out.below HB8.out))
  go_wp2_with fail
  refine HS8.out.mono ?_
  rintro e w9 ⟨rfl, hb9⟩
  have HB9 := hid (HB8.out.trans hb9)
  clear hb9 c5
  cases q5 : sc.all secOk
  all_goals
    rw [q5] at HF
    go_wp2
    go_returns
    exact ⟨by rw [HF.out]; rfl, HB9.out⟩
end Go.Proofs.Ytciaebhkemdilaa
