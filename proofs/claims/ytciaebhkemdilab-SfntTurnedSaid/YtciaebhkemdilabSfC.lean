/- sfnt's reader: what is claimed; the first bytes of a font (contracts of the functions). -/
import Derived.Test.YtciaebhkemdilabRvO
import Derived.Test.YtciaebhkemdilabSfD
import Derived.Test.YtciaebhkemdilabSfAB
import Derived.Test.YtciaebhkemdilabSfTI
namespace Go.Proofs.Ytciaebhkemdilab
open Go.RowKit
set_option linter.unusedVariables false
set_option linter.unusedSimpArgs false
/-- The blocks from B on, but for some. -/
def Oth (B : Nat) (l : List Nat) (i : Nat) : Prop := B ≤ i ∧ i ∉ l
def ClaimQ (B : Nat) (l : List Nat) (g : Nat) (L : List PartR) (p n : Nat) (x : Int) (w : World) (e : Ending) (w' : World) : Prop :=
  e = .returned (.int .i64 (if n = 0 then 0 else addE L p ((p + n : Nat) : Int))) ∧ SetP (Oth B l) w' g (if n = 0 then L else addL L p ((p + n : Nat) : Int) x) ∧ Keeps (Oth B l) w w'
theorem oth_new {B : Nat} {l : List Nat} {w w' : World} {g : Nat} {L : List PartR} (hB : B ≤ w.heap.size) (hl : ∀ i ∈ l, i < w.heap.size) (h : SetP (orNew (Oth B l) w) w' g L) : SetP (Oth B l) w' g L :=
  h.mono fun i _ hi => by
    rcases hi with hi | hi
    · exact hi
    · exact ⟨by omega, fun hm => by have := hl i hm; omega⟩
set_option maxHeartbeats 1000000 in
theorem claim_any (B : Nat) (l : List Nat) (rb g : Nat) (b all : Int) (s tag : ByteArray) (L : List PartR) (hR : Rising L) (h9 : L.length ≤ 1000) (p n : Nat) (hp : p + n ≤ 1000000000000) (x : Int) (w : World) (hB : B ≤ w.heap.size) (hl : ∀ i ∈ l, i < w.heap.size) (hr : Has w rb 86 #[.int .i64 b, .string s, .pointer (some ⟨g, 0, none⟩), .string tag, .int .i64 all]) (hs : SetP (Oth B l) w g L) :
    Calls Try.prog 40 #[.pointer (some ⟨rb, 0, none⟩), .int .i64 p, .int .i64 n] w (ClaimQ B l g L p n x w) := by
  by_cases h0 : n = 0
  · have HQ := hid (show ∀ w', w = w' → ClaimQ B l g L p n x w (.returned (.int .i64 0)) w' from fun w' e => by
      subst e
      exact ⟨by rw [if_pos h0], by rw [if_pos h0]; exact hs, Keeps.refl _ _⟩)
    have t0 : ((n : Int) == 0) = true := by rw [beq_iff_eq]; omega
    clear hr hs hR
    clear h0
    go_enter Try.func40, Try.ntmps40
    go_wp2
    go_returns
    exact HQ.out _ rfl
  · have HQ := hid (show ∀ e w', e = .returned (.int .i64 (addE L p ((p + n : Nat) : Int))) → Put (Oth B l) w g (addL L p ((p + n : Nat) : Int) x) w' → ClaimQ B l g L p n x w e w' from fun e w' h1 h2 => ⟨by rw [if_neg h0]; exact h1, by rw [if_neg h0]; exact oth_new hB hl h2.1, h2.2⟩)
    have HA := hid (add_any (Oth B l) g L hR h9 p ((p + n : Nat) : Int) x w hs)
    have t0 : ((n : Int) == 0) = false := by rw [beq_eq_false_iff_ne]; omega
    have v1 : IntKind.i64.wrap ((p : Int) + (n : Int)) = ((p + n : Nat) : Int) := by rw [IntWalk.i64_in _ (by omega)]; omega
    obtain ⟨q, hq⟩ : ∃ q, p + n = q := ⟨_, rfl⟩
    rw [hq] at HA HQ v1
    have c2 : w.cell? ⟨rb, 2, none⟩ = some (.pointer (some ⟨g, 0, none⟩)) := hr.cell 2
    clear hr hs hR h0 hq
    go_enter Try.func40, Try.ntmps40
    go_wp2_with fail
    refine HA.out.mono ?_
    rintro e w2 ⟨rfl, hp⟩
    have HP := hid hp
    clear hp
    go_wp2
    go_returns
    exact HQ.out _ _ rfl HP.out
def LeadQ (s : ByteArray) (w : World) (e : Ending) (w' : World) : Prop :=
  Bw w w' ∧ ((leadE s = 0 ∧ e = .returned (.tuple #[.int .u32 (b4 s 0 : Nat), .int .i64 (b2 s 4 : Nat), .int .i64 0])) ∨ (leadE s ≠ 0 ∧ e = .returned (.tuple #[.int .u32 0, .int .i64 0, .int .i64 (leadE s)])))
theorem num_part (s : ByteArray) (p k a d : Nat) (h : a + d ≤ k) (hk : p + k ≤ s.size) : numAt (s.extract p (p + k)) a d true = numAt s (p + a) d true := by
  unfold numAt
  refine horn_congr d fun i hi => ?_
  rw [dig, dig, if_pos rfl, if_pos rfl, bt_extract s p k _ (by omega) (by omega)]
  congr 1
  omega
set_option maxRecDepth 100000 in
set_option maxHeartbeats 4000000 in
theorem leadOf_any (s : ByteArray) (hs : s.size ≤ lim) (w : World) :
    Calls Try.prog 24 #[.agg #[.int .i64 0, .string s]] w (LeadQ s w) := by
  have hl := hs
  unfold lim at hl
  have HBD := hid (fun e w' (E : Int) (hb : Bw w w') (h0 : leadE s = E) (h1 : E ≠ 0) (he : e = .returned (.tuple #[.int .u32 0, .int .i64 0, .int .i64 E])) => (show LeadQ s w e w' from ⟨hb, .inr ⟨by rw [h0]; exact h1, by rw [h0]; exact he⟩⟩))
  have HGD := hid (fun e w' (hb : Bw w w') (h0 : leadE s = 0) (he : e = .returned (.tuple #[.int .u32 (b4 s 0 : Nat), .int .i64 (b2 s 4 : Nat), .int .i64 0])) => (show LeadQ s w e w' from ⟨hb, .inl ⟨h0, he⟩⟩))
  have HW1 := hid ((Bw.refl w).alloc (.cells #[.int .i64 0, .string s] 57))
  have HA1 := hid (Has.new w 57 #[.int .i64 0, .string s])
  obtain ⟨xb, hxb⟩ : ∃ x, w.heap.size = x := ⟨_, rfl⟩
  rw [hxb] at HA1
  by_cases h12 : s.size < 12
  · have HSO := hid (fun W => (show Calls Try.prog 36 #[.agg #[.int .i64 0, .string s], .int .i64 0, .int .i64 12] W fun e w' => e = .returned (.tuple #[.agg #[.int .i64 0, .string ⟨#[]⟩], .int .i64 2]) ∧ Bw W w' from sub_out 0 (by omega) s hs 0 12 (by omega) W))
    have HE := hid (head_cut h12)
    clear h12
    go_enter Try.func24, Try.ntmps24
    go_wp2_with fail
    refine (HSO.out _).mono ?_
    rintro e w2 ⟨rfl, hb⟩
    have HB2 := hid ((HW1.out.trans hb).alloc (.cells #[.int .i64 0, .string ⟨#[]⟩] 57))
    clear hb
    go_wp2
    go_returns
    exact HBD.out _ _ 2 HB2.out HE.out (by decide) rfl
  have H12 := hid h12
  have HSI := hid (fun W => (show Calls Try.prog 36 #[.agg #[.int .i64 0, .string s], .int .i64 0, .int .i64 12] W fun e w' => e = .returned (.tuple #[.agg #[.int .i64 0, .string (s.extract 0 12)], .int .i64 0]) ∧ Bw W w' from by
    have := sub_in 0 (by omega) s hs 0 12 (by omega) W
    simpa using this))
  obtain ⟨T, hT⟩ : ∃ T, s.extract 0 12 = T := ⟨_, rfl⟩
  have HTT := hid hT
  have hTz : T.size = 12 := by rw [← hT]; simp; omega
  have hTl : T.size ≤ lim := by rw [hTz]; decide
  have HU1 := hid (fun W => (show Calls Try.prog 37 #[.agg #[.int .i64 0, .string T], .int .i64 0, .int .i64 4, .bool true] W fun e w' => e = .returned (.tuple #[.int .u64 (b4 s 0 : Nat), .int .i64 0]) ∧ Bw W w' from by
    have := uintb_any 4 rfl T hTl 0 (by omega) 0 (by omega) W
    rw [← hT, num_part s 0 12 0 4 (by omega) (by omega)] at this
    rw [← hT]
    exact this))
  have HU2 := hid (fun W => (show Calls Try.prog 37 #[.agg #[.int .i64 0, .string T], .int .i64 4, .int .i64 2, .bool true] W fun e w' => e = .returned (.tuple #[.int .u64 (b2 s 4 : Nat), .int .i64 0]) ∧ Bw W w' from by
    have := uintb_any 2 rfl T hTl 4 (by omega) 0 (by omega) W
    rw [← hT, num_part s 0 12 4 2 (by omega) (by omega)] at this
    rw [← hT]
    exact this))
  have HTX := hid (fun W => text_any 0 T hTl W)
  have hk4 := b4_lt s 0
  have hn2 := b2_lt s 4
  have HHO := hid (fun (h : HeadOk s) => (show leadE s = 0 from head_ok H12.out h))
  have HHB := hid (fun (h : ¬ HeadOk s) => (show leadE s = 3 from head_bad H12.out h))
  have HOK := hid (show HeadOk s ↔ (kindB (b4 s 0) = true ∧ countB (b2 s 4) = true ∧ T = headT (b4 s 0) (b2 s 4)) from by
    unfold countB
    rw [Bool.and_eq_true, decide_eq_true_eq, decide_eq_true_eq, ← hT]
    exact ⟨fun h => ⟨h.kind, ⟨h.one, h.few⟩, h.all⟩, fun ⟨a, ⟨b, c⟩, d⟩ => ⟨a, b, c, d⟩⟩)
  obtain ⟨k, hk⟩ : ∃ k, b4 s 0 = k := ⟨_, rfl⟩
  obtain ⟨n, hn⟩ : ∃ k, b2 s 4 = k := ⟨_, rfl⟩
  rw [hT] at HSI
  rw [hk] at HU1 HOK hk4 HGD
  rw [hn] at HU2 HOK hn2 HGD
  have HKA := hid (fun W => kind_any k W)
  have HCA := hid (fun W => count_any n W)
  have HLA := hid (fun (h1 : countB n = true) W => lead_any k n hk4 (by
    unfold countB at h1
    have := of_decide_eq_true (Bool.and_eq_true_iff.1 h1).1
    exact this) (by
    unfold countB at h1
    exact of_decide_eq_true (Bool.and_eq_true_iff.1 h1).2) W)
  obtain ⟨KB, hKB⟩ : ∃ b, kindB k = b := ⟨_, rfl⟩
  obtain ⟨CB, hCB⟩ : ∃ b, countB n = b := ⟨_, rfl⟩
  rw [hKB] at HKA HOK
  rw [hCB] at HCA HOK HLA
  have v1 : IntKind.u32.wrap (k : Int) = k := IntWalk.u32_in _ (by omega)
  have v2 : IntKind.i64.wrap (n : Int) = n := IntWalk.i64_in _ (by omega)
  clear hT hk hn hKB hCB hTl h12
  go_enter Try.func24, Try.ntmps24
  go_wp2_with fail
  refine (HSI.out _).mono ?_
  rintro e w2 ⟨rfl, hb⟩
  have HB2 := hid ((HW1.out.trans hb).alloc (.cells #[.int .i64 0, .string T] 57))
  have HT2 := hid (Has.new w2 57 #[.int .i64 0, .string T])
  obtain ⟨tb, htb⟩ : ∃ x, w2.heap.size = x := ⟨_, rfl⟩
  rw [htb] at HT2
  clear hb HSI HW1
  go_upto_region 4 with fail
  generalize w2.alloc (.cells #[.int .i64 0, .string T] 57) = w3 at *
  clear htb
  have c0 : w3.cell? ⟨tb, 0, none⟩ = some (.int .i64 0) := HT2.out.cell 0
  have c1 : w3.cell? ⟨tb, 1, none⟩ = some (.string T) := HT2.out.cell 1
  go_wp2_with fail
  refine (HU1.out _).mono ?_
  rintro e w4 ⟨rfl, hb⟩
  have HB4 := hid (HB2.out.trans hb)
  have HT4 := hid (hb.has HT2.out)
  clear hb c0 c1 HB2 HT2
  have c0 : w4.cell? ⟨tb, 0, none⟩ = some (.int .i64 0) := HT4.out.cell 0
  have c1 : w4.cell? ⟨tb, 1, none⟩ = some (.string T) := HT4.out.cell 1
  go_wp2_with fail
  refine (HU2.out _).mono ?_
  rintro e w5 ⟨rfl, hb⟩
  have HB5 := hid (HB4.out.trans hb)
  have HT5 := hid (hb.has HT4.out)
  clear hb c0 c1 HB4 HT4
  cases KB with
  | false =>
    have HE := hid (HHB.out fun h => by have := (HOK.out.1 h).1; cases this)
    go_wp2_with fail
    refine (HKA.out _).mono ?_
    rintro e w6 ⟨rfl, rfl⟩
    go_wp2
    go_returns
    exact HBD.out _ _ 3 HB5.out HE.out (by decide) rfl
  | true =>
    cases CB with
    | false =>
      have HE := hid (HHB.out fun h => by have := (HOK.out.1 h).2.1; cases this)
      go_wp2_with fail
      refine (HKA.out _).mono ?_
      rintro e w6 ⟨rfl, rfl⟩
      go_wp2_with fail
      refine (HCA.out _).mono ?_
      rintro e w6 ⟨rfl, rfl⟩
      go_wp2
      go_returns
      exact HBD.out _ _ 3 HB5.out HE.out (by decide) rfl
    | true =>
      have c0 : w5.cell? ⟨tb, 0, none⟩ = some (.int .i64 0) := HT5.out.cell 0
      have c1 : w5.cell? ⟨tb, 1, none⟩ = some (.string T) := HT5.out.cell 1
      go_wp2_with fail
      refine (HKA.out _).mono ?_
      rintro e w6 ⟨rfl, rfl⟩
      go_wp2_with fail
      refine (HCA.out _).mono ?_
      rintro e w6 ⟨rfl, rfl⟩
      go_wp2_with fail
      refine (HTX.out _).mono ?_
      rintro e w6 ⟨rfl, hb⟩
      have HB6 := hid (HB5.out.trans hb)
      clear hb c0 c1
      have HLB := hid (HLA.out (by trivial))
      obtain ⟨H, hH⟩ : ∃ H, headT k n = H := ⟨_, rfl⟩
      rw [hH] at HLB HOK
      clear hH HLA
      go_wp2_with fail
      refine (HLB.out _).mono ?_
      rintro e w7 ⟨rfl, hb⟩
      have HB7 := hid (HB6.out.trans hb)
      clear hb
      by_cases hq : T = H
      · have HE := hid (HHO.out (HOK.out.2 ⟨by trivial, by trivial, hq⟩))
        have t1 : (T.toList == H.toList) = true := by rw [hq, beq_iff_eq]
        clear hq
        go_wp2
        go_returns
        exact HGD.out _ _ HB7.out HE.out rfl
      · have HE := hid (HHB.out fun h => hq (HOK.out.1 h).2.2)
        have t1 : (T.toList == H.toList) = false := str_ne hq
        clear hq
        go_wp2
        go_returns
        exact HBD.out _ _ 3 HB7.out HE.out (by decide) rfl
end Go.Proofs.Ytciaebhkemdilab
