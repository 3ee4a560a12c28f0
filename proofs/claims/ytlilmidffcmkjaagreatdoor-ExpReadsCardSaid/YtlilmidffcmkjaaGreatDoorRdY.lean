import Derived.Test.YtlilmidffcmkjaaGreatDoorRdG
import Derived.Test.YtlilmidffcmkjaaGreatDoorRdO
import Derived.Test.YtlilmidffcmkjaaGreatDoorRdP
import Derived.Test.YtlilmidffcmkjaaGreatDoorRdQ
import Derived.Deep.RegionWith
/- The document's reader: signs, plain; numbers whole. -/
namespace Go.Proofs.YtlilmidffcmkjaaGreatDoor
open Go.RowKit
set_option linter.unusedVariables false
set_option linter.unusedSimpArgs false
theorem opK_brk {s : ByteArray} {q : Nat} (h : bAt s q = 40 ∨ bAt s q = 41) : opK s q = (0, 0) := by
  unfold opK
  rcases h with h | h <;> rw [h] <;> simp
theorem sig_eq {s : ByteArray} {q : Nat} (c : UInt8) (hc : c.toNat = 40 ∨ c.toNat = 41) : sigT s q = ⟨#[c]⟩ ↔ bAt s q = c.toNat := by
  by_cases h0 : (opK s q).1 = 0
  · by_cases hb : bAt s q = 40 ∨ bAt s q = 41
    · have hq : q < s.size := bAt_lt (by omega)
      rw [sig_br h0 hb]
      exact ext_b hq c
    · rw [sig_no h0 hb]
      constructor
      · intro e
        have := congrArg ByteArray.size e
        exact absurd (show (0 : Nat) = 1 from this) (by decide)
      · intro e
        exact absurd (by rw [e]; exact hc) hb
  · have hne : ¬ (bAt s q = 40 ∨ bAt s q = 41) := fun e => h0 (by rw [opK_brk e])
    constructor
    · intro e
      exfalso
      by_cases h2 : (opK s q).2 = 2
      · obtain ⟨a, b, _⟩ := sig_two h2
        rw [a] at e
        exact ext_ne (x := #[c]) b (show (2 : Nat) ≠ 1 by decide) e
      · rw [sig_one h2 (by omega)] at e
        rcases opK_or s q with o | ⟨_, _, o1, _, o2⟩
        · exact h0 (by rw [o])
        · exact hne (by rw [(ext_b (by omega) c).1 e]; exact hc)
    · intro e
      exact absurd (by rw [e]; exact hc) hne
theorem num_lt {s : ByteArray} {q e v : Nat} (h : numK s q e = some v) : q < e ∧ v ≤ mostN := by
  have key : ∀ b k, digN s b k e = some v → k < e ∧ v ≤ mostN := fun b k h => by
    unfold digN at h
    split at h
    · rename_i c
      split at h
      · split at h
        · injection h with h; exact ⟨c, by omega⟩
        · cases h
      · cases h
    · cases h
  unfold numK at h
  split at h
  · have := key _ _ h; exact ⟨by omega, this.2⟩
  · exact key _ _ h
theorem num_not40 {s : ByteArray} {q v : Nat} (h : numK s q (wordK s q) = some v) : ¬ bAt s q = 40 := fun e => by
  have := (num_lt h).1
  have hw : isWrd (bAt s q) = true := runK_all (p := isWrd) (Nat.le_refl q) this
  rw [e] at hw
  exact absurd hw (by decide)
theorem rnumber_any (B lb : Nat) (hB : B ≤ lb) (s : ByteArray) (hs : s.size ≤ 20000) (k : Nat) (hk : k ≤ s.size) (bad : Bool) (w : World) (h : LxAt w lb s k bad) :
    Calls Tryz.prog 29 #[.pointer (some ⟨lb, 0, none⟩)] w fun e w' => e = .returned (.tuple #[.int .u64 ((numZ s (skipK s k)).1 : Nat), .int .i64 ((numZ s (skipK s k)).2 : Nat)]) ∧ LxAt w' lb s (skipK s k) bad ∧ KT TL B w w' := by
  cases hx : hexB s (skipK s k) with
  | true => exact number_16 B lb hB s hs k hk bad w h hx
  | false =>
    by_cases x1 : skipK s k + 1 < s.size
    · by_cases x2 : bAt s (skipK s k) = 48
      · exact number_10a B lb hB s hs k hk bad w h hx x1 x2 (fun x3 => by unfold hexB at hx; rw [x2, x3] at hx; exact absurd hx (by decide))
      · exact number_10b B lb hB s hs k hk bad w h hx x1 x2
    · exact number_10c B lb hB s hs k hk bad w h hx x1
end Go.Proofs.YtlilmidffcmkjaaGreatDoor
/- The document's reader: numbers and brackets (contract of its method). -/
namespace Go.Proofs.YtlilmidffcmkjaaGreatDoor
open Go.RowKit
set_option linter.unusedVariables false
set_option linter.unusedSimpArgs false
set_option maxRecDepth 100000 in
set_option maxHeartbeats 8000000 in
theorem rone_num (w0 w : World) (lb eb : Nat) (s : ByteArray) (hs : s.size ≤ 20000) (k deep bd : Nat) (l : List ExpR) (v : Value) (h : ExsS w0 w lb eb s k false deep l v) (hf : l.length ≤ 400) (hbd : 401 ≤ bd) (hL : isLet (bAt s (skipK s k)) = false) (vv : Nat) (HYP : numK s (skipK s k) (wordK s (skipK s k)) = some vv) :
    Calls Tryz.prog 16 #[.pointer (some ⟨eb, 0, none⟩)] w (RdP w0 w lb eb s deep bd (opdW s (ex s) (skipK s k) deep l)) := by
  have hq : skipK s k ≤ s.size := runK_le isBlk s k h.ks
  have HWD := hid (word_any w0.heap.size lb h.lp s hs k h.ks false w h.lx)
  have hss := skip_skip s k
  obtain ⟨q, hqq⟩ : ∃ q, skipK s k = q := ⟨_, rfl⟩
  rw [hqq] at HWD hL hq hss HYP ⊢
  rw [show wrdT s q = ⟨#[]⟩ from by unfold wrdT; rw [if_neg (by rw [hL]; exact Bool.false_ne_true)]; rfl] at HWD
  have HNU := hid (fun W (hW : LxAt W lb s q false) => rnumber_any w0.heap.size lb h.lp s hs q hq false W hW)
  rw [hss] at HNU
  have hR : opdW s (ex s) q deep l = if l.length < 400 then some (l.length, wordK s q, l ++ [⟨nilS, nilS, vv, 0, 0⟩]) else none := by
    unfold opdW
    rw [if_neg (num_not40 HYP)]
    unfold leafX
    rw [if_neg (by rw [hL]; exact Bool.false_ne_true), HYP]
  obtain ⟨hlt, hvv⟩ := num_lt HYP
  have hnz : numZ s q = (vv, wordK s q - q) := by unfold numZ; rw [HYP]
  rw [hnz] at HNU
  have hle : wordK s q ≤ s.size := runK_le isWrd s q hq
  obtain ⟨R, hRR⟩ : ∃ R, opdW s (ex s) q deep l = R := ⟨_, rfl⟩
  rw [hRR] at hR ⊢
  obtain ⟨e, he⟩ : ∃ e, wordK s q = e := ⟨_, rfl⟩
  rw [he] at HNU hlt hle hR
  obtain ⟨z, hz⟩ : ∃ z, e - q = z := ⟨_, rfl⟩
  rw [hz] at HNU
  have HR := hid hR
  have HS := hid h
  have HQ := hid hq
  have c0 := h.ex.cell 0
  simp at c0
  have x1 : (q : Int) + (z : Int) = e := by omega
  have HX := hid x1
  have i1 : (q : Int) + (z : Int) ≤ 20000 := by omega
  have i2 : (0 : Int) < (z : Int) := by omega
  clear h hR hRR hnz he hqq hL x1 hz HYP hss
  go_enter Tryz.func16, Tryz.ntmps16
  go_wp2_with fail
  refine HWD.out.mono ?_
  rintro e2 w2 ⟨rfl, hl2, hk2⟩
  have HS2 := hid (HS.out.lexed hk2 hl2 HQ.out)
  have HK2 := hid (KT.wide hk2)
  have HN2 := hid (HNU.out w2 hl2)
  have e0 := HS2.out.ex.cell 0
  simp at e0
  clear hl2 hk2 c0
  go_wp2_with fail
  refine HN2.out.mono ?_
  rintro e3 w3 ⟨rfl, hl3, hk3⟩
  have HS3 := hid (HS2.out.lexed hk3 hl3 HQ.out)
  have HK3 := hid (HK2.out.trans (KT.wide hk3))
  clear e0
  have e0 := HS3.out.ex.cell 0
  have e1 := HS3.out.lx.cell 1
  have e2 := HS3.out.ex.cell 2
  have e3 := HS3.out.lx.cell 2
  have q1 := HS3.out.lx.frozen 1
  have q2 := HS3.out.lx.frozen 2
  have q3 := HS3.out.ex.frozen 2
  simp at e0 e1 e2 e3
  have e0d : w3.drew.cell? ⟨eb, 0, none⟩ = some (.pointer (some ⟨lb, 0, none⟩)) := e0
  have e1d : w3.drew.cell? ⟨lb, 1, none⟩ = some (.int .i64 (q : Nat)) := e1
  have q1d : w3.drew.frozen? ⟨lb, 1, none⟩ = false := q1
  clear hl3 hk3
  go_wp2_with fail
  go_region
  have HB4 := hid (show Bw (w3.setCell ⟨lb, 1, none⟩ (.int .i64 ((q : Int) + (z : Int)))) (w3.setCell ⟨lb, 1, none⟩ (.int .i64 ((q : Int) + (z : Int)))).drew from (Bw.refl _).drewN 1)
  have HS4 := hid ((HS3.out.goto (k' := e) hle HX.out).later HB4.out)
  have HK4 := hid ((HK3.out.trans (HS3.out.ktL 1 (.int .i64 ((q : Int) + (z : Int))))).trans (KT.of_bw HB4.out))
  have HAD := hid (radd_any w0 _ lb eb s e deep false l v HS4.out ⟨nilS, nilS, vv, 0, 0⟩ (by omega))
  generalize (w3.setCell ⟨lb, 1, none⟩ (.int .i64 ((q : Int) + (z : Int)))).drew = W4 at *
  clear e0 e1 e2 e3 q1 q2 q3 e0d e1d q1d
  go_wp2_with fail
  refine Calls.mono (show Calls Tryz.prog 19 #[.pointer (some ⟨eb, 0, none⟩), .agg #[.string ⟨#[]⟩, .string ⟨#[]⟩, .int .u64 (vv : Nat), .int .i64 0, .int .i64 0]] W4 _ from HAD.out) ?_
  rintro e4 w5 ⟨rfl, hk5, hs5⟩
  have HK5 := hid hk5
  have HS5 := hid hs5
  clear hk5 hs5
  go_wp2_with fail
  go_returns
  rw [HR.out]
  exact rdp_add hf hbd rfl (HK4.out.trans HK5.out) HS5.out
set_option maxRecDepth 100000 in
set_option maxHeartbeats 8000000 in
theorem rone_not (w0 w : World) (lb eb : Nat) (s : ByteArray) (hs : s.size ≤ 20000) (k deep bd : Nat) (l : List ExpR) (v : Value) (h : ExsS w0 w lb eb s k false deep l v) (hf : l.length ≤ 400) (hbd : 401 ≤ bd) (hL : isLet (bAt s (skipK s k)) = false) (HYP : numK s (skipK s k) (wordK s (skipK s k)) = none) (hb : ¬ bAt s (skipK s k) = 40) :
    Calls Tryz.prog 16 #[.pointer (some ⟨eb, 0, none⟩)] w (RdP w0 w lb eb s deep bd (opdW s (ex s) (skipK s k) deep l)) := by
  have hq : skipK s k ≤ s.size := runK_le isBlk s k h.ks
  have HWD := hid (word_any w0.heap.size lb h.lp s hs k h.ks false w h.lx)
  have hss := skip_skip s k
  obtain ⟨q, hqq⟩ : ∃ q, skipK s k = q := ⟨_, rfl⟩
  rw [hqq] at HWD hL hq hss HYP hb ⊢
  rw [show wrdT s q = ⟨#[]⟩ from by unfold wrdT; rw [if_neg (by rw [hL]; exact Bool.false_ne_true)]; rfl] at HWD
  have HNU := hid (fun W (hW : LxAt W lb s q false) => rnumber_any w0.heap.size lb h.lp s hs q hq false W hW)
  rw [hss] at HNU
  have hnz : numZ s q = (0, 0) := by unfold numZ; rw [HYP]
  have HNU2 := hid (fun W (hW : LxAt W lb s q false) => (show Calls Tryz.prog 29 #[.pointer (some ⟨lb, 0, none⟩)] W fun e w' => e = .returned (.tuple #[.int .u64 0, .int .i64 0]) ∧ LxAt w' lb s q false ∧ KT TL w0.heap.size W w' from by have hU := HNU.out W hW; rw [hnz] at hU; exact hU))
  have HSG := hid (fun W (hW : LxAt W lb s q false) => sign_any w0.heap.size lb h.lp s hs q hq false W hW)
  rw [hss] at HSG
  have hR : opdW s (ex s) q deep l = none := by
    unfold opdW
    rw [if_neg hb]
    unfold leafX
    rw [if_neg (by rw [hL]; exact Bool.false_ne_true), HYP]
  rw [hR]
  obtain ⟨sg, hsg⟩ : ∃ sg, sigT s q = sg := ⟨_, rfl⟩
  rw [hsg] at HSG
  have n1 : (sg.toList == [40]) = false := str_nl (fun e => hb ((sig_eq 40 (.inl rfl)).1 (hsg.trans e)))
  have HS := hid h
  have HQ := hid hq
  have c0 := h.ex.cell 0
  simp at c0
  clear h hR hnz hqq hL HYP hss hsg hb HNU
  go_enter Tryz.func16, Tryz.ntmps16
  go_wp2_with fail
  refine HWD.out.mono ?_
  rintro e2 w2 ⟨rfl, hl2, hk2⟩
  have HS2 := hid (HS.out.lexed hk2 hl2 HQ.out)
  have HK2 := hid (KT.wide hk2)
  have HN2 := hid (HNU2.out w2 hl2)
  have e0 := HS2.out.ex.cell 0
  simp at e0
  clear hl2 hk2 c0
  go_wp2_with fail
  refine HN2.out.mono ?_
  rintro e3 w3 ⟨rfl, hl3, hk3⟩
  have HS3 := hid (HS2.out.lexed hk3 hl3 HQ.out)
  have HK3 := hid (HK2.out.trans (KT.wide hk3))
  clear e0
  have e0 := HS3.out.ex.cell 0
  have e1 := HS3.out.lx.cell 1
  have e2 := HS3.out.ex.cell 2
  have e3 := HS3.out.lx.cell 2
  have q1 := HS3.out.lx.frozen 1
  have q2 := HS3.out.lx.frozen 2
  have q3 := HS3.out.ex.frozen 2
  simp at e0 e1 e2 e3
  have HG3 := hid (HSG.out w3 hl3)
  clear hl3 hk3
  go_wp2_with fail
  refine HG3.out.mono ?_
  rintro e4 w4 ⟨rfl, hl4, hk4⟩
  have HS4 := hid (HS3.out.lexed hk4 hl4 HQ.out)
  have HK4 := hid (HK3.out.trans (KT.wide hk4))
  clear e0 e1 e2 e3 q1 q2 q3 hl4 hk4
  have e0 := HS4.out.ex.cell 0
  have e1 := HS4.out.lx.cell 1
  have e2 := HS4.out.ex.cell 2
  have e3 := HS4.out.lx.cell 2
  have q1 := HS4.out.lx.frozen 1
  have q2 := HS4.out.lx.frozen 2
  have q3 := HS4.out.ex.frozen 2
  simp at e0 e1 e2 e3
  go_wp2_with fail
  go_returns
  exact rdp_bad (i := 0) (by omega) rfl (HK4.out.trans (HS4.out.ktL 2 _)) HS4.out.worse
set_option maxRecDepth 100000 in
set_option maxHeartbeats 8000000 in
theorem rone_deep (w0 w : World) (lb eb : Nat) (s : ByteArray) (hs : s.size ≤ 20000) (k deep bd : Nat) (l : List ExpR) (v : Value) (h : ExsS w0 w lb eb s k false deep l v) (hf : l.length ≤ 400) (hbd : 401 ≤ bd) (hL : isLet (bAt s (skipK s k)) = false) (HYP : numK s (skipK s k) (wordK s (skipK s k)) = none) (hb : bAt s (skipK s k) = 40) (hd : deep = 20) :
    Calls Tryz.prog 16 #[.pointer (some ⟨eb, 0, none⟩)] w (RdP w0 w lb eb s deep bd (opdW s (ex s) (skipK s k) deep l)) := by
  have hq : skipK s k ≤ s.size := runK_le isBlk s k h.ks
  have HWD := hid (word_any w0.heap.size lb h.lp s hs k h.ks false w h.lx)
  have hss := skip_skip s k
  obtain ⟨q, hqq⟩ : ∃ q, skipK s k = q := ⟨_, rfl⟩
  rw [hqq] at HWD hL hq hss HYP hb ⊢
  rw [show wrdT s q = ⟨#[]⟩ from by unfold wrdT; rw [if_neg (by rw [hL]; exact Bool.false_ne_true)]; rfl] at HWD
  have HNU := hid (fun W (hW : LxAt W lb s q false) => rnumber_any w0.heap.size lb h.lp s hs q hq false W hW)
  rw [hss] at HNU
  have hnz : numZ s q = (0, 0) := by unfold numZ; rw [HYP]
  have HNU2 := hid (fun W (hW : LxAt W lb s q false) => (show Calls Tryz.prog 29 #[.pointer (some ⟨lb, 0, none⟩)] W fun e w' => e = .returned (.tuple #[.int .u64 0, .int .i64 0]) ∧ LxAt w' lb s q false ∧ KT TL w0.heap.size W w' from by have hU := HNU.out W hW; rw [hnz] at hU; exact hU))
  have HSG := hid (fun W (hW : LxAt W lb s q false) => sign_any w0.heap.size lb h.lp s hs q hq false W hW)
  rw [hss] at HSG
  have hR : opdW s (ex s) q deep l = none := by
    unfold opdW
    rw [if_pos hb, if_neg (by omega)]
  rw [hR]
  rw [(sig_eq 40 (.inl rfl)).2 hb] at HSG
  have HS := hid h
  have HQ := hid hq
  have c0 := h.ex.cell 0
  simp at c0
  subst hd
  clear h hR hnz hqq hL HYP hss hb HNU
  go_enter Tryz.func16, Tryz.ntmps16
  go_wp2_with fail
  refine HWD.out.mono ?_
  rintro e2 w2 ⟨rfl, hl2, hk2⟩
  have HS2 := hid (HS.out.lexed hk2 hl2 HQ.out)
  have HK2 := hid (KT.wide hk2)
  have HN2 := hid (HNU2.out w2 hl2)
  have e0 := HS2.out.ex.cell 0
  simp at e0
  clear hl2 hk2 c0
  go_wp2_with fail
  refine HN2.out.mono ?_
  rintro e3 w3 ⟨rfl, hl3, hk3⟩
  have HS3 := hid (HS2.out.lexed hk3 hl3 HQ.out)
  have HK3 := hid (HK2.out.trans (KT.wide hk3))
  clear e0
  have e0 := HS3.out.ex.cell 0
  have e1 := HS3.out.lx.cell 1
  have e2 := HS3.out.ex.cell 2
  have e3 := HS3.out.lx.cell 2
  have q1 := HS3.out.lx.frozen 1
  have q2 := HS3.out.lx.frozen 2
  have q3 := HS3.out.ex.frozen 2
  simp at e0 e1 e2 e3
  have HG3 := hid (HSG.out w3 hl3)
  clear hl3 hk3
  go_wp2_with fail
  refine HG3.out.mono ?_
  rintro e4 w4 ⟨rfl, hl4, hk4⟩
  have HS4 := hid (HS3.out.lexed hk4 hl4 HQ.out)
  have HK4 := hid (HK3.out.trans (KT.wide hk4))
  clear e0 e1 e2 e3 q1 q2 q3 hl4 hk4
  have e0 := HS4.out.ex.cell 0
  have e1 := HS4.out.lx.cell 1
  have e2 := HS4.out.ex.cell 2
  have e3 := HS4.out.lx.cell 2
  have q1 := HS4.out.lx.frozen 1
  have q2 := HS4.out.lx.frozen 2
  have q3 := HS4.out.ex.frozen 2
  simp at e0 e1 e2 e3
  go_wp2_with fail
  go_returns
  exact rdp_bad (i := 0) (by omega) rfl (HK4.out.trans (HS4.out.ktL 2 _)) HS4.out.worse
set_option maxRecDepth 100000 in
set_option maxHeartbeats 8000000 in
theorem rone_brk (w0 w : World) (lb eb : Nat) (s : ByteArray) (hs : s.size ≤ 20000) (k deep bd : Nat) (l : List ExpR) (v : Value) (h : ExsS w0 w lb eb s k false deep l v) (hf : l.length ≤ 400) (hbd : 401 ≤ bd) (hL : isLet (bAt s (skipK s k)) = false) (HYP : numK s (skipK s k) (wordK s (skipK s k)) = none) (hb : bAt s (skipK s k) = 40) (hd : deep < 20)
    (IH : ∀ W, ExsS w0 W lb eb s (skipK s k + 1) false (deep + 1) l v → Calls Tryz.prog 9 #[.pointer (some ⟨eb, 0, none⟩), .int .i64 1] W (RdP w0 W lb eb s (deep + 1) bd (ex s 1 (skipK s k + 1) (deep + 1) l))) :
    Calls Tryz.prog 16 #[.pointer (some ⟨eb, 0, none⟩)] w (RdP w0 w lb eb s deep bd (opdW s (ex s) (skipK s k) deep l)) := by
  have hq : skipK s k ≤ s.size := runK_le isBlk s k h.ks
  have HWD := hid (word_any w0.heap.size lb h.lp s hs k h.ks false w h.lx)
  have hss := skip_skip s k
  obtain ⟨q, hqq⟩ : ∃ q, skipK s k = q := ⟨_, rfl⟩
  rw [hqq] at HWD hL hq hss HYP hb IH ⊢
  rw [show wrdT s q = ⟨#[]⟩ from by unfold wrdT; rw [if_neg (by rw [hL]; exact Bool.false_ne_true)]; rfl] at HWD
  have HNU := hid (fun W (hW : LxAt W lb s q false) => rnumber_any w0.heap.size lb h.lp s hs q hq false W hW)
  rw [hss] at HNU
  have hnz : numZ s q = (0, 0) := by unfold numZ; rw [HYP]
  have HNU2 := hid (fun W (hW : LxAt W lb s q false) => (show Calls Tryz.prog 29 #[.pointer (some ⟨lb, 0, none⟩)] W fun e w' => e = .returned (.tuple #[.int .u64 0, .int .i64 0]) ∧ LxAt w' lb s q false ∧ KT TL w0.heap.size W w' from by have hU := HNU.out W hW; rw [hnz] at hU; exact hU))
  have HSG := hid (fun W (hW : LxAt W lb s q false) => sign_any w0.heap.size lb h.lp s hs q hq false W hW)
  rw [hss] at HSG
  have hR : opdW s (ex s) q deep l = match ex s 1 (q + 1) (deep + 1) l with | some (i, k2, l2) => if bAt s k2 = 41 then some (i, k2 + 1, l2) else none | none => none := by
    unfold opdW
    rw [if_pos hb, if_pos hd]
    rfl
  obtain ⟨R, hRR⟩ : ∃ R, opdW s (ex s) q deep l = R := ⟨_, rfl⟩
  rw [hRR] at hR ⊢
  have HR := hid hR
  have HEN := hid (fun i k2 l2 (e : ex s 1 (q + 1) (deep + 1) l = some (i, k2, l2)) => (ex_ends s 1 (q + 1) (deep + 1) l e).1)
  rw [(sig_eq 40 (.inl rfl)).2 hb] at HSG
  have hq1 : q + 1 ≤ s.size := bAt_lt (by omega)
  have HQ1 := hid hq1
  have HIH := hid IH
  have HS := hid h
  have HQ := hid hq
  have c0 := h.ex.cell 0
  simp at c0
  have d1 : ¬ (deep : Int) = 20 := by omega
  have d2 : (deep : Int) < 20 := by omega
  have hi1 : (q : Int) < 20000 := by omega
  have HLP := hid h.lp
  clear h hR hRR hnz hqq hL HYP hss hb HNU IH
  go_enter Tryz.func16, Tryz.ntmps16
  go_wp2_with fail
  refine HWD.out.mono ?_
  rintro e2 w2 ⟨rfl, hl2, hk2⟩
  have HS2 := hid (HS.out.lexed hk2 hl2 HQ.out)
  have HK2 := hid (KT.wide hk2)
  have HN2 := hid (HNU2.out w2 hl2)
  have e0 := HS2.out.ex.cell 0
  simp at e0
  clear hl2 hk2 c0
  go_wp2_with fail
  refine HN2.out.mono ?_
  rintro e3 w3 ⟨rfl, hl3, hk3⟩
  have HS3 := hid (HS2.out.lexed hk3 hl3 HQ.out)
  have HK3 := hid (HK2.out.trans (KT.wide hk3))
  clear e0
  have e0 := HS3.out.ex.cell 0
  have e1 := HS3.out.lx.cell 1
  have e2 := HS3.out.ex.cell 2
  have e3 := HS3.out.lx.cell 2
  have q1 := HS3.out.lx.frozen 1
  have q2 := HS3.out.lx.frozen 2
  have q3 := HS3.out.ex.frozen 2
  simp at e0 e1 e2 e3
  have HG3 := hid (HSG.out w3 hl3)
  clear hl3 hk3
  go_wp2_with fail
  refine HG3.out.mono ?_
  rintro e4 w4 ⟨rfl, hl4, hk4⟩
  have HS4 := hid (HS3.out.lexed hk4 hl4 HQ.out)
  have HK4 := hid (HK3.out.trans (KT.wide hk4))
  clear e0 e1 e2 e3 q1 q2 q3 hl4 hk4
  have e0 := HS4.out.ex.cell 0
  have e1 := HS4.out.lx.cell 1
  have e2 := HS4.out.ex.cell 2
  have e3 := HS4.out.lx.cell 2
  have q1 := HS4.out.lx.frozen 1
  have q2 := HS4.out.lx.frozen 2
  have q3 := HS4.out.ex.frozen 2
  simp at e0 e1 e2 e3
  go_wp2_with fail
  have HS5 := hid (HS4.out.goto (k' := q + 1) HQ1.out (x := (q : Int) + 1) (by omega))
  have HS6 := hid (HS5.out.open_ (d := deep + 1) (by omega) (x := (deep : Int) + 1) (by omega))
  have HK6 := hid ((HK4.out.trans (HS4.out.ktL 1 (.int .i64 ((q : Int) + 1)))).trans (HS5.out.ktE 2 (.int .i64 ((deep : Int) + 1))))
  refine (HIH.out _ HS6.out).mono ?_
  rintro e7 w7 ⟨hk7, hx7⟩
  have HK7 := hid (HK6.out.trans hk7)
  clear e0 e1 e2 e3 q1 q2 q3 hk7
  cases hex : ex s 1 (q + 1) (deep + 1) l with
  | none =>
    rw [hex] at hx7
    obtain ⟨i, k2, l2, v2, rfl, hl2, hs7⟩ := hx7
    have HR2 := hid (show R = none from by rw [HR.out, hex])
    have HS7 := hid hs7
    have HL2 := hid hl2
    clear hex hs7
    have g0 := HS7.out.ex.cell 0
    have g2 := HS7.out.ex.cell 2
    have p2 := HS7.out.ex.frozen 2
    simp at g0 g2
    go_wp2_with fail
    have HS9 := hid (HS7.out.open_ (d := deep) (by omega) (x := (deep : Int)) rfl)
    have HK9 := hid (HK7.out.trans (HS7.out.ktE 2 (.int .i64 (deep : Int))))
    generalize w7.setCell ⟨eb, 2, none⟩ (.int .i64 (deep : Int)) = w9 at *
    clear g0 g2 p2
    have g0 := HS9.out.ex.cell 0
    simp at g0
    have HG9 := hid (sign_any w0.heap.size lb HLP.out s hs k2 HS9.out.ks true w9 HS9.out.lx)
    have hk3s : skipK s k2 ≤ s.size := runK_le isBlk s k2 HS9.out.ks
    obtain ⟨k3, hk3⟩ : ∃ k3, skipK s k2 = k3 := ⟨_, rfl⟩
    rw [hk3] at HG9 hk3s
    have HK3S := hid hk3s
    by_cases hc : bAt s k3 = 41
    · rw [(sig_eq 41 (.inr rfl)).2 hc] at HG9
      have hk4 : k3 + 1 ≤ s.size := bAt_lt (by omega)
      have HK4S := hid hk4
      have hi3 : (k3 : Int) < 20000 := by omega
      clear hk3 hc
      go_wp2_with fail
      refine HG9.out.mono ?_
      rintro e10 w10 ⟨rfl, hl10, hk10⟩
      have HS10 := hid (HS9.out.lexed hk10 hl10 HK3S.out)
      have HK10 := hid (HK9.out.trans (KT.wide hk10))
      clear g0 hl10 hk10
      have g0 := HS10.out.ex.cell 0
      have g1 := HS10.out.lx.cell 1
      have g2 := HS10.out.lx.cell 2
      have p1 := HS10.out.lx.frozen 1
      have p2 := HS10.out.lx.frozen 2
      simp at g0 g1 g2
      go_wp2_with fail
      go_returns
      rw [HR2.out]
      exact rdp_bad HL2.out rfl (HK10.out.trans (HS10.out.ktL 1 (.int .i64 ((k3 : Int) + 1)))) (HS10.out.goto (k' := k3 + 1) HK4S.out (x := (k3 : Int) + 1) (by omega))
    · obtain ⟨sg, hsg⟩ : ∃ sg, sigT s k3 = sg := ⟨_, rfl⟩
      rw [hsg] at HG9
      have n1 : (sg.toList == [41]) = false := str_nl (fun e => hc ((sig_eq 41 (.inr rfl)).1 (hsg.trans e)))
      clear hk3 hc hsg
      go_wp2_with fail
      refine HG9.out.mono ?_
      rintro e10 w10 ⟨rfl, hl10, hk10⟩
      have HS10 := hid (HS9.out.lexed hk10 hl10 HK3S.out)
      have HK10 := hid (HK9.out.trans (KT.wide hk10))
      clear g0 hl10 hk10
      have g0 := HS10.out.ex.cell 0
      have g1 := HS10.out.lx.cell 1
      have g2 := HS10.out.lx.cell 2
      have p1 := HS10.out.lx.frozen 1
      have p2 := HS10.out.lx.frozen 2
      simp at g0 g1 g2
      go_wp2_with fail
      go_returns
      rw [HR2.out]
      exact rdp_bad (i := 0) HL2.out rfl (HK10.out.trans (HS10.out.ktL 2 _)) HS10.out.worse
  | some y =>
    obtain ⟨i, k2, l2⟩ := y
    rw [hex] at hx7
    obtain ⟨rfl, hl2, v2, hs7⟩ := hx7
    have hk3 := HEN.out _ _ _ hex
    have HR2 := hid (show R = if bAt s k2 = 41 then some (i, k2 + 1, l2) else none from by rw [HR.out, hex])
    have HS7 := hid hs7
    have HL2 := hid hl2
    clear hex hs7
    have g0 := HS7.out.ex.cell 0
    have g2 := HS7.out.ex.cell 2
    have p2 := HS7.out.ex.frozen 2
    simp at g0 g2
    go_wp2_with fail
    have HS9 := hid (HS7.out.open_ (d := deep) (by omega) (x := (deep : Int)) rfl)
    have HK9 := hid (HK7.out.trans (HS7.out.ktE 2 (.int .i64 (deep : Int))))
    generalize w7.setCell ⟨eb, 2, none⟩ (.int .i64 (deep : Int)) = w9 at *
    clear g0 g2 p2
    have g0 := HS9.out.ex.cell 0
    simp at g0
    have HG9 := hid (sign_any w0.heap.size lb HLP.out s hs k2 HS9.out.ks false w9 HS9.out.lx)
    rw [hk3] at HG9
    have HK3S := hid HS9.out.ks
    by_cases hc : bAt s k2 = 41
    · rw [(sig_eq 41 (.inr rfl)).2 hc] at HG9
      have HR3 := hid (HR2.out.trans (if_pos hc))
      have hk4 : k2 + 1 ≤ s.size := bAt_lt (by omega)
      have HK4S := hid hk4
      have hi3 : (k2 : Int) < 20000 := by omega
      clear hk3 hc
      go_wp2_with fail
      refine HG9.out.mono ?_
      rintro e10 w10 ⟨rfl, hl10, hk10⟩
      have HS10 := hid (HS9.out.lexed hk10 hl10 HK3S.out)
      have HK10 := hid (HK9.out.trans (KT.wide hk10))
      clear g0 hl10 hk10
      have g0 := HS10.out.ex.cell 0
      have g1 := HS10.out.lx.cell 1
      have g2 := HS10.out.lx.cell 2
      have p1 := HS10.out.lx.frozen 1
      have p2 := HS10.out.lx.frozen 2
      simp at g0 g1 g2
      go_wp2_with fail
      go_returns
      rw [HR3.out]
      exact ⟨HK10.out.trans (HS10.out.ktL 1 (.int .i64 ((k2 : Int) + 1))), rfl, HL2.out, _, HS10.out.goto (k' := k2 + 1) HK4S.out (x := (k2 : Int) + 1) (by omega)⟩
    · have HR3 := hid (HR2.out.trans (if_neg hc))
      obtain ⟨sg, hsg⟩ : ∃ sg, sigT s k2 = sg := ⟨_, rfl⟩
      rw [hsg] at HG9
      have n1 : (sg.toList == [41]) = false := str_nl (fun e => hc ((sig_eq 41 (.inr rfl)).1 (hsg.trans e)))
      clear hk3 hc hsg
      go_wp2_with fail
      refine HG9.out.mono ?_
      rintro e10 w10 ⟨rfl, hl10, hk10⟩
      have HS10 := hid (HS9.out.lexed hk10 hl10 HK3S.out)
      have HK10 := hid (HK9.out.trans (KT.wide hk10))
      clear g0 hl10 hk10
      have g0 := HS10.out.ex.cell 0
      have g1 := HS10.out.lx.cell 1
      have g2 := HS10.out.lx.cell 2
      have p1 := HS10.out.lx.frozen 1
      have p2 := HS10.out.lx.frozen 2
      simp at g0 g1 g2
      go_wp2_with fail
      go_returns
      rw [HR3.out]
      exact rdp_bad (i := 0) (by have := HL2.out; omega) rfl (HK10.out.trans (HS10.out.ktL 2 _)) HS10.out.worse
end Go.Proofs.YtlilmidffcmkjaaGreatDoor
/- The document's reader: levels (contract of its method, by induction on what is left). -/
namespace Go.Proofs.YtlilmidffcmkjaaGreatDoor
open Go.RowKit
set_option linter.unusedVariables false
set_option linter.unusedSimpArgs false
/-- How long the list of a bad reader may be. -/
def bnd (n deep : Nat) : Nat := 401 + 7 * (20 - deep) + (7 - n)
theorem rdp_mono {w0 w w' : World} {lb eb : Nat} {s : ByteArray} {deep bd bd' : Nat} {r : PR} {e : Ending} (h : RdP w0 w lb eb s deep bd r e w') (hb : bd ≤ bd') : RdP w0 w lb eb s deep bd' r e w' := by
  obtain ⟨hk, hm⟩ := h
  refine ⟨hk, ?_⟩
  cases r with
  | some x => exact hm
  | none =>
    obtain ⟨i, k2, l2, v', a, b, c⟩ := hm
    exact ⟨i, k2, l2, v', a, Nat.le_trans b hb, c⟩
theorem sig_lvl (s : ByteArray) (q : Nat) : lvlOf (sigT s q) = (opK s q).1 := by
  by_cases h0 : (opK s q).1 = 0
  · rw [h0]
    by_cases hb : bAt s q = 40 ∨ bAt s q = 41
    · have hq : q < s.size := bAt_lt (by omega)
      rw [sig_br h0 hb, lvl_one s q hq (by rw [opK_brk hb]; decide), h0]
    · rw [sig_no h0 hb]; exact lvl_nil
  · by_cases h2 : (opK s q).2 = 2
    · obtain ⟨a, b, _⟩ := sig_two h2
      rw [a, lvl_two s q b, if_pos h2]
    · rcases opK_or s q with e | ⟨_, _, c, d, b⟩
      · exact absurd (by rw [e]) h0
      · rw [sig_one h2 (by omega), lvl_one s q (by omega) h2]
/-- How much is left: nothing, where it is bad. -/
def mL (sz lb : Nat) (w : World) : Nat := match w.cell? ⟨lb, 2, none⟩ with | some (.bool true) => 0 | _ => 1 + sz - atL lb w
theorem mL_bad {w : World} {lb sz : Nat} {s : ByteArray} {k : Nat} (h : LxAt w lb s k true) : mL sz lb w = 0 := by
  have c := Has.cell h 2
  simp at c
  unfold mL
  rw [c]
theorem mL_ok {w : World} {lb sz : Nat} {s : ByteArray} {k : Nat} (h : LxAt w lb s k false) : mL sz lb w = 1 + sz - k := by
  have c := Has.cell h 2
  simp at c
  unfold mL
  rw [c]
  simp only [LxAt.at h]
theorem rone_any (w0 w : World) (lb eb : Nat) (s : ByteArray) (hs : s.size ≤ 20000) (k deep : Nat) (l : List ExpR) (v : Value) (h : ExsS w0 w lb eb s k false deep l v) (hf : l.length ≤ 400)
    (IH : deep < 20 → bAt s (skipK s k) = 40 → ∀ W, ExsS w0 W lb eb s (skipK s k + 1) false (deep + 1) l v → Calls Tryz.prog 9 #[.pointer (some ⟨eb, 0, none⟩), .int .i64 1] W (RdP w0 W lb eb s (deep + 1) (bnd 1 (deep + 1)) (ex s 1 (skipK s k + 1) (deep + 1) l))) :
    Calls Tryz.prog 16 #[.pointer (some ⟨eb, 0, none⟩)] w (RdP w0 w lb eb s deep (bnd 7 deep) (opdW s (ex s) (skipK s k) deep l)) := by
  have hbd : 401 ≤ bnd 7 deep := by unfold bnd; omega
  cases hL : isLet (bAt s (skipK s k)) with
  | true => exact rone_let w0 w lb eb s hs k deep _ l v h hf hbd hL
  | false =>
    cases hn : numK s (skipK s k) (wordK s (skipK s k)) with
    | some vv => exact rone_num w0 w lb eb s hs k deep _ l v h hf hbd hL vv hn
    | none =>
      by_cases hb : bAt s (skipK s k) = 40
      · by_cases hd : deep = 20
        · exact rone_deep w0 w lb eb s hs k deep _ l v h hf hbd hL hn hb hd
        · have hd' : deep < 20 := by have := h.dp; omega
          refine rone_brk w0 w lb eb s hs k deep _ l v h hf hbd hL hn hb hd' fun W hW => (IH hd' hb W hW).mono fun e w' hr => rdp_mono hr (by unfold bnd; omega)
      · exact rone_not w0 w lb eb s hs k deep _ l v h hf hbd hL hn hb
abbrev LvIH (w0 : World) (lb eb : Nat) (s : ByteArray) (f : Nat) : Prop := ∀ (n k deep : Nat) (l : List ExpR) (W : World) (v : Value), 1 ≤ n → n ≤ 7 → 8 * (s.size - k) + (7 - n) < f → l.length ≤ 400 → ExsS w0 W lb eb s k false deep l v →
  Calls Tryz.prog 9 #[.pointer (some ⟨eb, 0, none⟩), .int .i64 (n : Nat)] W (RdP w0 W lb eb s deep (bnd n deep) (lvF s n k deep l))
set_option maxRecDepth 100000 in
set_option maxHeartbeats 8000000 in
theorem level_seven (w0 w : World) (lb eb : Nat) (s : ByteArray) (hs : s.size ≤ 20000) (f k deep : Nat) (l : List ExpR) (v : Value) (IH : LvIH w0 lb eb s f) (hk : 8 * (s.size - k) < f + 1) (hf : l.length ≤ 400) (h : ExsS w0 w lb eb s k false deep l v) :
    Calls Tryz.prog 9 #[.pointer (some ⟨eb, 0, none⟩), .int .i64 7] w (RdP w0 w lb eb s deep (bnd 7 deep) (lvF s 7 k deep l)) := by
  have hON := hid (rone_any w0 w lb eb s hs k deep l v h hf (fun hd hb W hW => by
    have hge : k ≤ skipK s k := runK_ge isBlk s k
    have hlt : skipK s k < s.size := bAt_lt (by omega)
    have hh := IH 1 (skipK s k + 1) (deep + 1) l W v (by omega) (by omega) (by omega) hf hW
    unfold lvF at hh
    rw [if_neg (by decide)] at hh
    exact hh))
  have hlv : lvF s 7 k deep l = opdW s (ex s) (skipK s k) deep l := by unfold lvF; rw [if_pos rfl]
  obtain ⟨R, hR⟩ : ∃ R, opdW s (ex s) (skipK s k) deep l = R := ⟨_, rfl⟩
  rw [hlv]
  rw [hR] at hON ⊢
  have e0 := h.ex.cell 0
  have e3 := h.lx.cell 2
  simp at e0 e3
  obtain ⟨bd, hbd⟩ : ∃ bd, bnd 7 deep = bd := ⟨_, rfl⟩
  rw [hbd] at hON ⊢
  clear h hR hlv IH hk hbd
  go_enter Tryz.func9, Tryz.ntmps9
  go_wp2_with fail
  refine hON.out.mono ?_
  rintro e w2 ⟨hk2, hx⟩
  have HK2 := hid hk2
  clear hk2 e0 e3
  cases R with
  | none =>
    obtain ⟨i, k2, l2, v2, rfl, hl2, hs2⟩ := hx
    have HL2 := hid hl2
    have HS2 := hid hs2
    clear hl2 hs2
    go_wp2_with fail
    go_returns
    exact rdp_bad HL2.out rfl HK2.out HS2.out
  | some y =>
    obtain ⟨i, k2, l2⟩ := y
    obtain ⟨rfl, hl2, v2, hs2⟩ := hx
    have HL2 := hid hl2
    have HS2 := hid hs2
    clear hl2 hs2
    go_wp2_with fail
    go_returns
    exact ⟨HK2.out, rfl, HL2.out, v2, HS2.out⟩
end Go.Proofs.YtlilmidffcmkjaaGreatDoor
/- The document's reader: a level of operators, then every level. -/
namespace Go.Proofs.YtlilmidffcmkjaaGreatDoor
open Go.RowKit
set_option linter.unusedVariables false
set_option linter.unusedSimpArgs false
set_option maxRecDepth 100000 in
set_option maxHeartbeats 16000000 in
theorem level_low (w0 w : World) (lb eb : Nat) (s : ByteArray) (hs : s.size ≤ 20000) (f n k deep : Nat) (l : List ExpR) (v : Value) (IH : LvIH w0 lb eb s f) (h1 : 1 ≤ n) (h6 : n ≤ 6) (hk : 8 * (s.size - k) + (7 - n) < f + 1) (hf : l.length ≤ 400) (h : ExsS w0 w lb eb s k false deep l v) :
    Calls Tryz.prog 9 #[.pointer (some ⟨eb, 0, none⟩), .int .i64 (n : Nat)] w (RdP w0 w lb eb s deep (bnd n deep) (lvF s n k deep l)) := by
  have hFI := IH (n + 1) k deep l w v (by omega) (by omega) (by omega) hf h
  rw [show ((n + 1 : Nat) : Int) = (n : Int) + 1 from by omega] at hFI
  have HFI := hid hFI
  have hX := ex_lvF s n k deep l h1 h6
  have hlv : lvF s n k deep l = ex s n k deep l := by unfold lvF; rw [if_neg (by omega)]
  rw [hlv]
  obtain ⟨R, hR⟩ : ∃ R, ex s n k deep l = R := ⟨_, rfl⟩
  rw [hR] at hX ⊢
  have HX := hid hX
  have HGR := hid (fun i k1 l1 (e : lvF s (n + 1) k deep l = some (i, k1, l1)) => And.intro (lvF_grows s (n + 1) k deep l e) (lvF_ends s n k deep l h6 e))
  have HBN := hid (show bnd (n + 1) deep + 1 = bnd n deep ∧ 401 ≤ bnd n deep from by unfold bnd; omega)
  have e0 := h.ex.cell 0
  have e3 := h.lx.cell 2
  simp at e0 e3
  have n1 : (1 : Int) ≤ (n : Int) := by omega
  have n6 : (n : Int) ≤ 6 := by omega
  have n7 : ¬ (n : Int) = 7 := by omega
  have HLP := hid h.lp
  have HIH := hid IH
  have HKF := hid hk
  clear h hR hX hlv IH hk hFI
  go_enter Tryz.func9, Tryz.ntmps9
  go_wp2_with fail
  refine HFI.out.mono ?_
  rintro e w2 ⟨hk2, hx⟩
  have HK2 := hid hk2
  clear hk2 e0 e3
  have HST : Hid (∃ (i kk : Nat) (ll : List ExpR) (vv : Value) (bad : Bool), e = .returned (.int .i64 (i : Nat)) ∧ ExsS w0 w2 lb eb s kk bad deep ll vv ∧ Hid (bad = false → R = lp s n i kk deep ll ∧ ll.length ≤ 400 ∧ (opK s (skipK s kk)).1 ≤ n ∧ k ≤ kk) ∧ Hid (bad = true → R = none ∧ ll.length ≤ bnd n deep)) := by
    cases hod : lvF s (n + 1) k deep l with
    | none =>
      rw [hod] at hx
      obtain ⟨i, k2, l2, v2, rfl, hl2, hs2⟩ := hx
      exact hid ⟨i, k2, l2, v2, true, rfl, hs2, hid (fun c => by cases c), hid (fun _ => ⟨by rw [HX.out, hod], by have := HBN.out; omega⟩)⟩
    | some y =>
      obtain ⟨i, k2, l2⟩ := y
      rw [hod] at hx
      obtain ⟨rfl, hl2, v2, hs2⟩ := hx
      obtain ⟨g1, g2⟩ := HGR.out i k2 l2 hod
      exact hid ⟨i, k2, l2, v2, false, rfl, hs2, hid (fun _ => ⟨by rw [HX.out, hod], hl2, g2, g1⟩), hid (fun c => by cases c)⟩
  clear hx
  obtain ⟨i0, kk0, ll0, vv0, bad0, rfl, hs0, HA0, HB0⟩ := HST.out
  have HS0 := hid hs0
  clear hs0 HST
  go_wp2_with fail
  go_loopw [5] (fun lf wr => ∃ (i kk : Nat) (ll : List ExpR) (vv : Value) (bad : Bool), lf = .int .i64 i ∧ ExsS w0 wr lb eb s kk bad deep ll vv ∧ KT TR w0.heap.size w wr ∧ Hid (bad = false → R = lp s n i kk deep ll ∧ ll.length ≤ 400 ∧ (opK s (skipK s kk)).1 ≤ n ∧ k ≤ kk) ∧ Hid (bad = true → R = none ∧ ll.length ≤ bnd n deep)) (fun _ wr => mL s.size lb wr)
  case atStart => exact ⟨i0, kk0, ll0, vv0, bad0, rfl, HS0.out, HK2.out, HA0, HB0⟩
  case round =>
    rename World => wr
    obtain ⟨i, kk, ll, vv, bad, rfl, hs3, hk3, HA, HB⟩ := hrel
    have HS3 := hid hs3
    have HK3 := hid hk3
    have e0 := hs3.ex.cell 0
    have e3 := hs3.lx.cell 2
    simp at e0 e3
    clear hs3 hk3
    cases bad with
    | true =>
      have HB2 := hid (HB.out rfl)
      go_wp2_with fail
      go_returns
      rw [HB2.out.1]
      exact rdp_bad (i := 0) HB2.out.2 rfl HK3.out HS3.out
    | false =>
      obtain ⟨hR, hll, hop, hkk⟩ := HA.out rfl
      have HML := hid (mL_ok (sz := s.size) HS3.out.lx)
      have HSG := hid (sign_any w0.heap.size lb HLP.out s hs kk HS3.out.ks false wr HS3.out.lx)
      have hlp := hR.trans (lp_lvF s n i kk deep ll h1 h6 hop)
      have hor := opK_or s (skipK s kk)
      have hge : kk ≤ skipK s kk := runK_ge isBlk s kk
      have hle : skipK s kk ≤ s.size := runK_le isBlk s kk HS3.out.ks
      have HSL := hid (fun W => rLevel_any (sigT s (skipK s kk)) W)
      obtain ⟨q, hq⟩ : ∃ q, skipK s kk = q := ⟨_, rfl⟩
      rw [hq] at HSG hlp hor hge hle HSL
      rw [sig_lvl] at HSL
      have hsgn : (opK s q).1 ≠ 0 → sigT s q = s.extract q (q + (opK s q).2) := fun c => by unfold sigT; rw [if_neg c]
      obtain ⟨sg, hsg⟩ : ∃ sg, sigT s q = sg := ⟨_, rfl⟩
      rw [hsg] at HSG HSL hsgn
      obtain ⟨⟨lev, sz⟩, ho⟩ : ∃ o, opK s q = o := ⟨_, rfl⟩
      rw [ho] at hlp hor HSL hsgn
      simp only at hlp hor HSL hsgn
      have HLE := hid hle
      have HQ := hid hge
      clear hR hop hq hsg ho
      go_wp2_with fail
      refine HSG.out.mono ?_
      rintro e4 w4 ⟨rfl, hl4, hk4⟩
      have HS4 := hid (HS3.out.lexed hk4 hl4 HLE.out)
      have HK4 := hid (HK3.out.trans (KT.wide hk4))
      clear e0 e3 hl4 hk4
      have HLL := hid hll
      have HKK := hid hkk
      by_cases c : lev = n
      · have ho2 : 1 ≤ sz ∧ sz ≤ 2 ∧ q + sz ≤ s.size := by
          rcases hor with e | e
          · injection e with a b; omega
          · omega
        have hsx := hsgn (by omega)
        have hsz : sg.size = sz := by rw [hsx]; exact ext_size s q sz ho2.2.2
        rw [if_pos c, ← hsx] at hlp
        rw [c] at HSL
        have HR := hid hlp
        have HO2 := hid ho2
        have hx1 : (q : Int) + (sg.size : Int) = ((q + sz : Nat) : Int) := by omega
        have HX1 := hid hx1
        have i1 : (q : Int) + (sg.size : Int) ≤ 20000 := by omega
        have hn8 : IntKind.i64.wrap ((n : Int) + 1) = (n : Int) + 1 := IntWalk.i64_in _ (by omega)
        clear hlp hsx hsz hor c hx1 hsgn ho2 hge hle hll hkk
        go_wp2_with fail
        refine (HSL.out _).mono ?_
        rintro e5 w5 ⟨rfl, rfl⟩
        have e0 := HS4.out.ex.cell 0
        have e1 := HS4.out.lx.cell 1
        have q1 := HS4.out.lx.frozen 1
        simp at e0 e1
        have e0d : w4.drew.cell? ⟨eb, 0, none⟩ = some (.pointer (some ⟨lb, 0, none⟩)) := e0
        have e1d : w4.drew.cell? ⟨lb, 1, none⟩ = some (.int .i64 (q : Nat)) := e1
        have q1d : w4.drew.frozen? ⟨lb, 1, none⟩ = false := q1
        go_wp2_with fail
        go_region
        have HB5 := hid (show Bw (w4.setCell ⟨lb, 1, none⟩ (.int .i64 ((q : Int) + (sg.size : Int)))) (w4.setCell ⟨lb, 1, none⟩ (.int .i64 ((q : Int) + (sg.size : Int)))).drew from (Bw.refl _).drewN 1)
        have HS5 := hid ((HS4.out.goto (k' := q + sz) HO2.out.2.2 HX1.out).later HB5.out)
        have HK5 := hid ((HK4.out.trans (HS4.out.ktL 1 (.int .i64 ((q : Int) + (sg.size : Int))))).trans (KT.of_bw HB5.out))
        generalize (w4.setCell ⟨lb, 1, none⟩ (.int .i64 ((q : Int) + (sg.size : Int)))).drew = W5 at *
        have hRI := HIH.out (n + 1) (q + sz) deep ll W5 vv (by omega) (by omega) (by have := HKF.out; have := HO2.out; have := HQ.out; have := HKK.out; omega) HLL.out HS5.out
        rw [show ((n + 1 : Nat) : Int) = (n : Int) + 1 from by omega] at hRI
        have HRI := hid hRI
        clear hRI e0 e1 q1 e0d e1d q1d
        go_wp2_with fail
        refine HRI.out.mono ?_
        rintro e6 w6 ⟨hk6, hx6⟩
        have HK6 := hid (HK5.out.trans hk6)
        clear hk6
        cases hod : lvF s (n + 1) (q + sz) deep ll with
        | none =>
          rw [hod] at hx6
          obtain ⟨r, k7, l7, v7, rfl, hl7, hs7⟩ := hx6
          have HR2 := hid (show R = none from by rw [HR.out, hod])
          have HL7 := hid hl7
          have HAD := hid (radd_any w0 w6 lb eb s k7 deep true l7 v7 hs7 ⟨sg, nilS, 0, (i : Nat), (r : Nat)⟩ (by have := HS5.out.dp; unfold bnd at hl7; omega))
          clear hod hs7 hl7
          go_wp2_with fail
          refine Calls.mono (show Calls Tryz.prog 19 #[.pointer (some ⟨eb, 0, none⟩), .agg #[.string sg, .string ⟨#[]⟩, .int .u64 0, .int .i64 (i : Nat), .int .i64 (r : Nat)]] w6 _ from HAD.out) ?_
          rintro e8 w8 ⟨rfl, hk8, v8, hs8⟩
          have HK8 := hid (HK6.out.trans hk8)
          have HS8 := hid hs8
          clear hk8 hs8
          go_wp2_with fail
          rw [Bool.true_or] at HS8
          refine ⟨⟨l7.length, k7, l7 ++ [⟨sg, nilS, 0, (i : Nat), (r : Nat)⟩], v8, true, rfl, HS8.out, HK8.out, hid (fun c => by cases c), hid (fun _ => ⟨HR2.out, by have := HL7.out; have := HBN.out; simp; omega⟩)⟩, ?_⟩
          rw [mL_bad HS8.out.lx, HML.out]
          have := HS3.out.ks
          omega
        | some y =>
          obtain ⟨r, k7, l7⟩ := y
          rw [hod] at hx6
          obtain ⟨rfl, hl7, v7, hs7⟩ := hx6
          have HR2 := hid (show R = if l7.length < 400 then lp s n l7.length k7 deep (l7 ++ [⟨sg, nilS, 0, (i : Nat), (r : Nat)⟩]) else none from by rw [HR.out, hod])
          have HL7 := hid hl7
          have HG7 := hid (And.intro (lvF_grows s (n + 1) (q + sz) deep ll hod) (lvF_ends s n (q + sz) deep ll h6 hod))
          have HAD := hid (radd_any w0 w6 lb eb s k7 deep false l7 v7 hs7 ⟨sg, nilS, 0, (i : Nat), (r : Nat)⟩ (by omega))
          clear hod hs7 hl7
          go_wp2_with fail
          refine Calls.mono (show Calls Tryz.prog 19 #[.pointer (some ⟨eb, 0, none⟩), .agg #[.string sg, .string ⟨#[]⟩, .int .u64 0, .int .i64 (i : Nat), .int .i64 (r : Nat)]] w6 _ from HAD.out) ?_
          rintro e8 w8 ⟨rfl, hk8, v8, hs8⟩
          have HK8 := hid (HK6.out.trans hk8)
          have HS8 := hid hs8
          clear hk8 hs8
          go_wp2_with fail
          by_cases c7 : l7.length < 400
          · rw [decide_eq_false (show ¬ 400 ≤ l7.length by omega), Bool.or_false] at HS8
            refine ⟨⟨l7.length, k7, l7 ++ [⟨sg, nilS, 0, (i : Nat), (r : Nat)⟩], v8, false, rfl, HS8.out, HK8.out, hid (fun _ => ⟨HR2.out.trans (if_pos c7), by simp; omega, HG7.out.2, by have := HG7.out.1; have := HQ.out; have := HKK.out; omega⟩), hid (fun c => by cases c)⟩, ?_⟩
            rw [mL_ok HS8.out.lx, HML.out]
            have := HG7.out.1; have := HQ.out; have := HO2.out; have := HS8.out.ks
            omega
          · rw [decide_eq_true (show 400 ≤ l7.length by omega), Bool.false_or] at HS8
            refine ⟨⟨l7.length, k7, l7 ++ [⟨sg, nilS, 0, (i : Nat), (r : Nat)⟩], v8, true, rfl, HS8.out, HK8.out, hid (fun c => by cases c), hid (fun _ => ⟨HR2.out.trans (if_neg c7), by have := HL7.out; have := HBN.out; simp; omega⟩)⟩, ?_⟩
            rw [mL_bad HS8.out.lx, HML.out]
            have := HS3.out.ks
            omega
      · have HR2 := hid (hlp.trans (if_neg c))
        have ci : ¬ (lev : Int) = (n : Int) := by omega
        clear hlp hor c hsgn hge hle hll hkk
        go_wp2_with fail
        refine (HSL.out _).mono ?_
        rintro e5 w5 ⟨rfl, rfl⟩
        go_wp2_with fail
        go_returns
        rw [HR2.out]
        exact ⟨HK4.out, rfl, HLL.out, vv, HS4.out⟩
theorem level_any (w0 : World) (lb eb : Nat) (s : ByteArray) (hs : s.size ≤ 20000) : ∀ f, LvIH w0 lb eb s f
  | 0 => fun n k deep l W v h1 h7 hm => absurd hm (by omega)
  | f + 1 => fun n k deep l W v h1 h7 hm hf h => by
    by_cases c : n = 7
    · subst c
      exact level_seven w0 W lb eb s hs f k deep l v (level_any w0 lb eb s hs f) (by omega) hf h
    · exact level_low w0 W lb eb s hs f n k deep l v (level_any w0 lb eb s hs f) h1 (by omega) hm hf h
end Go.Proofs.YtlilmidffcmkjaaGreatDoor
/- The document's Parse (contract). -/
namespace Go.Proofs.YtlilmidffcmkjaaGreatDoor
open Go.RowKit
set_option linter.unusedVariables false
set_option linter.unusedSimpArgs false
/-- What the document's Parse tells. -/
def RPar (s : ByteArray) (w : World) (e : Ending) (w' : World) : Prop := Bw w w' ∧
  if 20000 < s.size then e = .returned (.tuple #[.slice none 0 0, .int .i64 11])
  else match parseF s with
    | none => e = .returned (.tuple #[.slice none 0 0, .int .i64 8])
    | some l => ∃ v, e = .returned (.tuple #[v, .int .i64 0]) ∧ w'.ownsRow w.heap.size 42 5 v l.length (expCells l)
set_option maxRecDepth 100000 in
set_option maxHeartbeats 8000000 in
theorem rparse_any (s : ByteArray) (hs : s.size ≤ 9223372036854775807) (w : World) :
    Calls Tryz.prog 5 #[.string s] w (RPar s w) := by
  by_cases h20 : 20000 < s.size
  · have HP := hid (show RPar s w (.returned (.tuple #[.slice none 0 0, .int .i64 11])) w from ⟨Bw.refl w, by rw [if_pos h20]⟩)
    have i1 : (20000 : Int) < s.size := by omega
    clear h20
    go_enter Tryz.func5, Tryz.ntmps5
    go_wp2
    go_returns
    exact HP.out
  · have i1 : ¬ (20000 : Int) < s.size := by omega
    have hs20 : s.size ≤ 20000 := by omega
    have HPR := hid (fun (e : Ending) (w' : World) (hb : Bw w w') (x : match parseF s with | none => e = .returned (.tuple #[.slice none 0 0, .int .i64 8]) | some l => ∃ v, e = .returned (.tuple #[v, .int .i64 0]) ∧ w'.ownsRow w.heap.size 42 5 v l.length (expCells l)) => (show RPar s w e w' from ⟨hb, by rw [if_neg h20]; exact x⟩))
    have h1 := Has.new w 36 #[.string s, .int .i64 0, .bool false]
    have hA1 : Bw w (w.alloc (.cells #[.string s, .int .i64 0, .bool false] 36)) := (Bw.refl w).alloc _
    have h2 := Has.new (w.alloc (.cells #[.string s, .int .i64 0, .bool false] 36)) 38 #[.pointer (some ⟨w.heap.size, 0, none⟩), .slice none 0 0, .int .i64 0]
    have hA2 := hA1.alloc (.cells #[.pointer (some ⟨w.heap.size, 0, none⟩), .slice none 0 0, .int .i64 0] 38)
    have HS := hid (show ExsS w ((w.alloc (.cells #[.string s, .int .i64 0, .bool false] 36)).alloc (.cells #[.pointer (some ⟨w.heap.size, 0, none⟩), .slice none 0 0, .int .i64 0] 38)) w.heap.size (w.heap.size + 1) s 0 false 0 [] (.slice none 0 0) from
      ⟨(Bw.alloc (Bw.refl _) _).has h1, by simpa using h2, World.ownsRow_nil _ _ _ _, hA2, Nat.le_refl _, Nat.le_succ _, Nat.zero_le _, by simp, by omega⟩)
    have hLV := level_any w w.heap.size (w.heap.size + 1) s hs20 (8 * s.size + 8) 1 0 0 [] _ _ (by omega) (by omega) (by omega) (Nat.zero_le _) HS.out
    have hlv : lvF s 1 0 0 [] = ex s 1 0 0 [] := by unfold lvF; rw [if_neg (by decide)]
    rw [hlv] at hLV
    have HLV := hid hLV
    have HA := hid hA2
    have hpf : parseF s = match ex s 1 0 0 [] with | some (_, k, l) => if k = s.size then some l else none | none => none := rfl
    have HPF := hid hpf
    have HEN := hid (fun i k2 l2 (e : ex s 1 0 0 [] = some (i, k2, l2)) => (ex_ends s 1 0 0 [] e).1)
    obtain ⟨R, hR⟩ : ∃ R, ex s 1 0 0 [] = R := ⟨_, rfl⟩
    rw [hR] at HLV HPF HEN
    clear h20 hLV hlv hpf hR h1 hA1 h2 hA2
    go_enter Tryz.func5, Tryz.ntmps5
    go_wp2_with fail
    refine Calls.mono (show Calls Tryz.prog 9 #[.pointer (some ⟨w.heap.size + 1, 0, none⟩), .int .i64 1] _ _ from HLV.out) ?_
    rintro e w2 ⟨hk2, hx⟩
    have HB2 := hid (show Bw w w2 from Below.trans HA.out (hk2.below (Nat.le_refl _) HA.out.size))
    clear hk2
    generalize w.heap.size + 1 = eb at *
    cases R with
    | none =>
      obtain ⟨i, k2, l2, v2, rfl, hl2, hs2⟩ := hx
      have HS2 := hid hs2
      have e0 := hs2.ex.cell 0
      simp at e0
      have HBL := hid (blank_any w.heap.size w.heap.size (Nat.le_refl _) s hs20 k2 hs2.ks true w2 hs2.lx)
      have HP := hid (fun (w' : World) (h : Bw w w') => HPR.out (.returned (.tuple #[.slice none 0 0, .int .i64 8])) w' h (by rw [HPF.out]))
      clear hs2 hl2
      go_wp2_with fail
      refine HBL.out.mono ?_
      rintro e3 w3 ⟨rfl, hl3, hk3⟩
      have HS3 := hid (HS2.out.lexed hk3 hl3 (runK_le isBlk s k2 HS2.out.ks))
      have HB3 := hid HS3.out.bw
      clear e0 hl3 hk3
      have e0 := HS3.out.ex.cell 0
      have e2 := HS3.out.lx.cell 2
      simp at e0 e2
      go_wp2_with fail
      go_returns
      exact HP.out w3 HB3.out
    | some y =>
      obtain ⟨i, k2, l2⟩ := y
      obtain ⟨rfl, hl2, v2, hs2⟩ := hx
      have hkk := HEN.out i k2 l2 rfl
      have HS2 := hid hs2
      have e0 := hs2.ex.cell 0
      simp at e0
      have hBL := blank_any w.heap.size w.heap.size (Nat.le_refl _) s hs20 k2 hs2.ks false w2 hs2.lx
      rw [hkk] at hBL
      have HBL := hid hBL
      clear hs2 hl2 hBL hkk
      go_wp2_with fail
      refine HBL.out.mono ?_
      rintro e3 w3 ⟨rfl, hl3, hk3⟩
      have HS3 := hid (HS2.out.lexed hk3 hl3 HS2.out.ks)
      have HB3 := hid HS3.out.bw
      clear e0 hl3 hk3
      have e0 := HS3.out.ex.cell 0
      have e1 := HS3.out.ex.cell 1
      have e2 := HS3.out.lx.cell 2
      have e3 := HS3.out.lx.cell 1
      simp at e0 e1 e2 e3
      have hks := HS3.out.ks
      by_cases hc : k2 = s.size
      · have i2 : ¬ (k2 : Int) < s.size := by omega
        have HP := hid (HPR.out (.returned (.tuple #[v2, .int .i64 0])) w3 HB3.out (by rw [show parseF s = some l2 from HPF.out.trans (if_pos hc)]; exact ⟨v2, rfl, HS3.out.row⟩))
        clear hc hks
        go_wp2_with fail
        go_returns
        exact HP.out
      · have i2 : (k2 : Int) < s.size := by omega
        have HP := hid (HPR.out (.returned (.tuple #[.slice none 0 0, .int .i64 8])) w3 HB3.out (by rw [show parseF s = none from HPF.out.trans (if_neg hc)]))
        clear hc hks
        go_wp2_with fail
        go_returns
        exact HP.out
end Go.Proofs.YtlilmidffcmkjaaGreatDoor
