/- The document's reader: a name (contract of its method, where a letter stands). -/
import Derived.Test.YtlilmidffcmkjaaGreatDoorRdF
import Derived.Test.YtlilmidffcmkjaaGreatDoorRdD
namespace Go.Proofs.YtlilmidffcmkjaaGreatDoor
open Go.RowKit
set_option linter.unusedVariables false
set_option linter.unusedSimpArgs false
/-- What a call that reads leaves: what it read, or a bad lexer and a list of so many at most. -/
def RdP (w0 w : World) (lb eb : Nat) (s : ByteArray) (deep bd : Nat) (r : PR) (e : Ending) (w' : World) : Prop :=
  KT TR w0.heap.size w w' ∧ match r with
    | some (i, k2, l2) => e = .returned (.int .i64 (i : Nat)) ∧ l2.length ≤ 400 ∧ ∃ v', ExsS w0 w' lb eb s k2 false deep l2 v'
    | none => ∃ (i k2 : Nat) (l2 : List ExpR) (v' : Value), e = .returned (.int .i64 (i : Nat)) ∧ l2.length ≤ bd ∧ ExsS w0 w' lb eb s k2 true deep l2 v'
theorem rdp_add {w0 w w' : World} {lb eb : Nat} {s : ByteArray} {k deep bd : Nat} {l : List ExpR} {x : ExpR} {e : Ending} (hf : l.length ≤ 400) (hbd : 401 ≤ bd) (he : e = .returned (.int .i64 (l.length : Nat))) (hk : KT TR w0.heap.size w w') (hs : ∃ v', ExsS w0 w' lb eb s k (false || decide (400 ≤ l.length)) deep (l ++ [x]) v') :
    RdP w0 w lb eb s deep bd (if l.length < 400 then some (l.length, k, l ++ [x]) else none) e w' := by
  obtain ⟨v', hs⟩ := hs
  refine ⟨hk, ?_⟩
  by_cases c : l.length < 400
  · rw [if_pos c]
    rw [decide_eq_false (show ¬ 400 ≤ l.length by omega)] at hs
    exact ⟨he, by simp; omega, v', hs⟩
  · rw [if_neg c]
    rw [decide_eq_true (show 400 ≤ l.length by omega)] at hs
    exact ⟨l.length, k, l ++ [x], v', he, by simp; omega, hs⟩
theorem rdp_bad {w0 w w' : World} {lb eb : Nat} {s : ByteArray} {k deep bd i : Nat} {l : List ExpR} {v' : Value} {e : Ending} (hf : l.length ≤ bd) (he : e = .returned (.int .i64 (i : Nat))) (hk : KT TR w0.heap.size w w') (hs : ExsS w0 w' lb eb s k true deep l v') :
    RdP w0 w lb eb s deep bd none e w' := ⟨hk, i, k, l, v', he, hf, hs⟩
theorem name_wrd {s : ByteArray} {k : Nat} (hk : k ≤ s.size) (hL : isLet (bAt s k) = true) : k < wordK s k ∧ nameB (s.extract k (wordK s k)) = decide (wordK s k - k ≤ 16) := by
  have hg : k ≤ wordK s k := runK_ge isWrd s k
  have hl : wordK s k ≤ s.size := runK_le isWrd s k hk
  have hz := word_size s k hk
  have hend : isWrd (bAt s (wordK s k)) = false := runK_end isWrd (by decide) s k
  have hw0 : wordK (s.extract k (wordK s k)) 0 = wordK s k - k := by
    refine runK_is (by decide) (Nat.zero_le _) ?_ fun i _ h => ?_
    · rw [bAt_out (by rw [hz]; omega)]; decide
    · rw [word_at s k hk i (by omega)]
      exact runK_all (p := isWrd) (by omega) (show k + i < runK isWrd s k from by have : wordK s k = runK isWrd s k := rfl; omega)
  have hlt : k < wordK s k := by
    rcases Nat.lt_or_ge k (wordK s k) with c | c
    · exact c
    · have e : wordK s k = k := by omega
      rw [e, let_wrd hL] at hend
      cases hend
  have hb : bAt (s.extract k (wordK s k)) 0 = bAt s k := word_at s k hk 0 (by omega)
  refine ⟨hlt, ?_⟩
  unfold nameB
  rw [hz, hb, hL, hw0, decide_eq_true (show 0 < wordK s k - k by omega)]
  simp
set_option maxRecDepth 100000 in
set_option maxHeartbeats 8000000 in
theorem rone_let (w0 w : World) (lb eb : Nat) (s : ByteArray) (hs : s.size ≤ 20000) (k deep bd : Nat) (l : List ExpR) (v : Value) (h : ExsS w0 w lb eb s k false deep l v) (hf : l.length ≤ 400) (hbd : 401 ≤ bd) (hL : isLet (bAt s (skipK s k)) = true) :
    Calls Tryz.prog 16 #[.pointer (some ⟨eb, 0, none⟩)] w (RdP w0 w lb eb s deep bd (opdW s (ex s) (skipK s k) deep l)) := by
  have hq : skipK s k ≤ s.size := runK_le isBlk s k h.ks
  have HWD := hid (word_any w0.heap.size lb h.lp s hs k h.ks false w h.lx)
  obtain ⟨q, hqq⟩ : ∃ q, skipK s k = q := ⟨_, rfl⟩
  rw [hqq] at HWD hL hq ⊢
  obtain ⟨hlt, hnb⟩ := name_wrd hq hL
  have hsz := word_size s q hq
  have hle : wordK s q ≤ s.size := runK_le isWrd s q hq
  have hR : opdW s (ex s) q deep l = if nameB (s.extract q (wordK s q)) then (if l.length < 400 then some (l.length, wordK s q, l ++ [⟨nilS, s.extract q (wordK s q), 0, 0, 0⟩]) else none) else none := by
    unfold opdW
    rw [if_neg (show ¬ bAt s q = 40 from fun e => by rw [e] at hL; exact absurd hL (by decide))]
    unfold leafX
    rw [if_pos hL, hnb]
    by_cases c : wordK s q - q ≤ 16
    · rw [if_pos c, if_pos (decide_eq_true c)]
    · rw [if_neg c, if_neg (by rw [decide_eq_false c]; exact Bool.false_ne_true)]
  have hw : wrdT s q = s.extract q (wordK s q) := by unfold wrdT; rw [if_pos hL]
  rw [hw] at HWD
  obtain ⟨R, hRR⟩ : ∃ R, opdW s (ex s) q deep l = R := ⟨_, rfl⟩
  rw [hRR] at hR ⊢
  obtain ⟨e, he⟩ : ∃ e, wordK s q = e := ⟨_, rfl⟩
  rw [he] at HWD hsz hlt hle hR
  obtain ⟨wd, hwd⟩ : ∃ wd, s.extract q e = wd := ⟨_, rfl⟩
  rw [hwd] at HWD hsz hR
  have HR := hid hR
  have hne : wd.toList.isEmpty = false := toList_ne wd (fun c => by rw [c] at hsz; have : (0 : Nat) = e - q := hsz; omega)
  have HNM := hid (fun W => rName_any wd (by omega) W)
  have HS := hid h
  have c0 := h.ex.cell 0
  simp at c0
  have x1 : (q : Int) + (wd.size : Int) = e := by omega
  have HX := hid x1
  have i1 : (q : Int) + (wd.size : Int) ≤ 20000 := by omega
  clear h hR hRR hnb hw he hwd hqq hL x1 hsz
  go_enter Tryz.func16, Tryz.ntmps16
  go_wp2_with fail
  refine HWD.out.mono ?_
  rintro e2 w2 ⟨rfl, hl2, hk2⟩
  have HS2 := hid (HS.out.lexed hk2 hl2 hq)
  have HK2 := hid (KT.wide hk2)
  have e0 := HS2.out.ex.cell 0
  have e1 := HS2.out.lx.cell 1
  have e2 := HS2.out.lx.cell 2
  have q1 := HS2.out.lx.frozen 1
  have q2 := HS2.out.lx.frozen 2
  simp at e0 e1 e2
  clear hl2 hk2 c0
  go_wp2_with fail
  refine (HNM.out _).mono ?_
  rintro e3 w3 ⟨rfl, rfl⟩
  cases hn : nameB wd with
  | false =>
    have HR2 := hid (show R = none from by rw [HR.out, hn]; rfl)
    clear hn
    go_wp2_with fail
    go_returns
    rw [HR2.out]
    exact rdp_bad (i := 0) (by omega) rfl (HK2.out.trans (HS2.out.ktL 2 _)) HS2.out.worse
  | true =>
    have HR2 := hid (show R = _ from by rw [HR.out, hn, if_pos rfl])
    clear hn
    have e0d : w2.drew.cell? ⟨eb, 0, none⟩ = some (.pointer (some ⟨lb, 0, none⟩)) := e0
    have e1d : w2.drew.cell? ⟨lb, 1, none⟩ = some (.int .i64 (q : Nat)) := e1
    have q1d : w2.drew.frozen? ⟨lb, 1, none⟩ = false := q1
    go_wp2_with fail
    go_region
    have HB3 := hid (show Bw (w2.setCell ⟨lb, 1, none⟩ (.int .i64 ((q : Int) + (wd.size : Int)))) (w2.setCell ⟨lb, 1, none⟩ (.int .i64 ((q : Int) + (wd.size : Int)))).drew from (Bw.refl _).drewN 1)
    have HS3 := hid ((HS2.out.goto (k' := e) hle HX.out).later HB3.out)
    have HK3 := hid ((HK2.out.trans (HS2.out.ktL 1 (.int .i64 ((q : Int) + (wd.size : Int))))).trans (KT.of_bw HB3.out))
    have HAD := hid (radd_any w0 _ lb eb s e deep false l v HS3.out ⟨nilS, wd, 0, 0, 0⟩ (by omega))
    generalize (w2.setCell ⟨lb, 1, none⟩ (.int .i64 ((q : Int) + (wd.size : Int)))).drew = W3 at *
    go_wp2_with fail
    refine Calls.mono (show Calls Tryz.prog 19 #[.pointer (some ⟨eb, 0, none⟩), .agg #[.string ⟨#[]⟩, .string wd, .int .u64 0, .int .i64 0, .int .i64 0]] W3 _ from HAD.out) ?_
    rintro e4 w4 ⟨rfl, hk4, hs4⟩
    have HK4 := hid hk4
    have HS4 := hid hs4
    clear hk4 hs4
    go_wp2_with fail
    go_returns
    rw [HR2.out]
    exact rdp_add hf hbd rfl (HK3.out.trans HK4.out) HS4.out
end Go.Proofs.YtlilmidffcmkjaaGreatDoor
