/- A number or a name is read (contract of the parser's method). -/
import Derived.Test.YtlilmidffcmkjaaGreatDoorPrsE
import Derived.Test.YtlilmidffcmkjaaGreatDoorPrsF
namespace Go.Proofs.YtlilmidffcmkjaaGreatDoor
open Go.RowKit
set_option linter.unusedVariables false
set_option linter.unusedSimpArgs false
theorem wrd_lt {c : Nat} (h : isWrd c = true) : c < 128 := by
  unfold isWrd isLet isDig at h
  simp at h
  omega
theorem let_wrd {c : Nat} (h : isLet c = true) : isWrd c = true := by unfold isWrd; rw [h]; rfl
theorem let_not {c : Nat} (h : isLet c = true) : ¬ digV c < 10 := by
  unfold digV isDig
  unfold isLet at h
  simp at h
  rw [if_neg (by simp; omega)]
  split <;> omega
theorem word_at (s : ByteArray) (k : Nat) (hk : k ≤ s.size) (i : Nat) (hi : k + i < wordK s k) : bAt (s.extract k (wordK s k)) i = bAt s (k + i) := by
  have hl : wordK s k ≤ s.size := runK_le isWrd s k hk
  rw [bAt_get, bAt_get, ext_data, List.getElem?_take_of_lt (by omega), List.getElem?_drop]
theorem word_size (s : ByteArray) (k : Nat) (hk : k ≤ s.size) : (s.extract k (wordK s k)).size = wordK s k - k := by
  have hl : wordK s k ≤ s.size := runK_le isWrd s k hk
  simp
  omega
/-- A word, as it is read. -/
theorem leaf_is (s : ByteArray) (k : Nat) (hk : k ≤ s.size) : leafX s k (wordK s k) = if nameB (s.extract k (wordK s k)) then some ⟨nilS, s.extract k (wordK s k), 0, 0, 0⟩ else (match numW (s.extract k (wordK s k)) with | some v => some ⟨nilS, nilS, v, 0, 0⟩ | none => none) := by
  have hg : k ≤ wordK s k := runK_ge isWrd s k
  have hl : wordK s k ≤ s.size := runK_le isWrd s k hk
  have hz := word_size s k hk
  have hend : isWrd (bAt s (wordK s k)) = false := runK_end isWrd (by decide) s k
  have hw0 : wordK (s.extract k (wordK s k)) 0 = wordK s k - k := by
    refine runK_is (by decide) (Nat.zero_le _) ?_ fun i _ h => ?_
    · rw [bAt_out (by rw [hz]; omega)]; decide
    · rw [word_at s k hk i (by omega)]
      exact runK_all (p := isWrd) (by omega) (show k + i < runK isWrd s k from by have : wordK s k = runK isWrd s k := rfl; omega)
  rw [num_word s k hk]
  unfold leafX
  by_cases hL : isLet (bAt s k) = true
  · have hlt : k < wordK s k := by
      rcases Nat.lt_or_ge k (wordK s k) with c | c
      · exact c
      · have e : wordK s k = k := by omega
        rw [e, let_wrd hL] at hend
        cases hend
    have hb : bAt (s.extract k (wordK s k)) 0 = bAt s k := word_at s k hk 0 (by omega)
    have hnb : nameB (s.extract k (wordK s k)) = decide (wordK s k - k ≤ 16) := by
      unfold nameB
      rw [hz, hb, hL, hw0, decide_eq_true (show 0 < wordK s k - k by omega)]
      simp
    rw [if_pos hL, hnb]
    by_cases c : wordK s k - k ≤ 16
    · rw [if_pos c, if_pos (decide_eq_true c)]
    · have hn : numK s k (wordK s k) = none := by
        unfold numK hexB
        have h48 : ¬ bAt s k = 48 := by intro e; rw [e] at hL; exact absurd hL (by decide)
        rw [decide_eq_false h48, Bool.false_and, if_neg Bool.false_ne_true]
        unfold digN
        rw [if_pos hlt]
        obtain ⟨f, hf⟩ : ∃ f, wordK s k - k = f + 1 := ⟨wordK s k - k - 1, by omega⟩
        rw [hf, valGo, if_neg (let_not hL)]
      rw [if_neg c, if_neg (by rw [decide_eq_false c]; exact Bool.false_ne_true), hn]
  · have hnb : nameB (s.extract k (wordK s k)) = false := by
      unfold nameB
      rw [hz]
      by_cases c : 0 < wordK s k - k
      · rw [word_at s k hk 0 (by omega), show k + 0 = k from rfl, show isLet (bAt s k) = false by simpa using hL]
        simp
      · rw [decide_eq_false c]; rfl
    rw [if_neg hL, hnb, if_neg Bool.false_ne_true]
    cases numK s k (wordK s k) <;> rfl
theorem word_ascii (s : ByteArray) (k : Nat) (hk : k ≤ s.size) : ∀ (j : Nat) b, (s.extract k (wordK s k)).data.toList[j]? = some b → b.toNat < 128 := by
  intro j b h
  have hz := word_size s k hk
  have hlen : (s.extract k (wordK s k)).data.toList.length = (s.extract k (wordK s k)).size := (Lib.size_eq _).symm
  have hj : j < (s.extract k (wordK s k)).data.toList.length := by
    rcases Nat.lt_or_ge j (s.extract k (wordK s k)).data.toList.length with c | c
    · exact c
    · rw [List.getElem?_eq_none c] at h; cases h
  have hb := word_at s k hk j (by omega)
  rw [bAt_get, h] at hb
  have := runK_all (p := isWrd) (s := s) (k := k) (i := k + j) (by omega) (show k + j < runK isWrd s k from by have : wordK s k = runK isWrd s k := rfl; omega)
  rw [← hb] at this
  exact wrd_lt this
theorem numW_le {d : ByteArray} {n : Nat} (h : numW d = some n) : n ≤ mostN := by
  have key : ∀ o : Option Nat, mostO o = some n → n ≤ mostN := fun o ho => by
    cases o with
    | none => cases ho
    | some v =>
      unfold mostO at ho
      simp only at ho
      split at ho
      · injection ho with e; omega
      · cases ho
  unfold numW at h
  split at h
  · split at h
    · cases h
    · exact key _ h
  · split at h
    · cases h
    · exact key _ h
theorem ok_name {wd : ByteArray} (h : wd.size ≤ 20000) : ExpR.Ok ⟨nilS, wd, 0, 0, 0⟩ :=
  ⟨show nilS.size ≤ 9223372036854775807 by decide, show wd.size ≤ 9223372036854775807 by omega, show (0 : Nat) < 18446744073709551616 by decide, show (-9223372036854775808 : Int) ≤ 0 ∧ (0 : Int) ≤ 9223372036854775807 by decide, show (-9223372036854775808 : Int) ≤ 0 ∧ (0 : Int) ≤ 9223372036854775807 by decide⟩
theorem ok_num {m : Nat} (h : m ≤ 4611686018427387904) : ExpR.Ok ⟨nilS, nilS, m, 0, 0⟩ :=
  ⟨show nilS.size ≤ 9223372036854775807 by decide, show nilS.size ≤ 9223372036854775807 by decide, show m < 18446744073709551616 by omega, show (-9223372036854775808 : Int) ≤ 0 ∧ (0 : Int) ≤ 9223372036854775807 by decide, show (-9223372036854775808 : Int) ≤ 0 ∧ (0 : Int) ≤ 9223372036854775807 by decide⟩
/-- What leaf leaves. -/
def LeafP (w0 w : World) (g : Nat) (s : ByteArray) (k deep : Nat) (l : List ExpR) (v : Value) (e : Ending) (w' : World) : Prop :=
  KT TP w0.heap.size w w' ∧ match leafX s k (wordK s k) with
    | some x => e = .returned (.agg #[.string x.op, .string x.name, .int .u64 x.n, .int .i64 x.l, .int .i64 x.r]) ∧ x.Ok ∧ PrsS w0 w' g s (wordK s k) deep l v
    | none => e = pan 8
theorem PrsS.box {w0 w : World} {g : Nat} {s : ByteArray} {k deep : Nat} {l : List ExpR} {v : Value} (h : PrsS w0 w g s k deep l v) {rb : Nat} (hg : g < rb) (hv : ∀ b, v.ownBlock = some b → b < rb) (hb : w0.heap.size ≤ rb) (i : Nat) (u : Value) : PrsS w0 (w.setCell ⟨rb, i, none⟩ u) g s k deep l v :=
  ⟨h.pr.far (show g ≠ rb by omega) u, own_keep h.row fun b hb' => Below.heap_setCell w ⟨rb, i, none⟩ u b (show b ≠ rb by have := hv b hb'; omega), Below.setCell (p := ⟨rb, i, none⟩) h.bw hb u, h.gp, h.ks, h.ok, h.few, h.dp⟩
/-- A box of five cells, filled. -/
abbrev set5 (w : World) (rb : Nat) (a b c d e : Value) : World := ((((w.setCell ⟨rb, 0, none⟩ a).setCell ⟨rb, 1, none⟩ b).setCell ⟨rb, 2, none⟩ c).setCell ⟨rb, 3, none⟩ d).setCell ⟨rb, 4, none⟩ e
theorem PrsS.box5 {w0 w : World} {g : Nat} {s : ByteArray} {k deep : Nat} {l : List ExpR} {v : Value} (h : PrsS w0 w g s k deep l v) {rb : Nat} (hg : g < rb) (hv : ∀ b, v.ownBlock = some b → b < rb) (hb : w0.heap.size ≤ rb) (a b c d e : Value) : PrsS w0 (set5 w rb a b c d e) g s k deep l v :=
  ((((h.box hg hv hb 0 a).box hg hv hb 1 b).box hg hv hb 2 c).box hg hv hb 3 d).box hg hv hb 4 e
theorem KT.fresh5 {T : List TypeId} {B rb : Nat} {a w : World} (h : KT T B a w) (hs : a.heap.size ≤ rb) (x0 x1 x2 x3 x4 : Value) : KT T B a (set5 w rb x0 x1 x2 x3 x4) :=
  ((((h.fresh_at (i := 0) hs x0).fresh_at (i := 1) hs x1).fresh_at (i := 2) hs x2).fresh_at (i := 3) hs x3).fresh_at (i := 4) hs x4
theorem Has.put5 {w : World} {rb : Nat} {t : TypeId} {y0 y1 y2 y3 y4 : Value} (h : Has w rb t #[y0, y1, y2, y3, y4]) (x0 x1 x2 x3 x4 : Value) : Has (set5 w rb x0 x1 x2 x3 x4) rb t #[x0, x1, x2, x3, x4] :=
  ((((h.put 0 x0).put 1 x1).put 2 x2).put 3 x3).put 4 x4
set_option maxRecDepth 100000 in
set_option maxHeartbeats 2000000 in
theorem lib_Clone (s : ByteArray) (hs : s.size ≤ 1000000) (w : World) :
    Calls Tryz.prog 51 #[.string s] w fun e w' => e = .returned (.string s) ∧ Bw w w' := by
  have HC := hid (AnyPu.stringslite_Clone { laysPu14 with } s w (by omega))
  go_enter Tryz.func51, Tryz.ntmps51
  go_wp2_with (go_at_call 66; refine HC.out.mono ?_; rintro e w2 ⟨rfl, hb⟩; have HB := hid hb; clear hb)
  go_returns
  exact ⟨rfl, HB.out⟩
set_option maxRecDepth 100000 in
set_option maxHeartbeats 8000000 in
theorem leaf_any (w0 w : World) (g : Nat) (s : ByteArray) (hs20 : s.size ≤ 20000) (k deep : Nat) (l : List ExpR) (v : Value) (h : PrsS w0 w g s k deep l v) (hE : ErrsAt w0) :
    Calls Tryz.prog 37 #[.pointer (some ⟨g, 0, none⟩)] w (LeafP w0 w g s k deep l v) := by
  have hks := h.ks
  have hg : k ≤ wordK s k := runK_ge isWrd s k
  have hl : wordK s k ≤ s.size := runK_le isWrd s k hks
  have hLI := leaf_is s k hks
  have hasc := word_ascii s k hks
  have hwz := word_size s k hks
  have hwd := word_drop s k
  have hdz := dropS_size s k
  have HGB := hid h.pr.lt
  have HVB := hid (fun b (hb : v.ownBlock = some b) => own_lt h.row hb)
  have HW0 := hid h.bw.size
  have HA := hid ((Bw.refl w).alloc (.cells #[.string ⟨#[]⟩, .string ⟨#[]⟩, .int .u64 0, .int .i64 0, .int .i64 0] 42))
  have HN := hid (Has.new w 42 #[.string ⟨#[]⟩, .string ⟨#[]⟩, .int .u64 0, .int .i64 0, .int .i64 0])
  have HS1 := hid (h.later HA.out)
  obtain ⟨wd, hwd'⟩ : ∃ wd, s.extract k (wordK s k) = wd := ⟨_, rfl⟩
  have hx1 : (dropS s k).extract 0 (wordK s k - k) = wd := by
    rw [← hwd']
    apply ba_eq
    rw [ext_data, ext_data, dropS_data]
    rfl
  have hx2 : (dropS s k).extract (wordK s k - k) (dropS s k).size = dropS s (wordK s k) := by
    have := dropS_drop s k (wordK s k - k)
    rw [show k + (wordK s k - k) = wordK s k by omega] at this
    exact this
  rw [hwd'] at hLI hasc hwz
  have HLF := hid (fun (e : Ending) (w' : World) (q : KT TP w0.heap.size w w' ∧ match (if nameB wd then some ⟨nilS, wd, 0, 0, 0⟩ else (match numW wd with | some v => some ⟨nilS, nilS, v, 0, 0⟩ | none => none) : Option ExpR) with | some x => e = .returned (.agg #[.string x.op, .string x.name, .int .u64 x.n, .int .i64 x.l, .int .i64 x.r]) ∧ x.Ok ∧ PrsS w0 w' g s (wordK s k) deep l v | none => e = pan 8) => (show LeafP w0 w g s k deep l v e w' by unfold LeafP; rw [hLI]; exact q))
  have HWL := hid (fun W => wordLength_any (dropS s k) (by omega) W)
  rw [hwd] at HWL
  obtain ⟨n, hn⟩ : ∃ n, wordK s k - k = n := ⟨_, rfl⟩
  rw [hn] at hx1 hx2 HWL hwz
  obtain ⟨d, hd⟩ : ∃ d, dropS s k = d := ⟨_, rfl⟩
  have c0 : (w.alloc (.cells #[.string ⟨#[]⟩, .string ⟨#[]⟩, .int .u64 0, .int .i64 0, .int .i64 0] 42)).cell? ⟨g, 0, none⟩ = some (.string d) := by rw [← hd]; exact HS1.out.pr.cell 0
  have f0 := HS1.out.pr.frozen 0
  rw [hd] at hx1 hx2 HWL hdz
  have hnd : n ≤ d.size := by omega
  have hndi : (n : Int) ≤ d.size := by omega
  have hwz2 : wd.size ≤ 20000 := by omega
  have HNM := hid (fun W => isName_any wd (by omega) W)
  have HNU := hid (fun W (h : ErrsAt W) => number_any wd hwz2 hasc W h)
  have HX1 := hid hx1
  have HX2 := hid hx2
  have HE := hid hE
  have HKS := hid hl
  obtain ⟨P, hP⟩ : ∃ P, LeafP w0 w g s k deep l v = P := ⟨_, rfl⟩
  rw [hP] at HLF ⊢
  have HWZ := hid hwz2
  clear hE h hLI hasc hwz hwd hdz hwd' hn hd hP hwz2
  go_enter Tryz.func37, Tryz.ntmps37
  go_wp2_with (go_at_call 49; refine (HWL.out _).mono ?_; rintro e w2 ⟨rfl, rfl⟩)
  have HS2 := hid (HS1.out.rest HKS.out (r := dropS s (wordK s k)) rfl)
  have HN2 := hid (HN.out.far (p := ⟨g, 0, none⟩) (show w.heap.size ≠ g by have := HGB.out; omega) (.string (dropS s (wordK s k))))
  have HK2 := hid ((KT.of_bw HA.out : KT TP w0.heap.size w _).trans (HS1.out.kt_set 0 (.string (dropS s (wordK s k)))))
  generalize (w.alloc (.cells #[.string ⟨#[]⟩, .string ⟨#[]⟩, .int .u64 0, .int .i64 0, .int .i64 0] 42)).setCell ⟨g, 0, none⟩ (.string (dropS s (wordK s k))) = W2 at *
  have HE2 := hid (HE.out.bw HS2.out.bw)
  clear c0 f0
  cases hnm : nameB wd with
  | true =>
    rw [hnm] at HNM
    have HLF2 := hid (fun (e : Ending) (w' : World) (q : KT TP w0.heap.size w w' ∧ e = .returned (.agg #[.string ⟨#[]⟩, .string wd, .int .u64 0, .int .i64 0, .int .i64 0]) ∧ ExpR.Ok ⟨nilS, wd, 0, 0, 0⟩ ∧ PrsS w0 w' g s (wordK s k) deep l v) => HLF.out e w' (by rw [hnm]; exact q))
    clear hnm HLF
    refine (HNM.out _).mono ?_
    rintro e w3' ⟨rfl, rfl⟩
    have HCL := hid (fun W => lib_Clone wd (by have := HWZ.out; omega) W)
    go_wp2_with fail
    refine (HCL.out _).mono ?_
    rintro e w3 ⟨rfl, hb3⟩
    have HB3 := hid hb3
    have HS3 := hid (HS2.out.later hb3)
    clear hb3
    have HS4 := hid (HS3.out.box5 HGB.out HVB.out HW0.out (.string ⟨#[]⟩) (.string wd) (.int .u64 0) (.int .i64 0) (.int .i64 0))
    have HK4 := hid ((HK2.out.trans (KT.of_bw HB3.out)).fresh5 (rb := w.heap.size) (Nat.le_refl _) (.string ⟨#[]⟩) (.string wd) (.int .u64 0) (.int .i64 0) (.int .i64 0))
    have HN4 := hid ((HB3.out.has HN2.out).put5 (.string ⟨#[]⟩) (.string wd) (.int .u64 0) (.int .i64 0) (.int .i64 0))
    have y0 := (HB3.out.has HN2.out).frozen 0
    have y1 := (HB3.out.has HN2.out).frozen 1
    have y2 := (HB3.out.has HN2.out).frozen 2
    have y3 := (HB3.out.has HN2.out).frozen 3
    have y4 := (HB3.out.has HN2.out).frozen 4
    have z0 := (HB3.out.has HN2.out).cell 0
    have z1 := (HB3.out.has HN2.out).cell 1
    have z2 := (HB3.out.has HN2.out).cell 2
    have z3 := (HB3.out.has HN2.out).cell 3
    have z4 := (HB3.out.has HN2.out).cell 4
    simp at z0 z1 z2 z3 z4
    go_wp2
    generalize hW5 : set5 w3 w.heap.size (.string ⟨#[]⟩) (.string wd) (.int .u64 0) (.int .i64 0) (.int .i64 0) = W5 at *
    have hW5' := hW5
    unfold set5 at hW5'
    try rw [hW5']
    have e0 : W5.cell? ⟨w.heap.size, 0, none⟩ = some (.string ⟨#[]⟩) := HN4.out.cell 0
    have e1 : W5.cell? ⟨w.heap.size, 1, none⟩ = some (.string wd) := HN4.out.cell 1
    have e2 : W5.cell? ⟨w.heap.size, 2, none⟩ = some (.int .u64 0) := HN4.out.cell 2
    have e3 : W5.cell? ⟨w.heap.size, 3, none⟩ = some (.int .i64 0) := HN4.out.cell 3
    have e4 : W5.cell? ⟨w.heap.size, 4, none⟩ = some (.int .i64 0) := HN4.out.cell 4
    refine bodyPost_ret (v := .agg #[.string ⟨#[]⟩, .string wd, .int .u64 0, .int .i64 0, .int .i64 0]) (by simp [results, Tryz.results37, go_sem, e0, e1, e2, e3, e4]; try rfl) rfl ?_
    exact HLF2.out _ _ ⟨HK4.out, rfl, ok_name HWZ.out, HS4.out⟩
  | false =>
    rw [hnm] at HNM
    refine (HNM.out _).mono ?_
    rintro e w3' ⟨rfl, rfl⟩
    cases hnu : numW wd with
    | none =>
      have HLF2 := hid (fun (w' : World) (q : KT TP w0.heap.size w w') => HLF.out (pan 8) w' (by rw [hnm, hnu]; exact ⟨q, rfl⟩))
      have HNU2 : Hid (∀ W, ErrsAt W → Calls Tryz.prog 52 #[.string wd] W fun e w' => Bw W w' ∧ e = pan 8) := hid (fun W h => by have := HNU.out W h; unfold NumP at this; rw [hnu] at this; exact this)
      clear hnm hnu HLF HNU
      go_wp2_with (go_at_call 52; refine (HNU2.out _ HE2.out).mono ?_; rintro e w3 ⟨hb3, rfl⟩; have HB3 := hid hb3; clear hb3)
      all_goals exact ⟨rfl, HLF2.out _ (HK2.out.trans (KT.of_bw HB3.out))⟩
    | some m =>
      have hm := numW_le hnu
      rw [mostN_val] at hm
      have HM := hid hm
      have HLF2 := hid (fun (e : Ending) (w' : World) (q : KT TP w0.heap.size w w' ∧ e = .returned (.agg #[.string ⟨#[]⟩, .string ⟨#[]⟩, .int .u64 (m : Nat), .int .i64 0, .int .i64 0]) ∧ ExpR.Ok ⟨nilS, nilS, m, 0, 0⟩ ∧ PrsS w0 w' g s (wordK s k) deep l v) => HLF.out e w' (by rw [hnm, hnu]; exact q))
      have HNU2 : Hid (∀ W, ErrsAt W → Calls Tryz.prog 52 #[.string wd] W fun e w' => Bw W w' ∧ e = .returned (.int .u64 (m : Nat))) := hid (fun W h => by have := HNU.out W h; unfold NumP at this; rw [hnu] at this; exact this)
      clear hnm hnu HLF HNU hm
      go_wp2_with fail
      refine (HNU2.out _ HE2.out).mono ?_
      rintro e w3 ⟨hb3, rfl⟩
      have HB3 := hid hb3
      have HS3 := hid (HS2.out.later hb3)
      clear hb3
      have HS4 := hid (HS3.out.box5 HGB.out HVB.out HW0.out (.string ⟨#[]⟩) (.string ⟨#[]⟩) (.int .u64 (m : Nat)) (.int .i64 0) (.int .i64 0))
      have HK4 := hid ((HK2.out.trans (KT.of_bw HB3.out)).fresh5 (rb := w.heap.size) (Nat.le_refl _) (.string ⟨#[]⟩) (.string ⟨#[]⟩) (.int .u64 (m : Nat)) (.int .i64 0) (.int .i64 0))
      have HN4 := hid ((HB3.out.has HN2.out).put5 (.string ⟨#[]⟩) (.string ⟨#[]⟩) (.int .u64 (m : Nat)) (.int .i64 0) (.int .i64 0))
      have y0 := (HB3.out.has HN2.out).frozen 0
      have y1 := (HB3.out.has HN2.out).frozen 1
      have y2 := (HB3.out.has HN2.out).frozen 2
      have y3 := (HB3.out.has HN2.out).frozen 3
      have y4 := (HB3.out.has HN2.out).frozen 4
      have z0 := (HB3.out.has HN2.out).cell 0
      have z1 := (HB3.out.has HN2.out).cell 1
      have z2 := (HB3.out.has HN2.out).cell 2
      have z3 := (HB3.out.has HN2.out).cell 3
      have z4 := (HB3.out.has HN2.out).cell 4
      simp at z0 z1 z2 z3 z4
      go_wp2
      generalize hW5 : set5 w3 w.heap.size (.string ⟨#[]⟩) (.string ⟨#[]⟩) (.int .u64 (m : Nat)) (.int .i64 0) (.int .i64 0) = W5 at *
      have hW5' := hW5
      unfold set5 at hW5'
      try rw [hW5']
      have e0 : W5.cell? ⟨w.heap.size, 0, none⟩ = some (.string ⟨#[]⟩) := HN4.out.cell 0
      have e1 : W5.cell? ⟨w.heap.size, 1, none⟩ = some (.string ⟨#[]⟩) := HN4.out.cell 1
      have e2 : W5.cell? ⟨w.heap.size, 2, none⟩ = some (.int .u64 (m : Nat)) := HN4.out.cell 2
      have e3 : W5.cell? ⟨w.heap.size, 3, none⟩ = some (.int .i64 0) := HN4.out.cell 3
      have e4 : W5.cell? ⟨w.heap.size, 4, none⟩ = some (.int .i64 0) := HN4.out.cell 4
      refine bodyPost_ret (v := .agg #[.string ⟨#[]⟩, .string ⟨#[]⟩, .int .u64 (m : Nat), .int .i64 0, .int .i64 0]) (by simp [results, Tryz.results37, go_sem, e0, e1, e2, e3, e4]; try rfl) rfl ?_
      exact HLF2.out _ _ ⟨HK4.out, rfl, ok_num HM.out, HS4.out⟩
end Go.Proofs.YtlilmidffcmkjaaGreatDoor
