import Derived.Test.YtlilmidffcmkjaaGreatDoorRdA
import Derived.Test.YtlilmidffcmkjaaGreatDoorExpJ
import Derived.Test.YtlilmidffcmkjaaGreatDoorExpK
import Derived.Test.YtlilmidffcmkjaaGreatDoorKitE
import Derived.Deep.QuietTactic
import Derived.BigQuiet
import Derived.Deep.RegionWith
import Derived.Test.YtlilmidffcmkjaaGreatDoorPrsG
/- The document's lexer in memory: blanks, words, signs (contracts of its methods). -/
namespace Go.Proofs.YtlilmidffcmkjaaGreatDoor
open Go.RowKit
set_option linter.unusedVariables false
set_option linter.unusedSimpArgs false
/-- The blocks that the document's lexer may change. -/
def TL : List TypeId := [36]
/-- The blocks that the document's reader may change. -/
def TR : List TypeId := [36, 38, 42]
/-- The lexer: its text, where it stands, whether it is bad. -/
abbrev LxAt (w : World) (lb : Nat) (s : ByteArray) (k : Nat) (bad : Bool) : Prop := Has w lb 36 #[.string s, .int .i64 (k : Nat), .bool bad]
def atL (lb : Nat) (w : World) : Nat := match w.cell? ⟨lb, 1, none⟩ with | some (.int _ x) => x.toNat | _ => 0
theorem LxAt.at {w : World} {lb : Nat} {s : ByteArray} {k : Nat} {bad : Bool} (h : LxAt w lb s k bad) : atL lb w = k := by
  have c := Has.cell h 1
  simp at c
  unfold atL
  rw [c]
  simp
set_option maxRecDepth 100000 in
set_option maxHeartbeats 4000000 in
theorem blank_any (B lb : Nat) (hB : B ≤ lb) (s : ByteArray) (hs : s.size ≤ 20000) (k : Nat) (hk : k ≤ s.size) (bad : Bool) (w : World) (h : LxAt w lb s k bad) :
    Calls Tryz.prog 10 #[.pointer (some ⟨lb, 0, none⟩)] w fun e w' => e = .returned (.tuple #[]) ∧ LxAt w' lb s (skipK s k) bad ∧ KT TL B w w' := by
  have H := hid h
  clear h
  go_enter Tryz.func10, Tryz.ntmps10
  go_wp2
  go_loopw [] (fun wr => ∃ j : Nat, j ≤ s.size ∧ k ≤ j ∧ LxAt wr lb s j bad ∧ KT TL B w wr ∧ Hid (∀ i, k ≤ i → i < j → isBlk (bAt s i) = true)) (fun wr => s.size - atL lb wr)
  case atStart => exact ⟨k, hk, Nat.le_refl _, H.out, KT.refl _, hid (fun i a b => absurd a (by omega))⟩
  case round =>
    rename World => wr
    obtain ⟨j, hj, hkj, hl, hkt, HA⟩ := hrel
    have HL := hid hl
    have HK := hid hkt
    have c0 := Has.cell hl 0
    have c1 := Has.cell hl 1
    have f1 := Has.frozen hl 1
    simp at c0 c1
    have HAT := hid (LxAt.at hl)
    clear hl hkt
    have HEND : Hid (isBlk (bAt s j) = false → skipK s k = j) := hid (fun e => runK_is (by decide) hkj e (fun i a b => HA.out i a b))
    by_cases hlt : j < s.size
    · have hj1 : (j : Int) < s.size := by omega
      have hb := bAt_in hlt
      obtain ⟨c, hc⟩ : ∃ c, bAt s j = c := ⟨_, rfl⟩
      rw [hc] at hb HEND
      have HNX := hid (fun (e : isBlk c = true) i (a : k ≤ i) (b : i < j + 1) => (show isBlk (bAt s i) = true from by
        by_cases d : i = j
        · rw [d, hc]; exact e
        · exact HA.out i a (by omega)))
      have HBLK := hid (show isBlk c = (decide (c = 32) || decide (c = 9) || decide (c = 10)) from rfl)
      have hb' := hb.symm
      clear hc hb
      by_cases e1 : c = 32
      · skip
        have HN2 := hid (HNX.out (by rw [HBLK.out, e1]; rfl))
        clear HNX HBLK HEND
        subst e1
        go_wp2_with fail
        go_quiet (fail)
        go_wp2
        have HF : LxAt ((wr.drewN nq).setCell ⟨lb, 1, none⟩ (.int .i64 ((j : Int) + 1))) lb s (j + 1) bad := by
          have h := (Has.drewN HL.out nq).put 1 (.int .i64 ((j : Int) + 1))
          rw [show ((j : Int) + 1) = ((j + 1 : Nat) : Int) from by omega] at h ⊢
          exact h
        have HKF := (HK.out.drewN nq).setCell (p := ⟨lb, 1, none⟩) hB (Has.hot (Has.drewN HL.out nq) (by decide)) (.int .i64 ((j : Int) + 1))
        refine ⟨⟨j + 1, by omega, by omega, HF, HKF, HN2⟩, ?_⟩
        rw [HF.at, HAT.out]
        omega
      · by_cases e2 : c = 9
        · skip
          have HN2 := hid (HNX.out (by rw [HBLK.out, e2]; rfl))
          clear HNX HBLK HEND
          subst e2
          go_wp2_with fail
          go_quiet (fail)
          go_wp2
          have HF : LxAt ((wr.drewN nq).setCell ⟨lb, 1, none⟩ (.int .i64 ((j : Int) + 1))) lb s (j + 1) bad := by
            have h := (Has.drewN HL.out nq).put 1 (.int .i64 ((j : Int) + 1))
            rw [show ((j : Int) + 1) = ((j + 1 : Nat) : Int) from by omega] at h ⊢
            exact h
          have HKF := (HK.out.drewN nq).setCell (p := ⟨lb, 1, none⟩) hB (Has.hot (Has.drewN HL.out nq) (by decide)) (.int .i64 ((j : Int) + 1))
          refine ⟨⟨j + 1, by omega, by omega, HF, HKF, HN2⟩, ?_⟩
          rw [HF.at, HAT.out]
          omega
        · by_cases e3 : c = 10
          · skip
            have HN2 := hid (HNX.out (by rw [HBLK.out, e3]; rfl))
            clear HNX HBLK HEND
            subst e3
            go_wp2_with fail
            go_quiet (fail)
            go_wp2
            have HF : LxAt ((wr.drewN nq).setCell ⟨lb, 1, none⟩ (.int .i64 ((j : Int) + 1))) lb s (j + 1) bad := by
              have h := (Has.drewN HL.out nq).put 1 (.int .i64 ((j : Int) + 1))
              rw [show ((j : Int) + 1) = ((j + 1 : Nat) : Int) from by omega] at h ⊢
              exact h
            have HKF := (HK.out.drewN nq).setCell (p := ⟨lb, 1, none⟩) hB (Has.hot (Has.drewN HL.out nq) (by decide)) (.int .i64 ((j : Int) + 1))
            refine ⟨⟨j + 1, by omega, by omega, HF, HKF, HN2⟩, ?_⟩
            rw [HF.at, HAT.out]
            omega
          · have HE2 := hid (HEND.out (by rw [HBLK.out, decide_eq_false e1, decide_eq_false e2, decide_eq_false e3]; rfl))
            have g1 : ((c : Int) == 32) = false := by simpa using (by omega : ¬ (c : Int) = 32)
            have g2 : ((c : Int) == 9) = false := by simpa using (by omega : ¬ (c : Int) = 9)
            have g3 : ((c : Int) == 10) = false := by simpa using (by omega : ¬ (c : Int) = 10)
            clear HNX HBLK HEND
            go_wp2_with fail
            go_quiet (fail)
            go_wp2
            go_returns
            exact ⟨rfl, by rw [HE2.out]; exact Has.drewN HL.out nq, HK.out.drewN nq⟩
    · have HE2 := hid (HEND.out (by rw [bAt_out hlt]; rfl))
      have hj1 : ¬ (j : Int) < s.size := by omega
      clear HEND
      go_wp2_with fail
      go_quiet (fail)
      go_wp2
      go_returns
      exact ⟨rfl, by rw [HE2.out]; exact Has.drewN HL.out nq, HK.out.drewN nq⟩
end Go.Proofs.YtlilmidffcmkjaaGreatDoor
/- The document's lexer: signs (contract of its method). -/
namespace Go.Proofs.YtlilmidffcmkjaaGreatDoor
open Go.RowKit
set_option linter.unusedVariables false
set_option linter.unusedSimpArgs false
theorem ext_size (s : ByteArray) (q n : Nat) (h : q + n ≤ s.size) : (s.extract q (q + n)).size = n := by simp; omega
theorem ext_ne {s : ByteArray} {q n : Nat} {x : Array UInt8} (h : q + n ≤ s.size) (hn : n ≠ x.size) : s.extract q (q + n) ≠ ⟨x⟩ := fun e => by
  have h1 := ext_size s q n h
  rw [e] at h1
  exact hn h1.symm
theorem ext_b {s : ByteArray} {q : Nat} (h : q + 1 ≤ s.size) (c : UInt8) : (s.extract q (q + 1) = ⟨#[c]⟩) ↔ bAt s q = c.toNat := by
  have hA := bAt_in (show q < s.size from h)
  rw [ext_one s q (s[q]'h) hA, ba_one_eq, hA]
theorem sig_two {s : ByteArray} {q : Nat} (h : (opK s q).2 = 2) : sigT s q = s.extract q (q + 2) ∧ q + 2 ≤ s.size ∧ 1 ≤ (opK s q).1 := by
  rcases opK_or s q with e | ⟨a, _, _, _, b⟩
  · rw [e] at h; cases h
  · rw [h] at b
    unfold sigT
    rw [if_neg (by omega), h]
    exact ⟨rfl, b, a⟩
theorem sig_one {s : ByteArray} {q : Nat} (h2 : (opK s q).2 ≠ 2) (h : 1 ≤ (opK s q).1) : sigT s q = s.extract q (q + 1) := by
  rcases opK_or s q with e | ⟨a, _, c, d, b⟩
  · rw [e] at h; cases h
  · unfold sigT
    rw [if_neg (by omega), show (opK s q).2 = 1 by omega]
theorem sig_br {s : ByteArray} {q : Nat} (h : (opK s q).1 = 0) (hb : bAt s q = 40 ∨ bAt s q = 41) : sigT s q = s.extract q (q + 1) := by
  unfold sigT
  rw [if_pos h, if_pos hb]
theorem sig_no {s : ByteArray} {q : Nat} (h : (opK s q).1 = 0) (hb : ¬ (bAt s q = 40 ∨ bAt s q = 41)) : sigT s q = nilS := by
  unfold sigT
  rw [if_pos h, if_neg hb]
set_option maxRecDepth 100000 in
set_option maxHeartbeats 8000000 in
theorem sign_any (B lb : Nat) (hB : B ≤ lb) (s : ByteArray) (hs : s.size ≤ 20000) (k : Nat) (hk : k ≤ s.size) (bad : Bool) (w : World) (h : LxAt w lb s k bad) :
    Calls Tryz.prog 17 #[.pointer (some ⟨lb, 0, none⟩)] w fun e w' => e = .returned (.string (sigT s (skipK s k))) ∧ LxAt w' lb s (skipK s k) bad ∧ KT TL B w w' := by
  have HBL := hid (blank_any B lb hB s hs k hk bad w h)
  have hq : skipK s k ≤ s.size := runK_le isBlk s k hk
  obtain ⟨q, hqq⟩ : ∃ q, skipK s k = q := ⟨_, rfl⟩
  rw [hqq] at HBL hq ⊢
  obtain ⟨sg, hsg⟩ : ∃ sg, sigT s q = sg := ⟨_, rfl⟩
  rw [hsg]
  have HSG := hid hsg
  clear h hqq hsg
  go_enter Tryz.func17, Tryz.ntmps17
  go_wp2_with fail
  refine HBL.out.mono ?_
  rintro e w2 ⟨rfl, hl2, hk2⟩
  have HL2 := hid hl2
  have HK2 := hid hk2
  clear hl2 hk2
  go_wp2_with fail
  go_loopw [3] (fun vt wr => ∃ n : Nat, n ≤ 2 ∧ vt = .int .i64 n ∧ LxAt wr lb s q bad ∧ KT TL B w wr ∧ Hid (n ≤ 1 → (opK s q).2 ≠ 2) ∧ Hid (n = 0 → sg = nilS)) (fun vt _ => (intOf vt).toNat)
  case atStart => exact ⟨2, Nat.le_refl _, rfl, HL2.out, HK2.out, hid (fun a => absurd a (by decide)), hid (fun a => absurd a (by decide))⟩
  case round =>
    rename World => wr
    obtain ⟨n, hn, rfl, hl, hkt, HO, HZ⟩ := hrel
    have HL := hid hl
    have HK := hid hkt
    have c0 := Has.cell hl 0
    have c1 := Has.cell hl 1
    simp at c0 c1
    clear hl hkt
    obtain rfl | rfl | rfl : n = 0 ∨ n = 1 ∨ n = 2 := by omega
    · have HE := hid (HZ.out rfl)
      go_wp2_with fail
      go_returns
      exact ⟨by rw [HE.out]; rfl, HL.out, HK.out⟩
    · have c2 := HO.out (Nat.le_refl _)
      by_cases z1 : q + 1 ≤ s.size
      · have HLV := hid (fun W => rLevel_any (s.extract q (q + 1)) W)
        rw [lvl_one s q z1 c2] at HLV
        have i1 : (q : Int) + 1 ≤ s.size := by omega
        have i2 : (q : Int) ≤ (q : Int) + 1 := by omega
        by_cases c1' : 1 ≤ (opK s q).1
        · have HE := hid (show sg = s.extract q (q + 1) from HSG.out.symm.trans (sig_one c2 c1'))
          obtain ⟨lv, hlv⟩ : ∃ lv, (opK s q).1 = lv := ⟨_, rfl⟩
          rw [hlv] at HLV c1'
          have e4 : (0 : Int) < (lv : Int) := by omega
          clear z1 c2 hlv
          go_wp2_with fail
          go_quiet (fail)
          go_wp2_with fail
          go_quiet (fail)
          go_wp2_with (go_at_call 18; refine (HLV.out _).mono ?_; rintro e3 w3 ⟨rfl, rfl⟩)
          go_returns
          exact ⟨by rw [HE.out]; rfl, Has.drewN HL.out _, HK.out.drewN _⟩
        · have c0' : (opK s q).1 = 0 := by omega
          rw [c0'] at HLV
          by_cases b1 : bAt s q = 40
          · have HE := hid (show sg = s.extract q (q + 1) from HSG.out.symm.trans (sig_br c0' (.inl b1)))
            have HX := (ext_b z1 40).2 b1
            have n1 : ((s.extract q (q + 1)).toList == [40]) = true := by rw [HX, toList_data]; rfl
            clear z1 c2 c0' c1' b1 HX
            go_wp2_with fail
            go_quiet (fail)
            go_wp2_with fail
            go_quiet (fail)
            go_wp2_with (go_at_call 18; refine (HLV.out _).mono ?_; rintro e3 w3 ⟨rfl, rfl⟩)
            go_returns
            exact ⟨by rw [HE.out]; rfl, Has.drewN HL.out _, HK.out.drewN _⟩
          · have n1 : ((s.extract q (q + 1)).toList == [40]) = false := str_nl (fun e => b1 ((ext_b z1 40).1 e))
            by_cases b2 : bAt s q = 41
            · have HE := hid (show sg = s.extract q (q + 1) from HSG.out.symm.trans (sig_br c0' (.inr b2)))
              have HX := (ext_b z1 41).2 b2
              have n2 : ((s.extract q (q + 1)).toList == [41]) = true := by rw [HX, toList_data]; rfl
              clear z1 c2 c0' c1' b1 b2 HX
              go_wp2_with fail
              go_quiet (fail)
              go_wp2_with fail
              go_quiet (fail)
              go_wp2_with (go_at_call 18; refine (HLV.out _).mono ?_; rintro e3 w3 ⟨rfl, rfl⟩)
              go_returns
              exact ⟨by rw [HE.out]; rfl, Has.drewN HL.out _, HK.out.drewN _⟩
            · have n2 : ((s.extract q (q + 1)).toList == [41]) = false := str_nl (fun e => b2 ((ext_b z1 41).1 e))
              have HN0 := hid (HSG.out.symm.trans (sig_no c0' (fun x => x.elim b1 b2)))
              have HNO := hid c2
              clear z1 c2 c0' c1' b1 b2
              go_wp2_with fail
              go_quiet (fail)
              go_wp2_with fail
              go_quiet (fail)
              go_wp2_with (go_at_call 18; refine (HLV.out _).mono ?_; rintro e3 w3 ⟨rfl, rfl⟩)
              exact ⟨⟨0, by omega, by go_num, Has.drewN HL.out _, HK.out.drewN _, hid (fun _ => HNO.out), hid (fun _ => HN0.out)⟩, by simp [intOf]⟩
      · have h256 : bAt s q = 256 := bAt_out (by omega)
        have HN0 := hid (HSG.out.symm.trans (sig_no (by rw [opK_out s q (by omega)]) (by rw [h256]; decide)))
        have HNO := hid c2
        have i1 : ¬ (q : Int) + 1 ≤ s.size := by omega
        clear z1 c2 h256
        go_wp2_with fail
        go_quiet (fail)
        go_wp2_with fail
        exact ⟨⟨0, by omega, by go_num, Has.drewN HL.out _, HK.out.drewN _, hid (fun _ => HNO.out), hid (fun _ => HN0.out)⟩, by simp [intOf]⟩
    · by_cases c2 : (opK s q).2 = 2
      · obtain ⟨e1, e2, e3⟩ := sig_two c2
        have HE := hid (show sg = s.extract q (q + 2) from HSG.out.symm.trans e1)
        have HLV := hid (fun W => rLevel_any (s.extract q (q + 2)) W)
        rw [lvl_two s q e2, if_pos c2] at HLV
        obtain ⟨lv, hlv⟩ : ∃ lv, (opK s q).1 = lv := ⟨_, rfl⟩
        rw [hlv] at HLV e3
        have e4 : (0 : Int) < (lv : Int) := by omega
        have i1 : (q : Int) + 2 ≤ s.size := by omega
        have i2 : (q : Int) ≤ (q : Int) + 2 := by omega
        clear e1 e2 c2 hlv
        go_wp2_with fail
        go_quiet (fail)
        go_wp2_with fail
        go_quiet (fail)
        go_wp2_with (go_at_call 18; refine (HLV.out _).mono ?_; rintro e3 w3 ⟨rfl, rfl⟩)
        go_returns
        exact ⟨by rw [HE.out]; rfl, Has.drewN HL.out _, HK.out.drewN _⟩
      · have HNO := hid c2
        by_cases z2 : q + 2 ≤ s.size
        · have HLV := hid (fun W => rLevel_any (s.extract q (q + 2)) W)
          rw [lvl_two s q z2, if_neg c2] at HLV
          have n1 : ((s.extract q (q + 2)).toList == [40]) = false := str_nl (ext_ne (x := #[40]) z2 (by decide))
          have n2 : ((s.extract q (q + 2)).toList == [41]) = false := str_nl (ext_ne (x := #[41]) z2 (by decide))
          have i1 : (q : Int) + 2 ≤ s.size := by omega
          have i2 : (q : Int) ≤ (q : Int) + 2 := by omega
          clear z2 c2
          go_wp2_with fail
          go_quiet (fail)
          go_wp2_with fail
          go_quiet (fail)
          go_wp2_with (go_at_call 18; refine (HLV.out _).mono ?_; rintro e3 w3 ⟨rfl, rfl⟩)
          exact ⟨⟨1, by omega, by go_num, Has.drewN HL.out _, HK.out.drewN _, hid (fun _ => HNO.out), hid (fun a => absurd a (by decide))⟩, by simp [intOf]⟩
        · have i1 : ¬ (q : Int) + 2 ≤ s.size := by omega
          clear z2 c2
          go_wp2_with fail
          go_quiet (fail)
          go_wp2_with fail
          exact ⟨⟨1, by omega, by go_num, Has.drewN HL.out _, HK.out.drewN _, hid (fun _ => HNO.out), hid (fun a => absurd a (by decide))⟩, by simp [intOf]⟩
end Go.Proofs.YtlilmidffcmkjaaGreatDoor
/- The document's lexer: words (contract of its method). -/
namespace Go.Proofs.YtlilmidffcmkjaaGreatDoor
open Go.RowKit
set_option linter.unusedVariables false
set_option linter.unusedSimpArgs false
theorem rLet (c : Nat) (hc : c < 256) (w : World) : Calls Tryz.prog 39 #[.int .u8 c] w fun e w' => e = .returned (.bool (isLet c)) ∧ w' = w := (rLetter_any c hc w).mono fun e w' ⟨a, b⟩ => ⟨a, b.symm⟩
theorem rDig (c : Nat) (hc : c < 256) (w : World) : Calls Tryz.prog 40 #[.int .u8 c] w fun e w' => e = .returned (.bool (isDig c)) ∧ w' = w := (rDigit_any c hc w).mono fun e w' ⟨a, b⟩ => ⟨a, b.symm⟩
/-- The name that stands at q. -/
def wrdT (s : ByteArray) (q : Nat) : ByteArray := if isLet (bAt s q) then s.extract q (wordK s q) else nilS
theorem wrd_end {s : ByteArray} {q j : Nat} (hqj : q ≤ j) (hor : j = q ∨ isLet (bAt s q) = true) (hall : ∀ i, q ≤ i → i < j → isWrd (bAt s i) = true) (hstop : isLet (bAt s j) = false ∧ (j = q ∨ isDig (bAt s j) = false)) : wrdT s q = s.extract q j := by
  unfold wrdT
  rcases hor with rfl | h
  · rw [hstop.1, if_neg Bool.false_ne_true, ext_nil]
  · by_cases c : j = q
    · subst c
      rw [hstop.1] at h
      cases h
    · rw [if_pos h]
      have he : isWrd (bAt s j) = false := by
        unfold isWrd
        rw [hstop.1, hstop.2.resolve_left c]
        rfl
      have : wordK s q = j := runK_is (by decide) hqj he hall
      rw [this]
set_option maxRecDepth 100000 in
set_option maxHeartbeats 8000000 in
theorem word_any (B lb : Nat) (hB : B ≤ lb) (s : ByteArray) (hs : s.size ≤ 20000) (k : Nat) (hk : k ≤ s.size) (bad : Bool) (w : World) (h : LxAt w lb s k bad) :
    Calls Tryz.prog 27 #[.pointer (some ⟨lb, 0, none⟩)] w fun e w' => e = .returned (.string (wrdT s (skipK s k))) ∧ LxAt w' lb s (skipK s k) bad ∧ KT TL B w w' := by
  have HBL := hid (blank_any B lb hB s hs k hk bad w h)
  have hq : skipK s k ≤ s.size := runK_le isBlk s k hk
  obtain ⟨q, hqq⟩ : ∃ q, skipK s k = q := ⟨_, rfl⟩
  rw [hqq] at HBL hq ⊢
  have HWR := hid (fun j (a : q ≤ j) b c d => wrd_end (s := s) (q := q) (j := j) a b c d)
  obtain ⟨wd, hwd⟩ : ∃ wd, wrdT s q = wd := ⟨_, rfl⟩
  rw [hwd] at HWR ⊢
  clear h hqq hwd
  go_enter Tryz.func27, Tryz.ntmps27
  go_wp2_with fail
  refine HBL.out.mono ?_
  rintro e w2 ⟨rfl, hl2, hk2⟩
  have HL2 := hid hl2
  have HK2 := hid hk2
  have a1 := Has.cell hl2 1
  simp at a1
  clear hl2 hk2
  go_wp2_with fail
  go_loopw [3] (fun vt wr => ∃ j : Nat, j ≤ s.size ∧ q ≤ j ∧ vt = .int .i64 j ∧ LxAt wr lb s q bad ∧ KT TL B w wr ∧ Hid (j = q ∨ isLet (bAt s q) = true) ∧ Hid (∀ i, q ≤ i → i < j → isWrd (bAt s i) = true)) (fun vt _ => s.size - (intOf vt).toNat)
  case atStart => exact ⟨q, hq, Nat.le_refl _, rfl, HL2.out, HK2.out, hid (.inl rfl), hid (fun i a b => absurd a (by omega))⟩
  case round =>
    rename World => wr
    obtain ⟨j, hj, hqj, rfl, hl, hkt, HOR, HA⟩ := hrel
    have HL := hid hl
    have HK := hid hkt
    have c0 := Has.cell hl 0
    have c1 := Has.cell hl 1
    simp at c0 c1
    have s1 : (q : Int) ≤ j := by omega
    have s2 : (j : Int) ≤ s.size := by omega
    clear hl hkt a1
    by_cases hlt : j < s.size
    · have hj1 : (j : Int) < s.size := by omega
      have hb := bAt_in hlt
      have hc256 : (s[j]'hlt).toNat < 256 := (s[j]'hlt).toNat_lt
      have HLT := hid (fun W => rLet (s[j]'hlt).toNat hc256 W)
      have HDG := hid (fun W => rDig (s[j]'hlt).toNat hc256 W)
      have HWN := hid (fun (e : isWrd (bAt s j) = true) i (a : q ≤ i) (b : i < j + 1) => (show isWrd (bAt s i) = true from by
        by_cases d : i = j
        · rw [d]; exact e
        · exact HA.out i a (by omega)))
      have HB := hid hb
      clear hb
      cases hL : isLet (s[j]'hlt).toNat with
      | true =>
        rw [hL] at HLT
        have HN2 := hid (HWN.out (let_wrd (by rw [HB.out]; exact hL)))
        have HO2 := hid (show j + 1 = q ∨ isLet (bAt s q) = true from .inr (by
          rcases HOR.out with e | e
          · rw [← e, HB.out]; exact hL
          · exact e))
        clear hL HWN
        go_wp2_with (first | (go_at_call 39; refine (HLT.out _).mono ?_; rintro e w3 ⟨rfl, rfl⟩) | (go_at_call 40; refine (HDG.out _).mono ?_; rintro e w3 ⟨rfl, rfl⟩))
        exact ⟨⟨j + 1, by omega, by omega, by go_num, HL.out, HK.out, HO2, HN2⟩, by simp [intOf]; omega⟩
      | false =>
        rw [hL] at HLT
        by_cases hjq : j = q
        · have hjq1 : ¬ (q : Int) < j := by omega
          have HE := hid (HWR.out j hqj HOR.out HA.out ⟨by rw [HB.out]; exact hL, .inl hjq⟩)
          clear hL HWN hjq
          go_wp2_with (first | (go_at_call 39; refine (HLT.out _).mono ?_; rintro e w3 ⟨rfl, rfl⟩) | (go_at_call 40; refine (HDG.out _).mono ?_; rintro e w3 ⟨rfl, rfl⟩))
          go_quiet (fail)
          go_wp2
          go_returns
          exact ⟨by rw [HE.out]; rfl, Has.drewN HL.out _, HK.out.drewN _⟩
        · have hjq1 : (q : Int) < j := by omega
          cases hD : isDig (s[j]'hlt).toNat with
          | true =>
            rw [hD] at HDG
            have HN2 := hid (HWN.out (by unfold isWrd; rw [HB.out, hD, Bool.or_true]))
            have HO2 := hid (show j + 1 = q ∨ isLet (bAt s q) = true from .inr (HOR.out.resolve_left hjq))
            clear hL hD HWN hjq
            go_wp2_with (first | (go_at_call 39; refine (HLT.out _).mono ?_; rintro e w3 ⟨rfl, rfl⟩) | (go_at_call 40; refine (HDG.out _).mono ?_; rintro e w3 ⟨rfl, rfl⟩))
            exact ⟨⟨j + 1, by omega, by omega, by go_num, HL.out, HK.out, HO2, HN2⟩, by simp [intOf]; omega⟩
          | false =>
            rw [hD] at HDG
            have HE := hid (HWR.out j hqj HOR.out HA.out ⟨by rw [HB.out]; exact hL, .inr (by rw [HB.out]; exact hD)⟩)
            clear hL hD HWN hjq
            go_wp2_with (first | (go_at_call 39; refine (HLT.out _).mono ?_; rintro e w3 ⟨rfl, rfl⟩) | (go_at_call 40; refine (HDG.out _).mono ?_; rintro e w3 ⟨rfl, rfl⟩))
            go_quiet (fail)
            go_wp2
            go_returns
            exact ⟨by rw [HE.out]; rfl, Has.drewN HL.out _, HK.out.drewN _⟩
    · have hj1 : ¬ (j : Int) < s.size := by omega
      have h256 : bAt s j = 256 := bAt_out hlt
      have HE := hid (HWR.out j hqj HOR.out HA.out ⟨by rw [h256]; rfl, .inr (by rw [h256]; rfl)⟩)
      clear h256
      go_wp2_with fail
      go_quiet (fail)
      go_wp2
      go_returns
      exact ⟨by rw [HE.out]; rfl, Has.drewN HL.out _, HK.out.drewN _⟩
end Go.Proofs.YtlilmidffcmkjaaGreatDoor
