/- The operator that comes next (contract of the parser's method). -/
import Derived.Test.YtlilmidffcmkjaaGreatDoorPrsD
import Derived.Deep.QuietTactic
import Derived.BigQuiet
import Derived.Deep.MidRow
namespace Go.Proofs.YtlilmidffcmkjaaGreatDoor
open Go.RowKit
set_option linter.unusedVariables false
set_option linter.unusedSimpArgs false
theorem KT.fresh_at {T : List TypeId} {B nb i : Nat} {a b : World} (h : KT T B a b) (hs : a.heap.size ≤ nb) (x : Value) : KT T B a (b.setCell ⟨nb, i, none⟩ x) :=
  ⟨h.os, h.tape, h.output, by simpa [World.setCell] using h.size, fun k hi hn => (Below.heap_setCell b ⟨nb, i, none⟩ x k (by show k ≠ nb; omega)).trans (h.block k hi hn)⟩
theorem Bw.fresh_at {nb i : Nat} {a b : World} (h : Bw a b) (hs : a.heap.size ≤ nb) (x : Value) : Bw a (b.setCell ⟨nb, i, none⟩ x) := Below.setCell (p := ⟨nb, i, none⟩) h hs x
theorem PrsS.far {w0 w : World} {g : Nat} {s : ByteArray} {k deep : Nat} {l : List ExpR} {v : Value} (h : PrsS w0 w g s k deep l v) {rb : Nat} {t : TypeId} {cs : Array Value} (hr : Has w rb t cs) (h1 : 31 ≠ t) (h2 : 42 ≠ t) (hb : w0.heap.size ≤ rb) (i : Nat) (u : Value) : PrsS w0 (w.setCell ⟨rb, i, none⟩ u) g s k deep l v :=
  ⟨h.pr.far (fun e => by
      have e : g = rb := e
      have hp := h.pr
      unfold Has at hp hr
      rw [e, hr] at hp
      injection hp with hp
      injection hp with _ hp
      exact h1 hp.symm) u, own_keep h.row fun b hb' => Below.heap_setCell w ⟨rb, i, none⟩ u b (fun e => by
      have e : b = rb := e
      subst e
      exact own_ne_has h.row hr h2 hb'), Below.setCell (p := ⟨rb, i, none⟩) h.bw hb u, h.gp, h.ks, h.ok, h.few, h.dp⟩
theorem scan_step (L : List UInt8) (b : ByteArray × Nat) (j : Nat) (h : j < 12) : scanP L b (sgnT.drop j) = scanP L (if Lib.hasPrefix L (sgS j).data.toList && decide (b.1.size < (sgS j).size) then (sgS j, sgL j) else b) (sgnT.drop (j + 1)) := by
  have hl : j < sgnT.length := h
  have e : sgnT.getD j ([], 0) = sgnT[j] := by rw [List.getD_eq_getElem?_getD, List.getElem?_eq_getElem hl]; rfl
  rw [List.drop_eq_getElem_cons hl, scanP]
  have e1 : (sgS j).data.toList = sgnT[j].1 := by rw [sgS, e]
  have e2 : (sgS j).size = sgnT[j].1.length := by rw [sgS, e]; simp [ByteArray.size]
  have e3 : sgS j = ⟨sgnT[j].1.toArray⟩ := by rw [sgS, e]
  have e4 : sgL j = sgnT[j].2 := by rw [sgL, e]
  rw [e1, e2, e3, e4]
set_option maxRecDepth 100000 in
set_option maxHeartbeats 4000000 in
theorem operator_any (w0 w : World) (g : Nat) (s : ByteArray) (hs20 : s.size ≤ 20000) (k deep : Nat) (l : List ExpR) (v : Value) (h : PrsS w0 w g s k deep l v) (hS : SgnAt w0) :
    Calls Tryz.prog 25 #[.pointer (some ⟨g, 0, none⟩)] w fun e w' => e = .returned (.agg #[.string (s.extract (skipK s k) (skipK s k + (opK s (skipK s k)).2)), .int .i64 ((opK s (skipK s k)).1 : Nat)]) ∧ PrsS w0 w' g s (skipK s k) deep l v ∧ KT TP w0.heap.size w w' := by
  have HA := hid ((Bw.refl w).alloc (.cells #[.string ⟨#[]⟩, .int .i64 0] 67))
  have HN := hid (Has.new w 67 #[.string ⟨#[]⟩, .int .i64 0])
  have HS1 := hid (h.later HA.out)
  have HG := hid hS
  have HW0 := hid h.bw.size
  have HSC := hid (scan_op s (skipK s k))
  have HSK := hid (fun W (hW : PrsS w0 W g s k deep l v) => skip_any w0 W g s k deep l v hW)
  obtain ⟨q, hq⟩ : ∃ q, skipK s k = q := ⟨_, rfl⟩
  rw [hq] at HSK HSC ⊢
  obtain ⟨f1, hf1⟩ : ∃ f1, s.extract q (q + (opK s q).2) = f1 := ⟨_, rfl⟩
  obtain ⟨f2, hf2⟩ : ∃ f2, (opK s q).1 = f2 := ⟨_, rfl⟩
  rw [hf1, hf2] at HSC ⊢
  obtain ⟨L, hL⟩ : ∃ L, (dropS s q).data.toList = L := ⟨_, rfl⟩
  rw [hL] at HSC
  have HL := hid hL
  obtain ⟨rb, hrb⟩ : ∃ rb, w.heap.size = rb := ⟨_, rfl⟩
  rw [hrb] at HN
  have HRB := hid hrb
  clear hq hf1 hf2 hL
  clear h hS hrb
  go_enter Tryz.func25, Tryz.ntmps25
  go_wp2_with fail
  refine (HSK.out _ HS1.out).mono ?_
  rintro e w2 ⟨rfl, hs2, hk2⟩
  rw [HRB.out]
  have HS2 := hid hs2
  have HK2 := hid ((KT.of_bw HA.out : KT TP w0.heap.size w _).trans hk2)
  have HN2 := hid (hk2.has HN.out (by decide))
  obtain ⟨nb, hnb⟩ : ∃ nb, w2.heap.size = nb := ⟨_, rfl⟩
  have HNB := hid hnb
  have HA3 := hid ((Bw.refl w2).alloc (.cells #[.string ⟨#[]⟩, .int .i64 0] 67))
  have HN3 := hid (Has.new w2 67 #[.string ⟨#[]⟩, .int .i64 0])
  rw [hnb] at HN3
  have HG3 := hid (HG.out.bw (HS2.out.bw.trans HA3.out))
  clear hs2 hk2
  go_wp2_with (refine wpList_load_mid rfl 80 (.global 0) rfl 0 0 rfl sgnR _ HG3.out.2 Tryz.underlying80 rfl sgn_info ?_)
  clear hnb
  generalize w2.alloc (.cells #[.string ⟨#[]⟩, .int .i64 0] 67) = W3 at *
  go_loopw [9] (fun i wr => ∃ (j : Nat) (b : ByteArray × Nat), j ≤ 12 ∧ i = .int .i64 j ∧ Hid (scanP L b (sgnT.drop j) = (f1, f2)) ∧ Hid (b.1.size ≤ 2) ∧ Has wr nb 67 #[.string b.1, .int .i64 (b.2 : Nat)] ∧ Bw w2 wr) (fun i _ => 12 - (intOf i).toNat)
  case atStart => exact ⟨0, (nilS, 0), by decide, rfl, hid HSC.out, hid (by decide), HN3.out, HA3.out⟩
  case round =>
    rename World => wr
    obtain ⟨j, ⟨bs, bl⟩, hj, rfl, HSP, HB2, hnb, hbw⟩ := hrel
    simp only at HSP HB2 hnb
    have HH := hid hnb
    have HB := hid hbw
    clear hnb hbw
    by_cases hlt : j < 12
    · have hj1 : (j : Int) < 12 := by omega
      have hix := sgn_index j hlt wr
      have HST := hid (scan_step L (bs, bl) j hlt)
      have HS4 := hid (HS2.out.later (HB.out.alloc (.cells #[.string (sgS j), .int .i64 (sgL j : Nat)] 67)))
      have HB4 := hid (HB.out.alloc (.cells #[.string (sgS j), .int .i64 (sgL j : Nat)] 67))
      have HN4 := hid (Has.new wr 67 #[.string (sgS j), .int .i64 (sgL j : Nat)])
      have HH4 := hid (((Bw.refl wr).alloc (.cells #[.string (sgS j), .int .i64 (sgL j : Nat)] 67)).has HH.out)
      have hz : (sgS j).size ≤ 2 := by
        have : ∀ j, j < 12 → (sgS j).size ≤ 2 := by decide
        exact this j hlt
      have HZ := hid hz
      unfold sgnA at hix
      generalize sgS j = sg at *
      generalize sgL j = lv at *
      have HHP := hid (fun W => lib_HasPrefix (dropS s q) sg W)
      rw [HL.out] at HHP
      have hbz : bs.size ≤ 2 := HB2.out
      have c0 := HS4.out.pr.cell 0
      have o0 := HN4.out.cell 0
      have o1 := HN4.out.cell 1
      have n0 := HH4.out.cell 0
      have n1 := HH4.out.cell 1
      have y0 := HH4.out.frozen 0
      have y1 := HH4.out.frozen 1
      have x0 := HN4.out.frozen 0
      have x1 := HN4.out.frozen 1
      simp at c0 o0 o1 n0 n1
      have HWR := hid HH.out.lt
      cases hp : Lib.hasPrefix L sg.data.toList with
      | false =>
        rw [hp] at HHP
        have HE := hid (show scanP L (bs, bl) (sgnT.drop (j + 1)) = (f1, f2) from by
          have h1 := HST.out
          rw [hp, Bool.false_and, if_neg Bool.false_ne_true] at h1
          exact h1.symm.trans HSP.out)
        clear hp HST HSP
        go_wp2_with fail
        go_quiet ((go_at_call 38; exact Calls.quiet_of_same (HHP.out _)))
        go_wp2
        exact ⟨⟨j + 1, (bs, bl), by omega, by go_num, HE, hid hbz, HH4.out, HB4.out.drewN _⟩, by simp [intOf]; omega⟩
      | true =>
        rw [hp] at HHP
        by_cases hz2 : bs.size < sg.size
        · have i1 : (bs.size : Int) < sg.size := by omega
          have HE := hid (show scanP L (sg, lv) (sgnT.drop (j + 1)) = (f1, f2) from by
            have h1 := HST.out
            rw [hp, Bool.true_and, if_pos (decide_eq_true hz2)] at h1
            exact h1.symm.trans HSP.out)
          clear hp HST HSP
          go_wp2_with fail
          go_quiet ((go_at_call 38; exact Calls.quiet_of_same (HHP.out _)))
          go_wp2
          exact ⟨⟨j + 1, (sg, lv), by omega, by go_num, HE, hid HZ.out, ((HH4.out.drewN _).put 0 _).put 1 _, Bw.fresh_at (Bw.fresh_at (HB4.out.drewN _) (by have := HNB.out; omega) _) (by have := HNB.out; omega) _⟩, by simp [intOf]; omega⟩
        · have i1 : ¬ (bs.size : Int) < sg.size := by omega
          have HE := hid (show scanP L (bs, bl) (sgnT.drop (j + 1)) = (f1, f2) from by
            have h1 := HST.out
            rw [hp, Bool.true_and, if_neg (by simpa using hz2)] at h1
            exact h1.symm.trans HSP.out)
          clear hp HST HSP
          go_wp2_with fail
          go_quiet ((go_at_call 38; exact Calls.quiet_of_same (HHP.out _)))
          go_wp2
          exact ⟨⟨j + 1, (bs, bl), by omega, by go_num, HE, hid hbz, HH4.out, HB4.out.drewN _⟩, by simp [intOf]; omega⟩
    · obtain rfl : j = 12 := by omega
      have HE := hid (show (bs, bl) = (f1, f2) from HSP.out)
      have n0 := HH.out.cell 0
      have n1 := HH.out.cell 1
      simp at n0 n1
      have HS5 := hid (HS2.out.later HB.out)
      have HR5 := hid (HB.out.has HN2.out)
      have y0 := HR5.out.frozen 0
      have y1 := HR5.out.frozen 1
      have r0 := HR5.out.cell 0
      have r1 := HR5.out.cell 1
      simp at r0 r1
      have HSF := hid (((HS5.out.far HR5.out (by decide) (by decide) (by have h1 := HW0.out; have h2 := HRB.out; omega) 0 (.string bs))).far (HR5.out.put 0 (.string bs)) (by decide) (by decide) (by have h1 := HW0.out; have h2 := HRB.out; omega) 1 (.int .i64 (bl : Nat)))
      have HKF := hid (((HK2.out.trans (KT.of_bw HB.out)).fresh_at (nb := rb) (i := 0) (by have := HRB.out; omega) (.string bs)).fresh_at (nb := rb) (i := 1) (by have := HRB.out; omega) (.int .i64 (bl : Nat)))
      have HRF := hid ((HR5.out.put 0 (.string bs)).put 1 (.int .i64 (bl : Nat)))
      go_wp2
      generalize (wr.setCell ⟨rb, 0, none⟩ (.string bs)).setCell ⟨rb, 1, none⟩ (.int .i64 (bl : Nat)) = W5 at *
      have e0 : W5.cell? ⟨rb, 0, none⟩ = some (.string bs) := HRF.out.cell 0
      have e1 : W5.cell? ⟨rb, 1, none⟩ = some (.int .i64 (bl : Nat)) := HRF.out.cell 1
      refine bodyPost_ret (v := .agg #[.string bs, .int .i64 (bl : Nat)]) (by simp [results, Tryz.results25, go_sem, e0, e1]; try rfl) rfl ?_
      injection HE.out with h1 h2
      subst h1 h2
      exact ⟨rfl, HSF.out, HKF.out⟩
end Go.Proofs.YtlilmidffcmkjaaGreatDoor
