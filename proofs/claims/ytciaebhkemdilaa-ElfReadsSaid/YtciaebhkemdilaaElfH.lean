/- All sections' names (contract of the function). -/
import Derived.Test.YtciaebhkemdilaaElfG
import Derived.Test.YtciaebhkemdilaaKitS
import Derived.RegionDies
namespace Go.Proofs.Ytciaebhkemdilaa
open Go.RowKit
set_option linter.unusedVariables false
set_option linter.unusedSimpArgs false
/-- The names hold, the last section's Data being D. -/
def NmOk (s : ByteArray) (p m : Nat) (D : ByteArray) : Prop := n4 s (p + 64 * m + 4) = 3 ∧ (∀ i, i < m → namK D (n4 s (p + 64 * (i + 1))) = true) ∧ namT D (n4 s (p + 64 * m)) = ownT
/-- What named does. -/
def NamedQ (s : ByteArray) (p m lb : Nat) (D : ByteArray) (w : World) (e : Ending) (w' : World) : Prop :=
  Keeps (· = lb) w w' ∧ ((NmOk s p m D ∧ e = .returned (.slice (some ⟨lb, 0, none⟩) (m - 1) m) ∧ RowZ 95 12 w' lb m (fun i => secV s (p + 64 * (i + 1)) (namT D (n4 s (p + 64 * (i + 1)))))) ∨ (¬ NmOk s p m D ∧ e = pan 3))
set_option maxRecDepth 100000 in
set_option maxHeartbeats 8000000 in
theorem named_any (s : ByteArray) (hs : s.size ≤ lim) (p r lb : Nat) (hr : r ≤ 1000) (D : ByteArray) (hD : D = secD s (p + 64 * (r + 1))) (hDl : D.size ≤ lim) (w : World) (h : RowZ 95 12 w lb (r + 1) (fun i => secV s (p + 64 * (i + 1)) ⟨#[]⟩)) :
    Calls Try.prog 45 #[.slice (some ⟨lb, 0, none⟩) (r + 1) (r + 1)] w (NamedQ s p (r + 1) lb D w) := by
  have HBAD := hid (fun e w' (hk : Keeps (· = lb) w w') (hn : ¬ NmOk s p (r + 1) D) (he : e = pan 3) => (show NamedQ s p (r + 1) lb D w e w' from ⟨hk, .inr ⟨hn, he⟩⟩))
  have HGOOD := hid (fun e w' (hk : Keeps (· = lb) w w') (hn : NmOk s p (r + 1) D) (he : e = .returned (.slice (some ⟨lb, 0, none⟩) (r + 1 - 1) (r + 1))) (hw : RowZ 95 12 w' lb (r + 1) (fun i => secV s (p + 64 * (i + 1)) (namT D (n4 s (p + 64 * (i + 1)))))) => (show NamedQ s p (r + 1) lb D w e w' from ⟨hk, .inl ⟨hn, he, hw⟩⟩))
  have HROW := hid h
  have HNA := hid (fun i W => nameAt_any D hDl (n4 s (p + 64 * (i + 1))) (n4_lt _ _) W)
  have v1 : IntKind.i64.wrap (((r + 1 : Nat) : Int) - 1) = (r : Int) := by rw [IntWalk.i64_in _ (by omega)]; omega
  have c0 : w.cell? ⟨lb, r * 12 + 1, none⟩ = some (.int .i64 (n4 s (p + 64 * (r + 1) + 4))) := h.cell (by omega) (by omega)
  have hdc := hid (show ∀ W (nm : Nat → ByteArray), RowZ 95 12 W lb (r + 1) (fun i => secV s (p + 64 * (i + 1)) (nm i)) → W.cell? ⟨lb, r * 12 + 11, none⟩ = some (.string D) from fun W (nm : Nat → ByteArray) hW => by
    have := hW.cell (i := r) (j := 11) (by omega) (by omega)
    rw [this, hD]; rfl)
  have hr0 : (r : Int) < ((r + 1 : Nat) : Int) := by omega
  obtain ⟨m, hm⟩ : ∃ m, r + 1 = m := ⟨_, rfl⟩
  have HM := hid hm
  rw [hm] at v1 hr0 HBAD HGOOD
  clear h hD
  go_enter Try.func45, Try.ntmps45
  rw [hm]
  go_wp2_with fail
  by_cases h3 : n4 s (p + 64 * m + 4) = 3
  case neg =>
    have t3 : ((n4 s (p + 64 * m + 4) : Int) == 3) = false := beq_eq_false_iff_ne.2 (by omega)
    rw [t3]
    refine (demand_bad 3 _).mono ?_
    rintro e w2 ⟨rfl, rfl⟩
    exact ⟨rfl, HBAD.out _ _ (Keeps.refl _ _) (fun h => h3 h.1) rfl⟩
  have H3 := hid h3
  have t3 : ((n4 s (p + 64 * m + 4) : Int) == 3) = true := beq_iff_eq.2 (by omega)
  rw [t3]
  clear h3 t3
  refine (demand_ok 3 _).mono ?_
  rintro e w2 ⟨rfl, rfl⟩
  clear c0
  go_wp2
  have HM9 := hid (show m ≤ 1001 by omega)
  rw [hm] at HROW
  have hfz := hid (show ∀ W (nm : Nat → ByteArray), RowZ 95 12 W lb m (fun i => secV s (p + 64 * (i + 1)) (nm i)) → W.cell? ⟨lb, r * 12 + 11, none⟩ = some (.string D) from by rw [← hm]; exact hdc.out)
  clear hm hdc
  go_loopw [19] (fun vk wr => ∃ k : Nat, k ≤ m ∧ vk = .int .i64 k ∧ Keeps (· = lb) w2 wr ∧ RowZ 95 12 wr lb m (fun i => secV s (p + 64 * (i + 1)) (if i < k then namT D (n4 s (p + 64 * (i + 1))) else ⟨#[]⟩)) ∧ Hid (∀ i, i < k → namK D (n4 s (p + 64 * (i + 1))) = true)) (fun vk _ => m - (intOf vk).toNat)
  case atStart => exact ⟨0, by omega, rfl, Keeps.refl _ _, HROW.out.congr (fun i hi => by rw [if_neg (by omega)]), hid (fun i hi => by omega)⟩
  case round =>
    rename World => wr
    obtain ⟨k, hk, rfl, hke, hrw, HKS⟩ := hrel
    have HKE := hid hke
    have HRW := hid hrw
    by_cases hlt : k < m
    · have c0 : (k : Int) < m := by omega
      have HLT := hid hlt
      have HV := hid (show wrap64 ((k : Int) + 1) = ((k + 1 : Nat) : Int) by have h1 := hlt; have h2 := HM9.out; unfold wrap64; omega)
      have HRG := hid (show wr.rangeAt lb (k * 12) [.string ⟨#[]⟩, .int .i64 (n4 s (p + 64 * (k + 1) + 4)), .int .u64 (n8 s (p + 64 * (k + 1) + 8)), .int .u64 (n8 s (p + 64 * (k + 1) + 16)), .string ⟨#[]⟩, .int .i64 (secZ s (p + 64 * (k + 1))), .int .i64 (n4 s (p + 64 * (k + 1) + 40)), .int .i64 (n4 s (p + 64 * (k + 1) + 44)), .int .u64 (n8 s (p + 64 * (k + 1) + 48)), .int .u64 (n8 s (p + 64 * (k + 1) + 56)), .int .i64 (n4 s (p + 64 * (k + 1))), .string (secD s (p + 64 * (k + 1)))] from by
        have := hrw.range hlt
        simp only [Nat.lt_irrefl, if_false] at this
        exact this)
      have HX := hid (Has.new wr 95 zSec)
      have HXS := hid (HX.out.set [.string ⟨#[]⟩, .int .i64 (n4 s (p + 64 * (k + 1) + 4)), .int .u64 (n8 s (p + 64 * (k + 1) + 8)), .int .u64 (n8 s (p + 64 * (k + 1) + 16)), .string ⟨#[]⟩, .int .i64 (secZ s (p + 64 * (k + 1))), .int .i64 (n4 s (p + 64 * (k + 1) + 40)), .int .i64 (n4 s (p + 64 * (k + 1) + 44)), .int .u64 (n8 s (p + 64 * (k + 1) + 48)), .int .u64 (n8 s (p + 64 * (k + 1) + 56)), .int .i64 (n4 s (p + 64 * (k + 1))), .string (secD s (p + 64 * (k + 1)))] rfl)
      have HBS := hid (show Bw wr _ from ((Bw.refl wr).alloc (.cells zSec 95)).set (Nat.le_refl _) [.string ⟨#[]⟩, .int .i64 (n4 s (p + 64 * (k + 1) + 4)), .int .u64 (n8 s (p + 64 * (k + 1) + 8)), .int .u64 (n8 s (p + 64 * (k + 1) + 16)), .string ⟨#[]⟩, .int .i64 (secZ s (p + 64 * (k + 1))), .int .i64 (n4 s (p + 64 * (k + 1) + 40)), .int .i64 (n4 s (p + 64 * (k + 1) + 44)), .int .u64 (n8 s (p + 64 * (k + 1) + 48)), .int .u64 (n8 s (p + 64 * (k + 1) + 56)), .int .i64 (n4 s (p + 64 * (k + 1))), .string (secD s (p + 64 * (k + 1)))])
      obtain ⟨xb, hxb⟩ : ∃ xb, wr.heap.size = xb := ⟨_, rfl⟩
      have HXB := hid (show lb < xb by rw [← hxb]; exact hrw.lt)
      rw [hxb] at HX HXS HBS
      clear hke hrw
      go_upto_region 5 with fail
      refine wp_region_list ?_
      refine wpList_plain rfl fun K hK => ?_
      go_simp
      refine hK _ _ ?_
      clear hK K
      refine wpList_plain rfl fun K hK => ?_
      go_simp
      refine hK _ _ ?_
      clear hK K
      refine wpList_load_mid rfl 95 (.tmp 22) rfl lb (k * 12) rfl [.string ⟨#[]⟩, .int .i64 (n4 s (p + 64 * (k + 1) + 4)), .int .u64 (n8 s (p + 64 * (k + 1) + 8)), .int .u64 (n8 s (p + 64 * (k + 1) + 16)), .string ⟨#[]⟩, .int .i64 (secZ s (p + 64 * (k + 1))), .int .i64 (n4 s (p + 64 * (k + 1) + 40)), .int .i64 (n4 s (p + 64 * (k + 1) + 44)), .int .u64 (n8 s (p + 64 * (k + 1) + 48)), .int .u64 (n8 s (p + 64 * (k + 1) + 56)), .int .i64 (n4 s (p + 64 * (k + 1))), .string (secD s (p + 64 * (k + 1)))] _ HRG.out Try.underlying95 rfl inf_section ?_
      refine wpList_plain rfl fun K hK => ?_
      go_simp
      refine hK _ _ ?_
      clear hK K
      refine wpList_plain rfl fun K hK => ?_
      go_simp
      refine hK _ _ ?_
      clear hK K
      refine wpList_store_mid rfl 95 (.tmp 5) (.tmp 23) rfl xb 0 #[.string ⟨#[]⟩, .int .i64 (n4 s (p + 64 * (k + 1) + 4)), .int .u64 (n8 s (p + 64 * (k + 1) + 8)), .int .u64 (n8 s (p + 64 * (k + 1) + 16)), .string ⟨#[]⟩, .int .i64 (secZ s (p + 64 * (k + 1))), .int .i64 (n4 s (p + 64 * (k + 1) + 40)), .int .i64 (n4 s (p + 64 * (k + 1) + 44)), .int .u64 (n8 s (p + 64 * (k + 1) + 48)), .int .u64 (n8 s (p + 64 * (k + 1) + 56)), .int .i64 (n4 s (p + 64 * (k + 1))), .string (secD s (p + 64 * (k + 1)))] rfl rfl (HX.out.there 12 (Nat.le_refl _)) inf_section (by simp only [List.all_toArray, List.all_cons, List.all_nil]; rfl) ?_
      change wpList _ _ _ _ _ ((wr.alloc (.cells zSec 95)).setCells xb 0 [.string ⟨#[]⟩, .int .i64 (n4 s (p + 64 * (k + 1) + 4)), .int .u64 (n8 s (p + 64 * (k + 1) + 8)), .int .u64 (n8 s (p + 64 * (k + 1) + 16)), .string ⟨#[]⟩, .int .i64 (secZ s (p + 64 * (k + 1))), .int .i64 (n4 s (p + 64 * (k + 1) + 40)), .int .i64 (n4 s (p + 64 * (k + 1) + 44)), .int .u64 (n8 s (p + 64 * (k + 1) + 48)), .int .u64 (n8 s (p + 64 * (k + 1) + 56)), .int .i64 (n4 s (p + 64 * (k + 1))), .string (secD s (p + 64 * (k + 1)))])
      generalize (wr.alloc (.cells zSec 95)).setCells xb 0 [.string ⟨#[]⟩, .int .i64 (n4 s (p + 64 * (k + 1) + 4)), .int .u64 (n8 s (p + 64 * (k + 1) + 8)), .int .u64 (n8 s (p + 64 * (k + 1) + 16)), .string ⟨#[]⟩, .int .i64 (secZ s (p + 64 * (k + 1))), .int .i64 (n4 s (p + 64 * (k + 1) + 40)), .int .i64 (n4 s (p + 64 * (k + 1) + 44)), .int .u64 (n8 s (p + 64 * (k + 1) + 48)), .int .u64 (n8 s (p + 64 * (k + 1) + 56)), .int .i64 (n4 s (p + 64 * (k + 1))), .string (secD s (p + 64 * (k + 1)))] = w3 at *
      simp only [Act.put, List.setIfInBounds_toArray, List.set_cons_zero, List.set_cons_succ]
      have HK3 := hid (HKE.out.trans (.of_bw HBS.out))
      have HW3 := hid (HRW.out.bw HBS.out)
      clear HX hxb HRG HBS
      obtain ⟨x, hx⟩ : ∃ x, n4 s (p + 64 * (k + 1)) = x := ⟨_, rfl⟩
      have HNK := hid (HNA.out k)
      have HX0 := hid hx
      rw [hx] at HXS HNK
      clear hx
      have HLR := hid (show r < m ∧ m = r + 1 from ⟨by rw [← HM.out]; omega, HM.out.symm⟩)
      have HS1 := hid (fun W (hW : Bw w3 W) => (show W.cell? ⟨lb, r * 12 + 11, none⟩ = some (.string D) ∧ W.cell? ⟨xb, 10, none⟩ = some (.int .i64 x) from ⟨hfz.out W _ (HW3.out.bw hW), (hW.has HXS.out).cell 10⟩))
      have HZ0 := hid (fun W (hW : Bw w3 W) => (show W.cell? ⟨lb, k * 12, none⟩ = some (.string ⟨#[]⟩) from by
        have := (HW3.out.bw hW).cell (i := k) (j := 0) HLT.out (by omega)
        simpa [secV] using this))
      have HZF := hid (fun W (hW : Bw w3 W) => (HW3.out.bw hW).frozen (k * 12))
      have HBD := hid (show Bw w3 w3.drew from (Bw.refl w3).drewN 1)
      have c1 : w3.drew.cell? ⟨lb, r * 12 + 11, none⟩ = some (.string D) := (HS1.out _ HBD.out).1
      have c2 : w3.drew.cell? ⟨xb, 10, none⟩ = some (.int .i64 x) := (HS1.out _ HBD.out).2
      cases hnk : namK D x with
      | false =>
        have HBQ := hid (fun w' (hb : Bw w3 w') => HBAD.out (pan 3) w' (HK3.out.trans (.of_bw hb)) (fun h => by
          have := h.2.1 k HLT.out
          rw [HX0.out, hnk] at this
          cases this) rfl)
        go_upto_region 6 with fail
        go_region_dies
        all_goals
          refine (HNK.out _).mono ?_
          rintro e w4 ⟨hb4, hx⟩
          rcases hx with ⟨h, -⟩ | ⟨-, rfl⟩
          · rw [hnk] at h; cases h
          · exact ⟨rfl, HBQ.out _ (HBD.out.trans hb4)⟩
      | true =>
        have HNG := hid (fun W => (HNK.out W).mono (R' := fun e w' => e = .returned (.string (namT D x)) ∧ Bw W w') (fun e w' h => by
          obtain ⟨h1, h2⟩ := h
          rcases h2 with ⟨_, h2⟩ | ⟨h2, _⟩
          · exact ⟨h2, h1⟩
          · rw [hnk] at h2; cases h2))
        have HKS2 := hid (show ∀ i, i < k + 1 → namK D (n4 s (p + 64 * (i + 1))) = true from fun i hi => by
          by_cases e : i = k
          · rw [e, HX0.out]; exact hnk
          · exact HKS.out i (by omega))
        have HFAR := hid (fun W nm (hW : Bw w3 W) => (show (W.setCell ⟨lb, k * 12, none⟩ nm).cell? ⟨lb, r * 12 + 11, none⟩ = some (.string D) ∧ (W.setCell ⟨lb, k * 12, none⟩ nm).cell? ⟨xb, 10, none⟩ = some (.int .i64 x) from by
          refine ⟨?_, ?_⟩
          · exact (World.cell?_setCell_other W _ _ _ (show (⟨lb, k * 12, none⟩ : Addr) ≠ ⟨lb, r * 12 + 11, none⟩ from fun e => by injection e with _ e; omega)).trans (HS1.out W hW).1
          · exact ((hW.has HXS.out).far (p := ⟨lb, k * 12, none⟩) (show xb ≠ lb by have := HXB.out; omega) nm).cell 10))
        clear hnk
        go_upto_region 6 with fail
        obtain ⟨nm, hnm⟩ : ∃ nm, namT D x = nm := ⟨_, rfl⟩
        have HNM := hid hnm
        rw [hnm] at HNG
        clear hnm c1 c2
        go_region_held3 (fun W => W.cell? ⟨lb, r * 12 + 11, none⟩ = some (.string D) ∧ W.cell? ⟨xb, 10, none⟩ = some (.int .i64 x))
          (first | exact HS1.out _ HBD.out | exact HS1.out _ HB4.out | exact HFAR.out _ _ HB4.out)
          (first | (go_at_call 78; refine (HNG.out w3.drew).mono ?_; rintro e w4 ⟨rfl, hb4⟩; have HB4 := hid (HBD.out.trans hb4); have z0 := HZ0.out _ HB4.out; have zf := HZF.out _ HB4.out; clear hb4))
        have HW5 := hid (show RowZ 95 12 (w4.setCell ⟨lb, k * 12, none⟩ (.string nm)) lb m _ from (HW3.out.bw HB4.out).put (i := k) (j := 0) HLT.out (by omega) (.string nm))
        have HK5 := hid (show Keeps (· = lb) w2 (w4.setCell ⟨lb, k * 12, none⟩ (.string nm)) from (HK3.out.trans (.of_bw HB4.out)).setCell (p := ⟨lb, k * 12, none⟩) (.inl rfl) (.string nm))
        generalize World.setCell w4 _ _ = w5 at *
        clear z0 zf
        go_wp2
        exact ⟨⟨k + 1, HLT.out, by rw [HV.out], HK5.out, HW5.out.congr (fun i hi => by
          by_cases e : i = k
          · subst e
            refine Eq.trans (if_pos rfl) ?_
            simp only [Nat.lt_irrefl, if_false, Nat.lt_succ_self, if_true, HX0.out, HNM.out]
            rfl
          · refine Eq.trans (if_neg e) ?_
            by_cases h : i < k
            · rw [if_pos h, if_pos (by omega)]
            · rw [if_neg h, if_neg (by omega)]), HKS2.out⟩, by have h1 := HLT.out; rw [HV.out]; simp only [intOf, Int.toNat_natCast]; omega⟩
    · obtain rfl : k = m := by omega
      have c0 : ¬ (k : Int) < k := by omega
      have HLR := hid (show r < k ∧ k = r + 1 from ⟨by rw [← HM.out]; omega, HM.out.symm⟩)
      have HRF := hid (show RowZ 95 12 wr lb k (fun i => secV s (p + 64 * (i + 1)) (namT D (n4 s (p + 64 * (i + 1))))) from hrw.congr (fun i hi => by rw [if_pos hi]))
      have z0 : wr.cell? ⟨lb, r * 12, none⟩ = some (.string (namT D (n4 s (p + 64 * k)))) := by
        have := HRF.out.cell (i := r) (j := 0) HLR.out.1 (by omega)
        rw [← HM.out]
        simpa [secV] using this
      clear hke hrw
      obtain ⟨nm, hnm⟩ : ∃ nm, namT D (n4 s (p + 64 * k)) = nm := ⟨_, rfl⟩
      have HNM := hid hnm
      rw [hnm] at z0
      have hrk := HLR.out.1
      clear hnm
      have hcap : r ≤ k := by omega
      by_cases hown : nm = ownT
      · have HOK := hid (show NmOk s p k D from ⟨H3.out, HKS.out, by rw [HNM.out]; exact hown⟩)
        have t0 : (nm.toList == [46, 115, 104, 115, 116, 114, 116, 97, 98]) = true := str_is hown
        clear hown
        go_wp2_with fail
        refine (demand_ok 3 _).mono ?_
        rintro e w3 ⟨rfl, rfl⟩
        go_wp2
        go_returns
        exact HGOOD.out _ _ HKE.out HOK.out (by have := HLR.out.2; rw [this]; rfl) HRF.out
      · have t0 : (nm.toList == [46, 115, 104, 115, 116, 114, 116, 97, 98]) = false := str_nl hown
        have HNO := hid (show ¬ NmOk s p k D from fun h => hown (by rw [← HNM.out]; exact h.2.2))
        clear hown
        go_wp2_with fail
        refine (demand_bad 3 _).mono ?_
        rintro e w3 ⟨rfl, rfl⟩
        exact ⟨rfl, HBAD.out _ _ HKE.out HNO.out rfl⟩
end Go.Proofs.Ytciaebhkemdilaa
