/- All sections that a file holds, with their names' places (contract of the function). -/
import Derived.Test.YtciaebhkemdilaaElfYa
namespace Go.Proofs.Ytciaebhkemdilaa
open Go.RowKit Go.Conc
set_option linter.unusedVariables false
set_option linter.unusedSimpArgs false
def nulS : SecR := ⟨⟨#[]⟩, 0, 0, 0, ⟨#[]⟩, 0, 0, 0, 0, 0⟩
def shS (d : ByteArray) : SecR := ⟨⟨#[46, 115, 104, 115, 116, 114, 116, 97, 98]⟩, 3, 0, 0, d, 0, 0, 0, 1, 0⟩
def allL (l : List SecR) (d : ByteArray) : List SecR := nulS :: (l ++ [shS d])
def namesT (l : List SecR) : ByteArray := nmsT (allL l ⟨#[]⟩)
def allP (l : List SecR) : List (SecR × Nat) := allG (allL l (namesT l)) 0
theorem plc_len (l : List (SecR × Nat)) : (plcCells l).length = l.length * 12 := by
  induction l with
  | nil => rfl
  | cons x r ih =>
    have h : plcCells (x :: r) = plcCell x ++ plcCells r := by simp [plcCells]
    rw [h, List.length_append, ih, List.length_cons, Nat.succ_mul]
    simp [plcCell]
    omega
theorem own_set {w : World} {B g z n cp i : Nat} {t : TypeId} {xs : List Value} (h : w.ownsRow B t z (.slice (some ⟨g, 0, none⟩) n cp) n xs) (v : Value) : (w.setCell ⟨g, i, none⟩ v).ownsRow B t z (.slice (some ⟨g, 0, none⟩) n cp) n (xs.set i v) := by
  refine ⟨by rw [List.length_set]; exact h.1, ?_⟩
  rcases h.2 with ⟨h1, _⟩ | ⟨g', cap, cur, h1, h2, h3, h4, h5, h6, h7⟩
  · simp at h1
  · injection h1 with h8 _ h9
    injection h8 with h8
    injection h8 with h8
    subst h8
    subst h9
    refine .inr ⟨g, cp, cur.setIfInBounds i v, rfl, h2, Has.put (show Has w g t cur from h3) i v, h4, h5, by simpa using h6, ?_⟩
    rw [Array.toList_setIfInBounds, List.take_set, h7]
theorem own_there {w : World} {B g z n cp i : Nat} {t : TypeId} {xs : List Value} (h : w.ownsRow B t z (.slice (some ⟨g, 0, none⟩) n cp) n xs) (hi : i < n * z) : (∃ v, w.cell? ⟨g, i, none⟩ = some v) ∧ w.frozen? ⟨g, i, none⟩ = false := by
  rcases h.2 with ⟨h1, _⟩ | ⟨g', cap, cur, h1, h2, h3, h4, h5, h6, h7⟩
  · simp at h1
  · injection h1 with h8 _ h9
    injection h8 with h8
    injection h8 with h8
    subst h8
    have k : Has w g t cur := h3
    refine ⟨⟨cur[i]'(by rw [h6]; exact Nat.lt_of_lt_of_le hi (Nat.mul_le_mul_right z h4)), ?_⟩, k.frozen i⟩
    rw [k.cell i, Array.getElem?_eq_getElem]
theorem secAt_has {w : World} {g : Nat} {x : SecR} (h : Has w g 43 #[.string x.nam, .int .i64 x.typ, .int .u64 x.flg, .int .u64 x.adr, .string x.dat, .int .i64 x.siz, .int .i64 x.lnk, .int .i64 x.inf, .int .u64 x.aln, .int .u64 x.eac]) (hx : x.Ok) : SecAt w (some ⟨g, 0, none⟩) [x] := fun i hi => by
  obtain rfl : i = 0 := by simp at hi; exact hi
  exact ⟨g, 0, rfl, h.lt, h.cell 0, h.cell 1, h.cell 2, h.cell 3, h.cell 4, h.cell 5, h.cell 6, h.cell 7, h.cell 8, h.cell 9, hx⟩
theorem nul_ok : nulS.Ok := by unfold SecR.Ok nulS; decide
theorem sh_ok : (shS ⟨#[]⟩).Ok := by unfold SecR.Ok shS; decide
theorem allP_eq (l : List SecR) : plcCells (allP l) = (plcCells (([] ++ allG [nulS] 0) ++ allG l (⟨#[]⟩ ++ nmsT [nulS] : ByteArray).size ++ allG [shS ⟨#[]⟩] ((⟨#[]⟩ ++ nmsT [nulS] : ByteArray) ++ nmsT l).size)).set ((l.length + 1) * 12 + 4) (.string (namesT l)) := by
  have h1 : allP l = ([] ++ allG [nulS] 0) ++ allG l (⟨#[]⟩ ++ nmsT [nulS] : ByteArray).size ++ allG [shS (namesT l)] ((⟨#[]⟩ ++ nmsT [nulS] : ByteArray) ++ nmsT l).size := by
    unfold allP allL
    rw [show nulS :: (l ++ [shS (namesT l)]) = [nulS] ++ l ++ [shS (namesT l)] by simp, allG_app, allG_app, nmsT_app, nil_app, List.nil_append, Nat.zero_add, Nat.zero_add]
  have h2 : (plcCells (([] ++ allG [nulS] 0) ++ allG l (⟨#[]⟩ ++ nmsT [nulS] : ByteArray).size)).length = (l.length + 1) * 12 := by
    rw [plc_len, List.length_append, allG_len, List.nil_append, allG_len]
    simp only [List.length_cons, List.length_nil]
    omega
  rw [h1, plcCells_app, plcCells_app _ (allG [shS ⟨#[]⟩] _), List.set_append_right _ _ (by rw [h2]; omega), h2, Nat.add_sub_cancel_left]
  rfl
theorem names_eq (l : List SecR) : namesT l = (⟨#[]⟩ ++ nmsT [nulS] : ByteArray) ++ nmsT l ++ nmsT [shS ⟨#[]⟩] := by
  unfold namesT allL
  rw [show nulS :: (l ++ [shS ⟨#[]⟩]) = [nulS] ++ l ++ [shS ⟨#[]⟩] by simp, nmsT_app, nmsT_app, nil_app]
set_option maxRecDepth 100000 in
set_option maxHeartbeats 8000000 in
theorem all_any (l : List SecR) (A : Option Addr) (len cap : Nat) (hll : l.length = len) (hl : len ≤ 1500) (hz : (nmsT l).size ≤ 900000000) (w : World) (hst : SecAt w A l) :
    Calls Try.prog 28 #[.slice A len cap] w fun e w' => Bw w w' ∧ ∃ g cp, e = .returned (.slice (some ⟨g, 0, none⟩) (len + 2 : Nat) cp) ∧ w'.ownsRow w.heap.size 74 12 (.slice (some ⟨g, 0, none⟩) (len + 2) cp) (len + 2) (plcCells (allP l)) := by
  have HST := hid hst
  have HLN := hid hll
  clear hst hll
  obtain ⟨B, hB⟩ : ∃ B, w.heap.size = B := ⟨_, rfl⟩
  have HBB := hid hB
  have HBD := hid (Bld.fresh w B (by omega))
  have HB1 := hid ((Bw.refl w).alloc (.cells #[.pointer none, .slice none 0 0] 67))
  have HP := hid (Has.new (w.alloc (.cells #[.pointer none, .slice none 0 0] 67)) 62 #[.slice none 0 0])
  have HB2 := hid (HB1.out.alloc (.cells #[.slice none 0 0] 62))
  have HBD2 := hid (HBD.out.bw ((Bw.refl _).alloc (.cells #[.slice none 0 0] 62)))
  rw [World.size_alloc, hB] at HP
  rw [hB] at HBD2 ⊢
  have HS2 := hid (show AllS B (B + 1) B [] ⟨#[]⟩ _ from ⟨by omega, ⟨none, 0, HP.out, World.ownsRow_nil _ _ _ _⟩, false, HBD2.out⟩)
  have HK2 := hid (AK.of_bw HB2.out (show B ≤ w.heap.size by omega))
  clear HBD HB1 HP HB2 HBD2
  go_enter Try.func28, Try.ntmps28
  go_upto_region 4 with fail
  generalize (w.alloc (.cells #[.pointer none, .slice none 0 0] 67)).alloc _ = w2 at *
  clear hB
  have HX3 := hid (Has.new w2 43 #[.string nulS.nam, .int .i64 nulS.typ, .int .u64 nulS.flg, .int .u64 nulS.adr, .string nulS.dat, .int .i64 nulS.siz, .int .i64 nulS.lnk, .int .i64 nulS.inf, .int .u64 nulS.aln, .int .u64 nulS.eac])
  have HS3 := hid (HS2.out.bw ((Bw.refl w2).alloc (.cells #[.string nulS.nam, .int .i64 nulS.typ, .int .u64 nulS.flg, .int .u64 nulS.adr, .string nulS.dat, .int .i64 nulS.siz, .int .i64 nulS.lnk, .int .i64 nulS.inf, .int .u64 nulS.aln, .int .u64 nulS.eac] 43)))
  have HK3 := hid (HK2.out.trans (AK.of_bw ((Bw.refl w2).alloc (.cells #[.string nulS.nam, .int .i64 nulS.typ, .int .u64 nulS.flg, .int .u64 nulS.adr, .string nulS.dat, .int .i64 nulS.siz, .int .i64 nulS.lnk, .int .i64 nulS.inf, .int .u64 nulS.aln, .int .u64 nulS.eac] 43)) (Nat.le_trans (Nat.le_of_eq HBB.out.symm) HK2.out.sz)))
  obtain ⟨xb, hxb⟩ : ∃ xb, w2.heap.size = xb := ⟨_, rfl⟩
  rw [hxb] at HX3
  go_wp2_with fail
  change Calls _ _ _ (w2.alloc (.cells #[.string nulS.nam, .int .i64 nulS.typ, .int .u64 nulS.flg, .int .u64 nulS.adr, .string nulS.dat, .int .i64 nulS.siz, .int .i64 nulS.lnk, .int .i64 nulS.inf, .int .u64 nulS.aln, .int .u64 nulS.eac] 43)) _
  generalize w2.alloc (.cells #[.string nulS.nam, .int .i64 nulS.typ, .int .u64 nulS.flg, .int .u64 nulS.adr, .string nulS.dat, .int .i64 nulS.siz, .int .i64 nulS.lnk, .int .i64 nulS.inf, .int .u64 nulS.aln, .int .u64 nulS.eac] 43) = w3 at *
  refine (mAny B (B + 1) B [nulS] [] ⟨#[]⟩ (some ⟨xb, 0, none⟩) 1 1 rfl (by omega) (by decide) (by decide) w3 (fun W hk => secAt_has (hk.has HX3.out (by decide)) nul_ok) HS3.out (Nat.le_trans (Nat.le_of_eq HBB.out.symm) HK3.out.sz)).mono ?_
  rintro e w4 ⟨rfl, h4, hk4⟩
  have HS4 := hid h4
  have HK4 := hid (HK3.out.trans hk4)
  clear h4 hk4 HX3 HS3 HK3 HS2 HK2 hxb
  go_wp2_with fail
  have HZ4 := hid (show ((⟨#[]⟩ : ByteArray) ++ nmsT [nulS]).size = 1 from by rw [nil_app]; rfl)
  have HL4 := hid (show ([] ++ allG [nulS] (⟨#[]⟩ : ByteArray).size).length = 1 from rfl)
  have z4 := HZ4.out
  have l4 := HL4.out
  refine (mAny B (B + 1) B l _ _ A len cap HLN.out (by omega) (by omega) (by omega) w4 (fun W hk => HST.out.below (by rw [HBB.out]; exact (HK4.out.trans hk).bel)) HS4.out (Nat.le_trans (Nat.le_of_eq HBB.out.symm) HK4.out.sz)).mono ?_
  rintro e w5 ⟨rfl, h5, hk5⟩
  have HS5 := hid h5
  have HK5 := hid (HK4.out.trans hk5)
  clear h5 hk5 HS4 HK4 HST z4 l4
  obtain ⟨L5, hL5⟩ : ∃ L5, [] ++ allG [nulS] (⟨#[]⟩ : ByteArray).size ++ allG l ((⟨#[]⟩ : ByteArray) ++ nmsT [nulS]).size = L5 := ⟨_, rfl⟩
  obtain ⟨s5, hs5⟩ : ∃ s5, (⟨#[]⟩ : ByteArray) ++ nmsT [nulS] ++ nmsT l = s5 := ⟨_, rfl⟩
  have HLQ := hid (show L5.length = len + 1 from by rw [← hL5, List.length_append, HL4.out, allG_len, HLN.out]; omega)
  have HSQ := hid (show s5.size ≤ 900000001 from by rw [← hs5, ByteArray.size_append, HZ4.out]; omega)
  have HPE := hid (show plcCells (allP l) = (plcCells (L5 ++ allG [shS ⟨#[]⟩] s5.size)).set ((len + 1) * 12 + 4) (.string (namesT l)) from by rw [allP_eq l, ← hL5, ← hs5, HLN.out]; rfl)
  have HNE := hid (show namesT l = s5 ++ nmsT [shS ⟨#[]⟩] from by rw [names_eq, hs5])
  rw [hL5, hs5] at HS5
  clear hL5 hs5 HZ4 HL4
  have HX6 := hid (Has.new w5 43 #[.string (shS ⟨#[]⟩).nam, .int .i64 (shS ⟨#[]⟩).typ, .int .u64 (shS ⟨#[]⟩).flg, .int .u64 (shS ⟨#[]⟩).adr, .string (shS ⟨#[]⟩).dat, .int .i64 (shS ⟨#[]⟩).siz, .int .i64 (shS ⟨#[]⟩).lnk, .int .i64 (shS ⟨#[]⟩).inf, .int .u64 (shS ⟨#[]⟩).aln, .int .u64 (shS ⟨#[]⟩).eac])
  have HS6 := hid (HS5.out.bw ((Bw.refl w5).alloc (.cells #[.string (shS ⟨#[]⟩).nam, .int .i64 (shS ⟨#[]⟩).typ, .int .u64 (shS ⟨#[]⟩).flg, .int .u64 (shS ⟨#[]⟩).adr, .string (shS ⟨#[]⟩).dat, .int .i64 (shS ⟨#[]⟩).siz, .int .i64 (shS ⟨#[]⟩).lnk, .int .i64 (shS ⟨#[]⟩).inf, .int .u64 (shS ⟨#[]⟩).aln, .int .u64 (shS ⟨#[]⟩).eac] 43)))
  have HK6 := hid (HK5.out.trans (AK.of_bw ((Bw.refl w5).alloc (.cells #[.string (shS ⟨#[]⟩).nam, .int .i64 (shS ⟨#[]⟩).typ, .int .u64 (shS ⟨#[]⟩).flg, .int .u64 (shS ⟨#[]⟩).adr, .string (shS ⟨#[]⟩).dat, .int .i64 (shS ⟨#[]⟩).siz, .int .i64 (shS ⟨#[]⟩).lnk, .int .i64 (shS ⟨#[]⟩).inf, .int .u64 (shS ⟨#[]⟩).aln, .int .u64 (shS ⟨#[]⟩).eac] 43)) (Nat.le_trans (Nat.le_of_eq HBB.out.symm) HK5.out.sz)))
  obtain ⟨xb, hxb⟩ : ∃ xb, w5.heap.size = xb := ⟨_, rfl⟩
  rw [hxb] at HX6
  go_wp2_with fail
  change Calls _ _ _ (w5.alloc (.cells #[.string (shS ⟨#[]⟩).nam, .int .i64 (shS ⟨#[]⟩).typ, .int .u64 (shS ⟨#[]⟩).flg, .int .u64 (shS ⟨#[]⟩).adr, .string (shS ⟨#[]⟩).dat, .int .i64 (shS ⟨#[]⟩).siz, .int .i64 (shS ⟨#[]⟩).lnk, .int .i64 (shS ⟨#[]⟩).inf, .int .u64 (shS ⟨#[]⟩).aln, .int .u64 (shS ⟨#[]⟩).eac] 43)) _
  generalize w5.alloc (.cells #[.string (shS ⟨#[]⟩).nam, .int .i64 (shS ⟨#[]⟩).typ, .int .u64 (shS ⟨#[]⟩).flg, .int .u64 (shS ⟨#[]⟩).adr, .string (shS ⟨#[]⟩).dat, .int .i64 (shS ⟨#[]⟩).siz, .int .i64 (shS ⟨#[]⟩).lnk, .int .i64 (shS ⟨#[]⟩).inf, .int .u64 (shS ⟨#[]⟩).aln, .int .u64 (shS ⟨#[]⟩).eac] 43) = w6 at *
  refine (mAny B (B + 1) B [shS ⟨#[]⟩] L5 s5 (some ⟨xb, 0, none⟩) 1 1 rfl (by omega) (by have := HSQ.out; have h : (nmsT [shS ⟨#[]⟩]).size = 10 := rfl; omega) (by have := HLQ.out; omega) w6 (fun W hk => secAt_has (hk.has HX6.out (by decide)) sh_ok) HS6.out (Nat.le_trans (Nat.le_of_eq HBB.out.symm) HK6.out.sz)).mono ?_
  rintro e w7 ⟨rfl, h7, hk7⟩
  have HS7 := hid h7
  have HK7 := hid (HK6.out.trans hk7)
  rw [← HNE.out] at HS7
  clear h7 hk7 HX6 HS6 HK6 HS5 HK5 hxb HNE HSQ
  have HLR := hid (show (L5 ++ allG [shS ⟨#[]⟩] s5.size).length = len + 2 from by rw [List.length_append, HLQ.out]; rfl)
  obtain ⟨L7, hL7⟩ : ∃ L7, L5 ++ allG [shS ⟨#[]⟩] s5.size = L7 := ⟨_, rfl⟩
  rw [hL7] at HS7 HLR HPE
  clear hL7 HLQ
  obtain ⟨N, hN⟩ : ∃ N, namesT l = N := ⟨_, rfl⟩
  rw [hN] at HS7 HPE
  clear hN
  have HSD := hid (HS7.out.bw ((Bw.refl w7).drewN 1))
  have HKD := hid (HK7.out.trans (AK.of_bw ((Bw.refl w7).drewN 1) (Nat.le_trans (Nat.le_of_eq HBB.out.symm) HK7.out.sz)))
  obtain ⟨-, ⟨po, cp, hrow, hown⟩, u, hbl⟩ := HSD.out
  rw [HLR.out] at hrow hown
  obtain ⟨g, cp', hg⟩ := own_some hown (by omega)
  injection hg with hg1 hg2 hg3
  subst hg1
  subst hg3
  have HROW := hid hrow
  have HOWN := hid hown
  have HBL := hid hbl
  have HWD := hid (Nat.le_trans (Nat.le_of_eq HBB.out.symm) HKD.out.sz)
  have HSTR := hid (string_any B B u N w7.drew HWD.out hbl)
  clear hrow hown hbl hg2 HS7 HSD
  have y0 : w7.cell? ⟨B + 1, 0, none⟩ = some (.slice (some ⟨g, 0, none⟩) (len + 2) cp) := HROW.out.cell 0
  obtain ⟨cb, hcb⟩ := bld_has HBL.out
  have HCB := hid hcb
  clear hcb
  obtain ⟨m, hm⟩ : ∃ m, len + 1 = m := ⟨_, rfl⟩
  have v1 : IntKind.i64.wrap ((len : Int) + 2 - 1) = (m : Int) := (IntWalk.i64_in _ (by omega)).trans (by omega)
  have c1 : (m : Int) < (len : Int) + 2 := by omega
  rw [hm] at HPE
  have HM := hid (show m * 12 + 4 < (len + 2) * 12 by omega)
  clear hm
  go_upto_region 7 with fail
  go_region_law (go_simp; go_at_call 35; refine HSTR.out.mono ?_; rintro e w8 ⟨rfl, hk8⟩; have HK8 := hid hk8; have HROW8 := hid (hk8.hasB HROW.out HCB.out (by decide) (by decide)); have HOWN8 := hid (rowBk HOWN.out hk8 HCB.out (by decide) (by decide)); have y8 : w8.cell? ⟨B + 1, 0, none⟩ = some (.slice (some ⟨g, 0, none⟩) (len + 2) cp) := HROW8.out.cell 0; obtain ⟨⟨vz, z8⟩, z9⟩ := own_there HOWN8.out HM.out; clear hk8)
  all_goals
    have HO9 := hid (own_set HOWN8.out (i := m * 12 + 4) (.string N))
    have HROW9 := hid (Has.far HROW8.out (p := ⟨g, m * 12 + 4, none⟩) (show B + 1 ≠ g from fun e => own_ne_has HOWN8.out HROW8.out (by decide) (by rw [e]; rfl)) (.string N))
    have HB9 := hid (Below.setCell (HKD.out.trans (AK.of_bk HK8.out HCB.out)).bel (p := ⟨g, m * 12 + 4, none⟩) (own_ge HOWN8.out rfl) (.string N))
    clear y0 y8 z8 z9 HOWN8 HROW8 HK8 HOWN HROW HBL
    generalize World.setCell w8 _ _ = w9 at *
    have y9 : w9.cell? ⟨B + 1, 0, none⟩ = some (.slice (some ⟨g, 0, none⟩) (len + 2) cp) := HROW9.out.cell 0
    go_wp2
    go_returns
    refine ⟨?_, g, cp, rfl, by rw [HPE.out]; exact HO9.out⟩
    show Below w.heap.size w _
    rw [HBB.out]
    exact HB9.out
end Go.Proofs.Ytciaebhkemdilaa
