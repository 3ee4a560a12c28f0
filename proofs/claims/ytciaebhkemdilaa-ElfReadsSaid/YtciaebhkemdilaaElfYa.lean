/- Sections put behind one another (contract of the closure). -/
import Derived.Test.YtciaebhkemdilaaElfY
namespace Go.Proofs.Ytciaebhkemdilaa
open Go.RowKit Go.Conc
set_option linter.unusedVariables false
set_option linter.unusedSimpArgs false
theorem nmsT_take {l : List SecR} {k : Nat} (hk : k < l.length) : nmsT (l.take (k + 1)) = nmsT (l.take k) ++ l[k].nam ++ ⟨#[0]⟩ := by
  rw [List.take_succ_eq_append_getElem hk, nmsT_app, nmsT, nmsT, app_nil, app_as]
theorem allG_take {l : List SecR} {k : Nat} (hk : k < l.length) (p : Nat) : allG (l.take (k + 1)) p = allG (l.take k) p ++ [(l[k], p + (nmsT (l.take k)).size)] := by
  rw [List.take_succ_eq_append_getElem hk, allG_app, allG, allG]
theorem nmsT_le (l : List SecR) (k : Nat) : (nmsT (l.take k)).size ≤ (nmsT l).size := by
  have h := nmsT_app (l.take k) (l.drop k)
  rw [List.take_append_drop] at h
  rw [h, ByteArray.size_append]
  omega
theorem Bld.bw {B b : Nat} {u : Bool} {s : ByteArray} {w w' : World} (h : Bld B b u s w) (hb : Bw w w') : Bld B b u s w' := by
  obtain ⟨h1, v, h2, h3⟩ := h
  exact ⟨h1, v, hb.has h2, hb.own h3⟩
theorem AllS.bw {B pb bb : Nat} {L : List (SecR × Nat)} {s : ByteArray} {w w' : World} (h : AllS B pb bb L s w) (hb : Bw w w') : AllS B pb bb L s w' := by
  obtain ⟨h1, ⟨ao, cp, h2, h3⟩, u, h4⟩ := h
  exact ⟨h1, ⟨ao, cp, hb.has h2, hb.own h3⟩, u, h4.bw hb⟩
theorem Bld.far {B b g : Nat} {u : Bool} {s : ByteArray} {w : World} (h : Bld B b u s w) {t : TypeId} {cs : Array Value} (hg : Has w g t cs) (h1 : t ≠ 67) (h2 : t ≠ 5) (o : Nat) (v : Value) : Bld B b u s (w.setCell ⟨g, o, none⟩ v) :=
  h.ak fun i cs hi => Below.heap_setCell w ⟨g, o, none⟩ v i (fun e => by
    have e2 : i = g := e
    subst e2
    unfold Has at hg hi
    rw [hg] at hi
    rcases hi with hi | ⟨fz, hi⟩
    · injection hi with hi
      injection hi with _ hi
      exact h1 hi
    · injection hi with hi
      injection hi with _ hi
      exact h2 hi)
theorem Bld.grown {B b z n : Nat} {u : Bool} {s : ByteArray} {t0 : TypeId} {v : Value} {xs : List Value} {w w' : World} (h : Bld B b u s w) (ho : w.ownsRow B t0 z v n xs) (hg : w.grownBy w' v.ownBlock) (h1 : t0 ≠ 67) (h2 : t0 ≠ 5) : Bld B b u s w' :=
  h.ak fun i cs hi => by
    have hlt : i < w.heap.size := by
      rcases hi with hi | ⟨fz, hi⟩
      · exact hi.lt
      · exact (Array.getElem?_eq_some_iff.1 hi).1
    refine hg.block i hlt fun e => ?_
    obtain ⟨cur, hc⟩ := own_at ho e.symm
    rcases hi with hi | ⟨fz, hi⟩
    · unfold Has at hi
      rw [hc] at hi
      injection hi with hi
      injection hi with _ hi
      exact h1 hi
    · rw [hc] at hi
      injection hi with hi
      injection hi with _ hi
      exact h2 hi
theorem rowBk {B b z n : Nat} {t0 : TypeId} {v : Value} {xs : List Value} {w w' : World} {cs : Array Value} (ho : w.ownsRow B t0 z v n xs) (hk : BKeeps B b w w') (hb : Has w b 67 cs) (h1 : t0 ≠ 67) (h2 : t0 ≠ 5) : w'.ownsRow B t0 z v n xs :=
  own_keep ho fun i hi => by
    obtain ⟨cur, hc⟩ := own_at ho hi
    refine hk.2.2 i (own_lt ho hi) (fun e => ?_) fun c fr e => ?_
    · subst e
      unfold Has at hb
      rw [hc] at hb
      injection hb with hb
      injection hb with _ hb
      exact h1 hb
    · rw [hc] at e
      injection e with e
      injection e with _ e
      exact h2 e
theorem BKeeps.hasB {B b g : Nat} {t : TypeId} {cs cb : Array Value} {w w' : World} (h : BKeeps B b w w') (k : Has w g t cs) (hb : Has w b 67 cb) (h1 : t ≠ 67) (h2 : t ≠ 5) : Has w' g t cs := by
  refine h.has k (fun e => ?_) h2
  subst e
  unfold Has at hb k
  rw [k] at hb
  injection hb with hb
  injection hb with _ hb
  exact h1 hb
theorem has_apart {w : World} {g g' : Nat} {t t' : TypeId} {cs cs' : Array Value} (h : Has w g t cs) (k : Has w g' t' cs') (hne : t ≠ t') : g ≠ g' := fun e => by
  subst e
  unfold Has at h k
  rw [k] at h
  injection h with h
  injection h with _ h
  exact hne h.symm
set_option maxRecDepth 100000 in
set_option maxHeartbeats 8000000 in
theorem mAny (B pb bb : Nat) (l : List SecR) (L0 : List (SecR × Nat)) (s0 : ByteArray) (A : Option Addr) (len cap : Nat) (hll : l.length = len) (hl : len ≤ 2000) (hz : s0.size + (nmsT l).size ≤ 1000000000) (hL : L0.length ≤ 2000) (w : World) (hst : ∀ W, AK B w W → SecAt W A l) (hS : AllS B pb bb L0 s0 w) (hB : B ≤ w.heap.size) :
    Calls Try.prog 56 #[.slice A len cap, .pointer (some ⟨pb, 0, none⟩), .pointer (some ⟨bb, 0, none⟩)] w fun e w' => e = .returned (.tuple #[]) ∧ AllS B pb bb (L0 ++ allG l s0.size) (s0 ++ nmsT l) w' ∧ AK B w w' := by
  have HST := hid hst
  have HLN := hid hll
  have HS := hid hS
  have HNL := hid (nmsT_le l)
  clear hst hll hS
  obtain ⟨i0, hinf, hz0, hz1, hz2⟩ := info_parts plcInfo
  go_enter Try.func56, Try.ntmps56
  go_wp2
  go_loopw [8] (fun vk wr => ∃ k : Nat, k ≤ len ∧ vk = .int .i64 k ∧ AllS B pb bb (L0 ++ allG (l.take k) s0.size) (s0 ++ nmsT (l.take k)) wr ∧ AK B w wr) (fun vk _ => len - (intOf vk).toNat)
  case atStart => exact ⟨0, by omega, rfl, by rw [List.take_zero, allG, nmsT, app_nil, List.append_nil]; exact HS.out, AK.refl B w⟩
  case round =>
    rename World => wr
    obtain ⟨k, hk, rfl, hs, hak⟩ := hrel
    have HAK := hid hak
    by_cases hlt : k < len
    · have c0 : (k : Int) < len := by omega
      have hkl : k < l.length := by rw [HLN.out]; exact hlt
      obtain ⟨ab, ao, rfl, hok, hrg⟩ := sec_range (HST.out wr hak) k hkl
      have HRG := hid hrg
      have HLT := hid hlt
      have HV := hid (show wrap64 ((k : Int) + 1) = ((k + 1 : Nat) : Int) by unfold wrap64; omega)
      have HNT := hid (nmsT_take hkl)
      have HGT := hid (allG_take hkl s0.size)
      have HZ1 := hid (HNL.out (k + 1))
      rw [HNT.out, ByteArray.size_append, ByteArray.size_append, one_size] at HZ1
      have HLL := hid (show (L0 ++ allG (l.take k) s0.size).length ≤ 4000 from by
        rw [List.length_append, allG_len, List.length_take]; omega)
      have HSS := hid (ByteArray.size_append (a := s0) (b := nmsT (l.take k)))
      obtain ⟨x, hx⟩ : ∃ x, l[k] = x := ⟨_, rfl⟩
      obtain ⟨L, hLk⟩ : ∃ L, L0 ++ allG (l.take k) s0.size = L := ⟨_, rfl⟩
      obtain ⟨s, hsk⟩ : ∃ s, s0 ++ nmsT (l.take k) = s := ⟨_, rfl⟩
      have HNX := hid (show s0 ++ nmsT (l.take (k + 1)) = s ++ x.nam ++ ⟨#[0]⟩ from by rw [HNT.out, ← hsk, hx, app_as, app_as, app_as])
      have HGX := hid (show L0 ++ allG (l.take (k + 1)) s0.size = L ++ [(x, s.size)] from by rw [HGT.out, ← hLk, ← hsk, hx, HSS.out, List.append_assoc])
      rw [hx] at HRG HZ1
      rw [hsk] at HSS hs
      rw [hLk] at HLL hs
      have HSZ := hid (show s.size + x.nam.size + 1 ≤ 1000000000 from by have := HZ1.out; have := HSS.out; omega)
      have HS1 := hid hs
      clear hrg hx hkl hok hak hs hLk hsk HNT HGT HZ1 HSS
      have HWB := hid (show B ≤ wr.heap.size from Nat.le_trans hB HAK.out.sz)
      go_upto_region 2 with fail
      refine wp_region_list ?_
      refine wpList_plain rfl fun K hK => ?_
      go_simp
      refine hK _ _ ?_
      clear hK K
      refine wpList_load_mid rfl 43 (.tmp 10) rfl ab (ao + k * 10) rfl [.string x.nam, .int .i64 x.typ, .int .u64 x.flg, .int .u64 x.adr, .string x.dat, .int .i64 x.siz, .int .i64 x.lnk, .int .i64 x.inf, .int .u64 x.aln, .int .u64 x.eac] _ HRG.out Try.underlying43 rfl inf_Section ?_
      go_upto_region 3 with fail
      have HXN := hid (Has.new wr 43 #[.string x.nam, .int .i64 x.typ, .int .u64 x.flg, .int .u64 x.adr, .string x.dat, .int .i64 x.siz, .int .i64 x.lnk, .int .i64 x.inf, .int .u64 x.aln, .int .u64 x.eac])
      have HS2 := hid (HS1.out.bw ((Bw.refl wr).alloc (.cells #[.string x.nam, .int .i64 x.typ, .int .u64 x.flg, .int .u64 x.adr, .string x.dat, .int .i64 x.siz, .int .i64 x.lnk, .int .i64 x.inf, .int .u64 x.aln, .int .u64 x.eac] 43)))
      have HK2 := hid (HAK.out.trans (AK.of_bw ((Bw.refl wr).alloc (.cells #[.string x.nam, .int .i64 x.typ, .int .u64 x.flg, .int .u64 x.adr, .string x.dat, .int .i64 x.siz, .int .i64 x.lnk, .int .i64 x.inf, .int .u64 x.aln, .int .u64 x.eac] 43)) HWB.out))
      obtain ⟨xb, hxb⟩ : ∃ xb, wr.heap.size = xb := ⟨_, rfl⟩
      rw [hxb] at HXN ⊢
      generalize wr.alloc (.cells #[.string x.nam, .int .i64 x.typ, .int .u64 x.flg, .int .u64 x.adr, .string x.dat, .int .i64 x.siz, .int .i64 x.lnk, .int .i64 x.inf, .int .u64 x.aln, .int .u64 x.eac] 43) = w1 at *
      clear HRG HS1 HAK HST hxb HWB
      have HWB := hid (Nat.le_trans hB HK2.out.sz)
      have HSD := hid (HS2.out.bw ((Bw.refl w1).drewN 1))
      have HXD := hid (Has.drew HXN.out)
      have HKD := hid (HK2.out.trans (AK.of_bw ((Bw.refl w1).drewN 1) HWB.out))
      have HWD := hid (Nat.le_trans hB HKD.out.sz)
      obtain ⟨hpl, ⟨po, cp, hrow, hown⟩, u, hbl⟩ := HSD.out
      obtain ⟨n, hn⟩ : ∃ n, L.length = n := ⟨_, rfl⟩
      obtain ⟨z, hz⟩ : ∃ z, s.size = z := ⟨_, rfl⟩
      rw [hn] at hrow hown HLL
      have HN := hid hn
      have HZ := hid hz
      have HPL := hid hpl
      have HROW := hid hrow
      have HOWN := hid hown
      have HBL := hid hbl
      have HLEN := hid ((blen_any hbl).mono (R' := fun e w' => e = .returned (.int .i64 z) ∧ w1.drew = w') (fun e w' h => ⟨by rw [h.1, hz], h.2.symm⟩))
      have hn4 := HLL.out
      clear hn hz hpl hrow hown hbl HS2 HSD HLL
      have x0 := HXD.out.cell 0
      have x1 := HXD.out.cell 1
      have x2 := HXD.out.cell 2
      have x3 := HXD.out.cell 3
      have x4 := HXD.out.cell 4
      have x5 := HXD.out.cell 5
      have x6 := HXD.out.cell 6
      have x7 := HXD.out.cell 7
      have x8 := HXD.out.cell 8
      have x9 := HXD.out.cell 9
      simp only [List.getElem?_toArray, List.getElem?_cons_zero, List.getElem?_cons_succ] at x0 x1 x2 x3 x4 x5 x6 x7 x8 x9
      have y0 : w1.drew.cell? ⟨pb, 0, none⟩ = some (.slice po n cp) := HROW.out.cell 0
      have HB2 := hid (show Bw w1.drew (w1.alloc (.cells #[.string x.nam, .int .i64 x.typ, .int .u64 x.flg, .int .u64 x.adr, .string x.dat, .int .i64 x.siz, .int .i64 x.lnk, .int .i64 x.inf, .int .u64 x.aln, .int .u64 x.eac, .int .i64 z, .int .i64 0] 74)).drew from ((Bw.refl w1.drew).alloc _))
      have HOWN2 := hid (HB2.out.own HOWN.out)
      have HROW2 := hid (HB2.out.has HROW.out)
      have HBL2 := hid (HBL.out.bw HB2.out)
      have HX2 := hid (HB2.out.has HXD.out)
      have HK3 := hid (HKD.out.trans (AK.of_bw HB2.out HWD.out))
      have y1 : (w1.alloc (.cells #[.string x.nam, .int .i64 x.typ, .int .u64 x.flg, .int .u64 x.adr, .string x.dat, .int .i64 x.siz, .int .i64 x.lnk, .int .i64 x.inf, .int .u64 x.aln, .int .u64 x.eac, .int .i64 z, .int .i64 0] 74)).cell? ⟨pb, 0, none⟩ = some (.slice po n cp) := HROW2.out.cell 0
      go_region_law (first | (refine step_app1 (by rfl) (.tmp 12) (.tmp 16) 62 (by rfl) B 74 i0 (.agg #[.string ⟨#[]⟩, .int .i64 0, .int .u64 0, .int .u64 0, .string ⟨#[]⟩, .int .i64 0, .int .i64 0, .int .i64 0, .int .u64 0, .int .u64 0, .int .i64 0, .int .i64 0]) 12 112 Try.underlying62 hinf hz0 hz1 hz2 (by rfl) (by decide) (.slice po n cp) n _ (by rfl) HOWN2.out w1.heap.size #[.string x.nam, .int .i64 x.typ, .int .u64 x.flg, .int .u64 x.adr, .string x.dat, .int .i64 x.siz, .int .i64 x.lnk, .int .i64 x.inf, .int .u64 x.aln, .int .u64 x.eac, .int .i64 z, .int .i64 0] (by rfl) (Has.drew (Has.new w1 _ _)) rfl (by intro u hu; simp at hu; rcases hu with rfl | rfl | rfl | rfl | rfl | rfl | rfl | rfl | rfl | rfl | rfl | rfl <;> rfl) (by unfold maxLen; omega) (by omega) (Nat.le_trans HWD.out HB2.out.size) ?_; intro ao3 cp3 w3 hown3 hgrow3; have HO3 := hid hown3; have HG3 := hid hgrow3; have HROW3 := hid (has_grown HROW2.out hgrow3 (own_ne_has HOWN2.out HROW2.out (by decide))); have z0 : w3.cell? ⟨pb, 0, none⟩ = some (.slice po n cp) := HROW3.out.cell 0; have zf := HROW3.out.frozen 0; clear hown3 hgrow3) | (go_simp; go_at_call 57; refine HLEN.out.mono ?_; rintro e w2 ⟨rfl, rfl⟩))
      all_goals
        have HX3 := hid (has_grown HX2.out HG3.out (own_ne_has HOWN2.out HX2.out (by decide)))
        have HBL3 := hid (HBL2.out.grown HOWN2.out HG3.out (by decide) (by decide))
        have HK4 := hid (HK3.out.trans (AK.of_grown HOWN2.out HG3.out (Nat.le_trans HWD.out HB2.out.size) (by decide)))
        have HROW4 := hid (HROW3.out.put 0 (.slice ao3 (n + 1) cp3))
        simp only [List.setIfInBounds_toArray, List.set_cons_zero] at HROW4
        have HX4 := hid (Has.far HX3.out (p := ⟨pb, 0, none⟩) (show xb ≠ pb from fun e => has_apart HX3.out HROW3.out (by decide) e) (.slice ao3 (n + 1) cp3))
        have HBL4 := hid (HBL3.out.far HROW3.out (by decide) (by decide) 0 (.slice ao3 (n + 1) cp3))
        have HOWN4 := hid (own_keep HO3.out fun b hb => Below.heap_setCell w3 ⟨pb, 0, none⟩ (.slice ao3 (n + 1) cp3) b (fun e => own_ne_has HO3.out HROW3.out (by decide) (by rw [hb, e])))
        have HK5 := hid (HK4.out.trans (AK.of_set HROW3.out HPL.out (by decide) 0 (.slice ao3 (n + 1) cp3)))
        clear y0 y1 z0 zf x0 x1 x2 x3 x4 x5 x6 x7 x8 x9 HOWN2 HROW2 HBL2 HX2 HG3 HO3 HROW3 HX3 HBL3 HK4 HK3 HB2 HLEN
        generalize World.setCell w3 _ _ = w4 at *
        have HWB4 := hid (Nat.le_trans hB HK5.out.sz)
        have c0 : w4.cell? ⟨xb, 0, none⟩ = some (.string x.nam) := HX4.out.cell 0
        have hsz := HSZ.out
        go_wp2_with fail
        refine (write_any B bb u s x.nam (by omega) w4 HWB4.out HBL4.out).mono ?_
        rintro e w5 ⟨rfl, h5, hk5⟩
        obtain ⟨cb, hcb⟩ := bld_has HBL4.out
        have HROW5 := hid (hk5.hasB HROW4.out hcb (by decide) (by decide))
        have HOWN5 := hid (rowBk HOWN4.out hk5 hcb (by decide) (by decide))
        have HBL5 := hid h5
        have HK6 := hid (HK5.out.trans (AK.of_bk hk5 hcb))
        clear h5 hk5 hcb c0 HROW4 HOWN4 HBL4 HX4 HWB4
        have HWB5 := hid (Nat.le_trans hB HK6.out.sz)
        go_wp2_with fail
        refine (wbyte_any B bb true (s ++ x.nam) 0 (by rw [ByteArray.size_append]; omega) w5 HWB5.out HBL5.out).mono ?_
        rintro e w6 ⟨rfl, h6, hk6⟩
        obtain ⟨cb, hcb⟩ := bld_has HBL5.out
        have HROW6 := hid (hk6.hasB HROW5.out hcb (by decide) (by decide))
        have HOWN6 := hid (rowBk HOWN5.out hk6 hcb (by decide) (by decide))
        have HBL6 := hid h6
        have HK7 := hid (HK6.out.trans (AK.of_bk hk6 hcb))
        clear h6 hk6 hcb HROW5 HOWN5 HBL5
        go_wp2
        refine ⟨⟨k + 1, HLT.out, by first | rw [HV.out] | rfl, ?_, HK7.out⟩, by have h1 := HLT.out; first | rw [HV.out] | skip; simp only [intOf]; omega⟩
        rw [HNX.out, HGX.out]
        have hlen : (L ++ [(x, s.size)]).length = n + 1 := by rw [List.length_append, HN.out]; rfl
        refine ⟨HPL.out, ⟨ao3, cp3, ?_, ?_⟩, true, HBL6.out⟩
        · rw [hlen]; exact HROW6.out
        · rw [hlen, plcCells_app, HZ.out]; exact HOWN6.out
    · obtain rfl : k = len := by omega
      have c0 : ¬ (k : Int) < k := by omega
      have HFT := hid (show l.take k = l from by rw [← HLN.out, List.take_length])
      have HS1 := hid hs
      clear hs hak
      rw [HFT.out] at HS1
      go_wp2
      go_returns
      exact ⟨rfl, HS1.out, HAK.out⟩
end Go.Proofs.Ytciaebhkemdilaa
