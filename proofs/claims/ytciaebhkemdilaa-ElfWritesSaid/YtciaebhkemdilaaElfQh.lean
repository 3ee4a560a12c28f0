/- The document's Write (contract of the function). -/
import Derived.Test.YtciaebhkemdilaaElfQp
import Derived.Test.YtciaebhkemdilaaElfQg
import Derived.Test.YtciaebhkemdilaaElfTb
namespace Go.Proofs.Ytciaebhkemdilaa
open Go.RowKit
set_option linter.unusedVariables false
set_option linter.unusedSimpArgs false
/-- Three rows of bytes side by side. -/
structure Three (w0 W : World) (vb vn vh : Value) (D N H : ByteArray) : Prop where
  bw : Bw w0 W
  rb : RowM W w0.heap.size 5 vb D
  rn : RowM W w0.heap.size 5 vn N
  rh : RowM W w0.heap.size 5 vh H
  bn : Apart vb vn
  bh : Apart vb vh
  nh : Apart vn vh
section
variable {w0 W W' : World} {vb vn vh v' : Value} {D N H D' : ByteArray}
theorem Three.bw' (h : Three w0 W vb vn vh D N H) (hb : Bw W W') : Three w0 W' vb vn vh D N H := ⟨h.bw.trans hb, h.rb.bw hb, h.rn.bw hb, h.rh.bw hb, h.bn, h.bh, h.nh⟩
theorem Three.setB (h : Three w0 W vb vn vh D N H) (hr : RowM W' w0.heap.size 5 v' D') (hg : Grew W W' vb v') : Three w0 W' v' vn vh D' N H :=
  have a := hg.keep h.rn h.bn.symm
  have b := hg.keep h.rh h.bh.symm
  ⟨hg.below h.rb h.bw h.bw.size, hr, a.1, b.1, a.2.symm, b.2.symm, h.nh⟩
theorem Three.setN (h : Three w0 W vb vn vh D N H) (hr : RowM W' w0.heap.size 5 v' D') (hg : Grew W W' vn v') : Three w0 W' vb v' vh D D' H :=
  have a := hg.keep h.rb h.bn
  have b := hg.keep h.rh h.nh.symm
  ⟨hg.below h.rn h.bw h.bw.size, a.1, hr, b.1, a.2, h.bh, b.2.symm⟩
theorem Three.setH (h : Three w0 W vb vn vh D N H) (hr : RowM W' w0.heap.size 5 v' D') (hg : Grew W W' vh v') : Three w0 W' vb vn v' D N D' :=
  have a := hg.keep h.rb h.bh
  have b := hg.keep h.rn h.nh
  ⟨hg.below h.rh h.bw h.bw.size, a.1, b.1, hr, h.bn, a.2, b.2⟩
end
theorem RowM.ne {w : World} {B g : Nat} {e t : TypeId} {v : Value} {s : ByteArray} {cs : Array Value} (h : RowM w B e v s) (k : Has w g t cs) (ht : t ≠ e) : v.ownBlock ≠ some g := fun x => by
  rcases h with ⟨rfl, _⟩ | ⟨g', cap, cur, fz, rfl, h1, h2, _⟩
  · simp [Value.ownBlock] at x
  · have : g' = g := by simpa [Value.ownBlock] using x
    subst this
    unfold Has at k
    rw [k] at h2
    injection h2 with h2
    injection h2 with _ h2
    exact ht h2
theorem Grew.has {W w' : World} {B b : Nat} {e t : TypeId} {v v' : Value} {s : ByteArray} {cs : Array Value} (g : Grew W w' v v') (hr : RowM W B e v s) (k : Has W b t cs) (ht : t ≠ e) : Has w' b t cs :=
  (g.gb.block b k.lt (fun x => hr.ne k ht x.symm)).trans k
theorem one_cell (w : World) (j : Nat) (u : Value) (hj : (Lib.strCells ⟨#[0]⟩)[j]? = some u) : (w.alloc (.cells #[.int .u8 0] 5)).cell? ((⟨w.heap.size, 0, none⟩ : Addr).add j) = some u := by
  match j, hj with
  | 0, hj =>
    have : u = .int .u8 0 := by simp [Lib.strCells] at hj; exact hj.symm
    rw [this]
    exact (Has.new w 5 #[.int .u8 0]).cell 0
theorem apart_new {W : World} {B : Nat} {e : TypeId} {v : Value} {s : ByteArray} (h : RowM W B e v s) (g n c : Nat) (hg : W.heap.size ≤ g) : Apart v (.slice (some ⟨g, 0, none⟩) n c) := fun j hj k => by
  have := (h.lt hj).2
  have e : g = j := by simpa [Value.ownBlock] using k
  omega
/-- One byte 0 in a block of its own. -/
theorem RowM.one (W : World) (B : Nat) (hB : B ≤ W.heap.size) : RowM (W.alloc (.cells #[.int .u8 0] 5)) B 5 (.slice (some ⟨W.heap.size, 0, none⟩) 1 1) ⟨#[0]⟩ :=
  .inr ⟨W.heap.size, 1, #[.int .u8 0], (0, 0), rfl, hB, heap_alloc_new W _, .inl rfl, Nat.le_refl _, by decide, rfl, rfl⟩
def DWQ (m : ElfR) (w : World) (e : Ending) (w' : World) : Prop := Bw w w' ∧ ((validB m = true ∧ e = .returned (.tuple #[.string (writeT m), .int .i64 0])) ∨ (validB m = false ∧ e = .returned (.tuple #[.string ⟨#[]⟩, .int .i64 1])))
set_option maxRecDepth 100000 in
set_option maxHeartbeats 8000000 in
theorem dwrite_any (m : ElfR) (a b : Option Addr) (n k c d : Nat) (hsm : SmallM m) (w : World) (hin : InM w m a b n k) :
    Calls Try.prog 16 #[.agg #[.int .i64 m.typ, .int .i64 m.mac, .int .u64 m.ent, .int .i64 m.flg, .slice a n c, .slice b k d]] w (DWQ m w) := by
  obtain ⟨i0, hinf, hz0, hz1, hz2⟩ := info_parts byteInfoQ
  have HIN := hid hin
  have HSM := hid hsm
  have hn1 : n ≤ 1001 := by have := hsm.seg; have := hin.hn; omega
  have hk1 : k ≤ 1001 := by have := hsm.sec; have := hin.hk; omega
  have HMA := hid (fun W (h : InM W m a b n k) => may_any m a b n k c d h.hn h.hk (by omega) (by omega) (fun x hx => by have := hsm.all x hx; omega) W h.at_)
  have HQT := hid (fun e w' (hb : Bw w w') (hv : validB m = true) (he : e = .returned (.tuple #[.string (writeT m), .int .i64 0])) => (show DWQ m w e w' from ⟨hb, .inl ⟨hv, he⟩⟩))
  have HQF := hid (fun e w' (hb : Bw w w') (hv : validB m = false) (he : e = .returned (.tuple #[.string ⟨#[]⟩, .int .i64 1])) => (show DWQ m w e w' from ⟨hb, .inr ⟨hv, he⟩⟩))
  have hmk : ∀ W : World, (Instr.makeSlice 40 (.int .i64 64) (.int .i64 64)).run Try.prog W = .ok (.slice (some ⟨W.heap.size, 0, none⟩) 64 64) (W.alloc (.cells (madeCells #[.int .u8 0] 64) 5)) := fun W => make_bytes 64 (by decide) W
  have HM1 := hid (Has.new w 27 #[.int .i64 m.typ, .int .i64 m.mac, .int .u64 m.ent, .int .i64 m.flg, .slice a n c, .slice b k d])
  have HB1 := hid ((Bw.refl w).alloc (.cells #[.int .i64 m.typ, .int .i64 m.mac, .int .u64 m.ent, .int .i64 m.flg, .slice a n c, .slice b k d] 27))
  obtain ⟨mb, hmb⟩ : ∃ mb, w.heap.size = mb := ⟨_, rfl⟩
  have HMB := hid hmb
  rw [hmb] at HM1
  clear hin hsm
  go_enter Try.func16, Try.ntmps16
  go_upto_region 1 with fail
  generalize w.alloc (.cells #[.int .i64 m.typ, .int .i64 m.mac, .int .u64 m.ent, .int .i64 m.flg, .slice a n c, .slice b k d] 27) = w1 at *
  clear hmb
  refine wp_region_list ?_
  refine wpList_load_mid rfl 27 (.tmp 1) rfl (mb) 0 rfl [.int .i64 m.typ, .int .i64 m.mac, .int .u64 m.ent, .int .i64 m.flg, .slice a n c, .slice b k d] _ HM1.out.range Try.underlying27 rfl inf_ElfW ?_
  go_wp2_with fail
  refine (HMA.out _ (HIN.out.bw HB1.out)).mono ?_
  rintro e w2 ⟨rfl, hb2⟩
  have HB2 := hid (HB1.out.trans hb2)
  have HM2 := hid (hb2.has HM1.out)
  clear hb2 HM1 HB1 HMA
  cases q : validB m with
  | false =>
    have HF := hid (HQF.out · w2 HB2.out q)
    clear q hmk
    go_wp2
    go_returns
    exact HF.out _ rfl
  | true =>
  have HV := hid q
  have HWR := hid (small_wr HIN.out HSM.out q)
  clear q HQF
  have HR3 := hid (RowM.zeros w2 w.heap.size 64 (by decide) HB2.out.size)
  have HB3 := hid (HB2.out.alloc (.cells (madeCells #[.int .u8 0] 64) 5))
  have HM3 := hid (HM2.out.alloc (.cells (madeCells #[.int .u8 0] 64) 5))
  go_upto_region 5 with fail
  generalize hw3 : w2.alloc (.cells (madeCells #[.int .u8 0] 64) 5) = w3 at *
  generalize w2.heap.size = g2 at *
  clear hw3 HB2 HM2
  go_wp2_with fail
  go_loopw [5, 6, 7] (fun vb vp vi wr => ∃ i : Nat, i ≤ n ∧ vi = .int .i64 i ∧ vp = .int .i64 (pOf i : Nat) ∧ RowM wr w.heap.size 5 vb (zerosT 64 ++ segsT (m.segs.take i)) ∧ Bw w wr ∧ Has wr mb 27 #[.int .i64 m.typ, .int .i64 m.mac, .int .u64 m.ent, .int .i64 m.flg, .slice a n c, .slice b k d]) (fun _ _ vi _ => n - (intOf vi).toNat)
  case atStart => exact ⟨0, Nat.zero_le _, rfl, rfl, by rw [List.take_zero, segsT, app_nil]; exact HR3.out, HB3.out, HM3.out⟩
  case round =>
    rename World => wr
    obtain ⟨i, hi, rfl, rfl, hrow, hw, hm⟩ := hrel
    have HROW := hid hrow
    have HW := hid hw
    have HM := hid hm
    have x4 : wr.cell? ⟨mb, 4, none⟩ = some (.slice a n c) := hm.cell 4
    obtain ⟨ao, cp, rfl⟩ := hrow.slice
    by_cases hlt : i < n
    · have hk2 : (i : Int) < n := by omega
      have hil : i < m.segs.length := by rw [HIN.out.hn]; exact hlt
      obtain ⟨ab, ao2, rfl, hok, hrg⟩ := seg_range (HIN.out.bw hw).at_.1 i hil
      have HRG := hid hrg
      have HDS := hid (fun W => dseg_m HV.out m.segs[i] (List.getElem_mem hil) hok W)
      have HST := hid (segsT_take hil)
      have HSZ := hid (show (zerosT 64 ++ segsT (m.segs.take i)).size ≤ 100000 from by rw [ByteArray.size_append, zerosT_size, segsT_size, List.length_take]; omega)
      obtain ⟨x, hx⟩ : ∃ x, m.segs[i] = x := ⟨_, rfl⟩
      rw [hx] at HRG HST HDS
      have hS56 : (segTx x).size = 56 := segT_size _ _ _ _ _ _ _ _
      obtain ⟨S, hS⟩ : ∃ S, segTx x = S := ⟨_, rfl⟩
      rw [hS] at HST HDS hS56
      have HS56 := hid hS56
      obtain ⟨Q, hQ⟩ : ∃ Q, zerosT 64 ++ segsT (m.segs.take i) = Q := ⟨_, rfl⟩
      have HQQ := hid hQ
      rw [hQ] at HROW HSZ ⊢
      have hP1 : (pOf (i + 1) : Nat) = 64 := by unfold pOf; rw [if_neg (by omega)]
      have HP1 := hid hP1
      clear hrow hw hm hok hrg hx hil hS hQ hP1 hS56
      go_upto_region 10 with fail
      refine wp_region_list ?_
      refine wpList_plain rfl fun K hK => ?_
      go_simp
      refine hK _ _ ?_
      clear hK K
      refine wpList_plain rfl fun K hK => ?_
      go_simp
      refine hK _ _ ?_
      clear hK K
      refine wpList_plain rfl fun K hK => ?_
      go_simp
      refine hK _ _ ?_
      clear hK K
      refine wpList_plain rfl fun K hK => ?_
      go_simp
      refine hK _ _ ?_
      clear hK K
      refine wpList_plain rfl fun K hK => ?_
      go_simp
      refine hK _ _ ?_
      clear hK K
      refine wpList_load_mid rfl 61 (.tmp 32) rfl ab (ao2 + i * 8) rfl [.int .i64 x.typ, .int .i64 x.flg, .int .i64 x.off, .int .u64 x.vad, .int .u64 x.pad, .int .i64 x.fsz, .int .u64 x.msz, .int .u64 x.aln] _ HRG.out Try.underlying61 rfl inf_Segment ?_
      go_wp2_with fail
      refine (HDS.out _).mono ?_
      rintro e w6 ⟨rfl, hb6⟩
      have HW6 := hid (HW.out.trans hb6)
      have HM6 := hid (hb6.has HM.out)
      have HR6 := hid (HROW.out.bw hb6)
      clear hb6 x4
      go_wp2_with (at_builtin; refine wpList_app_strG rfl _ _ 40 9 rfl w.heap.size Try.underlying40 Try.underlying9 hinf hz0 hz1 hz2 _ Q rfl HR6.out S rfl (by have := HSZ.out; have := HS56.out; omega) HW6.out.size ?_; intro v9 w9 hrow9 hgr9; have HR9 := hid hrow9; have HG9 := hid hgr9; clear hrow9 hgr9)
      have HT9 := hid (show Q ++ S = zerosT 64 ++ segsT (m.segs.take (i + 1)) from by rw [HST.out, ← HQQ.out, app_as])
      rw [HT9.out] at HR9
      have HB9 := hid (HG9.out.below HR6.out HW6.out HW6.out.size)
      exact ⟨⟨i + 1, by omega, by go_num, by rw [HP1.out]; rfl, HR9.out, HB9.out, HG9.out.has HR6.out HM6.out (by decide)⟩, by simp [intOf]; omega⟩
    · obtain rfl : n = i := by omega
      have HBS := hid (show zerosT 64 ++ segsT (m.segs.take n) = docS m from by rw [List.take_of_length_le (by rw [HIN.out.hn]; exact Nat.le_refl _)]; rfl)
      rw [HBS.out] at HROW
      have HSD := hid (docS_size m)
      have hwpm : wP m = 64 + 56 * m.segs.length := rfl
      obtain ⟨db, hdb⟩ : ∃ x, (zerosT 64 ++ segsT (m.segs.take n)).size = x := ⟨_, rfl⟩
      rw [hdb]
      have HDB := hid (show (docS m).size = db from by rw [← HBS.out]; exact hdb)
      rw [HDB.out] at HROW
      have HN1 := hid (RowM.one wr w.heap.size HW.out.size)
      have HRW1 := hid (HROW.out.allocd (.cells #[.int .u8 0] 5))
      have HW1 := hid (HW.out.alloc (.cells #[.int .u8 0] 5))
      have HM1 := hid (HM.out.alloc (.cells #[.int .u8 0] 5))
      have HBN := hid (apart_new HROW.out wr.heap.size 1 1 (Nat.le_refl _))
      clear hrow hw hm hdb HBS HROW HW HM
      go_upto_region 12 with fail
      generalize hgn : wr.heap.size = gn at *
      generalize hwa : wr.alloc (.cells #[.int .u8 0] 5) = wa at *
      clear hgn hwa x4
      have HH2 := hid (RowM.zeros wa w.heap.size 64 (by decide) HW1.out.size)
      have HN2 := hid (HN1.out.allocd (.cells (madeCells #[.int .u8 0] 64) 5))
      have HRW2 := hid (HRW1.out.allocd (.cells (madeCells #[.int .u8 0] 64) 5))
      have HW2 := hid (HW1.out.alloc (.cells (madeCells #[.int .u8 0] 64) 5))
      have HM2 := hid (HM1.out.alloc (.cells (madeCells #[.int .u8 0] 64) 5))
      have HBH := hid (apart_new HRW1.out wa.heap.size 64 64 (Nat.le_refl _))
      have HNH := hid (apart_new HN1.out wa.heap.size 64 64 (Nat.le_refl _))
      clear HN1 HRW1 HW1 HM1
      go_upto_region 13 with fail
      generalize hgh : wa.heap.size = gh at *
      generalize hwb : wa.alloc (.cells (madeCells #[.int .u8 0] 64) 5) = wb at *
      clear hgh hwb hmk
      have HT3 := hid (show Three w wb (.slice ao db cp) (.slice (some ⟨gn, 0, none⟩) 1 1) (.slice (some ⟨gh, 0, none⟩) 64 64) (docD m 1) (docN m 1) (docH m 1) from by
        obtain ⟨h1, h2, h3⟩ := doc_one (m := m)
        rw [h1, h2, h3]
        exact ⟨HW2.out, HRW2.out, HN2.out, HH2.out, HBN.out, HBH.out, HNH.out⟩)
      have HM3 := hid HM2.out
      clear HRW2 HN2 HW2 HH2 HM2 HBN HBH HNH
      go_wp2_with fail
      go_loopw [5, 8, 9, 10] (fun vb vn vh vi wq => ∃ i : Nat, i ≤ k ∧ vi = .int .i64 i ∧ Three w wq vb vn vh (docD m (i + 1)) (docN m (i + 1)) (docH m (i + 1)) ∧ Has wq mb 27 #[.int .i64 m.typ, .int .i64 m.mac, .int .u64 m.ent, .int .i64 m.flg, .slice a n c, .slice b k d]) (fun _ _ _ vi _ => k - (intOf vi).toNat)
      case atStart => exact ⟨0, Nat.zero_le _, rfl, HT3.out, HM3.out⟩
      case round =>
        rename World => wq
        obtain ⟨j, hj, rfl, ht, hm⟩ := hrel
        have HT := hid ht
        have HM := hid hm
        have x5 : wq.cell? ⟨mb, 5, none⟩ = some (.slice b k d) := hm.cell 5
        obtain ⟨a5, c5, rfl⟩ := ht.rb.slice
        obtain ⟨a8, c8, rfl⟩ := ht.rn.slice
        obtain ⟨a9, c9, rfl⟩ := ht.rh.slice
        have HDL := hid (docD_le (m := m) (j + 1))
        have HNL := hid (docN_le (m := m) (j + 1))
        have HHL := hid (docH_le (m := m) (j + 1))
        have HEN := hid (small_end HSM.out)
        have HNM := hid (small_nms HSM.out)
        by_cases hlt2 : j < k
        · have hk2 : (j : Int) < k := by omega
          have hjl : j < m.secs.length := by rw [HIN.out.hk]; exact hlt2
          obtain ⟨y, hy⟩ := row_get m (i := j + 1) (by omega)
          obtain ⟨nx1, nx2, nx3, nx4, nx5⟩ := doc_next hy
          have hym := List.mem_of_getElem? hy
          have hyx := doc_sec hjl hy
          obtain ⟨ab, ao2, rfl, hok, hrg⟩ := sec_range (HIN.out.bw ht.bw).at_.2 j hjl
          have HRG := hid hrg
          have hgd := HWR.out.good hym
          have hro := HWR.out.row y hym
          have hsl := (HSM.out.all _ (List.getElem_mem hjl))
          have HDSE := hid (fun (h0 : y.1.1.dat.size = 0) (h2 : y.2 = 0) W => (by
            have q := dsec_m y hro y.1.1.siz.toNat (by
              have o := hgd.one
              unfold sec1 at o
              by_cases h8 : y.1.1.typ.toNat = 8
              · rw [if_pos h8]
              · rw [if_neg h8]
                rw [if_neg (by have := hgd.typ; omega), decide_eq_true_eq] at o
                rw [o]
                exact h0) (by have := hgd.siz; omega) (by rw [h2]; decide) W
            rw [Int.toNat_of_nonneg hgd.siz.1] at q
            exact q : Calls Try.prog 39 #[.agg #[.string y.1.1.nam, .int .i64 y.1.1.typ, .int .u64 y.1.1.flg, .int .u64 y.1.1.adr, .string y.1.1.dat, .int .i64 y.1.1.siz, .int .i64 y.1.1.lnk, .int .i64 y.1.1.inf, .int .u64 y.1.1.aln, .int .u64 y.1.1.eac], .int .i64 y.1.2, .int .i64 y.2, .int .i64 y.1.1.siz] W fun e w' => e = .returned (.string (shTx y)) ∧ Bw W w'))
          have HDSD := hid (fun (h0 : ¬ y.1.1.dat.size = 0) (h2 : y.2 < 9223372036854775808) W => dsec_m y hro y.1.1.dat.size (by
              have o := hgd.one
              unfold sec1 at o
              rw [if_neg]
              intro h8
              rw [if_pos (by have := hgd.typ; omega), decide_eq_true_eq] at o
              exact h0 o) (by have := hyx ▸ hsl; omega) h2 W)
          obtain ⟨⟨x, na⟩, at0⟩ := y
          simp only at nx1 nx2 nx3 nx4 nx5 hyx
          change x = _ at hyx
          rw [← hyx] at HRG hsl
          obtain ⟨SH, hSH⟩ : ∃ S, shTx ((x, na), at0) = S := ⟨_, rfl⟩
          have HSH := hid (show SH.size = 64 from by rw [← hSH]; exact shT_size _ _ _ _ _ _ _ _ _ _)
          have HDSE2 := hid (fun (h0 : x.dat.size = 0) (h2 : at0 = 0) W => (show Calls Try.prog 39 #[.agg #[.string x.nam, .int .i64 x.typ, .int .u64 x.flg, .int .u64 x.adr, .string x.dat, .int .i64 x.siz, .int .i64 x.lnk, .int .i64 x.inf, .int .u64 x.aln, .int .u64 x.eac], .int .i64 na, .int .i64 at0, .int .i64 x.siz] W fun e w' => e = .returned (.string SH) ∧ Bw W w' from by rw [← hSH]; exact HDSE.out h0 h2 W))
          have HDSD2 := hid (fun (h0 : ¬ x.dat.size = 0) (h2 : at0 < 9223372036854775808) W => (show Calls Try.prog 39 #[.agg #[.string x.nam, .int .i64 x.typ, .int .u64 x.flg, .int .u64 x.adr, .string x.dat, .int .i64 x.siz, .int .i64 x.lnk, .int .i64 x.inf, .int .u64 x.aln, .int .u64 x.eac], .int .i64 na, .int .i64 at0, .int .i64 x.dat.size] W fun e w' => e = .returned (.string SH) ∧ Bw W w' from by rw [← hSH]; exact HDSD.out h0 h2 W))
          rw [hSH] at nx2
          obtain ⟨D, hD⟩ : ∃ D, docD m (j + 1) = D := ⟨_, rfl⟩
          obtain ⟨NN, hN⟩ : ∃ D, docN m (j + 1) = D := ⟨_, rfl⟩
          obtain ⟨HH, hH⟩ : ∃ D, docH m (j + 1) = D := ⟨_, rfl⟩
          rw [hD] at nx1 nx5 HT HDL ⊢
          rw [hN] at nx3 nx4 HT HNL ⊢
          rw [hH] at nx2 HT HHL ⊢
          have HNX := hid (show docD m (j + 1 + 1) = putT D x.dat ∧ docH m (j + 1 + 1) = HH ++ SH ∧ docN m (j + 1 + 1) = NN ++ x.nam ++ ⟨#[0]⟩ from ⟨nx1, nx2, nx3⟩)
          have HNZ := hid hsl.2
          obtain ⟨N2, hN2⟩ : ∃ N2, NN ++ x.nam = N2 := ⟨_, rfl⟩
          have HN2 := hid hN2
          have HN2Z := hid (show N2.size = NN.size + x.nam.size from by rw [← hN2, ByteArray.size_append])
          rw [hN2] at HNX
          clear hN2
          have HDZ := hid hsl.1
          subst nx4
          have hk9 : HH.size ≤ 100000 := by have := HHL.out; have := HSM.out.sec; omega
          have HH9 := hid hk9
          clear HDSE HDSD hSH hD hN hH nx1 nx2 nx3 hyx hym hgd hro hsl hok hrg hy hjl hk9 ht hm HHL
          have HHL := HH9
          have HX0 := hid (Has.new wq 43 #[.string x.nam, .int .i64 x.typ, .int .u64 x.flg, .int .u64 x.adr, .string x.dat, .int .i64 x.siz, .int .i64 x.lnk, .int .i64 x.inf, .int .u64 x.aln, .int .u64 x.eac])
          have HT0 := hid (HT.out.bw' ((Bw.refl wq).alloc (.cells #[.string x.nam, .int .i64 x.typ, .int .u64 x.flg, .int .u64 x.adr, .string x.dat, .int .i64 x.siz, .int .i64 x.lnk, .int .i64 x.inf, .int .u64 x.aln, .int .u64 x.eac] 43)))
          have HM0 := hid (HM.out.alloc (.cells #[.string x.nam, .int .i64 x.typ, .int .u64 x.flg, .int .u64 x.adr, .string x.dat, .int .i64 x.siz, .int .i64 x.lnk, .int .i64 x.inf, .int .u64 x.aln, .int .u64 x.eac] 43))
          obtain ⟨xb, hxb⟩ : ∃ xb, wq.heap.size = xb := ⟨_, rfl⟩
          rw [hxb] at HX0
          clear HT HM
          go_upto_region 16 with fail
          refine wp_region_list ?_
          refine wpList_plain rfl fun K hK => ?_
          go_simp
          refine hK _ _ ?_
          clear hK K
          refine wpList_plain rfl fun K hK => ?_
          go_simp
          refine hK _ _ ?_
          clear hK K
          refine wpList_plain rfl fun K hK => ?_
          go_simp
          refine hK _ _ ?_
          clear hK K
          refine wpList_plain rfl fun K hK => ?_
          go_simp
          refine hK _ _ ?_
          clear hK K
          refine wpList_load_mid rfl 43 (.tmp 48) rfl ab (ao2 + j * 10) rfl [.string x.nam, .int .i64 x.typ, .int .u64 x.flg, .int .u64 x.adr, .string x.dat, .int .i64 x.siz, .int .i64 x.lnk, .int .i64 x.inf, .int .u64 x.aln, .int .u64 x.eac] _ HRG.out Try.underlying43 rfl inf_Section ?_
          go_upto_region 17 with fail
          generalize wq.alloc (.cells #[.string x.nam, .int .i64 x.typ, .int .u64 x.flg, .int .u64 x.adr, .string x.dat, .int .i64 x.siz, .int .i64 x.lnk, .int .i64 x.inf, .int .u64 x.aln, .int .u64 x.eac] 43) = wx at *
          clear hxb x5
          have y4 : wx.cell? ⟨xb, 4, none⟩ = some (.string x.dat) := HX0.out.cell 4
          have y5 : wx.cell? ⟨xb, 5, none⟩ = some (.int .i64 x.siz) := HX0.out.cell 5
          by_cases hd : x.dat.size = 0
          · have e0 := emp_yes hd
            rw [if_pos hd] at nx5
            have HDA := hid (fun W => (show Calls Try.prog 39 #[.agg #[.string x.nam, .int .i64 x.typ, .int .u64 x.flg, .int .u64 x.adr, .string x.dat, .int .i64 x.siz, .int .i64 x.lnk, .int .i64 x.inf, .int .u64 x.aln, .int .u64 x.eac], .int .i64 NN.size, .int .i64 0, .int .i64 x.siz] W fun e w' => e = .returned (.string SH) ∧ Bw W w' from by
              have q := HDSE2.out hd nx5 W
              rw [nx5] at q
              exact q))
            have HDP := hid (show docD m (j + 1 + 1) = D from by rw [HNX.out.1]; unfold putT; rw [if_pos hd])
            rw [← HDP.out] at HT0
            clear HDSE2 HDSD2 nx5 hd
            obtain ⟨dz, hdz⟩ : ∃ z, D.size = z := ⟨_, rfl⟩
            rw [hdz]
            have HDZ2 := hid (show (docD m (j + 1 + 1)).size = dz from by rw [HDP.out]; exact hdz)
            clear hdz
            go_upto_region 24 with fail
            refine wp_region_list ?_
            refine wpList_plain rfl fun K hK => ?_
            go_simp
            refine hK _ _ ?_
            clear hK K
            refine wpList_load_mid rfl 43 (.tmp 11) rfl xb 0 rfl [.string x.nam, .int .i64 x.typ, .int .u64 x.flg, .int .u64 x.adr, .string x.dat, .int .i64 x.siz, .int .i64 x.lnk, .int .i64 x.inf, .int .u64 x.aln, .int .u64 x.eac] _ HX0.out.range Try.underlying43 rfl inf_Section ?_
            go_wp2_with fail
            refine (HDA.out _).mono ?_
            rintro e wc ⟨rfl, hbc⟩
            have HTC := hid (HT0.out.bw' hbc)
            have HXC := hid (hbc.has HX0.out)
            have HMC := hid (hbc.has HM0.out)
            clear hbc
            go_wp2_with (first | (at_builtin; refine wpList_app_strG rfl _ _ 40 9 rfl w.heap.size Try.underlying40 Try.underlying9 hinf hz0 hz1 hz2 _ HH rfl HTC.out.rh SH rfl (by have := HHL.out; have := HSH.out; omega) HTC.out.bw.size ?_; intro v24 w24 hrow24 hgr24; have HR24 := hid hrow24; have HG24 := hid hgr24; clear hrow24 hgr24; have HT4 := hid (HTC.out.setH HR24.out HG24.out); have HX4 := hid (HG24.out.has HTC.out.rh HXC.out (by decide)); have HM4 := hid (HG24.out.has HTC.out.rh HMC.out (by decide)); have n0 : w24.cell? ⟨xb, 0, none⟩ = some (.string x.nam) := HX4.out.cell 0; clear HR24 HG24) | (at_builtin; refine wpList_app_strG rfl _ _ 40 9 rfl w.heap.size Try.underlying40 Try.underlying9 hinf hz0 hz1 hz2 _ NN rfl HT4.out.rn x.nam rfl (by have := HNL.out; have := HNM.out; have := HNZ.out; omega) HT4.out.bw.size ?_; intro v25 w25 hrow25 hgr25; rw [HN2.out] at hrow25; have HR25 := hid hrow25; have HG25 := hid hgr25; clear hrow25 hgr25; have HT5 := hid (HT4.out.setN HR25.out HG25.out); have HM5 := hid (HG25.out.has HT4.out.rn HM4.out (by decide)); obtain ⟨p25, q25, rfl⟩ := HR25.out.slice; clear HR25 HG25 n0) | (at_builtin; refine wpList_app_rowG rfl _ _ 40 rfl w.heap.size Try.underlying40 hinf hz0 hz1 hz2 _ N2 rfl (HT5.out.rn.allocd _) ⟨#[0]⟩ 1 rfl (by decide) ⟨w25.heap.size, 0, none⟩ 1 rfl (one_cell w25) (by have := HNL.out; have := HNM.out; have := HNZ.out; have := HN2Z.out; omega) (by have := HT5.out.bw.size; simp; omega) ?_; intro v26 w26 hrow26 hgr26; have HR26 := hid hrow26; have HG26 := hid hgr26; clear hrow26 hgr26; have HT6 := hid ((HT5.out.bw' ((Bw.refl w25).alloc _)).setN HR26.out HG26.out); have HM6 := hid (HG26.out.has (HT5.out.rn.allocd _) (HM5.out.alloc _) (by decide)); clear HR26 HG26))
            clear HT4 HT5 HM4 HM5 HTC HXC HMC HX4 HX0 HM0 HT0
            rw [← HNX.out.2.1, ← HNX.out.2.2] at HT6
            rw [HDZ2.out] at HT6
            exact ⟨⟨j + 1, by omega, by go_num, HT6.out, HM6.out⟩, by simp [intOf]; omega⟩
          · have e0 := emp_no hd
            rw [if_neg hd] at nx5
            obtain ⟨E, hE⟩ : ∃ E, D ++ zerosT (pad8 D.size) = E := ⟨_, rfl⟩
            have hEz : E.size = al8 D.size := by rw [← hE, ByteArray.size_append, zerosT_size]; rfl
            rw [← hEz] at nx5
            subst nx5
            have hE9 : E.size ≤ 8000000 := by rw [hEz]; have := al8_lt D.size; have := HDL.out; have := HEN.out; omega
            have HE9 := hid hE9
            have HEV := hid (fun W h => even_any w.heap.size (.slice a5 D.size c5) D (by have := HDL.out; have := HEN.out; omega) W h)
            rw [hE] at HEV
            have HDB := hid (fun W => HDSD2.out hd (by omega) W)
            have HDP := hid (show docD m (j + 1 + 1) = E ++ x.dat from by rw [HNX.out.1, ← hE]; unfold putT; rw [if_neg hd])
            clear HDSE2 HDSD2 hd hE hEz
            go_wp2_with fail
            refine (HEV.out _ HT0.out.bw.size HT0.out.rb).mono ?_
            rintro e wy ⟨vy, rfl, hry, hgy⟩
            have HT1 := hid (HT0.out.setB hry hgy)
            have HX1 := hid (hgy.has HT0.out.rb HX0.out (by decide))
            have HM1 := hid (hgy.has HT0.out.rb HM0.out (by decide))
            obtain ⟨a6, c6, rfl⟩ := hry.slice
            clear hry hgy HT0 HX0 HM0 HEV y4 y5
            have y4 : wy.cell? ⟨xb, 4, none⟩ = some (.string x.dat) := HX1.out.cell 4
            go_upto_region 24 with (at_builtin; refine wpList_app_strG rfl _ _ 40 9 rfl w.heap.size Try.underlying40 Try.underlying9 hinf hz0 hz1 hz2 _ E rfl HT1.out.rb x.dat rfl (by have := HE9.out; have := HDZ.out; omega) HT1.out.bw.size ?_; intro v23 w23 hrow23 hgr23; have HR23 := hid hrow23; have HG23 := hid hgr23; clear hrow23 hgr23)
            have HT2 := hid (HT1.out.setB HR23.out HG23.out)
            have HX2 := hid (HG23.out.has HT1.out.rb HX1.out (by decide))
            have HM2 := hid (HG23.out.has HT1.out.rb HM1.out (by decide))
            rw [← HDP.out] at HT2
            clear HR23 HG23 HT1 HX1 HM1 y4
            go_upto_region 24 with fail
            refine wp_region_list ?_
            refine wpList_plain rfl fun K hK => ?_
            go_simp
            refine hK _ _ ?_
            clear hK K
            refine wpList_load_mid rfl 43 (.tmp 11) rfl xb 0 rfl [.string x.nam, .int .i64 x.typ, .int .u64 x.flg, .int .u64 x.adr, .string x.dat, .int .i64 x.siz, .int .i64 x.lnk, .int .i64 x.inf, .int .u64 x.aln, .int .u64 x.eac] _ HX2.out.range Try.underlying43 rfl inf_Section ?_
            go_wp2_with fail
            refine (HDB.out _).mono ?_
            rintro e wc ⟨rfl, hbc⟩
            have HTC := hid (HT2.out.bw' hbc)
            have HXC := hid (hbc.has HX2.out)
            have HMC := hid (hbc.has HM2.out)
            clear hbc
            go_wp2_with (first | (at_builtin; refine wpList_app_strG rfl _ _ 40 9 rfl w.heap.size Try.underlying40 Try.underlying9 hinf hz0 hz1 hz2 _ HH rfl HTC.out.rh SH rfl (by have := HHL.out; have := HSH.out; omega) HTC.out.bw.size ?_; intro v24 w24 hrow24 hgr24; have HR24 := hid hrow24; have HG24 := hid hgr24; clear hrow24 hgr24; have HT4 := hid (HTC.out.setH HR24.out HG24.out); have HX4 := hid (HG24.out.has HTC.out.rh HXC.out (by decide)); have HM4 := hid (HG24.out.has HTC.out.rh HMC.out (by decide)); have n0 : w24.cell? ⟨xb, 0, none⟩ = some (.string x.nam) := HX4.out.cell 0; clear HR24 HG24) | (at_builtin; refine wpList_app_strG rfl _ _ 40 9 rfl w.heap.size Try.underlying40 Try.underlying9 hinf hz0 hz1 hz2 _ NN rfl HT4.out.rn x.nam rfl (by have := HNL.out; have := HNM.out; have := HNZ.out; omega) HT4.out.bw.size ?_; intro v25 w25 hrow25 hgr25; rw [HN2.out] at hrow25; have HR25 := hid hrow25; have HG25 := hid hgr25; clear hrow25 hgr25; have HT5 := hid (HT4.out.setN HR25.out HG25.out); have HM5 := hid (HG25.out.has HT4.out.rn HM4.out (by decide)); obtain ⟨p25, q25, rfl⟩ := HR25.out.slice; clear HR25 HG25 n0) | (at_builtin; refine wpList_app_rowG rfl _ _ 40 rfl w.heap.size Try.underlying40 hinf hz0 hz1 hz2 _ N2 rfl (HT5.out.rn.allocd _) ⟨#[0]⟩ 1 rfl (by decide) ⟨w25.heap.size, 0, none⟩ 1 rfl (one_cell w25) (by have := HNL.out; have := HNM.out; have := HNZ.out; have := HN2Z.out; omega) (by have := HT5.out.bw.size; simp; omega) ?_; intro v26 w26 hrow26 hgr26; have HR26 := hid hrow26; have HG26 := hid hgr26; clear hrow26 hgr26; have HT6 := hid ((HT5.out.bw' ((Bw.refl w25).alloc _)).setN HR26.out HG26.out); have HM6 := hid (HG26.out.has (HT5.out.rn.allocd _) (HM5.out.alloc _) (by decide)); clear HR26 HG26))
            clear HT4 HT5 HM4 HM5 HTC HXC HMC HX4 HX2 HM2 HT2
            rw [← HNX.out.2.1, ← HNX.out.2.2] at HT6
            exact ⟨⟨j + 1, by omega, by go_num, HT6.out, HM6.out⟩, by simp [intOf]; omega⟩
        · obtain rfl : k = j := by omega
          have HNPOS := hid (show 0 < (namesT m.secs).size ∧ (namesT m.secs).size ≤ 1002012 from by
            have h1 := names_size m.secs ⟨#[]⟩
            have h2 := HNM.out
            show 0 < (nmsT (allL m.secs ⟨#[]⟩)).size ∧ (nmsT (allL m.secs ⟨#[]⟩)).size ≤ 1002012
            omega)
          obtain ⟨y, hy⟩ := row_get m (i := k + 1) (by have := HIN.out.hk; omega)
          obtain ⟨nx1, nx2, nx3, nx4, nx5⟩ := doc_next hy
          have hyl := row_last m (y := y) (by rw [HIN.out.hk]; exact hy)
          obtain ⟨da, dh, dn⟩ := doc_all (m := m)
          rw [HIN.out.hk] at da dh dn
          have HEND := hid (doc_end m (wHead m) rfl)
          have HSA := hid (show (datT (wRow m) (docS m)).size = endG (allP m.secs) (wP m) from by
            have q := docD_size m (k + 2)
            rw [da] at q
            rw [q, List.take_of_length_le (by rw [allP_len, HIN.out.hk]; exact Nat.le_refl _)])
          have HHS := hid (show (shsT (wRow m)).size = 64 * (k + 2) from by rw [shsT_size, wRow_len, HIN.out.hk])
          have HWH := hid (show (wHead m).size = 64 from headT_size _ _ _ _ _ _ _)
          obtain ⟨⟨x, na⟩, at0⟩ := y
          change x = _ at hyl
          subst hyl
          change _ = putT _ (namesT m.secs) at nx1
          change _ = docN m (k + 1) ++ ⟨#[46, 115, 104, 115, 116, 114, 116, 97, 98]⟩ ++ ⟨#[0]⟩ at nx3
          change na = _ at nx4
          change at0 = if (namesT m.secs).size = 0 then 0 else al8 _ at nx5
          rw [if_neg (by have := HNPOS.out; omega)] at nx5
          have da2 := nx1.symm.trans da
          have dh2 := nx2.symm.trans dh
          have dn2 := nx3.symm.trans dn
          rw [app_as, show (⟨#[46, 115, 104, 115, 116, 114, 116, 97, 98]⟩ : ByteArray) ++ ⟨#[0]⟩ = ⟨#[46, 115, 104, 115, 116, 114, 116, 97, 98, 0]⟩ from rfl] at dn2
          unfold putT at da2
          rw [if_neg (by have := HNPOS.out; omega)] at da2
          obtain ⟨FF, hFF⟩ : ∃ F, datT (wRow m) (docS m) = F := ⟨_, rfl⟩
          obtain ⟨HX, hHX⟩ : ∃ F, shsT (wRow m) = F := ⟨_, rfl⟩
          obtain ⟨T, hTT⟩ : ∃ F, namesT m.secs = F := ⟨_, rfl⟩
          rw [hFF] at da2 HEND HSA
          rw [hHX] at dh2 HEND HHS
          rw [hTT] at dn2 da2 HNPOS dh2
          obtain ⟨D, hD⟩ : ∃ D, docD m (k + 1) = D := ⟨_, rfl⟩
          obtain ⟨NN, hN⟩ : ∃ D, docN m (k + 1) = D := ⟨_, rfl⟩
          obtain ⟨HH, hH⟩ : ∃ D, docH m (k + 1) = D := ⟨_, rfl⟩
          rw [hD] at da2 nx5 HT HDL ⊢
          rw [hN] at dn2 nx4 HT HNL ⊢
          rw [hH] at dh2 HT HHL ⊢
          obtain ⟨E, hE⟩ : ∃ E, D ++ zerosT (pad8 D.size) = E := ⟨_, rfl⟩
          have hEz : E.size = al8 D.size := by rw [← hE, ByteArray.size_append, zerosT_size]; rfl
          rw [hE] at da2
          rw [← hEz] at nx5
          subst nx4 nx5
          obtain ⟨G, hG⟩ : ∃ G, FF ++ zerosT (pad8 FF.size) = G := ⟨_, rfl⟩
          have hGz : G.size = al8 FF.size := by rw [← hG, ByteArray.size_append, zerosT_size]; rfl
          rw [hG] at HEND
          obtain ⟨II, hII⟩ : ∃ x, G ++ HX = x := ⟨_, rfl⟩
          have HII := hid hII
          have HIZ := hid (show II.size = G.size + HX.size from by rw [← hII, ByteArray.size_append])
          rw [hII] at HEND
          clear hII
          have HE9 := hid (show E.size ≤ 8000000 from by rw [hEz]; have := al8_lt D.size; have := HDL.out; have := HEN.out; omega)
          have HF9 := hid (show FF.size ≤ 8000000 from by have := HSA.out; have := HEN.out; omega)
          have HG9 := hid (show G.size ≤ 8000008 ∧ 0 < G.size + HX.size from by rw [hGz]; have := al8_lt FF.size; have := HF9.out; have := HHS.out; omega)
          have HGS := hid (show al8 (endG (allP m.secs) (wP m)) = G.size from by rw [hGz, HSA.out])
          have HDN := hid dn2
          have HDA := hid da2
          have HDH := hid dh2
          have HEE := hid hE
          have HGG := hid hG
          have HSH := hid (show (shTx ((shS T, NN.size), E.size)).size = 64 from shT_size _ _ _ _ _ _ _ _ _ _)
          have HSEC := hid (fun W => (show Calls Try.prog 39 #[.agg #[.string ⟨#[]⟩, .int .i64 3, .int .u64 0, .int .u64 0, .string ⟨#[]⟩, .int .i64 0, .int .i64 0, .int .i64 0, .int .u64 1, .int .u64 0], .int .i64 NN.size, .int .i64 E.size, .int .i64 T.size] W fun e w' => e = .returned (.string (shTx ((shS T, NN.size), E.size))) ∧ Bw W w' from
            dsection_any ⟨#[]⟩ ⟨#[]⟩ 0 3 0 0 T.size 0 0 1 0 NN.size E.size (by decide) (by decide) (by decide) (by have := HNPOS.out; omega) (by decide) (by decide) (by decide) (by decide) (by have := HNL.out; have := HNM.out; omega) (by have := HE9.out; omega) W))
          obtain ⟨SH, hSH⟩ : ∃ S, shTx ((shS T, NN.size), E.size) = S := ⟨_, rfl⟩
          rw [hSH] at HSEC HSH HDH
          have HHD := hid (fun W => dhead_m HV.out HIN.out.ent HIN.out.hn HIN.out.hk G.size HGS.out (by have := HG9.out; omega) a b c d W)
          have HH9 := hid (show HH.size ≤ 100000 from by have := HHL.out; have := HSM.out.sec; omega)
          clear nx1 nx2 nx3 da dh dn da2 dh2 dn2 hFF hHX hTT hD hN hH hE hEz hG hGz hSH hy HHL ht hm
          go_wp2_with (at_builtin; refine wpList_app_strG rfl _ _ 40 9 rfl w.heap.size Try.underlying40 Try.underlying9 hinf hz0 hz1 hz2 _ NN rfl HT.out.rn ⟨#[46, 115, 104, 115, 116, 114, 116, 97, 98, 0]⟩ rfl (by have := HNL.out; have := HNM.out; have hl10 : (⟨#[46, 115, 104, 115, 116, 114, 116, 97, 98, 0]⟩ : ByteArray).size = 10 := rfl; omega) HT.out.bw.size ?_; intro v28 w28 hrow28 hgr28; rw [HDN.out] at hrow28; have HR28 := hid hrow28; have HG28 := hid hgr28; clear hrow28 hgr28; obtain ⟨gn2, cn, hvn, -⟩ := HR28.out.slot HNPOS.out.1; subst hvn; have HT1 := hid (HT.out.setN HR28.out HG28.out); have HM1 := hid (HG28.out.has HT.out.rn HM.out (by decide)); clear HR28 HG28)
          refine (even_any w.heap.size (.slice a5 D.size c5) D (by have := HDL.out; have := HEN.out; omega) _ HT1.out.bw.size HT1.out.rb).mono ?_
          rintro e wy ⟨vy, rfl, hry, hgy⟩
          rw [HEE.out] at hry
          have HT2 := hid (HT1.out.setB hry hgy)
          have HM2 := hid (hgy.has HT1.out.rb HM1.out (by decide))
          obtain ⟨a6, c6, rfl⟩ := hry.slice
          clear hry hgy HT1 HM1
          go_wp2_with fail
          refine (HSEC.out _).mono ?_
          rintro e wz ⟨rfl, hbz⟩
          have HT3 := hid (HT2.out.bw' hbz)
          have HM3 := hid (hbz.has HM2.out)
          clear hbz HT2 HM2
          go_wp2_with (first | (at_builtin; refine wpList_app_strG rfl _ _ 40 9 rfl w.heap.size Try.underlying40 Try.underlying9 hinf hz0 hz1 hz2 _ HH rfl HT3.out.rh SH rfl (by have := HH9.out; have := HSH.out; omega) HT3.out.bw.size ?_; intro v30 w30 hrow30 hgr30; rw [HDH.out] at hrow30; have HR30 := hid hrow30; have HG30 := hid hgr30; clear hrow30 hgr30; obtain ⟨gh2, ch, hvh, -⟩ := HR30.out.slot (by have := HHS.out; omega); subst hvh; have HT4 := hid (HT3.out.setH HR30.out HG30.out); have HM4 := hid (HG30.out.has HT3.out.rh HM3.out (by decide)); clear HR30 HG30) | (at_builtin; refine wpList_app_rowG rfl _ _ 40 rfl w.heap.size Try.underlying40 hinf hz0 hz1 hz2 _ E rfl HT4.out.rb T T.size rfl HNPOS.out.1 ⟨gn2, 0, none⟩ cn rfl HT4.out.rn.cells (by have := HE9.out; have := HNPOS.out; omega) HT4.out.bw.size ?_; intro v31 w31 hrow31 hgr31; rw [HDA.out] at hrow31; have HT5 := hid (HT4.out.setB hrow31 hgr31); have HM5 := hid (hgr31.has HT4.out.rb HM4.out (by decide)); clear hrow31 hgr31))
          refine (even_any w.heap.size v31 FF (by have := HF9.out; omega) _ HT5.out.bw.size HT5.out.rb).mono ?_
          rintro e wy2 ⟨vy2, rfl, hry, hgy⟩
          rw [HGG.out] at hry
          have HT6 := hid (HT5.out.setB hry hgy)
          have HM6 := hid (hgy.has HT5.out.rb HM5.out (by decide))
          obtain ⟨a7, c7, rfl⟩ := hry.slice
          clear hry hgy HT3 HM3 HT4 HM4 HT5 HM5
          go_upto_region 35 with (at_builtin; refine wpList_app_rowG rfl _ _ 40 rfl w.heap.size Try.underlying40 hinf hz0 hz1 hz2 _ G rfl HT6.out.rb HX HX.size rfl (by have := HHS.out; omega) ⟨gh2, 0, none⟩ ch rfl HT6.out.rh.cells (by have := HG9.out; have := HHS.out; omega) HT6.out.bw.size ?_; intro v34 w34 hrow34 hgr34; rw [HII.out] at hrow34; have HT7 := hid (HT6.out.setB hrow34 hgr34); have HM7 := hid (hgr34.has HT6.out.rb HM6.out (by decide)); clear hrow34 hgr34)
          obtain ⟨p34, q34, rfl⟩ := HT7.out.rb.slice
          refine wp_region_list ?_
          refine wpList_plain rfl fun K hK => ?_
          go_simp
          refine hK _ _ ?_
          clear hK K
          refine wpList_load_mid rfl 27 (.tmp 1) rfl (mb) 0 rfl [.int .i64 m.typ, .int .i64 m.mac, .int .u64 m.ent, .int .i64 m.flg, .slice a n c, .slice b k d] _ HM7.out.range Try.underlying27 rfl inf_ElfW ?_
          go_wp2_with fail
          refine (HHD.out _).mono ?_
          rintro e wh ⟨rfl, hbh⟩
          have HT8 := hid (HT7.out.bw' hbh)
          clear hbh HT6 HM6 HT7 HM7
          obtain ⟨w35, hrun, hrow35, hg35⟩ := copyM_run (P := Try.prog) 40 9 3 w.heap.size Try.underlying40 hinf hz1 _ II HT8.out.rb (wHead m) (by rw [HIZ.out]; exact HG9.out.2) (by have := HWH.out; have := HHS.out; rw [HIZ.out]; omega)
          rw [HEND.out] at hrow35
          have HBW := hid (HT8.out.rb.grown hg35 HT8.out.bw HT8.out.bw.size)
          have HCV := hid (convM hrow35)
          have HRUN := hid hrun
          clear hrow35 hg35 hrun
          go_wp2_with fail
          rw [HRUN.out]
          go_wp2_with fail
          rw [HCV.out]
          go_wp2_with fail
          go_returns
          exact HQT.out _ _ HBW.out HV.out rfl
end Go.Proofs.Ytciaebhkemdilaa
