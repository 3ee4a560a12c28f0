/- Write (contract of the function). -/
import Derived.Test.YtciaebhkemdilaaElfYd
namespace Go.Proofs.Ytciaebhkemdilaa
open Go.RowKit Go.Conc
set_option linter.unusedVariables false
set_option linter.unusedSimpArgs false
def WriteQ (m : ElfR) (w : World) (e : Ending) (w' : World) : Prop := Bw w w' ∧ ((validB m = true ∧ e = .returned (.tuple #[.string (writeT m), .int .i64 0])) ∨ (validB m = false ∧ e = .returned (.tuple #[.string ⟨#[]⟩, .int .i64 1])))
theorem inf_ElfW : (Try.prog.info? 27).map (·.size) = some 6 := by kernel_rfl
theorem WOk.keeps {B b g : Nat} {s : ByteArray} {w w' : World} {cur : Array Value} (h : WOk B b s w) (hk : Keeps (· = g) w w') (hg : w.heap[g]? = some (.cells cur 74 (0, 0))) : WOk B b s w' := by
  obtain ⟨u, h1, v, h2, h3⟩ := h
  have hg2 : Has w g 74 cur := hg
  refine ⟨u, h1, v, hk.has h2 (fun e => has_apart h2 hg2 (by decide) e), own_keep h3 fun i hi => hk.block i (own_lt h3 hi) fun e => own_ne_has h3 hg2 (by decide) (by rw [hi, e])⟩
theorem rowW {B b z n : Nat} {t0 : TypeId} {v : Value} {xs : List Value} {s : ByteArray} {w w' : World} (ho : w.ownsRow B t0 z v n xs) (hk : BKeeps B b w w') (hw : WOk B b s w) (h1 : t0 ≠ 69) (h2 : t0 ≠ 5) : w'.ownsRow B t0 z v n xs :=
  own_keep ho fun i hi => by
    obtain ⟨cur, hc⟩ := own_at ho hi
    exact hk.2.2 i (own_lt ho hi) (WOk.ne hw (show Has w i t0 cur from hc) h1) fun c fr e => by
      rw [hc] at e
      injection e with e
      injection e with _ e
      exact h2 e
theorem own_lower {B C z n : Nat} {t0 : TypeId} {v : Value} {xs : List Value} {w : World} (h : w.ownsRow C t0 z v n xs) (hB : B ≤ C) : w.ownsRow B t0 z v n xs := by
  refine ⟨h.1, ?_⟩
  rcases h.2 with h1 | ⟨g', cap, cur, h1, h2, h3⟩
  · exact .inl h1
  · exact .inr ⟨g', cap, cur, h1, Nat.le_trans hB h2, h3⟩
theorem valid_few {m : ElfR} (h : validB m = true) : m.segs.length ≤ 1000 ∧ m.secs.length ≤ 1000 := by
  unfold validB betB inB at h
  simp only [Bool.and_eq_true, List.all_cons, List.all_nil, Bool.and_true, decide_eq_true_eq] at h
  omega
theorem valid_nats {m : ElfR} (h : validB m = true) : (0 ≤ m.typ ∧ m.typ ≤ 65535) ∧ (0 ≤ m.mac ∧ m.mac ≤ 65535) ∧ (0 ≤ m.flg ∧ m.flg ≤ 4294967295) := by
  unfold validB betB inB at h
  simp only [Bool.and_eq_true, List.all_cons, List.all_nil, Bool.and_true, decide_eq_true_eq] at h
  omega
theorem valid_segs {m : ElfR} (h : validB m = true) (x : SegR) (hx : x ∈ m.segs) : (0 ≤ x.typ ∧ x.typ ≤ 4294967295) ∧ (0 ≤ x.flg ∧ x.flg ≤ 4294967295) ∧ (0 ≤ x.off ∧ x.off ≤ 1099511627776) ∧ (0 ≤ x.fsz ∧ x.fsz ≤ 1099511627776) := by
  unfold validB at h
  simp only [Bool.and_eq_true, List.all_eq_true] at h
  have h1 := h.2.2.2.1 x hx
  unfold segOk betB inB at h1
  simp only [Bool.and_eq_true, List.all_cons, List.all_nil, Bool.and_true, decide_eq_true_eq] at h1
  omega
theorem wseg_m {m : ElfR} (hv : validB m = true) (x : SegR) (hx : x ∈ m.segs) (hok : x.Ok) (B b : Nat) (s : ByteArray) (hs : s.size ≤ 90000000) (w : World) (hB : B ≤ w.heap.size) (h : WOk B b s w) :
    Calls Try.prog 31 #[.pointer (some ⟨b, 0, none⟩), .agg #[.int .i64 x.typ, .int .i64 x.flg, .int .i64 x.off, .int .u64 x.vad, .int .u64 x.pad, .int .i64 x.fsz, .int .u64 x.msz, .int .u64 x.aln]] w fun e w' => e = .returned (.tuple #[]) ∧ WOk B b (s ++ segTx x) w' ∧ BKeeps B b w w' := by
  obtain ⟨⟨t0, t1⟩, ⟨f0, f1⟩, ⟨o0, o1⟩, z0, z1⟩ := valid_segs hv x hx
  unfold SegR.Ok at hok
  have h1 := wsegment_any x.typ.toNat x.flg.toNat x.off.toNat x.vad x.pad x.fsz.toNat x.msz x.aln (by omega) (by omega) (by omega) (by omega) (by omega) (by omega) (by omega) (by omega) B b s hs w hB h
  rw [Int.toNat_of_nonneg t0, Int.toNat_of_nonneg f0, Int.toNat_of_nonneg o0, Int.toNat_of_nonneg z0] at h1
  exact h1
def RowOk (y : (SecR × Nat) × Nat) : Prop := (0 ≤ y.1.1.typ ∧ y.1.1.typ ≤ 4294967295) ∧ y.1.1.flg < 18446744073709551616 ∧ y.1.1.adr < 18446744073709551616 ∧ (0 ≤ y.1.1.siz ∧ y.1.1.siz ≤ 1099511627776) ∧ (0 ≤ y.1.1.lnk ∧ y.1.1.lnk ≤ 4294967295) ∧ (0 ≤ y.1.1.inf ∧ y.1.1.inf ≤ 4294967295) ∧ y.1.1.aln < 18446744073709551616 ∧ y.1.1.eac < 18446744073709551616 ∧ y.1.2 < 4294967296 ∧ y.2 < 18446744073709551616 ∧ y.1.1.dat.size ≤ 1000000000
theorem wsec_m (y : (SecR × Nat) × Nat) (hy : RowOk y) (B b : Nat) (s : ByteArray) (hs : s.size ≤ 90000000) (w : World) (hB : B ≤ w.heap.size) (h : WOk B b s w) :
    Calls Try.prog 34 #[.pointer (some ⟨b, 0, none⟩), .agg #[.string y.1.1.nam, .int .i64 y.1.1.typ, .int .u64 y.1.1.flg, .int .u64 y.1.1.adr, .string y.1.1.dat, .int .i64 y.1.1.siz, .int .i64 y.1.1.lnk, .int .i64 y.1.1.inf, .int .u64 y.1.1.aln, .int .u64 y.1.1.eac, .int .i64 y.1.2, .int .i64 y.2]] w fun e w' => e = .returned (.tuple #[]) ∧ WOk B b (s ++ shTx y) w' ∧ BKeeps B b w w' := by
  obtain ⟨⟨t0, t1⟩, h2, h3, ⟨z0, z1⟩, ⟨l0, l1⟩, ⟨i0, i1⟩, h7, h8, h9, h10, h11⟩ := hy
  have h1 := wsection_any y.1.1.nam y.1.1.dat y.1.1.typ.toNat y.1.1.flg y.1.1.adr y.1.1.siz.toNat y.1.1.lnk.toNat y.1.1.inf.toNat y.1.1.aln y.1.1.eac y.1.2 y.2 (by omega) h2 h3 (by omega) (by omega) (by omega) h7 h8 h9 h10 h11 B b s hs w hB h
  rw [Int.toNat_of_nonneg t0, Int.toNat_of_nonneg z0, Int.toNat_of_nonneg l0, Int.toNat_of_nonneg i0] at h1
  exact h1
theorem whead_m {m : ElfR} (hv : validB m = true) (hen : m.ent < 18446744073709551616) {n k : Nat} (hn : m.segs.length = n) (hk : m.secs.length = k) (sA : Nat) (hsA : sA < 18446744073709551616) (a b2 : Option Addr) (c d B b : Nat) (w : World) (hB : B ≤ w.heap.size) (h : WOk B b ⟨#[]⟩ w) :
    Calls Try.prog 29 #[.pointer (some ⟨b, 0, none⟩), .agg #[.int .i64 m.typ, .int .i64 m.mac, .int .u64 m.ent, .int .i64 m.flg, .slice a n c, .slice b2 k d], .int .i64 sA] w fun e w' => e = .returned (.tuple #[]) ∧ WOk B b (headT m.typ.toNat m.mac.toNat m.ent m.flg.toNat sA n k) w' ∧ BKeeps B b w w' := by
  obtain ⟨⟨t0, t1⟩, ⟨a0, a1⟩, f0, f1⟩ := valid_nats hv
  have hf := valid_few hv
  have h1 := whead_any m.typ.toNat m.mac.toNat m.ent m.flg.toNat sA n k a b2 c d (by omega) (by omega) hen (by omega) hsA (by omega) (by omega) B b ⟨#[]⟩ (by decide) w hB h
  rw [Int.toNat_of_nonneg t0, Int.toNat_of_nonneg a0, Int.toNat_of_nonneg f0, nil_app] at h1
  exact h1
set_option maxRecDepth 100000 in
set_option maxHeartbeats 8000000 in
theorem ewrite_any (m : ElfR) (a b : Option Addr) (n c k d : Nat) (hn : m.segs.length = n) (hk : m.secs.length = k) (hn9 : n ≤ 100000) (hk9 : k ≤ 100000) (hsm : endG (allP m.secs) (wP m) ≤ 80000000 ∧ (nmsT m.secs).size ≤ 80000000) (w : World) (hen : m.ent < 18446744073709551616) (hro : validB m = true → ∀ y ∈ wRow m, RowOk y) (hsg : SegAt w a m.segs) (hsc : SecAt w b m.secs) :
    Calls Try.prog 15 #[.agg #[.int .i64 m.typ, .int .i64 m.mac, .int .u64 m.ent, .int .i64 m.flg, .slice a n c, .slice b k d]] w (WriteQ m w) := by
  have HB1 := hid ((Bw.refl w).alloc (.cells #[.int .i64 m.typ, .int .i64 m.mac, .int .u64 m.ent, .int .i64 m.flg, .slice a n c, .slice b k d] 27))
  have HM1 := hid (Has.new w 27 #[.int .i64 m.typ, .int .i64 m.mac, .int .u64 m.ent, .int .i64 m.flg, .slice a n c, .slice b k d])
  obtain ⟨mb, hmb⟩ : ∃ mb, w.heap.size = mb := ⟨_, rfl⟩
  have HMB := hid hmb
  rw [hmb] at HM1
  have HSG := hid hsg
  have HSC := hid hsc
  have HN := hid hn
  have HK := hid hk
  have HVA := hid (fun W (h1 : SegAt W a m.segs) (h2 : SecAt W b m.secs) => isValid_any m a b n c k d hn hk hn9 hk9 W h1 h2)
  have HAL := hid (fun (h : k ≤ 1500) W (h2 : SecAt W b m.secs) => all_any m.secs b k d hk h (by omega) W h2)
  have HSM := hid hsm.1
  have HQT := hid (fun e w' (hb : Bw w w') (hv : validB m = true) (he : e = .returned (.tuple #[.string (writeT m), .int .i64 0])) => (show WriteQ m w e w' from ⟨hb, .inl ⟨hv, he⟩⟩))
  have HQF := hid (fun e w' (hb : Bw w w') (hv : validB m = false) (he : e = .returned (.tuple #[.string ⟨#[]⟩, .int .i64 1])) => (show WriteQ m w e w' from ⟨hb, .inr ⟨hv, he⟩⟩))
  have HRO := hid hro
  clear hsg hsc hn hk hsm hro
  go_enter Try.func15, Try.ntmps15
  go_upto_region 1 with fail
  generalize w.alloc (.cells #[.int .i64 m.typ, .int .i64 m.mac, .int .u64 m.ent, .int .i64 m.flg, .slice a n c, .slice b k d] 27) = w1 at *
  clear hmb
  refine wp_region_list ?_
  refine wpList_load_mid rfl 27 (.tmp 1) rfl mb 0 rfl [.int .i64 m.typ, .int .i64 m.mac, .int .u64 m.ent, .int .i64 m.flg, .slice a n c, .slice b k d] _ HM1.out.range Try.underlying27 rfl inf_ElfW ?_
  go_wp2_with fail
  refine (HVA.out w1 (HSG.out.below HB1.out) (HSC.out.below HB1.out)).mono ?_
  rintro e w2 ⟨rfl, hb2⟩
  have HB2 := hid (HB1.out.trans hb2)
  have HM2 := hid (hb2.has HM1.out)
  clear hb2 HM1 HB1 HVA
  cases q : validB m with
  | false =>
    have HF := hid (HQF.out · w2 HB2.out q)
    clear q
    go_wp2
    go_returns
    exact HF.out _ rfl
  | true =>
  have HQ := hid q
  have HFEW := hid (valid_few q)
  clear q HQF
  have c5 : w2.cell? ⟨mb, 5, none⟩ = some (.slice b k d) := HM2.out.cell 5
  go_wp2_with fail
  refine (HAL.out (by have := HFEW.out.2; rw [HK.out] at this; omega) w2 (HSC.out.below HB2.out)).mono ?_
  rintro e w3 ⟨hb3, g, cp, rfl, hown⟩
  have HB3 := hid (HB2.out.trans hb3)
  have HM3 := hid (hb3.has HM2.out)
  have HO3 := hid (own_lower (B := mb) hown (by rw [← HMB.out]; exact HB2.out.size))
  have HW4 := hid (show WOk mb w3.heap.size ⟨#[]⟩ (w3.alloc (.cells #[.pointer none, .slice none 0 0] 69)) from ⟨false, WB.Bld.fresh w3 mb (by rw [← HMB.out]; exact HB3.out.size)⟩)
  have HB4 := hid (HB3.out.alloc (.cells #[.pointer none, .slice none 0 0] 69))
  have HM4 := hid (HM3.out.alloc (.cells #[.pointer none, .slice none 0 0] 69))
  have HO4 := hid (((Bw.refl w3).alloc (.cells #[.pointer none, .slice none 0 0] 69)).own HO3.out)
  obtain ⟨wb, hwb⟩ : ∃ wb, w3.heap.size = wb := ⟨_, rfl⟩
  rw [hwb] at HW4
  clear hb3 hown HB3 HM3 HO3 HB2 HM2 HAL c5
  go_upto_region 5 with fail
  generalize w3.alloc (.cells #[.pointer none, .slice none 0 0] 69) = w4 at *
  clear hwb
  have HMS := hid (show mb ≤ w4.heap.size by rw [← HMB.out]; exact HB4.out.size)
  obtain ⟨p, hp⟩ : ∃ p, wP m = p := ⟨_, rfl⟩
  have hpn : p = 64 + 56 * n := by rw [← hp, ← HN.out]; rfl
  have hn1 : n ≤ 1000 := by rw [← HN.out]; exact HFEW.out.1
  have hk1 : k ≤ 1000 := by rw [← HK.out]; exact HFEW.out.2
  have HSZ := HSM.out
  rw [hp] at HSZ
  have HP := hid hp
  have HPLC := hid (place_any mb g cp (k + 2) (allP m.secs) (by rw [allP_len, HK.out]) (by omega) p (by omega) w4.drew HMS.out (((Bw.refl w4).drewN 1).own HO4.out))
  have v1 : IntKind.i64.wrap (56 * (n : Int)) = 56 * (n : Int) := IntWalk.i64_in _ (by omega)
  have v2 : IntKind.i64.wrap (64 + 56 * (n : Int)) = (p : Int) := (IntWalk.i64_in _ (by omega)).trans (by omega)
  obtain ⟨sA, hsA⟩ : ∃ sA, al8 (endG (allP m.secs) p) = sA := ⟨_, rfl⟩
  have hsA2 : sA < 18446744073709551616 := by rw [← hsA]; unfold al8; have := pad8_le (endG (allP m.secs) p); omega
  have HHD := hid (fun W (hB : mb ≤ W.heap.size) (h : WOk mb wb ⟨#[]⟩ W) => whead_m HQ.out hen HN.out HK.out sA hsA2 a b c d mb wb W hB h)
  have HSA := hid hsA
  rw [hsA] at HPLC
  have HW4D := hid (HW4.out.bw ((Bw.refl w4).drewN 1))
  have HM4D := hid (Has.drew HM4.out)
  obtain ⟨cur, hcur⟩ := own_at HO4.out (b := g) rfl
  have HGC := hid (show Has w4.drew g 74 cur from hcur)
  clear hp hpn hn1 hk1 HSZ hsA hsA2 hcur
  have y0 : w4.cell? ⟨mb, 0, none⟩ = some (.int .i64 m.typ) := HM4.out.cell 0
  have y1 : w4.cell? ⟨mb, 1, none⟩ = some (.int .i64 m.mac) := HM4.out.cell 1
  have y2 : w4.cell? ⟨mb, 2, none⟩ = some (.int .u64 m.ent) := HM4.out.cell 2
  have y3 : w4.cell? ⟨mb, 3, none⟩ = some (.int .i64 m.flg) := HM4.out.cell 3
  have y4 : w4.cell? ⟨mb, 4, none⟩ = some (.slice a n c) := HM4.out.cell 4
  have y5 : w4.cell? ⟨mb, 5, none⟩ = some (.slice b k d) := HM4.out.cell 5
  go_region_law (first | (go_simp; go_at_call 30; refine HPLC.out.mono ?_; rintro e w5 ⟨rfl, ho5, hk5⟩; have HO5 := hid ho5; have HK5 := hid hk5; have HM5 := hid (hk5.has HM4D.out (fun e => has_apart HM4D.out HGC.out (by decide) e)); have HW5 := hid (HW4D.out.keeps hk5 HGC.out); have HMS5 := hid (Nat.le_trans HMS.out hk5.size); have z0 : w5.cell? ⟨mb, 0, none⟩ = some (.int .i64 m.typ) := HM5.out.cell 0; have z1 : w5.cell? ⟨mb, 1, none⟩ = some (.int .i64 m.mac) := HM5.out.cell 1; have z2 : w5.cell? ⟨mb, 2, none⟩ = some (.int .u64 m.ent) := HM5.out.cell 2; have z3 : w5.cell? ⟨mb, 3, none⟩ = some (.int .i64 m.flg) := HM5.out.cell 3; have z4 : w5.cell? ⟨mb, 4, none⟩ = some (.slice a n c) := HM5.out.cell 4; have z5 : w5.cell? ⟨mb, 5, none⟩ = some (.slice b k d) := HM5.out.cell 5; clear ho5 hk5) | (go_simp; go_at_call 29; refine (HHD.out _ HMS5.out HW5.out).mono ?_; rintro e w6 ⟨rfl, hw6, hk6⟩; have HW6 := hid hw6; have HK6 := hid hk6; clear hw6 hk6))
  all_goals
    have HM6 := hid (HK6.out.has HM5.out (WOk.ne HW5.out HM5.out (by decide)) (by decide))
    have HO6 := hid (rowW HO5.out HK6.out HW5.out (by decide) (by decide))
    have HB6 := hid (show Below mb w w6 from (by rw [← HMB.out]; exact HB4.out.trans ((Bw.refl w4).drewN 1) : Below mb w w4.drew).trans ((HK5.out.below (B := mb) HMS.out (fun i hi => by rw [hi]; exact own_ge HO5.out rfl)).trans HK6.out.1))
    have HHT := hid (show headT m.typ.toNat m.mac.toNat m.ent m.flg.toNat sA n k = wHead m from by unfold wHead; rw [HP.out, HSA.out, HN.out, HK.out])
    have HRW := hid (show atG (allP m.secs) p = wRow m from by unfold wRow; rw [HP.out])
    rw [HHT.out] at HW6
    rw [HRW.out] at HO6
    clear z0 z1 z2 z3 z4 z5 y0 y1 y2 y3 y4 y5 v1 v2 HM5 HO5 HK5 HW5 HMS5 HM4 HM4D HO4 HW4 HW4D HB4 HPLC HHD HGC HK6 HMS HHT HRW
    have c4 : w6.cell? ⟨mb, 4, none⟩ = some (.slice a n c) := HM6.out.cell 4
    go_wp2
    clear c4
    have hn1 : n ≤ 1000 := by rw [← HN.out]; exact HFEW.out.1
    go_loopw [33] (fun vj wr => ∃ j : Nat, j ≤ n ∧ vj = .int .i64 j ∧ WOk mb wb (wHead m ++ segsT (m.segs.take j)) wr ∧ wr.ownsRow mb 74 12 (.slice (some ⟨g, 0, none⟩) (k + 2) cp) (k + 2) (plaCells (wRow m)) ∧ Below mb w wr) (fun vj _ => n - (intOf vj).toNat)
    case atStart => exact ⟨0, by omega, rfl, by rw [List.take_zero, segsT, app_nil]; exact HW6.out, HO6.out, HB6.out⟩
    case round =>
      rename World => wr
      obtain ⟨j, hj, rfl, hw, hown, hbl⟩ := hrel
      have HW := hid hw
      have HOW := hid hown
      have HBL := hid hbl
      by_cases hlt : j < n
      · have c0 : (j : Int) < n := by omega
        have hjl : j < m.segs.length := by rw [HN.out]; exact hlt
        obtain ⟨ab, ao, rfl, hok, hrg⟩ := seg_range (HSG.out.below (show Below w.heap.size w wr by rw [HMB.out]; exact hbl)) j hjl
        have HRG := hid hrg
        have HLT := hid hlt
        have HV := hid (show wrap64 ((j : Int) + 1) = ((j + 1 : Nat) : Int) by unfold wrap64; omega)
        have HST := hid (segsT_take hjl)
        have HSZ := hid (show (wHead m ++ segsT (m.segs.take j)).size ≤ 90000000 from by rw [ByteArray.size_append, wHead, headT_size, segsT_size, List.length_take]; omega)
        have HCALL := hid (fun W (hB : mb ≤ W.heap.size) (h : WOk mb wb _ W) => wseg_m HQ.out m.segs[j] (List.getElem_mem _) hok mb wb _ HSZ.out W hB h)
        obtain ⟨x, hx⟩ : ∃ x, m.segs[j] = x := ⟨_, rfl⟩
        rw [hx] at HRG HST HCALL
        have HX1 := hid (Has.new wr 61 #[.int .i64 x.typ, .int .i64 x.flg, .int .i64 x.off, .int .u64 x.vad, .int .u64 x.pad, .int .i64 x.fsz, .int .u64 x.msz, .int .u64 x.aln])
        have HBA := hid ((Bw.refl wr).alloc (.cells #[.int .i64 x.typ, .int .i64 x.flg, .int .i64 x.off, .int .u64 x.vad, .int .u64 x.pad, .int .i64 x.fsz, .int .u64 x.msz, .int .u64 x.aln] 61))
        have HMZ := hid (show mb ≤ wr.heap.size from by rw [← HMB.out]; exact (show Below w.heap.size w wr by rw [HMB.out]; exact hbl).size)
        clear hw hown hbl hok hrg hx hjl
        go_upto_region 8 with fail
        refine wp_region_list ?_
        refine wpList_plain rfl fun K hK => ?_
        go_simp
        refine hK _ _ ?_
        clear hK K
        refine wpList_load_mid rfl 61 (.tmp 35) rfl ab (ao + j * 8) rfl [.int .i64 x.typ, .int .i64 x.flg, .int .i64 x.off, .int .u64 x.vad, .int .u64 x.pad, .int .i64 x.fsz, .int .u64 x.msz, .int .u64 x.aln] _ HRG.out Try.underlying61 rfl inf_Segment ?_
        go_upto_region 9 with fail
        obtain ⟨xb, hxb⟩ : ∃ xb, wr.heap.size = xb := ⟨_, rfl⟩
        rw [hxb] at HX1 ⊢
        generalize wr.alloc (.cells #[.int .i64 x.typ, .int .i64 x.flg, .int .i64 x.off, .int .u64 x.vad, .int .u64 x.pad, .int .i64 x.fsz, .int .u64 x.msz, .int .u64 x.aln] 61) = w7 at *
        have HW7 := hid (HW.out.bw HBA.out)
        have HO7 := hid (HBA.out.own HOW.out)
        have HB7 := hid (HBL.out.trans (Below.mono HBA.out HMZ.out))
        have HM7 := hid (Nat.le_trans HMZ.out HBA.out.size)
        clear hxb HW HOW HBL HBA HMZ HRG
        refine wp_region_list ?_
        refine wpList_plain rfl fun K hK => ?_
        go_simp
        refine hK _ _ ?_
        clear hK K
        refine wpList_load_mid rfl 61 (.tmp 7) rfl xb 0 rfl [.int .i64 x.typ, .int .i64 x.flg, .int .i64 x.off, .int .u64 x.vad, .int .u64 x.pad, .int .i64 x.fsz, .int .u64 x.msz, .int .u64 x.aln] _ HX1.out.range Try.underlying61 rfl inf_Segment ?_
        go_wp2_with fail
        refine (HCALL.out w7 HM7.out HW7.out).mono ?_
        rintro e w8 ⟨rfl, h8, hk8⟩
        have HW8 := hid h8
        have HO8 := hid (rowW HO7.out hk8 HW7.out (by decide) (by decide))
        have HB8 := hid (HB7.out.trans hk8.1)
        clear h8 hk8
        go_wp2
        exact ⟨⟨j + 1, HLT.out, by first | rw [HV.out] | rfl, by rw [HST.out, ← app_as]; exact HW8.out, HO8.out, HB8.out⟩, by have h1 := HLT.out; first | rw [HV.out] | skip; simp only [intOf]; omega⟩
      · obtain rfl : j = n := by omega
        have c0 : ¬ (j : Int) < j := by omega
        have HFT := hid (show m.segs.take j = m.segs from by rw [← HN.out, List.take_length])
        rw [HFT.out] at HW
        clear hw hown hbl HW6 HO6 HB6 HM6
        go_wp2
        have HWL := hid (wRow_len m)
        have HDZ := hid (show (wDat m).size ≤ 80000000 from by rw [wDat_size]; exact HSM.out)
        have hk1 : k ≤ 1000 := by rw [← HK.out]; exact HFEW.out.2
        go_loopw [43] (fun vi wq => ∃ i : Nat, i ≤ k + 2 ∧ vi = .int .i64 i ∧ WOk mb wb (datT ((wRow m).take i) (wHead m ++ segsT m.segs)) wq ∧ wq.ownsRow mb 74 12 (.slice (some ⟨g, 0, none⟩) (k + 2) cp) (k + 2) (plaCells (wRow m)) ∧ Below mb w wq) (fun vi _ => k + 2 - (intOf vi).toNat)
        case atStart => exact ⟨0, by omega, rfl, by rw [List.take_zero]; exact HW.out, HOW.out, HBL.out⟩
        case round =>
          rename World => wq
          obtain ⟨i, hi, rfl, hw, hown, hbl⟩ := hrel
          have HW1 := hid hw
          have HOW1 := hid hown
          have HBL1 := hid hbl
          clear HW HOW HBL
          by_cases hlt : i < k + 2
          · have c1 : (i : Int) < (k : Int) + 2 := by omega
            have hil : i < (wRow m).length := by rw [HWL.out, HK.out]; exact hlt
            have HLT := hid hlt
            have HV := hid (show wrap64 ((i : Int) + 1) = ((i + 1 : Nat) : Int) by unfold wrap64; omega)
            have hspl : wRow m = (wRow m).take i ++ (wRow m)[i] :: (wRow m).drop (i + 1) := by rw [← List.drop_eq_getElem_cons hil, List.take_append_drop]
            have hpl : ((wRow m).take i).length = i := by rw [List.length_take]; omega
            have HRG := hid (row_range (P := (wRow m).take i) (y := (wRow m)[i]) (R := (wRow m).drop (i + 1)) (by rw [← hspl]; exact hown) hpl hlt)
            have HDT := hid (datT_take hil (wHead m ++ segsT m.segs))
            have HD1 := hid (show (datT ((wRow m).take (i + 1)) (wHead m ++ segsT m.segs)).size ≤ 80000000 from Nat.le_trans (datT_part (wRow m) (i + 1) _) HDZ.out)
            rw [HDT.out] at HD1
            obtain ⟨y, hy⟩ : ∃ y, (wRow m)[i] = y := ⟨_, rfl⟩
            rw [hy] at HRG HDT HD1
            obtain ⟨s, hs⟩ : ∃ s, datT ((wRow m).take i) (wHead m ++ segsT m.segs) = s := ⟨_, rfl⟩
            rw [hs] at HW1 HDT HD1
            unfold plaCell at HRG
            have HX1 := hid (Has.new wq 74 #[.string y.1.1.nam, .int .i64 y.1.1.typ, .int .u64 y.1.1.flg, .int .u64 y.1.1.adr, .string y.1.1.dat, .int .i64 y.1.1.siz, .int .i64 y.1.1.lnk, .int .i64 y.1.1.inf, .int .u64 y.1.1.aln, .int .u64 y.1.1.eac, .int .i64 y.1.2, .int .i64 y.2])
            have HBA := hid ((Bw.refl wq).alloc (.cells #[.string y.1.1.nam, .int .i64 y.1.1.typ, .int .u64 y.1.1.flg, .int .u64 y.1.1.adr, .string y.1.1.dat, .int .i64 y.1.1.siz, .int .i64 y.1.1.lnk, .int .i64 y.1.1.inf, .int .u64 y.1.1.aln, .int .u64 y.1.1.eac, .int .i64 y.1.2, .int .i64 y.2] 74))
            have HMZ := hid (show mb ≤ wq.heap.size from by rw [← HMB.out]; exact (show Below w.heap.size w wq by rw [HMB.out]; exact hbl).size)
            clear hw hown hbl hspl hpl hy hs hil
            go_upto_region 13 with fail
            refine wp_region_list ?_
            refine wpList_plain rfl fun K hK => ?_
            go_simp
            refine hK _ _ ?_
            clear hK K
            refine wpList_load_mid rfl 74 (.tmp 45) rfl g (i * 12) (by simp [Act.eval]) [.string y.1.1.nam, .int .i64 y.1.1.typ, .int .u64 y.1.1.flg, .int .u64 y.1.1.adr, .string y.1.1.dat, .int .i64 y.1.1.siz, .int .i64 y.1.1.lnk, .int .i64 y.1.1.inf, .int .u64 y.1.1.aln, .int .u64 y.1.1.eac, .int .i64 y.1.2, .int .i64 y.2] _ HRG.out Try.underlying74 rfl inf_placed ?_
            go_upto_region 14 with fail
            obtain ⟨xb, hxb⟩ : ∃ xb, wq.heap.size = xb := ⟨_, rfl⟩
            rw [hxb] at HX1 ⊢
            generalize wq.alloc (.cells #[.string y.1.1.nam, .int .i64 y.1.1.typ, .int .u64 y.1.1.flg, .int .u64 y.1.1.adr, .string y.1.1.dat, .int .i64 y.1.1.siz, .int .i64 y.1.1.lnk, .int .i64 y.1.1.inf, .int .u64 y.1.1.aln, .int .u64 y.1.1.eac, .int .i64 y.1.2, .int .i64 y.2] 74) = w7 at *
            have HW7 := hid (HW1.out.bw HBA.out)
            have HO7 := hid (HBA.out.own HOW1.out)
            have HB7 := hid (HBL1.out.trans (Below.mono HBA.out HMZ.out))
            have HM7 := hid (Nat.le_trans HMZ.out HBA.out.size)
            clear hxb HW1 HOW1 HBL1 HBA HMZ HRG
            have c4 : w7.cell? ⟨xb, 4, none⟩ = some (.string y.1.1.dat) := HX1.out.cell 4
            by_cases hd : y.1.1.dat.size = 0
            · have e0 := emp_yes hd
              have HE := hid (show putT s y.1.1.dat = s from by unfold putT; rw [if_pos hd])
              clear hd
              go_wp2
              exact ⟨⟨i + 1, HLT.out, by first | rw [HV.out] | rfl, by rw [HDT.out, HE.out]; exact HW7.out, HO7.out, HB7.out⟩, by have h1 := HLT.out; first | rw [HV.out] | skip; simp only [intOf]; omega⟩
            · have e0 := emp_no hd
              have HE := hid (show putT s y.1.1.dat = s ++ zerosT (pad8 s.size) ++ y.1.1.dat from by unfold putT; rw [if_neg hd])
              rw [HE.out, ByteArray.size_append, ByteArray.size_append] at HD1
              clear hd
              go_wp2_with fail
              refine (align_any mb wb s (by have := HD1.out; omega) w7 HM7.out HW7.out).mono ?_
              rintro e w8 ⟨rfl, h8, hk8⟩
              have HX8 := hid (hk8.has HX1.out (WOk.ne HW7.out HX1.out (by decide)) (by decide))
              have HW8 := hid h8
              have HO8 := hid (rowW HO7.out hk8 HW7.out (by decide) (by decide))
              have HB8 := hid (HB7.out.trans hk8.1)
              have HM8 := hid (Nat.le_trans HM7.out hk8.2.1)
              clear h8 hk8 c4 HX1 HW7 HO7 HB7 HM7
              have c4 : w8.cell? ⟨xb, 4, none⟩ = some (.string y.1.1.dat) := HX8.out.cell 4
              have HWD := hid (HW8.out.bw ((Bw.refl w8).drewN 1))
              have HOD := hid (((Bw.refl w8).drewN 1).own HO8.out)
              have HSTR := hid (strW y.1.1.dat (by rw [ByteArray.size_append]; have := HD1.out; omega) (show mb ≤ w8.drew.heap.size from HM8.out) HWD.out)
              go_upto_region 16 with fail
              go_region_law (go_simp; go_at_call 33; refine HSTR.out.mono ?_; rintro e w9 ⟨rfl, h9, hk9⟩; have HW9 := hid h9; have HO9 := hid (rowW HOD.out hk9 HWD.out (by decide) (by decide)); have HB9 := hid ((show Below mb w w8.drew from HB8.out.trans (Below.mono ((Bw.refl w8).drewN 1) HM8.out)).trans hk9.1); clear h9 hk9)
              all_goals
                clear c4
                go_wp2
                exact ⟨⟨i + 1, HLT.out, by first | rw [HV.out] | rfl, by rw [HDT.out, HE.out]; exact HW9.out, HO9.out, HB9.out⟩, by have h1 := HLT.out; first | rw [HV.out] | skip; simp only [intOf]; omega⟩
          · obtain rfl : i = k + 2 := by omega
            have c1 : ¬ ((k : Int) + 2 < (k : Int) + 2) := by omega
            have HFU := hid (show (wRow m).take (k + 2) = wRow m from by rw [← HK.out, ← HWL.out, List.take_length])
            rw [HFU.out] at HW1
            have HWD := hid (show WOk mb wb (wDat m) wq from HW1.out)
            have HMZ := hid (show mb ≤ wq.heap.size from by rw [← HMB.out]; exact (show Below w.heap.size w wq by rw [HMB.out]; exact hbl).size)
            clear hw hown hbl HW1
            go_wp2_with fail
            refine (align_any mb wb (wDat m) (by have := HDZ.out; omega) wq HMZ.out HWD.out).mono ?_
            rintro e w8 ⟨rfl, h8, hk8⟩
            have HW8 := hid h8
            have HO8 := hid (rowW HOW1.out hk8 HWD.out (by decide) (by decide))
            have HB8 := hid (HBL1.out.trans hk8.1)
            have HZ8 := hid (show (wDat m ++ zerosT (pad8 (wDat m).size)).size ≤ 80000008 from by rw [ByteArray.size_append, zerosT_size]; have := HDZ.out; have := pad8_le (wDat m).size; omega)
            have HFIN := hid (show wDat m ++ zerosT (pad8 (wDat m).size) ++ shsT (wRow m) = writeT m from rfl)
            obtain ⟨D, hD⟩ : ∃ D, wDat m ++ zerosT (pad8 (wDat m).size) = D := ⟨_, rfl⟩
            rw [hD] at HW8 HZ8 HFIN
            clear h8 hk8 HWD HOW1 HBL1 HMZ HFU hD
            go_wp2
            go_loopw [65] (fun vi wz => ∃ i : Nat, i ≤ k + 2 ∧ vi = .int .i64 i ∧ WOk mb wb (D ++ shsT ((wRow m).take i)) wz ∧ wz.ownsRow mb 74 12 (.slice (some ⟨g, 0, none⟩) (k + 2) cp) (k + 2) (plaCells (wRow m)) ∧ Below mb w wz) (fun vi _ => k + 2 - (intOf vi).toNat)
            case atStart => exact ⟨0, by omega, rfl, by rw [List.take_zero, shsT, app_nil]; exact HW8.out, HO8.out, HB8.out⟩
            case round =>
              rename World => wz
              obtain ⟨i, hi, rfl, hw, hown, hbl⟩ := hrel
              have HW1 := hid hw
              have HOW1 := hid hown
              have HBL1 := hid hbl
              have HMZ := hid (show mb ≤ wz.heap.size from by rw [← HMB.out]; exact (show Below w.heap.size w wz by rw [HMB.out]; exact hbl).size)
              clear HW8 HO8 HB8
              by_cases hlt : i < k + 2
              · have c2 : (i : Int) < (k : Int) + 2 := by omega
                have hil : i < (wRow m).length := by rw [HWL.out, HK.out]; exact hlt
                have HLT := hid hlt
                have HV := hid (show wrap64 ((i : Int) + 1) = ((i + 1 : Nat) : Int) by unfold wrap64; omega)
                have hspl : wRow m = (wRow m).take i ++ (wRow m)[i] :: (wRow m).drop (i + 1) := by rw [← List.drop_eq_getElem_cons hil, List.take_append_drop]
                have hpl : ((wRow m).take i).length = i := by rw [List.length_take]; omega
                have HRG := hid (row_range (P := (wRow m).take i) (y := (wRow m)[i]) (R := (wRow m).drop (i + 1)) (by rw [← hspl]; exact hown) hpl hlt)
                have HST := hid (shsT_take hil)
                have HSZ := hid (show (D ++ shsT ((wRow m).take i)).size ≤ 90000000 from by rw [ByteArray.size_append, shsT_size, hpl]; have := HZ8.out; omega)
                have HYO := hid (HRO.out HQ.out (wRow m)[i] (List.getElem_mem _))
                obtain ⟨y, hy⟩ : ∃ y, (wRow m)[i] = y := ⟨_, rfl⟩
                rw [hy] at HRG HST HYO
                unfold plaCell at HRG
                have HX1 := hid (Has.new wz 74 #[.string y.1.1.nam, .int .i64 y.1.1.typ, .int .u64 y.1.1.flg, .int .u64 y.1.1.adr, .string y.1.1.dat, .int .i64 y.1.1.siz, .int .i64 y.1.1.lnk, .int .i64 y.1.1.inf, .int .u64 y.1.1.aln, .int .u64 y.1.1.eac, .int .i64 y.1.2, .int .i64 y.2])
                have HBA := hid ((Bw.refl wz).alloc (.cells #[.string y.1.1.nam, .int .i64 y.1.1.typ, .int .u64 y.1.1.flg, .int .u64 y.1.1.adr, .string y.1.1.dat, .int .i64 y.1.1.siz, .int .i64 y.1.1.lnk, .int .i64 y.1.1.inf, .int .u64 y.1.1.aln, .int .u64 y.1.1.eac, .int .i64 y.1.2, .int .i64 y.2] 74))
                clear hw hown hbl hspl hpl hy hil
                go_upto_region 21 with fail
                refine wp_region_list ?_
                refine wpList_plain rfl fun K hK => ?_
                go_simp
                refine hK _ _ ?_
                clear hK K
                refine wpList_load_mid rfl 74 (.tmp 67) rfl g (i * 12) (by simp [Act.eval]) [.string y.1.1.nam, .int .i64 y.1.1.typ, .int .u64 y.1.1.flg, .int .u64 y.1.1.adr, .string y.1.1.dat, .int .i64 y.1.1.siz, .int .i64 y.1.1.lnk, .int .i64 y.1.1.inf, .int .u64 y.1.1.aln, .int .u64 y.1.1.eac, .int .i64 y.1.2, .int .i64 y.2] _ HRG.out Try.underlying74 rfl inf_placed ?_
                go_upto_region 22 with fail
                obtain ⟨xb, hxb⟩ : ∃ xb, wz.heap.size = xb := ⟨_, rfl⟩
                rw [hxb] at HX1 ⊢
                generalize wz.alloc (.cells #[.string y.1.1.nam, .int .i64 y.1.1.typ, .int .u64 y.1.1.flg, .int .u64 y.1.1.adr, .string y.1.1.dat, .int .i64 y.1.1.siz, .int .i64 y.1.1.lnk, .int .i64 y.1.1.inf, .int .u64 y.1.1.aln, .int .u64 y.1.1.eac, .int .i64 y.1.2, .int .i64 y.2] 74) = w7 at *
                have HW7 := hid (HW1.out.bw HBA.out)
                have HO7 := hid (HBA.out.own HOW1.out)
                have HB7 := hid (HBL1.out.trans (Below.mono HBA.out HMZ.out))
                have HM7 := hid (Nat.le_trans HMZ.out HBA.out.size)
                clear hxb HW1 HOW1 HBL1 HBA HMZ HRG
                refine wp_region_list ?_
                refine wpList_plain rfl fun K hK => ?_
                go_simp
                refine hK _ _ ?_
                clear hK K
                refine wpList_load_mid rfl 74 (.tmp 11) rfl xb 0 rfl [.string y.1.1.nam, .int .i64 y.1.1.typ, .int .u64 y.1.1.flg, .int .u64 y.1.1.adr, .string y.1.1.dat, .int .i64 y.1.1.siz, .int .i64 y.1.1.lnk, .int .i64 y.1.1.inf, .int .u64 y.1.1.aln, .int .u64 y.1.1.eac, .int .i64 y.1.2, .int .i64 y.2] _ HX1.out.range Try.underlying74 rfl inf_placed ?_
                go_wp2_with fail
                refine (wsec_m y HYO.out mb wb _ HSZ.out w7 HM7.out HW7.out).mono ?_
                rintro e w9 ⟨rfl, h9, hk9⟩
                have HW9 := hid h9
                have HO9 := hid (rowW HO7.out hk9 HW7.out (by decide) (by decide))
                have HB9 := hid (HB7.out.trans hk9.1)
                clear h9 hk9
                go_wp2
                exact ⟨⟨i + 1, HLT.out, by first | rw [HV.out] | rfl, by rw [HST.out, ← app_as]; exact HW9.out, HO9.out, HB9.out⟩, by have h1 := HLT.out; first | rw [HV.out] | skip; simp only [intOf]; omega⟩
              · obtain rfl : i = k + 2 := by omega
                have c2 : ¬ ((k : Int) + 2 < (k : Int) + 2) := by omega
                have HFU := hid (show (wRow m).take (k + 2) = wRow m from by rw [← HK.out, ← HWL.out, List.take_length])
                rw [HFU.out, HFIN.out] at HW1
                obtain ⟨u, hwb⟩ := HW1.out
                have HSTR := hid (WB.string_any mb wb u (writeT m) wz HMZ.out hwb)
                clear hw hown hbl hwb
                go_wp2_with fail
                refine HSTR.out.mono ?_
                rintro e w9 ⟨rfl, hk9⟩
                have HB9 := hid (show Bw w w9 from by
                  show Below w.heap.size w w9
                  rw [HMB.out]
                  exact HBL1.out.trans hk9.1)
                clear hk9
                go_wp2
                go_returns
                exact HQT.out _ _ HB9.out HQ.out rfl
end Go.Proofs.Ytciaebhkemdilaa
