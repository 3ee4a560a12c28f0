/- The document's plain text of an operation (contract of the function; made by genExpSb.py). -/
import Derived.Test.YtlilmidffcmkjaaDoorExpSa
import Derived.Deep.DeepCutAuto
namespace Go.Proofs.YtlilmidffcmkjaaDoor
open Go.RowKit
set_option linter.unusedVariables false
set_option linter.unusedSimpArgs false
/-- Where the text so far stands, and the element that is printed. -/
structure TxS (w0 wa w : World) (xb : Nat) (o nm : ByteArray) (n : Nat) (x y : Int) (v : Value) (s : List UInt8) : Prop where
  row : w.ownsRow w0.heap.size 5 1 v s.length (bcs s)
  bx : Has w xb 42 #[.string o, .string nm, .int .u64 n, .int .i64 x, .int .i64 y]
  bw : Bw w0 w
  ba : Bw w0 wa
  kt : KT TX w0.heap.size wa w
section
variable {w0 wa w w1 : World} {xb : Nat} {o nm : ByteArray} {n : Nat} {x y : Int} {v v' : Value} {s s' : List UInt8}
theorem TxS.later (h : TxS w0 wa w xb o nm n x y v s) (hb : Bw w w1) : TxS w0 wa w1 xb o nm n x y v s :=
  ⟨hb.own h.row, hb.has h.bx, h.bw.trans hb, h.ba, h.kt.trans (KT.of_bw hb)⟩
theorem TxS.byte (h : TxS w0 wa w xb o nm n x y v s) (c : UInt8) (ho : w1.ownsRow w0.heap.size 5 1 v' (s.length + 1) (bcs s ++ [.int .u8 (c.toNat : Nat)])) (hg : w.grownBy w1 v.ownBlock) (hs : s' = s ++ [c]) : TxS w0 wa w1 xb o nm n x y v' s' := by
  subst hs
  have e1 : (s ++ [c]).length = s.length + 1 := by simp
  have e2 : bcs (s ++ [c]) = bcs s ++ [.int .u8 (c.toNat : Nat)] := by simp [bcs]
  have hk : KT TX w0.heap.size w w1 := KT.of_grown h.row (Nat.le_refl _) hg (by decide)
  have hk2 := h.kt.trans hk
  exact ⟨by rw [e1, e2]; exact ho, hk.has h.bx (by decide), Below.trans h.ba (hk2.below (Nat.le_refl _) h.ba.size), h.ba, hk2⟩
theorem TxS.text (h : TxS w0 wa w xb o nm n x y v s) (t : ByteArray) (ho : w1.ownsRow 0 5 1 v' (s.length + t.size) (bcs s ++ Lib.strCells t)) (hg : w.grownBy w1 v.ownBlock) (hn : v'.ownBlock = v.ownBlock ∨ ∀ b, v'.ownBlock = some b → w.heap.size ≤ b) (hs : s' = s ++ t.data.toList) : TxS w0 wa w1 xb o nm n x y v' s' := by
  subst hs
  obtain ⟨h1, hk⟩ := row_text h.bw h.row t ho hg hn
  have hk2 := h.kt.trans hk
  exact ⟨h1, hk.has h.bx (by decide), Below.trans h.ba (hk2.below (Nat.le_refl _) h.ba.size), h.ba, hk2⟩
theorem TxS.call (h : TxS w0 wa w xb o nm n x y v s) (hr : w1.ownsRow w0.heap.size 5 1 v' s'.length (bcs s')) (hk : KT TX w0.heap.size w w1) : TxS w0 wa w1 xb o nm n x y v' s' :=
  ⟨hr, hk.has h.bx (by decide), Below.trans h.ba ((h.kt.trans hk).below (Nat.le_refl _) h.ba.size), h.ba, h.kt.trans hk⟩
end
set_option maxRecDepth 100000 in
set_option maxHeartbeats 8000000 in
theorem text_op (w0 : World) (a : Option Addr) (len cap : Nat) (hlen : len ≤ 400) (l : List ExpR) (hcB : checkB l = true) (hll : Hid (l.length = len)) (hst : ExpAt w0 a l) (i : Nat) (hi : i < l.length) (level : Nat) (hle : level ≤ 7)
    (HTX : ∀ x : Nat, x < i → ∀ lv : Nat, lv ≤ 7 → ∀ W v s, Bw w0 W → W.ownsRow w0.heap.size 5 1 v s.length (bcs s) → s.length ≤ 1000000 → Calls Tryd.prog 26 #[v, .slice a len cap, .int .i64 x, .int .i64 lv] W (TxP w0 W s (prt l x lv) (max s.length (20000 + 40 * (x + 1)))))
    (w : World) (hbw : Bw w0 w) (v : Value) (s : List UInt8) (h : w.ownsRow w0.heap.size 5 1 v s.length (bcs s)) (hf : ¬ 20000 < s.length) (c0' : (l[i]'hi).op ≠ ⟨#[]⟩) :
    Calls Tryd.prog 26 #[v, .slice a len cap, .int .i64 i, .int .i64 level] w (TxP w0 w s (prt l i level) (max s.length (20000 + 40 * (i + 1)))) := by
  obtain ⟨i0, hinf, hz0, hz1, hz2⟩ := info_parts byteInfo
  obtain ⟨ao, ca, rfl⟩ := own_slice h
  have i2 : (i : Int) < len := by have := hll.out; omega
  have hi4 : i < 400 := by have := hll.out; omega
  have t0 : ¬ (20000 : Int) < s.length := by omega
  have hit := check_item hcB hi
  have hgx : l.getD i ⟨nilS, nilS, 0, 0, 0⟩ = l[i] := by rw [List.getD_eq_getElem?_getD, List.getElem?_eq_getElem hi]; rfl
  obtain ⟨b, off, rfl, hbb, c0, c1, c2, c3, c4, hv'⟩ := hst.below hbw i hi
  obtain ⟨⟨o, nm, n, x, y⟩, hx⟩ : ∃ q, l[i] = q := ⟨_, rfl⟩
  rw [hx] at c0 c1 c2 c3 c4 hit hgx c0'
  simp only at c0 c1 c2 c3 c4 c0'
  have HP := hid (show prt l i level = if o = nilS ∨ level ≤ lvlOf o then txt l i else [40] ++ txt l i ++ [41] from by unfold prt; rw [hgx])
  unfold itemB leafB operB at hit
  simp only [Bool.or_eq_true, Bool.and_eq_true, decide_eq_true_eq] at hit
  have HS0 := hid (show TxS w0 w (w.alloc (.cells #[.string o, .string nm, .int .u64 n, .int .i64 x, .int .i64 y] 42)) w.heap.size o nm n x y (.slice ao s.length ca) s from
    ⟨((Bw.refl w).alloc _).own h, Has.new w _ _, hbw.trans ((Bw.refl w).alloc _), hbw, KT.of_bw ((Bw.refl w).alloc _)⟩)
  clear hx h hbb hbw hv'
  have t1 := toList_ne o c0'
  have t11 : (o.toList == nilS.toList) = false := str_ne c0'
  rcases hit with ⟨⟨⟨h1, _⟩, _⟩, _⟩ | ⟨⟨⟨⟨⟨⟨q1, q2⟩, q3⟩, h1⟩, h2⟩, h3⟩, h4⟩
  · exact absurd h1 c0'
  obtain ⟨x, rfl⟩ := Int.eq_ofNat_of_zero_le h1
  obtain ⟨y, rfl⟩ := Int.eq_ofNat_of_zero_le h3
  have hxi : x < i := by omega
  have hyi : y < i := by omega
  have HT := hid (txt_op (l := l) (i := i) hgx c0' (by simpa using hxi) (by simpa using hyi))
  simp only [Int.toNat_natCast] at HT
  obtain ⟨ho2, hl6⟩ := lvlOf_le q1
  have HX := hid (HTX x hxi (lvlOf o) (by omega))
  have HY := hid (HTX y hyi (lvlOf o + 1) (by omega))
  have HXI := hid hxi
  have HYI := hid hyi
  have k1 : ((lvlOf o + 1 : Nat) : Int) = (lvlOf o : Nat) + 1 := by omega
  rw [k1] at HY
  have HO := hid c0'
  have hs2 : s.length ≤ 20000 := by omega
  have HLV := hid (fun W => rLevel_any o W)
  generalize lvlOf o = lv at *
  generalize prt l x lv = px at *
  generalize prt l y (lv + 1) = py at *
  clear q1 q2 q3 h1 h2 h3 h4 hgx HTX hxi hyi c0' k1 hf
  by_cases hlv : level ≤ lv
  · have kl : ¬ ((lv : Nat) : Int) < level := by omega
    have kn : ¬ lv < level := by omega
    have HLE := hid hlv
    clear hlv
    go_enter Tryd.func26, Tryd.ntmps26
    go_wp2_with fail
    refine (HLV.out _).mono ?_
    rintro e w1 ⟨rfl, he1⟩
    have HS1 := hid (show TxS w0 w w1 w.heap.size o nm n x y (.slice ao s.length ca) s from he1 ▸ HS0.out)
    clear he1
    have b0 := HS1.out.bx.cell 0
    have b3 := HS1.out.bx.cell 3
    have b4 := HS1.out.bx.cell 4
    simp at b0 b3 b4
    go_wp2_with fail
    refine (HX.out w1 _ s HS1.out.bw HS1.out.row (by omega)).mono ?_
    rintro e w2 ⟨v2, s2, rfl, hr, hk, hg⟩
    obtain ⟨p2, q2, rfl⟩ := own_slice hr
    have HS2 := hid (HS1.out.call hr hk)
    have HGX := hid hg
    have ls2 : s2.length ≤ 20000 + 40 * i := by have h1 := hg.le; have h2 := HXI.out; omega
    clear hr hk hg
    have b0 := HS2.out.bx.cell 0
    have b3 := HS2.out.bx.cell 3
    have b4 := HS2.out.bx.cell 4
    simp at b0 b3 b4
    go_upto_region 13 with (at_builtin; refine wpList_append_own_at _ rfl (.tmp 49) (.tmp 50) 49 rfl w0.heap.size 5 i0 (.int .u8 0) 1 1 Tryd.underlying49 hinf hz0 hz1 hz2 rfl (by decide) (.slice p2 s2.length q2) s2.length (bcs s2) rfl (HS2.out.later ((Bw.refl w2).alloc (.cells #[.int .u8 32] 5))).row ⟨w2.heap.size, 0, none⟩ 1 1 [.int .u8 32] rfl rfl (cell_one_new _ _ _) (by intro u hu; simp at hu; rw [hu]; rfl) (by unfold maxLen; omega) (by omega) (HS2.out.later ((Bw.refl w2).alloc (.cells #[.int .u8 32] 5))).bw.size ?_; intro v3 w3 hown hgrow _ _; obtain ⟨pw3, qw3, rfl⟩ := own_slice hown; obtain ⟨s3, hs3⟩ : ∃ z, z = s2 ++ [(32 : UInt8)] := ⟨_, rfl⟩; have HS3 := hid ((HS2.out.later ((Bw.refl w2).alloc (.cells #[.int .u8 32] 5))).byte 32 hown hgrow hs3); have ls3 : s3.length ≤ 20001 + 40 * i := (by rw [hs3, List.length_append]; show s2.length + 1 ≤ _; omega); have HEs3 := hid hs3; have b0 := HS3.out.bx.cell 0; have b3 := HS3.out.bx.cell 3; have b4 := HS3.out.bx.cell 4; simp at b0 b3 b4; clear hown hgrow hs3)
    go_upto_region 14 with (at_builtin; refine wpList_app_str rfl (.tmp 52) (.tmp 54) 49 9 rfl Tryd.underlying49 Tryd.underlying9 hinf hz0 hz1 hz2 (.slice pw3 (s2.length + 1) qw3) s3.length (bcs s3) rfl (own_down HS3.out.row (Nat.zero_le _)) o rfl (by omega) ?_; intro v4 w4 hown hgrow hnb; obtain ⟨pw4, qw4, rfl⟩ := own_slice hown; obtain ⟨s4, hs4⟩ : ∃ z, z = s3 ++ o.data.toList := ⟨_, rfl⟩; have HS4 := hid (HS3.out.text o hown hgrow hnb hs4); have ls4 : s4.length ≤ 20003 + 40 * i := (by rw [hs4, List.length_append, Array.length_toList]; show s3.length + o.size ≤ _; omega); have HEs4 := hid hs4; have b0 := HS4.out.bx.cell 0; have b3 := HS4.out.bx.cell 3; have b4 := HS4.out.bx.cell 4; simp at b0 b3 b4; clear hown hgrow hnb hs4)
    go_upto_region 15 with (at_builtin; refine wpList_append_own_at _ rfl (.tmp 56) (.tmp 57) 49 rfl w0.heap.size 5 i0 (.int .u8 0) 1 1 Tryd.underlying49 hinf hz0 hz1 hz2 rfl (by decide) (.slice pw4 (s3.length + o.size) qw4) s4.length (bcs s4) rfl (HS4.out.later ((Bw.refl w4).alloc (.cells #[.int .u8 32] 5))).row ⟨w4.heap.size, 0, none⟩ 1 1 [.int .u8 32] rfl rfl (cell_one_new _ _ _) (by intro u hu; simp at hu; rw [hu]; rfl) (by unfold maxLen; omega) (by omega) (HS4.out.later ((Bw.refl w4).alloc (.cells #[.int .u8 32] 5))).bw.size ?_; intro v5 w5 hown hgrow _ _; obtain ⟨pw5, qw5, rfl⟩ := own_slice hown; obtain ⟨s5, hs5⟩ : ∃ z, z = s4 ++ [(32 : UInt8)] := ⟨_, rfl⟩; have HS5 := hid ((HS4.out.later ((Bw.refl w4).alloc (.cells #[.int .u8 32] 5))).byte 32 hown hgrow hs5); have ls5 : s5.length ≤ 20004 + 40 * i := (by rw [hs5, List.length_append]; show s4.length + 1 ≤ _; omega); have HEs5 := hid hs5; have b0 := HS5.out.bx.cell 0; have b3 := HS5.out.bx.cell 3; have b4 := HS5.out.bx.cell 4; simp at b0 b3 b4; clear hown hgrow hs5)
    go_wp2_with fail
    refine (HY.out w5 _ s5 HS5.out.bw HS5.out.row (by omega)).mono ?_
    rintro e w6 ⟨v6, s6, rfl, hr, hk, hg⟩
    obtain ⟨p6, q6, rfl⟩ := own_slice hr
    have HS6 := hid (HS5.out.call hr hk)
    have HGY := hid hg
    have ls6 : s6.length ≤ 20004 + 40 * i := by have h1 := hg.le; have h2 := HYI.out; omega
    clear hr hk hg
    have b0 := HS6.out.bx.cell 0
    have b3 := HS6.out.bx.cell 3
    have b4 := HS6.out.bx.cell 4
    simp at b0 b3 b4
    go_wp2
    go_returns
    refine ⟨_, _, rfl, HS6.out.row, HS6.out.kt, ?_⟩
    have M0 : ∀ z : List UInt8, z.length ≤ 20005 + 40 * i → z.length ≤ max s.length (20000 + 40 * (i + 1)) := fun z hz => by omega
    have G1 := (show Grown s2 [32] (max s.length (20000 + 40 * (i + 1))) s3 from by rw [HEs3.out]; exact Grown.one (by rw [← HEs3.out]; exact M0 _ (by omega)))
    have G2 := (show Grown s3 o.data.toList (max s.length (20000 + 40 * (i + 1))) s4 from by rw [HEs4.out]; exact Grown.one (by rw [← HEs4.out]; exact M0 _ (by omega)))
    have G3 := (show Grown s4 [32] (max s.length (20000 + 40 * (i + 1))) s5 from by rw [HEs5.out]; exact Grown.one (by rw [← HEs5.out]; exact M0 _ (by omega)))
    have GX := HGX.out.most (show _ ≤ max s.length (20000 + 40 * (i + 1)) by have h2 := HXI.out; omega)
    have GY := HGY.out.most (show _ ≤ max s.length (20000 + 40 * (i + 1)) by have h2 := HYI.out; omega)
    have G := (((GX.trans G1).trans G2).trans G3).trans GY
    rw [HP.out, if_pos (Or.inr HLE.out), HT.out]
    simpa [List.append_assoc] using G
  · have kl : ((lv : Nat) : Int) < level := by omega
    have kn : lv < level := by omega
    have HLN := hid hlv
    clear hlv
    go_enter Tryd.func26, Tryd.ntmps26
    go_wp2_with fail
    refine (HLV.out _).mono ?_
    rintro e w1 ⟨rfl, he1⟩
    have HS1 := hid (show TxS w0 w w1 w.heap.size o nm n x y (.slice ao s.length ca) s from he1 ▸ HS0.out)
    clear he1
    have b0 := HS1.out.bx.cell 0
    have b3 := HS1.out.bx.cell 3
    have b4 := HS1.out.bx.cell 4
    simp at b0 b3 b4
    go_upto_region 11 with (at_builtin; refine wpList_append_own_at _ rfl (.tmp 40) (.tmp 41) 49 rfl w0.heap.size 5 i0 (.int .u8 0) 1 1 Tryd.underlying49 hinf hz0 hz1 hz2 rfl (by decide) (.slice ao s.length ca) s.length (bcs s) rfl (HS1.out.later ((Bw.refl w1).alloc (.cells #[.int .u8 40] 5))).row ⟨w1.heap.size, 0, none⟩ 1 1 [.int .u8 40] rfl rfl (cell_one_new _ _ _) (by intro u hu; simp at hu; rw [hu]; rfl) (by unfold maxLen; omega) (by omega) (HS1.out.later ((Bw.refl w1).alloc (.cells #[.int .u8 40] 5))).bw.size ?_; intro v2 w2 hown hgrow _ _; obtain ⟨pw2, qw2, rfl⟩ := own_slice hown; obtain ⟨s2, hs2⟩ : ∃ z, z = s ++ [(40 : UInt8)] := ⟨_, rfl⟩; have HS2 := hid ((HS1.out.later ((Bw.refl w1).alloc (.cells #[.int .u8 40] 5))).byte 40 hown hgrow hs2); have ls2 : s2.length ≤ 20001 := (by rw [hs2, List.length_append]; show s.length + 1 ≤ _; omega); have HEs2 := hid hs2; have b0 := HS2.out.bx.cell 0; have b3 := HS2.out.bx.cell 3; have b4 := HS2.out.bx.cell 4; simp at b0 b3 b4; clear hown hgrow hs2)
    go_wp2_with fail
    refine (HX.out w2 _ s2 HS2.out.bw HS2.out.row (by omega)).mono ?_
    rintro e w3 ⟨v3, s3, rfl, hr, hk, hg⟩
    obtain ⟨p3, q3, rfl⟩ := own_slice hr
    have HS3 := hid (HS2.out.call hr hk)
    have HGX := hid hg
    have ls3 : s3.length ≤ 20000 + 40 * i := by have h1 := hg.le; have h2 := HXI.out; omega
    clear hr hk hg
    have b0 := HS3.out.bx.cell 0
    have b3 := HS3.out.bx.cell 3
    have b4 := HS3.out.bx.cell 4
    simp at b0 b3 b4
    go_upto_region 13 with (at_builtin; refine wpList_append_own_at _ rfl (.tmp 49) (.tmp 50) 49 rfl w0.heap.size 5 i0 (.int .u8 0) 1 1 Tryd.underlying49 hinf hz0 hz1 hz2 rfl (by decide) (.slice p3 s3.length q3) s3.length (bcs s3) rfl (HS3.out.later ((Bw.refl w3).alloc (.cells #[.int .u8 32] 5))).row ⟨w3.heap.size, 0, none⟩ 1 1 [.int .u8 32] rfl rfl (cell_one_new _ _ _) (by intro u hu; simp at hu; rw [hu]; rfl) (by unfold maxLen; omega) (by omega) (HS3.out.later ((Bw.refl w3).alloc (.cells #[.int .u8 32] 5))).bw.size ?_; intro v4 w4 hown hgrow _ _; obtain ⟨pw4, qw4, rfl⟩ := own_slice hown; obtain ⟨s4, hs4⟩ : ∃ z, z = s3 ++ [(32 : UInt8)] := ⟨_, rfl⟩; have HS4 := hid ((HS3.out.later ((Bw.refl w3).alloc (.cells #[.int .u8 32] 5))).byte 32 hown hgrow hs4); have ls4 : s4.length ≤ 20001 + 40 * i := (by rw [hs4, List.length_append]; show s3.length + 1 ≤ _; omega); have HEs4 := hid hs4; have b0 := HS4.out.bx.cell 0; have b3 := HS4.out.bx.cell 3; have b4 := HS4.out.bx.cell 4; simp at b0 b3 b4; clear hown hgrow hs4)
    go_upto_region 14 with (at_builtin; refine wpList_app_str rfl (.tmp 52) (.tmp 54) 49 9 rfl Tryd.underlying49 Tryd.underlying9 hinf hz0 hz1 hz2 (.slice pw4 (s3.length + 1) qw4) s4.length (bcs s4) rfl (own_down HS4.out.row (Nat.zero_le _)) o rfl (by omega) ?_; intro v5 w5 hown hgrow hnb; obtain ⟨pw5, qw5, rfl⟩ := own_slice hown; obtain ⟨s5, hs5⟩ : ∃ z, z = s4 ++ o.data.toList := ⟨_, rfl⟩; have HS5 := hid (HS4.out.text o hown hgrow hnb hs5); have ls5 : s5.length ≤ 20003 + 40 * i := (by rw [hs5, List.length_append, Array.length_toList]; show s4.length + o.size ≤ _; omega); have HEs5 := hid hs5; have b0 := HS5.out.bx.cell 0; have b3 := HS5.out.bx.cell 3; have b4 := HS5.out.bx.cell 4; simp at b0 b3 b4; clear hown hgrow hnb hs5)
    go_upto_region 15 with (at_builtin; refine wpList_append_own_at _ rfl (.tmp 56) (.tmp 57) 49 rfl w0.heap.size 5 i0 (.int .u8 0) 1 1 Tryd.underlying49 hinf hz0 hz1 hz2 rfl (by decide) (.slice pw5 (s4.length + o.size) qw5) s5.length (bcs s5) rfl (HS5.out.later ((Bw.refl w5).alloc (.cells #[.int .u8 32] 5))).row ⟨w5.heap.size, 0, none⟩ 1 1 [.int .u8 32] rfl rfl (cell_one_new _ _ _) (by intro u hu; simp at hu; rw [hu]; rfl) (by unfold maxLen; omega) (by omega) (HS5.out.later ((Bw.refl w5).alloc (.cells #[.int .u8 32] 5))).bw.size ?_; intro v6 w6 hown hgrow _ _; obtain ⟨pw6, qw6, rfl⟩ := own_slice hown; obtain ⟨s6, hs6⟩ : ∃ z, z = s5 ++ [(32 : UInt8)] := ⟨_, rfl⟩; have HS6 := hid ((HS5.out.later ((Bw.refl w5).alloc (.cells #[.int .u8 32] 5))).byte 32 hown hgrow hs6); have ls6 : s6.length ≤ 20004 + 40 * i := (by rw [hs6, List.length_append]; show s5.length + 1 ≤ _; omega); have HEs6 := hid hs6; have b0 := HS6.out.bx.cell 0; have b3 := HS6.out.bx.cell 3; have b4 := HS6.out.bx.cell 4; simp at b0 b3 b4; clear hown hgrow hs6)
    go_wp2_with fail
    refine (HY.out w6 _ s6 HS6.out.bw HS6.out.row (by omega)).mono ?_
    rintro e w7 ⟨v7, s7, rfl, hr, hk, hg⟩
    obtain ⟨p7, q7, rfl⟩ := own_slice hr
    have HS7 := hid (HS6.out.call hr hk)
    have HGY := hid hg
    have ls7 : s7.length ≤ 20004 + 40 * i := by have h1 := hg.le; have h2 := HYI.out; omega
    clear hr hk hg
    have b0 := HS7.out.bx.cell 0
    have b3 := HS7.out.bx.cell 3
    have b4 := HS7.out.bx.cell 4
    simp at b0 b3 b4
    go_wp2_with (at_builtin; refine wpList_append_own_at _ rfl (.tmp 69) (.tmp 70) 49 rfl w0.heap.size 5 i0 (.int .u8 0) 1 1 Tryd.underlying49 hinf hz0 hz1 hz2 rfl (by decide) (.slice p7 s7.length q7) s7.length (bcs s7) rfl (HS7.out.later ((Bw.refl w7).alloc (.cells #[.int .u8 41] 5))).row ⟨w7.heap.size, 0, none⟩ 1 1 [.int .u8 41] rfl rfl (cell_one_new _ _ _) (by intro u hu; simp at hu; rw [hu]; rfl) (by unfold maxLen; omega) (by omega) (HS7.out.later ((Bw.refl w7).alloc (.cells #[.int .u8 41] 5))).bw.size ?_; intro v8 w8 hown hgrow _ _; obtain ⟨pw8, qw8, rfl⟩ := own_slice hown; obtain ⟨s8, hs8⟩ : ∃ z, z = s7 ++ [(41 : UInt8)] := ⟨_, rfl⟩; have HS8 := hid ((HS7.out.later ((Bw.refl w7).alloc (.cells #[.int .u8 41] 5))).byte 41 hown hgrow hs8); have ls8 : s8.length ≤ 20005 + 40 * i := (by rw [hs8, List.length_append]; show s7.length + 1 ≤ _; omega); have HEs8 := hid hs8; skip; clear hown hgrow hs8)
    go_wp2
    go_returns
    refine ⟨_, _, rfl, HS8.out.row, HS8.out.kt, ?_⟩
    have M0 : ∀ z : List UInt8, z.length ≤ 20005 + 40 * i → z.length ≤ max s.length (20000 + 40 * (i + 1)) := fun z hz => by omega
    have G1 := (show Grown s3 [32] (max s.length (20000 + 40 * (i + 1))) s4 from by rw [HEs4.out]; exact Grown.one (by rw [← HEs4.out]; exact M0 _ (by omega)))
    have G2 := (show Grown s4 o.data.toList (max s.length (20000 + 40 * (i + 1))) s5 from by rw [HEs5.out]; exact Grown.one (by rw [← HEs5.out]; exact M0 _ (by omega)))
    have G3 := (show Grown s5 [32] (max s.length (20000 + 40 * (i + 1))) s6 from by rw [HEs6.out]; exact Grown.one (by rw [← HEs6.out]; exact M0 _ (by omega)))
    have GX := HGX.out.most (show _ ≤ max s.length (20000 + 40 * (i + 1)) by have h2 := HXI.out; omega)
    have GY := HGY.out.most (show _ ≤ max s.length (20000 + 40 * (i + 1)) by have h2 := HYI.out; omega)
    have G := (((GX.trans G1).trans G2).trans G3).trans GY
    have G0 := (show Grown s [40] (max s.length (20000 + 40 * (i + 1))) s2 from by rw [HEs2.out]; exact Grown.one (by rw [← HEs2.out]; exact M0 _ (by omega)))
    have G9 := (show Grown s7 [41] (max s.length (20000 + 40 * (i + 1))) s8 from by rw [HEs8.out]; exact Grown.one (by rw [← HEs8.out]; exact M0 _ (by omega)))
    have GG := (G0.trans G).trans G9
    rw [HP.out, if_neg (fun h => h.elim (fun h => HO.out h) HLN.out), HT.out]
    simpa [List.append_assoc] using GG
end Go.Proofs.YtlilmidffcmkjaaDoor
