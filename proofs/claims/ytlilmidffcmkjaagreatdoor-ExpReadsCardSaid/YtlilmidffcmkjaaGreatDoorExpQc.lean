/- An expression is printed, where its parts are and numbers' digits (contract of the method). -/
import Derived.Test.YtlilmidffcmkjaaGreatDoorExpQb
import Derived.Test.YtlilmidffcmkjaaGreatDoorKitE
import Derived.Test.YtlilmidffcmkjaaGreatDoorExpU
import Derived.Deep.RegionLaw
namespace Go.Proofs.YtlilmidffcmkjaaGreatDoor
open Go.RowKit
set_option linter.unusedVariables false
set_option linter.unusedSimpArgs false
theorem lvlGo_le {o : ByteArray} : ∀ T : List (List UInt8 × Nat), (∀ q ∈ T, q.1.length ≤ 2 ∧ q.2 ≤ 6) → 0 < lvlGo T o → o.size ≤ 2 ∧ lvlGo T o ≤ 6
  | [], _, h => by cases h
  | q :: r, hT, h => by
    unfold lvlGo at h ⊢
    by_cases c : o = ⟨q.1.toArray⟩
    · rw [if_pos c]
      have := hT q (by simp)
      refine ⟨?_, this.2⟩
      rw [c]
      show q.1.toArray.size ≤ 2
      simpa using this.1
    · rw [if_neg c] at h ⊢
      exact lvlGo_le r (fun x hx => hT x (by simp [hx])) h
theorem lvlOf_le {o : ByteArray} (h : 0 < lvlOf o) : o.size ≤ 2 ∧ lvlOf o ≤ 6 := lvlGo_le sgnT (by decide) h
/-- A text more. -/
theorem PrS.text {w0 w w1 : World} {p : Nat} {a : Option Addr} {len cap : Nat} {v v' : Value} {s : List UInt8} (h : PrS w0 w p a len cap v s) (x : ByteArray) (ho : w1.ownsRow 0 5 1 v' (s.length + x.size) (bcs s ++ Lib.strCells x)) (hg : w.grownBy w1 v.ownBlock) (hn : v'.ownBlock = v.ownBlock ∨ ∀ b, v'.ownBlock = some b → w.heap.size ≤ b) :
    PrS w0 (w1.setCell ⟨p, 1, none⟩ v') p a len cap v' (s ++ x.data.toList) ∧ KT TX w0.heap.size w (w1.setCell ⟨p, 1, none⟩ v') := by
  refine h.app ?_ hg hn
  have e1 : (s ++ x.data.toList).length = s.length + x.size := by rw [List.length_append, Array.length_toList]; rfl
  have e2 : bcs (s ++ x.data.toList) = bcs s ++ Lib.strCells x := by rw [strCells_bcs]; simp [bcs]
  rw [e1, e2]
  exact ho
set_option maxRecDepth 100000 in
set_option maxHeartbeats 8000000 in
theorem expression_step (w0 : World) (p : Nat) (a : Option Addr) (len cap : Nat) (hlen : len ≤ 400) (l : List ExpR) (hcB : checkB l = true) (hll : Hid (l.length = len)) (hst : ExpAt w0 a l) (hS : SgnAt w0) (i : Nat) (hi : i < l.length) (HU : PowAt w0)
    (HPT : ∀ x : Nat, x < i → ∀ least : Nat, least ≤ 7 → ∀ W v s, PrS w0 W p a len cap v s → s.length ≤ 900000 → Calls Tryz.prog 33 #[.pointer (some ⟨p, 0, none⟩), .int .i64 x, .int .i64 least] W (PrP w0 W p a len cap s (prt l x least) (max s.length (20000 + 30 * (x + 1)) + 2)))
    (w : World) (v : Value) (s : List UInt8) (h : PrS w0 w p a len cap v s) (hsz : s.length ≤ 1000000) :
    Calls Tryz.prog 22 #[.pointer (some ⟨p, 0, none⟩), .int .i64 i] w (PrP w0 w p a len cap s (txt l i) (max s.length (20000 + 30 * (i + 1)))) := by
  obtain ⟨i0, hinf, hz0, hz1, hz2⟩ := info_parts byteInfo
  obtain ⟨ao, ca, rfl⟩ := own_slice h.row
  have HFU := hid (full_any w0 w p a len cap _ s h)
  have g0 := h.pr.cell 0
  have g1 := h.pr.cell 1
  simp at g0 g1
  have i2 : (i : Int) < len := by have := hll.out; omega
  have hi4 : i < 400 := by have := hll.out; omega
  have HS := hid h
  have hit := check_item hcB hi
  have hgx : l.getD i ⟨nilS, nilS, 0, 0, 0⟩ = l[i] := by rw [List.getD_eq_getElem?_getD, List.getElem?_eq_getElem hi]; rfl
  by_cases hf : 20000 < s.length
  · have d := decide_eq_true hf
    rw [d] at HFU
    clear hit hgx h
    go_enter Tryz.func22, Tryz.ntmps22
    go_wp2_with fail
    refine HFU.out.mono ?_
    rintro e w1 ⟨rfl, rfl⟩
    go_wp2
    go_returns
    exact ⟨_, s, rfl, HS.out, KT.refl _, Nat.le_refl _, Or.inr ⟨hf, by omega, by omega⟩⟩
  · have d := decide_eq_false hf
    rw [d] at HFU
    obtain ⟨b, off, rfl, hbb, c0, c1, c2, c3, c4, hv'⟩ := hst.below h.bw i hi
    have HGS := hid (hS.bw h.bw)
    obtain ⟨⟨o, nm, n, x, y⟩, hx⟩ : ∃ q, l[i] = q := ⟨_, rfl⟩
    rw [hx] at c0 c1 c2 c3 c4 hv' hit hgx
    simp only at c0 c1 c2 c3 c4
    obtain ⟨u0, u1, u2, u3, u4⟩ := hv'
    simp only at u0 u1 u2 u3 u4
    unfold itemB leafB operB at hit
    simp only [Bool.or_eq_true, Bool.and_eq_true, decide_eq_true_eq] at hit
    have HB := hid ((Bw.refl w).alloc (.cells #[.string o, .string nm, .int .u64 n, .int .i64 x, .int .i64 y] 42))
    have HA := hid (Has.new w 42 #[.string o, .string nm, .int .u64 n, .int .i64 x, .int .i64 y])
    have HSA := hid (h.later HB.out)
    clear hx h hbb
    by_cases c0' : o = ⟨#[]⟩
    · by_cases c1' : nm = ⟨#[]⟩
      · have HT := hid (txt_num (l := l) (i := i) hgx c0' c1')
        have hn : n ≤ mostN := by
          rcases hit with ⟨_, h1 | h1⟩ | h1
          · exact h1.2
          · rw [h1.1]; exact Nat.zero_le _
          · rw [h1.1.1.1.1.2]; exact Nat.zero_le _
        have hdl := decB_len hn
        have HN := hid hn
        have b2 := HA.out.cell 2
        simp at b2
        have e1 := HSA.out.pr.cell 1
        simp at e1
        have HD := hid (show PrS w0 ((w.alloc (.cells #[.string o, .string nm, .int .u64 n, .int .i64 x, .int .i64 y] 42)).drew) p (some ⟨b, off, none⟩) len cap (.slice ao s.length ca) s from HSA.out.later ((Bw.refl _).drewN 1))
        have HBD := hid (show Bw w ((w.alloc (.cells #[.string o, .string nm, .int .u64 n, .int .i64 x, .int .i64 y] 42)).drew) from HB.out.drewN 1)
        have HUD := hid (digits_any _ _ s.length (bcs s) n hn (by omega) (own_down HD.out.row (Nat.zero_le _)) (HU.bw HD.out.bw))
        clear hit hgx hn u2
        subst c0' c1'
        go_enter Tryz.func22, Tryz.ntmps22
        go_wp2_with fail
        refine HFU.out.mono ?_
        rintro e w1 ⟨rfl, rfl⟩
        go_wp2
        go_region_with (go_at_call 34; refine HUD.out.mono ?_; rintro e w5 ⟨v5, rfl, hown5, hgrow5, hnb5⟩; obtain ⟨vo5, vc5, rfl⟩ := own_slice hown5; have HO5 := hid hown5; have HG5 := hid hgrow5; have HN5 := hid hnb5; have z5 := (HD.out.mid hgrow5).frozen 1; have y5 := (HD.out.mid hgrow5).cell 1; simp at y5; clear hown5 hgrow5 hnb5)
        all_goals
          go_wp2
          go_returns
          have hap := HD.out.app (t := decB n) (by rw [List.length_append, show bcs (s ++ decB n) = bcs s ++ bcs (decB n) by simp [bcs]]; exact HO5.out) HG5.out HN5.out
          refine ⟨_, _, rfl, hap.1, (KT.of_bw HBD.out).trans hap.2, ?_⟩
          rw [HT.out]
          refine Grown.one ?_
          rw [List.length_append]
          omega
      · have HT := hid (txt_name (l := l) (i := i) hgx c0' c1')
        have t1 := toList_ne nm c1'
        have t11 : (nm.toList == nilS.toList) = false := str_ne c1'
        have hnm : nm.size ≤ 16 := by
          rcases hit with ⟨_, h1 | h1⟩ | h1
          · exact absurd h1.1 c1'
          · have := h1.2
            unfold nameB at this
            simp only [Bool.and_eq_true, decide_eq_true_eq] at this
            exact this.1.1.2
          · exact absurd h1.1.1.1.1.1.2 c1'
        have b0 := HA.out.cell 0
        have b1 := HA.out.cell 1
        simp at b0 b1
        have e1 := HSA.out.pr.cell 1
        simp at e1
        have HD := hid (show PrS w0 ((w.alloc (.cells #[.string o, .string nm, .int .u64 n, .int .i64 x, .int .i64 y] 42)).drew) p (some ⟨b, off, none⟩) len cap (.slice ao s.length ca) s from HSA.out.later ((Bw.refl _).drewN 1))
        have HBD := hid (show Bw w ((w.alloc (.cells #[.string o, .string nm, .int .u64 n, .int .i64 x, .int .i64 y] 42)).drew) from HB.out.drewN 1)
        clear hit hgx c1'
        subst c0'
        go_enter Tryz.func22, Tryz.ntmps22
        go_wp2_with fail
        refine HFU.out.mono ?_
        rintro e w1 ⟨rfl, rfl⟩
        go_wp2
        go_region_law (refine step_app_str (by rfl) (.tmp 63) (.tmp 65) 62 9 (by rfl) Tryz.underlying62 Tryz.underlying9 hinf hz0 hz1 hz2 (.slice ao s.length ca) s.length (bcs s) (by rfl) (own_down HD.out.row (Nat.zero_le _)) nm (by rfl) (by omega) ?_; intro v5 w5 hown5 hgrow5 hnb5; obtain ⟨vo5, vc5, rfl⟩ := own_slice hown5; have HO5 := hid hown5; have HG5 := hid hgrow5; have HN5 := hid hnb5; have z5 := (HD.out.mid hgrow5).frozen 1; have y5 := (HD.out.mid hgrow5).cell 1; simp at y5; clear hown5 hgrow5 hnb5)
        all_goals
          go_wp2
          go_returns
          have hap := HD.out.text nm HO5.out HG5.out HN5.out
          refine ⟨_, _, rfl, hap.1, (KT.of_bw HBD.out).trans hap.2, ?_⟩
          rw [HT.out]
          refine Grown.one ?_
          rw [List.length_append]
          have : nm.data.toList.length = nm.size := by rw [Array.length_toList]; rfl
          omega
    · have t1 := toList_ne o c0'
      have t11 : (o.toList == nilS.toList) = false := str_ne c0'
      rcases hit with ⟨⟨⟨h1, _⟩, _⟩, _⟩ | ⟨⟨⟨⟨⟨⟨q1, q2⟩, q3⟩, h1⟩, h2⟩, h3⟩, h4⟩
      · exact absurd h1 c0'
      · obtain ⟨x, rfl⟩ := Int.eq_ofNat_of_zero_le h1
        obtain ⟨y, rfl⟩ := Int.eq_ofNat_of_zero_le h3
        have hxi : x < i := by omega
        have hyi : y < i := by omega
        have HT := hid (txt_op (l := l) (i := i) hgx c0' (by simpa using hxi) (by simpa using hyi))
        simp only [Int.toNat_natCast] at HT
        obtain ⟨ho2, hl6⟩ := lvlOf_le q1
        have HLV := hid (levelOf_any o (w.alloc (.cells #[.string o, .string nm, .int .u64 n, .int .i64 x, .int .i64 y] 42)) (HGS.out.bw HB.out))
        have HPL := hid (HPT x hxi (lvlOf o) (by omega))
        have HPR := hid (HPT y hyi (lvlOf o + 1) (by omega))
        have HXI := hid hxi
        have HYI := hid hyi
        have k1 : ((lvlOf o + 1 : Nat) : Int) = (lvlOf o : Nat) + 1 := by omega
        rw [k1] at HPR
        generalize hlo : lvlOf o = lv at *
        clear q1 q2 q3 h1 h2 h3 h4 hgx HPT hxi hyi HGS c0' u2
        have s1 : ¬ 9223372036854775807 < 1 + o.size := by omega
        have s2 : ¬ 9223372036854775807 < 1 + o.size + 1 := by omega
        have s3' : ¬ 9223372036854775807 < (⟨#[32]⟩ : ByteArray).size + o.size := by show ¬ _ < 1 + o.size; omega
        have z1 : (⟨#[32]⟩ : ByteArray).size = 1 := rfl
        have HSZ := hid (show ((⟨#[32]⟩ : ByteArray) ++ o ++ ⟨#[32]⟩).size = o.size + 2 from by rw [ByteArray.size_append, ByteArray.size_append]; show 1 + o.size + 1 = o.size + 2; omega)
        go_enter Tryz.func22, Tryz.ntmps22
        go_wp2_with fail
        refine HFU.out.mono ?_
        rintro e w1 ⟨rfl, rfl⟩
        go_wp2_with fail
        refine HLV.out.mono ?_
        rintro e w2 ⟨rfl, hb2⟩
        have HB2 := hid (HB.out.trans hb2)
        have HS2 := hid (HSA.out.later hb2)
        have HA2 := hid (hb2.has HA.out)
        clear hb2
        have b0 := HA2.out.cell 0
        have b3 := HA2.out.cell 3
        simp at b0 b3
        go_wp2_with fail
        refine (HPL.out w2 _ s HS2.out (by omega)).mono ?_
        rintro e w3 ⟨v3, s3, rfl, hs3, hk3, hg3⟩
        obtain ⟨a3, ca3, rfl⟩ := own_slice hs3.row
        have HK3 := hid ((KT.of_bw HB2.out).trans hk3)
        have HA3 := hid (hk3.has HA2.out (by decide))
        have HG3 := hid hg3
        have hl3 : s3.length ≤ 20000 + 30 * (x + 1) + 2 := by have := hg3.le; omega
        have hl4 : s3.length ≤ 40000 := by have := HXI.out; omega
        have HL3 := hid hl3
        clear hl3
        have HD := hid (show PrS w0 w3.drew p (some ⟨b, off, none⟩) len cap (.slice a3 s3.length ca3) s3 from hs3.later ((Bw.refl _).drewN 1))
        have e1 := hs3.pr.cell 1
        simp at e1
        clear hs3 hk3 hg3 b0 b3
        have b0 := HA3.out.cell 0
        have b4 := HA3.out.cell 4
        simp at b0 b4
        go_wp2_with fail
        go_region_law (refine step_app_str (by rfl) (.tmp 41) (.tmp 45) 62 9 (by rfl) Tryz.underlying62 Tryz.underlying9 hinf hz0 hz1 hz2 (.slice a3 s3.length ca3) s3.length (bcs s3) (by rfl) (own_down HD.out.row (Nat.zero_le _)) (⟨#[32]⟩ ++ o ++ ⟨#[32]⟩) (by rfl) (by rw [HSZ.out]; omega) ?_; intro v5 w5 hown5 hgrow5 hnb5; rw [HSZ.out] at hown5; obtain ⟨vo5, vc5, rfl⟩ := own_slice hown5; have HAP := hid (HD.out.text (⟨#[32]⟩ ++ o ++ ⟨#[32]⟩) (by rw [HSZ.out]; exact hown5) hgrow5 hnb5); have z5 := (HD.out.mid hgrow5).frozen 1; have y5 := (HD.out.mid hgrow5).cell 1; simp at y5; clear hown5 hgrow5 hnb5)
        all_goals
          have HA5 := hid (HAP.out.2.has (show Has w3.drew w1.heap.size _ _ from HA3.out.drew) (by decide))
          have d4 := HA5.out.cell 4
          simp at d4
          have hml0 : ((⟨#[32]⟩ : ByteArray) ++ o ++ ⟨#[32]⟩).data.toList.length = o.size + 2 := by rw [Array.length_toList]; exact HSZ.out
          have HLN := hid (show (s3 ++ ((⟨#[32]⟩ : ByteArray) ++ o ++ ⟨#[32]⟩).data.toList).length ≤ 900000 from by rw [List.length_append, hml0]; omega)
          clear HPL HLV HFU hml0
          go_wp2_with fail
          refine (HPR.out _ _ _ HAP.out.1 HLN.out).mono ?_
          rintro e w6 ⟨v6, s6, rfl, hs6, hk6, hg6⟩
          have HS6 := hid hs6
          have HK6 := hid (HK3.out.trans (((KT.of_bw ((Bw.refl w3).drewN 1)).trans HAP.out.2).trans hk6))
          have HG6 := hid hg6
          clear hs6 hk6 hg6
          go_wp2
          go_returns
          refine ⟨v6, s6, rfl, HS6.out, HK6.out, ?_⟩
          have hm : ((⟨#[32]⟩ : ByteArray) ++ o ++ ⟨#[32]⟩).data.toList = [32] ++ o.data.toList ++ [32] := by
            rw [ByteArray.data_append, ByteArray.data_append, Array.toList_append, Array.toList_append]
          have hml : ([32] ++ o.data.toList ++ [32]).length = o.size + 2 := by rw [← hm, Array.length_toList]; exact HSZ.out
          have hg6 := HG6.out
          rw [hm] at hg6
          have h2 : Grown s3 ([32] ++ o.data.toList ++ [32]) (s3.length + (o.size + 2)) (s3 ++ ([32] ++ o.data.toList ++ [32])) := Grown.one (by rw [List.length_append, hml]; exact Nat.le_refl _)
          rw [HT.out]
          refine ((HG3.out.trans h2).trans hg6).most ?_
          rw [List.length_append, hml]
          have h5 := HL3.out
          have h6 := HXI.out
          have h7 := HYI.out
          omega
end Go.Proofs.YtlilmidffcmkjaaGreatDoor
