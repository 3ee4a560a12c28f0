/- A part of an expression is printed, where expressions are (contract of the method). -/
import Derived.Test.YtlilmidffcmkjaaGreatDoorExpQa
namespace Go.Proofs.YtlilmidffcmkjaaGreatDoor
open Go.RowKit
set_option linter.unusedVariables false
set_option linter.unusedSimpArgs false
set_option maxRecDepth 100000 in
set_option maxHeartbeats 4000000 in
theorem part_any (w0 : World) (p : Nat) (a : Option Addr) (len cap : Nat) (hlen : len ≤ 400) (l : List ExpR) (hll : Hid (l.length = len)) (hst : ExpAt w0 a l) (hS : SgnAt w0) (x : Nat) (hx : x < l.length) (least : Nat) (hle : least ≤ 7)
    (HEX : ∀ W v s, PrS w0 W p a len cap v s → s.length ≤ 1000000 → Calls Tryz.prog 22 #[.pointer (some ⟨p, 0, none⟩), .int .i64 x] W (PrP w0 W p a len cap s (txt l x) (max s.length (20000 + 30 * (x + 1)))))
    (w : World) (v : Value) (s : List UInt8) (h : PrS w0 w p a len cap v s) (hsz : s.length ≤ 900000) :
    Calls Tryz.prog 33 #[.pointer (some ⟨p, 0, none⟩), .int .i64 x, .int .i64 least] w (PrP w0 w p a len cap s (prt l x least) (max s.length (20000 + 30 * (x + 1)) + 2)) := by
  obtain ⟨i0, hinf, hz0, hz1, hz2⟩ := info_parts byteInfo
  have g0 := h.pr.cell 0
  simp at g0
  have i2 : (x : Int) < len := by have := hll.out; omega
  have hx4 : x < 400 := by have := hll.out; omega
  have HS := hid h
  have HGS := hid (hS.bw h.bw)
  have HX := hid HEX
  obtain ⟨b, off, rfl, hbb, c0, c1, c2, c3, c4, hv'⟩ := hst.below h.bw x hx
  have HP := hid (show prt l x least = if l[x].op = nilS ∨ least ≤ lvlOf l[x].op then txt l x else [40] ++ txt l x ++ [41] from by
    unfold prt
    rw [show l.getD x ⟨nilS, nilS, 0, 0, 0⟩ = l[x] from by rw [List.getD_eq_getElem?_getD, List.getElem?_eq_getElem hx]; rfl])
  clear hv' HEX h hS hst
  generalize hop : l[x].op = op at *
  by_cases o0 : op = ⟨#[]⟩
  · have HP2 := hid (HP.out.trans (if_pos (Or.inl o0)))
    subst o0
    go_enter Tryz.func33, Tryz.ntmps33
    go_wp2_with fail
    refine (HX.out _ _ _ HS.out (by omega)).mono ?_
    rintro e w2 ⟨v2, s2, rfl, hs2, hk2, hg2⟩
    have HS2 := hid hs2
    have HK2 := hid hk2
    have HG2 := hid hg2
    clear hs2 hk2 hg2
    go_wp2
    go_returns
    exact ⟨v2, s2, rfl, HS2.out, HK2.out, by rw [HP2.out]; exact HG2.out.most (by omega)⟩
  · have t0 := toList_ne op o0
    have t00 : (op.toList == nilS.toList) = false := str_ne o0
    have HLV := hid (levelOf_any op w HGS.out)
    by_cases hlv : least ≤ lvlOf op
    · have HP2 := hid (HP.out.trans (if_pos (Or.inr hlv)))
      have k1 : ((least : Nat) : Int) ≤ (lvlOf op : Nat) := by omega
      clear o0
      go_enter Tryz.func33, Tryz.ntmps33
      go_wp2_with fail
      refine HLV.out.mono ?_
      rintro e w1 ⟨rfl, hb1⟩
      have HB1 := hid hb1
      have HS1 := hid (HS.out.later hb1)
      clear hb1
      go_wp2_with fail
      refine (HX.out _ _ _ HS1.out (by omega)).mono ?_
      rintro e w2 ⟨v2, s2, rfl, hs2, hk2, hg2⟩
      have HS2 := hid hs2
      have HK2 := hid hk2
      have HG2 := hid hg2
      clear hs2 hk2 hg2
      go_wp2
      go_returns
      exact ⟨v2, s2, rfl, HS2.out, (KT.of_bw HB1.out).trans HK2.out, by rw [HP2.out]; exact HG2.out.most (by omega)⟩
    · have HP2 := hid (HP.out.trans (if_neg (fun h => h.elim (fun h => o0 h) hlv)))
      have k1 : ¬ ((least : Nat) : Int) ≤ (lvlOf op : Nat) := by omega
      clear o0
      go_enter Tryz.func33, Tryz.ntmps33
      go_wp2_with fail
      refine HLV.out.mono ?_
      rintro e w1 ⟨rfl, hb1⟩
      have HB1 := hid hb1
      have HA1 := hid (show Bw w1 (w1.alloc (.cells #[.int .u8 40] 5)) from (Bw.refl w1).alloc _)
      have HS1 := hid ((HS.out.later hb1).later HA1.out)
      have q1 := (HS.out.later hb1).pr.cell 1
      simp at q1
      have HBS := hid (HS1.out.bw.size)
      clear hb1
      have HB40 := hid (show bcs s ++ [Value.int .u8 40] = bcs s ++ [.int .u8 ((40 : UInt8).toNat : Nat)] from rfl)
      have HB41 := hid (fun (t : List UInt8) => show bcs t ++ [Value.int .u8 41] = bcs t ++ [.int .u8 ((41 : UInt8).toNat : Nat)] from rfl)
      go_wp2_with (at_builtin; refine wpList_append_own_at _ rfl (.tmp 30) (.tmp 31) 62 rfl w0.heap.size 5 i0 (.int .u8 0) 1 1 Tryz.underlying62 hinf hz0 hz1 hz2 rfl (by decide) v s.length (bcs s) rfl HS1.out.row ⟨w1.heap.size, 0, none⟩ 1 1 [.int .u8 40] rfl rfl (cell_one_new _ _ _) (by intro u hu; simp at hu; rw [hu]; rfl) (by unfold maxLen; omega) (by omega) HBS.out ?_; intro v5 w5 hown5 hgrow5 _ hnb5; obtain ⟨vo5, vc5, rfl⟩ := own_slice hown5; have HAP := hid (HS1.out.byte 40 (HB40.out ▸ hown5) hgrow5 hnb5); have z5 := (HS1.out.mid hgrow5).frozen 1; have y5 := (HS1.out.mid hgrow5).cell 1; simp at y5; clear hown5 hgrow5 hnb5)
      have HL5 := hid (show (s ++ [(40 : UInt8)]).length = s.length + 1 by simp)
      refine (HX.out _ _ _ HAP.out.1 (by rw [HL5.out]; omega)).mono ?_
      rintro e w2 ⟨v2, s2, rfl, hs2, hk2, hg2⟩
      have HK2 := hid ((KT.of_bw HB1.out).trans ((KT.of_bw HA1.out).trans (HAP.out.2.trans hk2)))
      have hm2 := hg2.le
      rw [HL5.out] at hm2
      have hm3 : s2.length ≤ 1000000 := by omega
      obtain ⟨a2, b2, rfl⟩ := own_slice hs2.row
      have q2 := hs2.pr.cell 1
      simp at q2
      have HA2 := hid (show Bw w2 (w2.alloc (.cells #[.int .u8 41] 5)) from (Bw.refl w2).alloc _)
      have HS2 := hid (hs2.later HA2.out)
      have HBS2 := hid (HS2.out.bw.size)
      have HG2 := hid hg2
      clear hs2 hk2 hg2 hm2
      go_wp2_with (at_builtin; refine wpList_append_own_at _ rfl (.tmp 42) (.tmp 43) 62 rfl w0.heap.size 5 i0 (.int .u8 0) 1 1 Tryz.underlying62 hinf hz0 hz1 hz2 rfl (by decide) (.slice a2 s2.length b2) s2.length (bcs s2) rfl HS2.out.row ⟨w2.heap.size, 0, none⟩ 1 1 [.int .u8 41] rfl rfl (cell_one_new _ _ _) (by intro u hu; simp at hu; rw [hu]; rfl) (by unfold maxLen; omega) (by omega) HBS2.out ?_; intro v6 w6 hown6 hgrow6 _ hnb6; obtain ⟨vo6, vc6, rfl⟩ := own_slice hown6; have HAP2 := hid (HS2.out.byte 41 (HB41.out s2 ▸ hown6) hgrow6 hnb6); have z6 := (HS2.out.mid hgrow6).frozen 1; have y6 := (HS2.out.mid hgrow6).cell 1; simp at y6; clear hown6 hgrow6 hnb6)
      go_returns
      refine ⟨_, _, rfl, HAP2.out.1, HK2.out.trans ((KT.of_bw HA2.out).trans HAP2.out.2), ?_⟩
      rw [HP2.out]
      have h1 : Grown s [40] (s.length + 1) (s ++ [40]) := Grown.one (by simp)
      have h2 := h1.trans HG2.out
      have h3 : Grown s2 [41] (max s.length (20000 + 30 * (x + 1)) + 2) (s2 ++ [41]) := Grown.one (by
        have := HG2.out.le
        rw [HL5.out] at this
        simp only [List.length_append, List.length_singleton]
        omega)
      exact h2.trans h3
end Go.Proofs.YtlilmidffcmkjaaGreatDoor
