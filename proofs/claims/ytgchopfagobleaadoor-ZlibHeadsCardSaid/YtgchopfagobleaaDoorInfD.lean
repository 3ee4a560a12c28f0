/- A stored block (contract of the method). -/
import Derived.Test.YtgchopfagobleaaDoorInfB
import Derived.Test.YtgchopfagobleaaDoorAppS
import Derived.Test.YtgchopfagobleaaDoorInfQ
import Derived.IntWalk
namespace Go.Proofs.YtgchopfagobleaaDoor
open Go.RowKit Go.Conc
set_option linter.unusedVariables false
theorem xor_mask (n : Nat) (hn : n < 65536) : bits .xor .i64 (n : Int) 65535 = ((65535 - n : Nat) : Int) := by
  show IntKind.i64.wrap ((BitVec.ofInt 64 (n : Int) ^^^ BitVec.ofInt 64 65535).toNat : Int) = _
  have e1 : (BitVec.ofInt 64 (n : Int)).toNat = n := by
    rw [BitVec.toNat_ofInt]; omega
  have e2 : (BitVec.ofInt 64 65535).toNat = 65535 := by decide
  have e3 : n ^^^ 65535 = 65535 - n := by
    apply Nat.eq_of_testBit_eq
    intro i
    rw [Nat.testBit_xor, show 65535 - n = 2 ^ 16 - (n + 1) by omega, Nat.testBit_two_pow_sub_succ (by omega), show (65535 : Nat) = 2 ^ 16 - 1 by decide, Nat.testBit_two_pow_sub_one]
    by_cases hi : i < 16
    · simp [hi]
    · have : n.testBit i = false := Nat.testBit_lt_two_pow (Nat.lt_of_lt_of_le hn (Nat.pow_le_pow_right (by decide) (by omega) : 2 ^ 16 ≤ 2 ^ i))
      simp [hi, this]
  rw [BitVec.toNat_xor, e1, e2, e3, IntKind.wrap_i64]
  omega
theorem bcs_append (a b : List UInt8) : bcs (a ++ b) = bcs a ++ bcs b := by simp [bcs]
section
variable {s : ByteArray} {lim : Nat} {last : Bool} {k q : Nat} {out : List UInt8}
theorem stored_cut1 (hq : upK k = 8 * q) (h : ¬ 8 * q + 16 ≤ 8 * s.size) : stStored s lim last k out = .bad 2 := by
  unfold stStored; rw [hq]; exact num_bad h
theorem stored_cut2 (hq : upK k = 8 * q) (h1 : 8 * q + 16 ≤ 8 * s.size) (h : ¬ 8 * q + 16 + 16 ≤ 8 * s.size) : stStored s lim last k out = .bad 2 := by
  unfold stStored; rw [hq, num_ok h1]; exact num_bad h
theorem stored_at (hq : upK k = 8 * q) (h : 8 * q + 16 + 16 ≤ 8 * s.size) : stStored s lim last k out =
    if bv s (8 * q + 16) 16 = 65535 - bv s (8 * q) 16 then (if q + 4 + bv s (8 * q) 16 ≤ s.size then (if lim < out.length + bv s (8 * q) 16 then .bad 11 else aft last (8 * (q + 4 + bv s (8 * q) 16)) (out ++ cut s (q + 4) (bv s (8 * q) 16))) else .bad 2) else .bad 3 := by
  unfold stStored
  rw [hq, num_ok (by omega), num_ok h, show (8 * q + 16 + 16) / 8 = q + 4 by omega, show 8 * q + 16 + 16 + 8 * bv s (8 * q) 16 = 8 * (q + 4 + bv s (8 * q) 16) by omega]
end
/-- What a method leaves: the inflater as the step says, or a panic. -/
def Did (B : Nat) (fb g : Nat) (s : ByteArray) (lim : Nat) (pl pd : Option Addr) (x : IOut) (w : World) (e : Ending) (w' : World) : Prop :=
  KT TI B w w' ∧ match x with
    | .bad er => e = pan er
    | .go st => e = .returned (.tuple #[]) ∧ ∃ v, Inf B w' fb g s st.k st.out lim v pl pd
    | .fin k out => e = .returned (.tuple #[]) ∧ ∃ v, Inf B w' fb g s k out lim v pl pd
theorem Did.bad {B fb g : Nat} {s : ByteArray} {lim : Nat} {pl pd : Option Addr} {x : IOut} {w w' : World} {er : Int} (h : x = .bad er) (hk : KT TI B w w') : Did B fb g s lim pl pd x w (pan er) w' := by
  subst h; exact ⟨hk, rfl⟩
theorem Did.st {B fb g : Nat} {s : ByteArray} {lim : Nat} {pl pd : Option Addr} {x : IOut} {w w' : World} {m : IMode} {k : Nat} {out : List UInt8} (h : x = .go ⟨m, k, out⟩) (hk : KT TI B w w') {v : Value} (hi : Inf B w' fb g s k out lim v pl pd) : Did B fb g s lim pl pd x w (.returned (.tuple #[])) w' := by
  subst h; exact ⟨hk, rfl, v, hi⟩
theorem Did.aft {B fb g : Nat} {s : ByteArray} {lim : Nat} {pl pd : Option Addr} {x : IOut} {w w' : World} {last : Bool} {k : Nat} {out : List UInt8} (h : x = aft last k out) (hk : KT TI B w w') {v : Value} (hi : Inf B w' fb g s k out lim v pl pd) : Did B fb g s lim pl pd x w (.returned (.tuple #[])) w' := by
  subst h; cases last <;> exact ⟨hk, rfl, v, hi⟩
section
variable {B : Nat} {w : World} {fb g : Nat} {s : ByteArray} {k : Nat} {out : List UInt8} {lim : Nat} {v : Value} {pl pd : Option Addr}
/-- The output is set anew. -/
theorem Inf.put (h : Inf B w fb g s k out lim v pl pd) {out' : List UInt8} {v' : Value} (ho : w.ownsRow B 5 1 v' out'.length (bcs out')) (hl : out'.length ≤ lim) :
    Inf B (w.setCell ⟨fb, 1, none⟩ v') fb g s k out' lim v' pl pd ∧ KT TI B w (w.setCell ⟨fb, 1, none⟩ v') := by
  have hkt : KT TI B w (w.setCell ⟨fb, 1, none⟩ v') := (KT.refl w).setCell (p := ⟨fb, 1, none⟩) h.fb (h.has.hot (by decide)) v'
  refine ⟨⟨by simpa using h.has.put 1 v', h.rd.far (fun e => h.ne e.symm) _, own_keep ho fun b hb => Below.heap_setCell w _ _ b fun e => ?_, h.fix.kt hkt (by decide) (by decide), h.fb, h.gb, h.k8, hl, h.tabs.kt hkt (Nat.le_refl _)⟩, hkt⟩
  exact own_ne_has ho h.has (by decide) (by rw [hb, e])
/-- The output's row has grown. -/
theorem Inf.grown (h : Inf B w fb g s k out lim v pl pd) {w5 : World} (hg : w.grownBy w5 v.ownBlock) :
    Has w5 fb 37 #[.pointer (some ⟨g, 0, none⟩), v, .int .i64 lim, .pointer pl, .pointer pd] ∧ Rd w5 g s k ∧ FixAt w5 B pl pd ∧ Tabs B w5 ∧ KT TI B w w5 := by
  have hk := KT.of_grown (T := TI) (B := B) h.own (Nat.le_refl _) hg (by decide)
  exact ⟨has_grown h.has hg (own_ne_has h.own h.has (by decide)), has_grown h.rd hg (own_ne_has h.own h.rd (by decide)), h.fix.kt hk (by decide) (by decide), h.tabs.kt hk (Nat.le_refl _), hk⟩
/-- The output is appended to, and set anew. -/
theorem Inf.app (h : Inf B w fb g s k out lim v pl pd) {w5 : World} (hg : w.grownBy w5 v.ownBlock) {out' : List UInt8} {v' : Value} (ho : w5.ownsRow B 5 1 v' out'.length (bcs out')) (hl : out'.length ≤ lim) :
    Inf B (w5.setCell ⟨fb, 1, none⟩ v') fb g s k out' lim v' pl pd ∧ KT TI B w (w5.setCell ⟨fb, 1, none⟩ v') := by
  obtain ⟨h1, h2, h3, h4, h5⟩ := h.grown hg
  have hkt : KT TI B w5 (w5.setCell ⟨fb, 1, none⟩ v') := (KT.refl w5).setCell (p := ⟨fb, 1, none⟩) h.fb (h1.hot (by decide)) v'
  refine ⟨⟨by simpa using h1.put 1 v', h2.far (fun e => h.ne e.symm) _, own_keep ho fun b hb => Below.heap_setCell w5 _ _ b fun e => ?_, h3.kt hkt (by decide) (by decide), h.fb, h.gb, h.k8, hl, h4.kt hkt (Nat.le_refl _)⟩, h5.trans hkt⟩
  exact own_ne_has ho h1 (by decide) (by rw [hb, e])
set_option maxRecDepth 100000 in
set_option maxHeartbeats 4000000 in
theorem stored_any (hs : s.size ≤ 281474976710656) (hl : lim ≤ 1073741824) (last : Bool) (h : Inf B w fb g s k out lim v pl pd) :
    Calls Tryd.prog 37 #[.pointer (some ⟨fb, 0, none⟩)] w (Did B fb g s lim pl pd (stStored s lim last k out) w) := by
  obtain ⟨i0, hinf, hz0, hz1, hz2⟩ := info_parts byteInfo
  obtain ⟨q, hq⟩ : ∃ q, upK k = 8 * q := ⟨upK k / 8, upK_8 k⟩
  have c0 : w.cell? ⟨fb, 0, none⟩ = some (.pointer (some ⟨g, 0, none⟩)) := h.has.cell 0
  have HA := hid (ralign_any g s hs k h.k8 w h.rd)
  have hu := upK_le k s.size h.k8
  rw [hq] at HA hu
  have HQ := hid hq
  have HI := hid h
  clear h hq
  go_enter Tryd.func37, Tryd.ntmps37
  go_wp2_with fail
  refine HA.out.mono ?_
  rintro e w1 ⟨rfl, hr1, hk1⟩
  have HI1 := hid (HI.out.read hr1 hk1 hu)
  have HK1 := hid (KT.of_rd HI.out.rd HI.out.gb hk1)
  clear hr1 hk1 c0
  go_wp2_with fail
  by_cases h1 : 8 * q + 16 ≤ 8 * s.size
  · refine (number_ok hs 16 (by omega) h1 HI1.out).mono ?_
    rintro e w2 ⟨rfl, hi2, hk2⟩
    have HI2 := hid hi2
    have HK2 := hid (HK1.out.trans hk2)
    clear hi2 hk2
    by_cases h2 : 8 * q + 16 + 16 ≤ 8 * s.size
    · have hbn : bv s (8 * q) 16 < 65536 := bv_lt s (8 * q) 16
      have hbm : bv s (8 * q + 16) 16 < 65536 := bv_lt s (8 * q + 16) 16
      have HN2 := hid (number_ok hs 16 (by omega) h2 HI2.out)
      have HX := hid (stored_at (s := s) (lim := lim) (last := last) (k := k) (out := out) HQ.out h2)
      have hx := xor_mask _ hbn
      obtain ⟨n, hn⟩ : ∃ n, bv s (8 * q) 16 = n := ⟨_, rfl⟩
      obtain ⟨m, hm⟩ : ∃ m, bv s (8 * q + 16) 16 = m := ⟨_, rfl⟩
      obtain ⟨j, hj⟩ : ∃ j, 65535 - n = j := ⟨_, rfl⟩
      rw [hn] at HX hx hbn ⊢
      rw [hm] at HX HN2 hbm
      rw [hj] at HX hx
      have HJ := hid hj
      have hqn : q + 4 ≤ s.size := by omega
      have hq9 : q ≤ 281474976710656 := by omega
      clear hn hm hj
      go_wp2_with fail
      refine HN2.out.mono ?_
      rintro e w3 ⟨rfl, hi3, hk3⟩
      have HI3 := hid (show Inf B w3 fb g s (8 * (q + 4)) out lim v pl pd by rw [show 8 * (q + 4) = 8 * q + 16 + 16 by omega]; exact hi3)
      have HK3 := hid (HK2.out.trans hk3)
      clear hi3 hk3
      by_cases hmj : m = j
      · subst hmj
        rw [if_pos rfl] at HX
        go_wp2_with fail
        refine (demand_ok _).mono ?_
        rintro e w4 ⟨rfl, rfl⟩
        go_wp2_with fail
        have HQ4 : Hid (upK (8 * (q + 4)) = 8 * (q + 4)) := by unfold Hid upK; omega
        by_cases h5 : q + 4 + n ≤ s.size
        · rw [if_pos h5] at HX
          have HCL := hid (cut_len s (q + 4) n h5)
          refine (ibytes_ok hs n (q + 4) HQ4 h5 HI3.out).mono ?_
          rintro e w5 ⟨rfl, hi5, hk5⟩
          have HI5 := hid hi5
          have HK5 := hid (HK3.out.trans hk5)
          clear hi5 hk5
          go_wp2_with fail
          by_cases h6 : lim < out.length + n
          · rw [if_pos h6] at HX
            refine (room_bad n (by omega) hl h6 HI5.out).mono ?_
            rintro e w6 ⟨rfl, hb6⟩
            exact ⟨rfl, Did.bad HX.out (HK5.out.trans (KT.of_bw hb6))⟩
          · rw [if_neg h6] at HX
            refine (room_ok n (by omega) hl h6 HI5.out).mono ?_
            rintro e w6 ⟨rfl, hb6⟩
            have HI6 := hid (HI5.out.bw hb6)
            have HK6 := hid (HK5.out.trans (KT.of_bw hb6))
            clear hb6
            have hown := HI6.out.own
            have hhas := HI6.out.has
            have HLN := hid h6
            obtain ⟨ol, hol⟩ : ∃ ol, out.length = ol := ⟨_, rfl⟩
            rw [hol] at hown h6
            obtain ⟨vo, vc, rfl⟩ := own_slice hown
            have HO6 := hid (own_down hown (Nat.zero_le _))
            have HGE := hid (fun b hb => own_ge hown (b := b) hb)
            have f1 : w6.cell? ⟨fb, 1, none⟩ = some (.slice vo ol vc) := hhas.cell 1
            have HOL := hid hol
            have HSZ := hid (show (s.extract (q + 4) (q + 4 + n)).size = n by have := HCL.out; unfold cut at this; rw [Array.length_toList] at this; exact this)
            have HCB := hid (strCells_bcs (s.extract (q + 4) (q + 4 + n)))
            have hb9 : B ≤ w6.heap.size := by have h1 := HI6.out.gb; have h2 := Has.lt HI6.out.rd; omega
            clear hown hol hhas
            generalize hxs : s.extract (q + 4) (q + 4 + n) = xs at *
            have HXS := hid hxs
            clear hxs
            go_wp2_with (at_builtin; refine wpList_app_str rfl _ _ 27 9 rfl Tryd.underlying27 Tryd.underlying9 hinf hz0 hz1 hz2 (.slice vo ol vc) ol (bcs out) rfl HO6.out xs rfl (by have := HSZ.out; omega) ?_; intro rd' w7 hown7 hgrow7 hblk7; obtain ⟨ao2, cap2, rfl⟩ := own_slice hown7; have HG7 := hid hgrow7; have HO7 := hid hown7; have HBL := hid hblk7; have h7 := (HI6.out.grown hgrow7).1; have g1 : w7.frozen? ⟨fb, 1, none⟩ = false := h7.frozen 1; have g2 : w7.cell? ⟨fb, 1, none⟩ = some (.slice vo ol vc) := h7.cell 1; clear hgrow7 hown7 hblk7 h7)
            go_returns
            have hcx : cut s (q + 4) n = xs.data.toList := by unfold cut; rw [HXS.out]
            have hln : (out ++ cut s (q + 4) n).length = ol + xs.size := by rw [List.length_append, HOL.out, HCL.out, HSZ.out]
            have hap := HI6.out.app HG7.out (out' := out ++ cut s (q + 4) n) (v' := .slice ao2 (ol + xs.size) cap2) (by
              rw [hln, hcx, bcs_append, ← HCB.out]
              refine own_lift HO7.out fun b hb => ?_
              rcases HBL.out with h | h
              · exact HGE.out b (by rw [← h]; exact hb)
              · have := h b hb; omega) (by have := HLN.out; rw [hln, HSZ.out]; omega)
            exact Did.aft HX.out (HK6.out.trans hap.2) hap.1
        · rw [if_neg h5] at HX
          refine (ibytes_bad hs n (q + 4) HQ4 h5 HI3.out).mono ?_
          rintro e w5 ⟨rfl, hk5⟩
          exact ⟨rfl, Did.bad HX.out (HK3.out.trans hk5)⟩
      · rw [if_neg hmj] at HX
        have t1 : ((m : Int) == (j : Int)) = false := by simp; omega
        go_wp2_with fail
        refine (demand_bad _).mono ?_
        rintro e w4 ⟨rfl, rfl⟩
        exact ⟨rfl, Did.bad HX.out HK3.out⟩
    · have HX := hid (stored_cut2 (s := s) (lim := lim) (last := last) (k := k) (out := out) HQ.out h1 h2)
      go_wp2_with fail
      refine (number_bad hs 16 (by omega) h2 HI2.out).mono ?_
      rintro e w3 ⟨rfl, hk3⟩
      exact ⟨rfl, Did.bad HX.out (HK2.out.trans hk3)⟩
  · have HX := hid (stored_cut1 (s := s) (lim := lim) (last := last) (k := k) (out := out) HQ.out h1)
    refine (number_bad hs 16 (by omega) h1 HI1.out).mono ?_
    rintro e w2 ⟨rfl, hk2⟩
    exact ⟨rfl, Did.bad HX.out (HK1.out.trans hk2)⟩
end
end Go.Proofs.YtgchopfagobleaaDoor
