import Derived.Test.YtkmbgkcpohchhaaGreatDoorGHufU
import Derived.IntWalk
import Derived.Deep.AppendLies
import Derived.Deep.RegionLaw
namespace Go.Proofs.YtkmbgkcpohchhaaGreatDoor
open Go.RowKit Go.Conc
set_option linter.unusedVariables false
theorem xor_mask_i (n : Nat) (hn : n < 65536) : bits .xor .i64 (n : Int) 65535 = ((65535 - n : Nat) : Int) := by
  show IntKind.i64.wrap ((BitVec.ofInt 64 (n : Int) ^^^ BitVec.ofInt 64 65535).toNat : Int) = _
  have e1 : (BitVec.ofInt 64 (n : Int)).toNat = n := by
    rw [BitVec.toNat_ofInt]; omega
  have e2 : (BitVec.ofInt 64 65535).toNat = 65535 := by decide
  have e3 : n ^^^ 65535 = 65535 - n := by
    apply Nat.eq_of_testBit_eq
    intro i
    rw [Nat.testBit_xor, show 65535 - n = 2 ^ 16 - (n + 1) by omega, Nat.testBit_two_pow_sub_succ (by omega), show (65535 : Nat) = 2 ^ 16 - 1 by decide, Nat.testBit_two_pow_sub_one]
    by_cases hi : i < 16
    · simp [hi]
    · have : n.testBit i = false := Nat.testBit_lt_two_pow (Nat.lt_of_lt_of_le hn (Nat.pow_le_pow_right (by decide) (by omega) : 2 ^ 16 ≤ 2 ^ i))
      simp [hi, this]
  rw [BitVec.toNat_xor, e1, e2, e3, IntKind.wrap_i64]
  omega
theorem bcs_append (a b : List UInt8) : bcs (a ++ b) = bcs a ++ bcs b := by simp [bcs]
section
variable {s : ByteArray} {lim : Nat} {last : Bool} {k q : Nat} {out : List UInt8}
theorem stored_cut1 (hq : upK k = 8 * q) (h : ¬ 8 * q + 16 ≤ 8 * s.size) : stStored s lim last k out = .bad 2 := by
  unfold stStored; rw [hq]; exact num_bad h
theorem stored_cut2 (hq : upK k = 8 * q) (h1 : 8 * q + 16 ≤ 8 * s.size) (h : ¬ 8 * q + 16 + 16 ≤ 8 * s.size) : stStored s lim last k out = .bad 2 := by
  unfold stStored; rw [hq, num_ok h1]; exact num_bad h
theorem stored_at (hq : upK k = 8 * q) (h : 8 * q + 16 + 16 ≤ 8 * s.size) : stStored s lim last k out =
    if bv s (8 * q + 16) 16 = 65535 - bv s (8 * q) 16 then (if q + 4 + bv s (8 * q) 16 ≤ s.size then (if lim < out.length + bv s (8 * q) 16 then .bad 11 else aft last (8 * (q + 4 + bv s (8 * q) 16)) (out ++ cut s (q + 4) (bv s (8 * q) 16))) else .bad 2) else .bad 3 := by
  unfold stStored
  rw [hq, num_ok (by omega), num_ok h, show (8 * q + 16 + 16) / 8 = q + 4 by omega, show 8 * q + 16 + 16 + 8 * bv s (8 * q) 16 = 8 * (q + 4 + bv s (8 * q) 16) by omega]
end
def Did (B : Nat) (fb g : Nat) (s : ByteArray) (lim : Nat) (pl pd : Option Addr) (x : IOut) (w : World) (e : Ending) (w' : World) : Prop :=
  KT TI B w w' ∧ match x with
    | .bad er => e = pan er
    | .go st => e = .returned (.tuple #[]) ∧ ∃ v, Inf B w' fb g s st.k st.out lim v pl pd
    | .fin k out => e = .returned (.tuple #[]) ∧ ∃ v, Inf B w' fb g s k out lim v pl pd
theorem Did.bad {B fb g : Nat} {s : ByteArray} {lim : Nat} {pl pd : Option Addr} {x : IOut} {w w' : World} {er : Int} (h : x = .bad er) (hk : KT TI B w w') : Did B fb g s lim pl pd x w (pan er) w' := by
  subst h; exact ⟨hk, rfl⟩
theorem Did.st {B fb g : Nat} {s : ByteArray} {lim : Nat} {pl pd : Option Addr} {x : IOut} {w w' : World} {m : IMode} {k : Nat} {out : List UInt8} (h : x = .go ⟨m, k, out⟩) (hk : KT TI B w w') {v : Value} (hi : Inf B w' fb g s k out lim v pl pd) : Did B fb g s lim pl pd x w (.returned (.tuple #[])) w' := by
  subst h; exact ⟨hk, rfl, v, hi⟩
theorem Did.aft {B fb g : Nat} {s : ByteArray} {lim : Nat} {pl pd : Option Addr} {x : IOut} {w w' : World} {last : Bool} {k : Nat} {out : List UInt8} (h : x = aft last k out) (hk : KT TI B w w') {v : Value} (hi : Inf B w' fb g s k out lim v pl pd) : Did B fb g s lim pl pd x w (.returned (.tuple #[])) w' := by
  subst h; cases last <;> exact ⟨hk, rfl, v, hi⟩
section
variable {B : Nat} {w : World} {fb g : Nat} {s : ByteArray} {k : Nat} {out : List UInt8} {lim : Nat} {v : Value} {pl pd : Option Addr}
theorem Inf.put (h : Inf B w fb g s k out lim v pl pd) {out' : List UInt8} {v' : Value} (ho : w.ownsRow B 5 1 v' out'.length (bcs out')) (hl : out'.length ≤ lim) :
    Inf B (w.setCell ⟨fb, 1, none⟩ v') fb g s k out' lim v' pl pd ∧ KT TI B w (w.setCell ⟨fb, 1, none⟩ v') := by
  have hkt : KT TI B w (w.setCell ⟨fb, 1, none⟩ v') := (KT.refl w).setCell (p := ⟨fb, 1, none⟩) h.fb (h.has.hot (by decide)) v'
  refine ⟨⟨by simpa using h.has.put 1 v', h.rd.far (fun e => h.ne e.symm) _, own_keep ho fun b hb => Below.heap_setCell w _ _ b fun e => ?_, h.fix.kt hkt (by decide) (by decide), h.fb, h.gb, h.k8, hl, h.tabs.kt hkt (Nat.le_refl _)⟩, hkt⟩
  exact own_ne_has ho h.has (by decide) (by rw [hb, e])
theorem Inf.grown (h : Inf B w fb g s k out lim v pl pd) {w5 : World} (hg : w.grownBy w5 v.ownBlock) :
    Has w5 fb 96 #[.pointer (some ⟨g, 0, none⟩), v, .int .i64 lim, .pointer pl, .pointer pd] ∧ Rd w5 g s k ∧ FixAt w5 B pl pd ∧ Tabs B w5 ∧ KT TI B w w5 := by
  have hk := KT.of_grown (T := TI) (B := B) h.own (Nat.le_refl _) hg (by decide)
  exact ⟨has_grown h.has hg (own_ne_has h.own h.has (by decide)), has_grown h.rd hg (own_ne_has h.own h.rd (by decide)), h.fix.kt hk (by decide) (by decide), h.tabs.kt hk (Nat.le_refl _), hk⟩
theorem Inf.app (h : Inf B w fb g s k out lim v pl pd) {w5 : World} (hg : w.grownBy w5 v.ownBlock) {out' : List UInt8} {v' : Value} (ho : w5.ownsRow B 5 1 v' out'.length (bcs out')) (hl : out'.length ≤ lim) :
    Inf B (w5.setCell ⟨fb, 1, none⟩ v') fb g s k out' lim v' pl pd ∧ KT TI B w (w5.setCell ⟨fb, 1, none⟩ v') := by
  obtain ⟨h1, h2, h3, h4, h5⟩ := h.grown hg
  have hkt : KT TI B w5 (w5.setCell ⟨fb, 1, none⟩ v') := (KT.refl w5).setCell (p := ⟨fb, 1, none⟩) h.fb (h1.hot (by decide)) v'
  refine ⟨⟨by simpa using h1.put 1 v', h2.far (fun e => h.ne e.symm) _, own_keep ho fun b hb => Below.heap_setCell w5 _ _ b fun e => ?_, h3.kt hkt (by decide) (by decide), h.fb, h.gb, h.k8, hl, h4.kt hkt (Nat.le_refl _)⟩, h5.trans hkt⟩
  exact own_ne_has ho h1 (by decide) (by rw [hb, e])
set_option maxRecDepth 100000 in
set_option maxHeartbeats 4000000 in
theorem stored_any_i (hs : s.size ≤ 281474976710656) (hl : lim ≤ 1073741824) (last : Bool) (h : Inf B w fb g s k out lim v pl pd) :
    Calls Tryz.prog 106 #[.pointer (some ⟨fb, 0, none⟩)] w (Did B fb g s lim pl pd (stStored s lim last k out) w) := by
  obtain ⟨i0, hinf, hz0, hz1, hz2⟩ := info_parts byteInfo
  obtain ⟨q, hq⟩ : ∃ q, upK k = 8 * q := ⟨upK k / 8, upK_8 k⟩
  have c0 : w.cell? ⟨fb, 0, none⟩ = some (.pointer (some ⟨g, 0, none⟩)) := h.has.cell 0
  have HA := hid (ralign_any g s hs k h.k8 w h.rd)
  have hu := upK_le k s.size h.k8
  rw [hq] at HA hu
  have HQ := hid hq
  have HI := hid h
  clear h hq
  go_enter Tryz.func106, Tryz.ntmps106
  go_wp2_with fail
  refine HA.out.mono ?_
  rintro e w1 ⟨rfl, hr1, hk1⟩
  have HI1 := hid (HI.out.read hr1 hk1 hu)
  have HK1 := hid (KT.of_rd HI.out.rd HI.out.gb hk1)
  clear hr1 hk1 c0
  go_wp2_with fail
  by_cases h1 : 8 * q + 16 ≤ 8 * s.size
  · refine (number_ok hs 16 (by omega) h1 HI1.out).mono ?_
    rintro e w2 ⟨rfl, hi2, hk2⟩
    have HI2 := hid hi2
    have HK2 := hid (HK1.out.trans hk2)
    clear hi2 hk2
    by_cases h2 : 8 * q + 16 + 16 ≤ 8 * s.size
    · have hbn : bv s (8 * q) 16 < 65536 := bv_lt s (8 * q) 16
      have hbm : bv s (8 * q + 16) 16 < 65536 := bv_lt s (8 * q + 16) 16
      have HN2 := hid (number_ok hs 16 (by omega) h2 HI2.out)
      have HX := hid (stored_at (s := s) (lim := lim) (last := last) (k := k) (out := out) HQ.out h2)
      have hx := xor_mask_i _ hbn
      obtain ⟨n, hn⟩ : ∃ n, bv s (8 * q) 16 = n := ⟨_, rfl⟩
      obtain ⟨m, hm⟩ : ∃ m, bv s (8 * q + 16) 16 = m := ⟨_, rfl⟩
      obtain ⟨j, hj⟩ : ∃ j, 65535 - n = j := ⟨_, rfl⟩
      rw [hn] at HX hx hbn ⊢
      rw [hm] at HX HN2 hbm
      rw [hj] at HX hx
      have HJ := hid hj
      have hqn : q + 4 ≤ s.size := by omega
      have hq9 : q ≤ 281474976710656 := by omega
      clear hn hm hj
      go_wp2_with fail
      refine HN2.out.mono ?_
      rintro e w3 ⟨rfl, hi3, hk3⟩
      have HI3 := hid (show Inf B w3 fb g s (8 * (q + 4)) out lim v pl pd by rw [show 8 * (q + 4) = 8 * q + 16 + 16 by omega]; exact hi3)
      have HK3 := hid (HK2.out.trans hk3)
      clear hi3 hk3
      by_cases hmj : m = j
      · subst hmj
        rw [if_pos rfl] at HX
        go_wp2_with fail
        refine (demand_ok _).mono ?_
        rintro e w4 ⟨rfl, rfl⟩
        go_wp2_with fail
        have HQ4 : Hid (upK (8 * (q + 4)) = 8 * (q + 4)) := by unfold Hid upK; omega
        by_cases h5 : q + 4 + n ≤ s.size
        · rw [if_pos h5] at HX
          have HCL := hid (cut_len s (q + 4) n h5)
          refine (ibytes_ok hs n (q + 4) HQ4 h5 HI3.out).mono ?_
          rintro e w5 ⟨rfl, hi5, hk5⟩
          have HI5 := hid hi5
          have HK5 := hid (HK3.out.trans hk5)
          clear hi5 hk5
          go_wp2_with fail
          by_cases h6 : lim < out.length + n
          · rw [if_pos h6] at HX
            refine (room_bad n (by omega) hl h6 HI5.out).mono ?_
            rintro e w6 ⟨rfl, hb6⟩
            exact ⟨rfl, Did.bad HX.out (HK5.out.trans (KT.of_bw hb6))⟩
          · rw [if_neg h6] at HX
            refine (room_ok n (by omega) hl h6 HI5.out).mono ?_
            rintro e w6 ⟨rfl, hb6⟩
            have HI6 := hid (HI5.out.bw hb6)
            have HK6 := hid (HK5.out.trans (KT.of_bw hb6))
            clear hb6
            have hown := HI6.out.own
            have hhas := HI6.out.has
            have HLN := hid h6
            obtain ⟨ol, hol⟩ : ∃ ol, out.length = ol := ⟨_, rfl⟩
            rw [hol] at hown h6
            obtain ⟨vo, vc, rfl⟩ := own_slice hown
            have HO6 := hid (own_down hown (Nat.zero_le _))
            have HGE := hid (fun b hb => own_ge hown (b := b) hb)
            have f1 : w6.cell? ⟨fb, 1, none⟩ = some (.slice vo ol vc) := hhas.cell 1
            have HOL := hid hol
            have HSZ := hid (show (s.extract (q + 4) (q + 4 + n)).size = n by have := HCL.out; unfold cut at this; rw [Array.length_toList] at this; exact this)
            have HCB := hid (strCells_bcs (s.extract (q + 4) (q + 4 + n)))
            have hb9 : B ≤ w6.heap.size := by have h1 := HI6.out.gb; have h2 := Has.lt HI6.out.rd; omega
            clear hown hol hhas
            generalize hxs : s.extract (q + 4) (q + 4 + n) = xs at *
            have HXS := hid hxs
            clear hxs
            go_wp2_with (at_builtin; refine wpList_app_str rfl _ _ 41 9 rfl Tryz.underlying41 Tryz.underlying9 hinf hz0 hz1 hz2 (.slice vo ol vc) ol (bcs out) rfl HO6.out xs rfl (by have := HSZ.out; omega) ?_; intro rd' w7 hown7 hgrow7 hblk7; obtain ⟨ao2, cap2, rfl⟩ := own_slice hown7; have HG7 := hid hgrow7; have HO7 := hid hown7; have HBL := hid hblk7; have h7 := (HI6.out.grown hgrow7).1; have g1 : w7.frozen? ⟨fb, 1, none⟩ = false := h7.frozen 1; have g2 : w7.cell? ⟨fb, 1, none⟩ = some (.slice vo ol vc) := h7.cell 1; clear hgrow7 hown7 hblk7 h7)
            go_returns
            have hcx : cut s (q + 4) n = xs.data.toList := by unfold cut; rw [HXS.out]
            have hln : (out ++ cut s (q + 4) n).length = ol + xs.size := by rw [List.length_append, HOL.out, HCL.out, HSZ.out]
            have hap := HI6.out.app HG7.out (out' := out ++ cut s (q + 4) n) (v' := .slice ao2 (ol + xs.size) cap2) (by
              rw [hln, hcx, bcs_append, ← HCB.out]
              refine own_lift HO7.out fun b hb => ?_
              rcases HBL.out with h | h
              · exact HGE.out b (by rw [← h]; exact hb)
              · have := h b hb; omega) (by have := HLN.out; rw [hln, HSZ.out]; omega)
            exact Did.aft HX.out (HK6.out.trans hap.2) hap.1
        · rw [if_neg h5] at HX
          refine (ibytes_bad hs n (q + 4) HQ4 h5 HI3.out).mono ?_
          rintro e w5 ⟨rfl, hk5⟩
          exact ⟨rfl, Did.bad HX.out (HK3.out.trans hk5)⟩
      · rw [if_neg hmj] at HX
        have t1 : ((m : Int) == (j : Int)) = false := by simp; omega
        go_wp2_with fail
        refine (demand_bad _).mono ?_
        rintro e w4 ⟨rfl, rfl⟩
        exact ⟨rfl, Did.bad HX.out HK3.out⟩
    · have HX := hid (stored_cut2 (s := s) (lim := lim) (last := last) (k := k) (out := out) HQ.out h1 h2)
      go_wp2_with fail
      refine (number_bad hs 16 (by omega) h2 HI2.out).mono ?_
      rintro e w3 ⟨rfl, hk3⟩
      exact ⟨rfl, Did.bad HX.out (HK2.out.trans hk3)⟩
  · have HX := hid (stored_cut1 (s := s) (lim := lim) (last := last) (k := k) (out := out) HQ.out h1)
    refine (number_bad hs 16 (by omega) h1 HI1.out).mono ?_
    rintro e w2 ⟨rfl, hk2⟩
    exact ⟨rfl, Did.bad HX.out (HK1.out.trans hk2)⟩
end
end Go.Proofs.YtkmbgkcpohchhaaGreatDoor
namespace Go.Proofs.YtkmbgkcpohchhaaGreatDoor
set_option linter.unusedVariables false
/-! A lower limit. -/
def LimRel (b : Nat) (x y : IOut) : Prop := (∃ e, x = .bad e) ∨ (x.len ≤ b ∧ y = x) ∨ (b < x.len ∧ y = .bad 11)
theorem LimRel.bad (b : Nat) (e : Int) (y : IOut) : LimRel b (.bad e) y := .inl ⟨e, rfl⟩
theorem LimRel.same {b : Nat} {x : IOut} (h : x.len ≤ b) : LimRel b x x := .inr (.inl ⟨h, rfl⟩)
theorem num_lim {b : Nat} {s : ByteArray} {k n : Nat} {f g : Nat → Nat → IOut} (hf : ∀ v k', k' ≤ 8 * s.size → LimRel b (f v k') (g v k')) : LimRel b (num s k n f) (num s k n g) := by
  by_cases hk : k + n ≤ 8 * s.size
  · rw [num_ok hk, num_ok hk]; exact hf _ _ hk
  · rw [num_bad hk]; exact .bad ..
theorem sym1_lim {b : Nat} {s : ByteArray} {l : List Int} {k : Nat} {f g : Nat → Nat → IOut} (hf : ∀ v k', LimRel b (f v k') (g v k')) : LimRel b (sym1 s l k f) (sym1 s l k g) := by
  by_cases h0 : nextE l s k = 0
  · rw [sym1_ok h0, sym1_ok h0]; exact hf _ _
  · rw [sym1_bad h0]; exact .bad ..
theorem ite_lim {b : Nat} {c : Prop} [Decidable c] {x x' y y' : IOut} (h : c → LimRel b x x') (k : ¬ c → LimRel b y y') : LimRel b (if c then x else y) (if c then x' else y') := by
  by_cases hc : c
  · rw [if_pos hc, if_pos hc]; exact h hc
  · rw [if_neg hc, if_neg hc]; exact k hc
theorem aft_lim {b : Nat} {last : Bool} {k : Nat} {out : List UInt8} (h : out.length ≤ b) : LimRel b (aft last k out) (aft last k out) := by
  cases last <;> exact .same h
theorem aft_len (last : Bool) (k : Nat) (out : List UInt8) : (aft last k out).len = out.length := by cases last <;> rfl
theorem room_lim {L b n : Nat} (hb : b ≤ L) {x : IOut} (hx : x.len = n) : LimRel b (if L < n then .bad 11 else x) (if b < n then .bad 11 else x) := by
  by_cases h1 : L < n
  · rw [if_pos h1]; exact .bad ..
  · rw [if_neg h1]
    by_cases h2 : b < n
    · rw [if_pos h2]; exact .inr (.inr ⟨by omega, rfl⟩)
    · rw [if_neg h2]; exact .same (by omega)
theorem step_lim {s : ByteArray} {L b : Nat} (hb : b ≤ L) (st : ISt) (ho : st.out.length ≤ b) : LimRel b (step s L st) (step s b st) := by
  obtain ⟨m, k, out⟩ := st
  have ho : out.length ≤ b := ho
  cases m with
  | top =>
    rw [step_top, step_top]
    unfold stTop stStored stHead
    refine num_lim fun _ k1 h1 => num_lim fun kind k2 h2 => ite_lim (fun _ => ?_) fun _ => ite_lim (fun _ => .same ho) fun _ => ite_lim (fun _ => ?_) fun _ => .bad ..
    · refine num_lim fun n k3 h3 => num_lim fun m k4 h4 => ite_lim (fun _ => ite_lim (fun hq => ?_) fun _ => .bad ..) fun _ => .bad ..
      exact room_lim hb (by rw [aft_len, List.length_append, cut_len _ _ _ hq])
    · exact num_lim fun a k3 h3 => num_lim fun b k4 h4 => num_lim fun c k5 h5 => ite_lim (fun _ => .same ho) fun _ => .bad ..
  | hdr last n d g i l =>
    rw [step_hdr, step_hdr]
    unfold stHdr
    exact ite_lim (fun _ => num_lim fun _ _ _ => .same ho) fun _ => ite_lim (fun _ => .same ho) fun _ => .bad ..
  | seq last n d t l =>
    rw [step_seq, step_seq]
    unfold stSeq stPut
    refine ite_lim (fun _ => sym1_lim fun x k1 => ite_lim (fun _ => ite_lim (fun _ => .bad ..) fun _ => ?_) fun _ => ite_lim (fun _ => ?_) fun _ => ite_lim (fun _ => ?_) fun _ => ?_) fun _ => ite_lim (fun _ => .bad ..) fun _ => ite_lim (fun _ => ite_lim (fun _ => .same ho) fun _ => .bad ..) fun _ => .bad ..
    · exact num_lim fun _ _ _ => ite_lim (fun _ => .same ho) fun _ => .bad ..
    · exact num_lim fun _ _ _ => ite_lim (fun _ => .same ho) fun _ => .bad ..
    · exact num_lim fun _ _ _ => ite_lim (fun _ => .same ho) fun _ => .bad ..
    · exact ite_lim (fun _ => .same ho) fun _ => .bad ..
  | sym last lt dt =>
    rw [step_sym, step_sym]
    unfold stSym stMatch
    refine sym1_lim fun x k1 => ite_lim (fun _ => aft_lim ho) fun _ => ite_lim (fun _ => ?_) fun _ => ite_lim (fun _ => .bad ..) fun _ => num_lim fun v k2 h2 => sym1_lim fun y k3 => ite_lim (fun _ => .bad ..) fun _ => num_lim fun u k4 h4 => ite_lim (fun _ => .bad ..) fun _ => ?_
    · exact room_lim hb (by show (out ++ [_]).length = _; rw [List.length_append]; rfl)
    · exact room_lim hb (by show (rep out _ _).length = _; rw [rep_len])
theorem num_len {n0 : Nat} {s : ByteArray} {k n : Nat} {f : Nat → Nat → IOut} (hf : ∀ v k', (∃ e, f v k' = .bad e) ∨ n0 ≤ (f v k').len) : (∃ e, num s k n f = .bad e) ∨ n0 ≤ (num s k n f).len := by
  by_cases hk : k + n ≤ 8 * s.size
  · rw [num_ok hk]; exact hf _ _
  · rw [num_bad hk]; exact .inl ⟨_, rfl⟩
theorem sym1_len {n0 : Nat} {s : ByteArray} {l : List Int} {k : Nat} {f : Nat → Nat → IOut} (hf : ∀ v k', (∃ e, f v k' = .bad e) ∨ n0 ≤ (f v k').len) : (∃ e, sym1 s l k f = .bad e) ∨ n0 ≤ (sym1 s l k f).len := by
  by_cases h0 : nextE l s k = 0
  · rw [sym1_ok h0]; exact hf _ _
  · rw [sym1_bad h0]; exact .inl ⟨_, rfl⟩
theorem ite_len {n0 : Nat} {c : Prop} [Decidable c] {x y : IOut} (h : c → (∃ e, x = .bad e) ∨ n0 ≤ x.len) (k : ¬ c → (∃ e, y = .bad e) ∨ n0 ≤ y.len) : (∃ e, (if c then x else y) = .bad e) ∨ n0 ≤ (if c then x else y).len := by
  by_cases hc : c
  · rw [if_pos hc]; exact h hc
  · rw [if_neg hc]; exact k hc
theorem step_len (s : ByteArray) (L : Nat) (st : ISt) : (∃ e, step s L st = .bad e) ∨ st.out.length ≤ (step s L st).len := by
  obtain ⟨m, k, out⟩ := st
  show _ ∨ out.length ≤ _
  have hz : ∀ e, (∃ e', IOut.bad e = .bad e') ∨ out.length ≤ (IOut.bad e).len := fun e => .inl ⟨e, rfl⟩
  have hs : ∀ (m : IMode) (k : Nat), (∃ e', IOut.go ⟨m, k, out⟩ = .bad e') ∨ out.length ≤ (IOut.go ⟨m, k, out⟩).len := fun m k => .inr (Nat.le_refl _)
  cases m with
  | top =>
    rw [step_top]
    unfold stTop stStored stHead
    refine num_len fun _ k1 => num_len fun kind k2 => ite_len (fun _ => ?_) fun _ => ite_len (fun _ => hs _ _) fun _ => ite_len (fun _ => ?_) fun _ => hz _
    · refine num_len fun n k3 => num_len fun m k4 => ite_len (fun _ => ite_len (fun hq => ite_len (fun _ => hz _) fun _ => .inr ?_) fun _ => hz _) fun _ => hz _
      rw [aft_len, List.length_append]; omega
    · exact num_len fun a k3 => num_len fun b k4 => num_len fun c k5 => ite_len (fun _ => hs _ _) fun _ => hz _
  | hdr last n d g i l =>
    rw [step_hdr]
    unfold stHdr
    exact ite_len (fun _ => num_len fun _ _ => hs _ _) fun _ => ite_len (fun _ => hs _ _) fun _ => hz _
  | seq last n d t l =>
    rw [step_seq]
    unfold stSeq stPut
    refine ite_len (fun _ => sym1_len fun x k1 => ite_len (fun _ => ite_len (fun _ => hz _) fun _ => ?_) fun _ => ite_len (fun _ => ?_) fun _ => ite_len (fun _ => ?_) fun _ => ?_) fun _ => ite_len (fun _ => hz _) fun _ => ite_len (fun _ => ite_len (fun _ => hs _ _) fun _ => hz _) fun _ => hz _
    · exact num_len fun _ _ => ite_len (fun _ => hs _ _) fun _ => hz _
    · exact num_len fun _ _ => ite_len (fun _ => hs _ _) fun _ => hz _
    · exact num_len fun _ _ => ite_len (fun _ => hs _ _) fun _ => hz _
    · exact ite_len (fun _ => hs _ _) fun _ => hz _
  | sym last lt dt =>
    rw [step_sym]
    unfold stSym stMatch
    refine sym1_len fun x k1 => ite_len (fun _ => .inr (by rw [aft_len]; exact Nat.le_refl _)) fun _ => ite_len (fun _ => ite_len (fun _ => hz _) fun _ => .inr ?_) fun _ => ite_len (fun _ => hz _) fun _ => num_len fun v k2 => sym1_len fun y k3 => ite_len (fun _ => hz _) fun _ => num_len fun u k4 => ite_len (fun _ => hz _) fun _ => ite_len (fun _ => hz _) fun _ => .inr ?_
    · show _ ≤ (out ++ [_]).length; rw [List.length_append]; omega
    · show _ ≤ (rep out _ _).length; rw [rep_len]; omega
theorem itr_bad (s : ByteArray) (L n : Nat) (e : Int) : itr s L n (.bad e) = .bad e := itr_ended rfl n
theorem itr_len (s : ByteArray) (L : Nat) : ∀ (n : Nat) (x : IOut) (k : Nat) (out : List UInt8), itr s L n x = .fin k out → x.len ≤ out.length
  | 0, x, k, out, h => by
    have : x = .fin k out := h
    subst this; exact Nat.le_refl _
  | n + 1, x, k, out, h => by
    cases x with
    | go st =>
      have ih := itr_len s L n _ k out h
      rcases step_len s L st with ⟨e, he⟩ | hl
      · have h' : itr s L n (step s L st) = .fin k out := h
        rw [he, itr_bad] at h'; cases h'
      · exact Nat.le_trans hl ih
    | fin k' o =>
      rw [itr_ended rfl] at h
      cases h; exact Nat.le_refl _
    | bad e => rw [itr_bad] at h; cases h
theorem itr_lim {s : ByteArray} {L b : Nat} (hb : b ≤ L) : ∀ (n : Nat) (x : IOut) (k : Nat) (out : List UInt8), x.len ≤ b → itr s L n x = .fin k out → (out.length ≤ b ∧ itr s b n x = .fin k out) ∨ (b < out.length ∧ itr s b n x = .bad 11)
  | 0, x, k, out, hx, h => by
    have : x = .fin k out := h
    subst this; exact .inl ⟨hx, rfl⟩
  | n + 1, x, k, out, hx, h => by
    cases x with
    | go st =>
      have h' : itr s L n (step s L st) = .fin k out := h
      rcases step_lim (s := s) hb st hx with ⟨e, he⟩ | ⟨hl, he⟩ | ⟨hl, he⟩
      · rw [he, itr_bad] at h'; cases h'
      · have ih := itr_lim hb n _ k out hl h'
        show (_ ∧ itr s b n (step s b st) = _) ∨ (_ ∧ itr s b n (step s b st) = _)
        rw [he]; exact ih
      · right
        refine ⟨Nat.lt_of_lt_of_le hl (itr_len s L n _ k out h'), ?_⟩
        show itr s b n (step s b st) = _
        rw [he, itr_bad]
    | fin k' o =>
      rw [itr_ended rfl] at h
      cases h
      exact .inl ⟨hx, itr_ended rfl _⟩
    | bad e => rw [itr_bad] at h; cases h
/-! Bytes laid ahead. -/
def AhdRel (D : Nat) (A : List UInt8) (x y : IOut) : Prop := (∃ e, x = .bad e) ∨ (∃ m k out, x = .go ⟨m, k, out⟩ ∧ y = .go ⟨m, 8 * D + k, A ++ out⟩) ∨ (∃ k out, x = .fin k out ∧ y = .fin (8 * D + k) (A ++ out))
theorem AhdRel.bad (D : Nat) (A : List UInt8) (e : Int) (y : IOut) : AhdRel D A (.bad e) y := .inl ⟨e, rfl⟩
theorem AhdRel.st (D : Nat) (A : List UInt8) (m : IMode) (k : Nat) (out : List UInt8) : AhdRel D A (.go ⟨m, k, out⟩) (.go ⟨m, 8 * D + k, A ++ out⟩) := .inr (.inl ⟨m, k, out, rfl, rfl⟩)
section
variable {s t : ByteArray} {D : Nat} {A : List UInt8}
theorem distR_pos (y : Nat) (h : ¬ 30 ≤ y) : 1 ≤ (distR y).1 := by
  have : (List.range 30).all (fun i => decide (1 ≤ (distR i).1)) = true := by decide
  exact of_decide_eq_true (List.all_eq_true.1 this y (List.mem_range.2 (by omega)))
end
end Go.Proofs.YtkmbgkcpohchhaaGreatDoor
namespace Go.Proofs.YtkmbgkcpohchhaaGreatDoor
open Go.RowKit Go.Conc
set_option linter.unusedVariables false
theorem rep_byte (out : List UInt8) (d j : Nat) (h1 : 1 ≤ d) (h2 : d ≤ out.length) : ∃ h : (rep out d j).length - d < (rep out d j).length, rep out d (j + 1) = rep out d j ++ [(rep out d j)[(rep out d j).length - d]'h] := by
  have hl := rep_len out d j
  refine ⟨by omega, ?_⟩
  rw [rep, rep1, List.getD_eq_getElem?_getD, List.getElem?_eq_getElem (by omega)]
  rfl
theorem match_eq (s : ByteArray) (lim : Nat) (last : Bool) (lt dt : List Int) (x k : Nat) (out : List UInt8) : stMatch s lim last lt dt x k out =
  if 286 ≤ x then .bad 3
  else num s k (lenR (x - 257)).2 fun v k2 => sym1 s dt k2 fun y k3 =>
    if 30 ≤ y then .bad 3
    else num s k3 (distR y).2 fun u k4 =>
      if out.length < (distR y).1 + u then .bad 3
      else if lim < out.length + ((lenR (x - 257)).1 + v) then .bad 11
      else .go ⟨.sym last lt dt, k4, rep out ((distR y).1 + u) ((lenR (x - 257)).1 + v)⟩ := rfl
section
variable {B : Nat} {w : World} {fb g : Nat} {s : ByteArray} {k : Nat} {out : List UInt8} {lim : Nat} {v : Value} {pl pd : Option Addr}
set_option maxRecDepth 100000 in
set_option maxHeartbeats 4000000 in
theorem repeat_any (hs : s.size ≤ 281474976710656) (hl : lim ≤ 1073741824) (last : Bool) (lt dt : List Int) (x : Nat) (hx : 257 ≤ x) (hx9 : x ≤ 320) (D tb : Nat) (hc : IsCode dt) (hT : TabOf w D tb dt) (h : Inf B w fb g s k out lim v pl pd) :
    Calls Tryz.prog 129 #[.pointer (some ⟨fb, 0, none⟩), .int .i64 x, .pointer (some ⟨tb, 0, none⟩)] w (Did B fb g s lim pl pd (stMatch s lim last lt dt x k out) w) := by
  obtain ⟨i0, hinf, hz0, hz1, hz2⟩ := info_parts byteInfo
  have HX := hid (match_eq s lim last lt dt x k out)
  have HI := hid h
  have HT := hid hT
  clear h hT
  by_cases h0 : 286 ≤ x
  · have HX := hid (HX.out.trans (if_pos h0))
    have t0 : decide ((x : Int) < 286) = false := decide_eq_false (by omega)
    go_enter Tryz.func129, Tryz.ntmps129
    go_wp2_with fail
    refine (demand_bad _).mono ?_
    rintro e w1 ⟨rfl, rfl⟩
    exact ⟨rfl, Did.bad HX.out (KT.refl _)⟩
  · have HX := hid (HX.out.trans (if_neg h0))
    have t0 : decide ((x : Int) < 286) = true := decide_eq_true (by omega)
    obtain ⟨i, hi⟩ : ∃ i, x - 257 = i := ⟨_, rfl⟩
    rw [hi] at HX
    have hi29 : i < 29 := by omega
    obtain ⟨hl1, hl2⟩ := lenR_le i
    obtain ⟨c0, c1⟩ := HI.out.tabs.lens i hi29
    obtain ⟨l1, hl1e⟩ : ∃ l1, (lenR i).1 = l1 := ⟨_, rfl⟩
    obtain ⟨l2, hl2e⟩ : ∃ l2, (lenR i).2 = l2 := ⟨_, rfl⟩
    rw [hl1e] at c0 hl1
    rw [hl2e] at c1 hl2
    rw [hl1e, hl2e] at HX
    have i1 : (0 : Int) ≤ (x : Int) - 256 - 1 := by omega
    have i2 : (x : Int) - 256 - 1 < 29 := by omega
    have i3 : ((x : Int) - 256 - 1).toNat = i := by omega
    have hx285 : x ≤ 285 := by omega
    clear hl1e hl2e hi h0
    go_enter Tryz.func129, Tryz.ntmps129
    go_wp2_with fail
    refine (demand_ok _).mono ?_
    rintro e w1 ⟨rfl, rfl⟩
    go_wp2_with fail
    clear c0 c1 i1 i2 i3 t0
    by_cases h1 : k + l2 ≤ 8 * s.size
    · have HX := hid (HX.out.trans (num_ok h1))
      refine (row_ok hs l1 l2 (by omega) (by omega) h1 HI.out).mono ?_
      rintro e w2 ⟨rfl, hi2, hk2⟩
      have HI2 := hid hi2
      have HK2 := hid hk2
      have HT2 := hid (hk2.tab HT.out (by decide) (by decide))
      clear hi2 hk2
      have hb1 : bv s k l2 < 32 := Nat.lt_of_lt_of_le (bv_lt s k l2) (Nat.pow_le_pow_right (by decide) hl2 : 2 ^ l2 ≤ 2 ^ 5)
      obtain ⟨n, hn⟩ : ∃ n, l1 + bv s k l2 = n := ⟨_, rfl⟩
      have HX : Hid (stMatch s lim last lt dt x k out = sym1 s dt (k + l2) fun y k3 => if 30 ≤ y then .bad 3 else num s k3 (distR y).2 fun u k4 => if out.length < (distR y).1 + u then .bad 3 else if lim < out.length + n then .bad 11 else .go ⟨.sym last lt dt, k4, rep out ((distR y).1 + u) n⟩) := hid (by rw [HX.out, ← hn])
      rw [hn]
      have hn9 : n ≤ 300 := by omega
      clear hn hb1 h1
      generalize k + l2 = k2 at *
      go_wp2_with fail
      by_cases h2 : nextE dt s k2 = 0
      · have HX := hid (HX.out.trans (sym1_ok h2))
        have hy9 := nextV_lt h2
        have hyl := hc.few
        refine (symbol_ok hs D tb dt hc HT2.out h2 HI2.out).mono ?_
        rintro e w3 ⟨rfl, hi3, hk3⟩
        have HI3 := hid hi3
        have HK3 := hid (HK2.out.trans hk3)
        clear hi3 hk3 h2
        generalize nextV dt s k2 = y at *
        generalize nextK dt s k2 = k3 at *
        by_cases h3 : 30 ≤ y
        · have HX := hid (HX.out.trans (if_pos h3))
          have t0 : decide ((y : Int) < 30) = false := decide_eq_false (by omega)
          go_wp2_with fail
          refine (demand_bad _).mono ?_
          rintro e w4 ⟨rfl, rfl⟩
          exact ⟨rfl, Did.bad HX.out HK3.out⟩
        · have HX := hid (HX.out.trans (if_neg h3))
          have t0 : decide ((y : Int) < 30) = true := decide_eq_true (by omega)
          have hy30 : (y : Int) < 30 := by omega
          obtain ⟨hd1, hd2⟩ := distR_le y
          have hd0 := distR_pos y h3
          obtain ⟨c0, c1⟩ := HI3.out.tabs.dists y (by omega)
          obtain ⟨d1, hd1e⟩ : ∃ d1, (distR y).1 = d1 := ⟨_, rfl⟩
          obtain ⟨d2, hd2e⟩ : ∃ d2, (distR y).2 = d2 := ⟨_, rfl⟩
          rw [hd1e] at c0 hd1 hd0
          rw [hd2e] at c1 hd2
          rw [hd1e, hd2e] at HX
          clear hd1e hd2e h3
          go_wp2_with fail
          refine (demand_ok _).mono ?_
          rintro e w4 ⟨rfl, rfl⟩
          go_wp2_with fail
          clear c0 c1 t0 hy30
          by_cases h4 : k3 + d2 ≤ 8 * s.size
          · have HX := hid (HX.out.trans (num_ok h4))
            refine (row_ok hs d1 d2 (by omega) (by omega) h4 HI3.out).mono ?_
            rintro e w5 ⟨rfl, hi5, hk5⟩
            have HI5 := hid hi5
            have HK5 := hid (HK3.out.trans hk5)
            clear hi5 hk5
            have hb2 : bv s k3 d2 < 8192 := Nat.lt_of_lt_of_le (bv_lt s k3 d2) (Nat.pow_le_pow_right (by decide) hd2 : 2 ^ d2 ≤ 2 ^ 13)
            obtain ⟨d, hd⟩ : ∃ d, d1 + bv s k3 d2 = d := ⟨_, rfl⟩
            have HX : Hid (stMatch s lim last lt dt x k out = if out.length < d then .bad 3 else if lim < out.length + n then .bad 11 else .go ⟨.sym last lt dt, k3 + d2, rep out d n⟩) := hid (by rw [HX.out, ← hd])
            rw [hd]
            have hd9 : d ≤ 40000 := by omega
            have hd0 : 1 ≤ d := by omega
            clear hd hb2 h4
            generalize k3 + d2 = k4 at *
            obtain ⟨ol, hol⟩ : ∃ ol, out.length = ol := ⟨_, rfl⟩
            have hown := HI5.out.own
            have hhas := HI5.out.has
            have hfew := HI5.out.few
            rw [hol] at HX hown hfew
            obtain ⟨vo, vc, rfl⟩ := own_slice hown
            have c1 : w5.cell? ⟨fb, 1, none⟩ = some (.slice vo ol vc) := hhas.cell 1
            have HOL := hid hol
            clear hown hol hhas
            by_cases h5 : ol < d
            · have HX := hid (HX.out.trans (if_pos h5))
              have t0 : decide (d ≤ ol) = false := decide_eq_false (by omega)
              have t1 : decide ((d : Int) ≤ ol) = false := decide_eq_false (by omega)
              go_wp2_with fail
              refine (demand_bad _).mono ?_
              rintro e w6 ⟨rfl, rfl⟩
              exact ⟨rfl, Did.bad HX.out HK5.out⟩
            · have HX := hid (HX.out.trans (if_neg h5))
              have t0 : decide (d ≤ ol) = true := decide_eq_true (by omega)
              have t1 : decide ((d : Int) ≤ ol) = true := decide_eq_true (by omega)
              go_wp2_with fail
              refine (demand_ok _).mono ?_
              rintro e w6 ⟨rfl, rfl⟩
              clear t0 t1 c1
              go_wp2_with fail
              by_cases h6 : lim < ol + n
              · have HX := hid (HX.out.trans (if_pos h6))
                refine (room_bad n (by omega) hl (by rw [HOL.out]; exact h6) HI5.out).mono ?_
                rintro e w7 ⟨rfl, hb7⟩
                exact ⟨rfl, Did.bad HX.out (HK5.out.trans (KT.of_bw hb7))⟩
              · have HX := hid (HX.out.trans (if_neg h6))
                refine (room_ok n (by omega) hl (by rw [HOL.out]; exact h6) HI5.out).mono ?_
                rintro e w7 ⟨rfl, hb7⟩
                have HI7 := hid (HI5.out.bw hb7)
                have HK7 := hid (HK5.out.trans (KT.of_bw hb7))
                clear hb7
                have HLEN := hid (fun j => (rep_len out d j).trans (by rw [HOL.out]))
                have HREP := hid (fun j => rep_byte out d j (by omega) (by rw [HOL.out]; omega))
                go_wp2
                go_loopw [42] (fun i wi => ∃ (j p : Nat) (v' : Value), j ≤ n ∧ Hid (ol + j = p) ∧ i = .int .i64 j ∧ Inf B wi fb g s k4 (rep out d j) lim v' pl pd ∧ KT TI B w1 wi) (fun i _ => n - (intOf i).toNat)
                case atStart => exact ⟨0, ol, _, Nat.zero_le _, hid rfl, rfl, HI7.out, HK7.out⟩
                case round =>
                  rename World => wi
                  obtain ⟨j, p, v', hj, HP, rfl, hi, hk⟩ := hrel
                  have HII := hid hi
                  have HKK := hid hk
                  clear hi hk
                  by_cases hjn : j < n
                  · have hown := HII.out.own
                    have hhas := HII.out.has
                    have hfew := HII.out.few
                    have hlj : (rep out d j).length = p := (HLEN.out j).trans HP.out
                    have hp9 : ol ≤ p ∧ p ≤ ol + n := by have := HP.out; omega
                    obtain ⟨hp1, hp2⟩ := hp9
                    obtain ⟨hjl, hjr⟩ := HREP.out j
                    have cj0 := fun (g cap : Nat) (hv : v' = .slice (some ⟨g, 0, none⟩) p cap) => own_byte (w := wi) (B := B) (g := g) (n := p) (cap := cap) (l := rep out d j) (by rw [← hv]; rw [hlj] at hown; exact hown) ((rep out d j).length - d) hjl
                    rw [hlj] at hown hfew
                    obtain ⟨gj, cj, rfl⟩ := own_some hown (by omega)
                    have cj0 := cj0 gj cj rfl
                    generalize (rep out d j)[(rep out d j).length - d]'hjl = bb at *
                    rw [hlj] at cj0
                    obtain ⟨q, hq⟩ : ∃ q, p - d = q := ⟨_, rfl⟩
                    have e1 : ((p : Nat) : Int) - d = (q : Nat) := by omega
                    have hqp : q < p := by omega
                    rw [hq] at cj0
                    have c1 : wi.cell? ⟨fb, 1, none⟩ = some (.slice (some ⟨gj, 0, none⟩) p cj) := hhas.cell 1
                    have hjn1 : (j : Int) < n := by omega
                    have HJR := hid hjr
                    have hp30 : p ≤ 1073741824 := by omega
                    have hdp : d ≤ p := by omega
                    clear hown hhas hjr hlj hjl hq
                    have b1 : (0 : Int) ≤ q := by omega
                    have b2 : (q : Int) < p := by omega
                    have b3 : (q : Int).toNat = q := rfl
                    have b4 : IntKind.i64.wrap (q : Int) = (q : Int) := IntWalk.i64_in _ (by omega)
                    go_wp2_with fail
                    have hzi : wi.heap.size = wi.heap.size := rfl
                    have HOW := hid (show wi.ownsRow B 5 1 (.slice (some ⟨gj, 0, none⟩) p cj) p (bcs (rep out d j)) by have := HII.out.own; rw [HLEN.out j, HP.out] at this; exact this)
                    have hBz : B ≤ wi.heap.size := by have h1 := HII.out.gb; have h2 := Has.lt HII.out.rd; omega
                    have HWA := hid (show Bw wi (wi.alloc (.cells #[.int .u8 (bb.toNat : Nat)] 5)).drew from ((Bw.refl wi).alloc _).drewN 1)
                    have HWF := hid (show ∀ w5, (wi.alloc (.cells #[.int .u8 (bb.toNat : Nat)] 5)).drew.grownBy w5 (some gj) → w5.frozen? ⟨fb, 1, none⟩ = false from fun w5 hg => (((HII.out.bw HWA.out).grown hg).1).frozen 1)
                    have d1 : wi.drew.cell? ⟨fb, 1, none⟩ = some (.slice (some ⟨gj, 0, none⟩) p cj) := c1
                    have d2 : wi.drew.cell? ⟨gj, q, none⟩ = some (.int .u8 (bb.toNat : Nat)) := cj0
                    have d3 := HWA.out.cell c1
                    clear c1 cj0 hzi
                    go_region_law
                      (first
                        | (refine step_append_lies _ (by rfl) (.tmp 48) (.tmp 62) 41 (by rfl) B 5 i0 (.int .u8 0) 1 1 Tryz.underlying41 hinf hz0 hz1 hz2 (by rfl) (by decide) (.slice (some ⟨gj, 0, none⟩) p cj) p (bcs (rep out d j)) (by rfl) (HWA.out.own HOW.out) ⟨wi.heap.size, 0, none⟩ 1 1 [.int .u8 (bb.toNat : Nat)] (by rfl) rfl (cell_one_new _ _ _) (by intro u hu; simp at hu; rw [hu]; rfl) (by omega) (by unfold maxLen; omega) (by omega) (by simp only [World.size_alloc, World.drew]; omega) (wi.heap.size + 1) (by simp) ?_; intro g5 cp5 w5 hown5 hgrow5 hat5 hlt5; have HO5 := hid hown5; have HG5 := hid hgrow5; have z5 := HWF.out _ hgrow5; have y5 := ((HII.out.bw HWA.out).grown hgrow5).1.cell 1; clear hown5 hgrow5 hat5 hlt5))
                    all_goals go_wp2
                    all_goals have hl1 : (rep out d (j + 1)).length = p + 1 := by rw [HLEN.out (j + 1)]; have := HP.out; omega
                    all_goals have hap := (HII.out.bw HWA.out).app HG5.out (out' := rep out d (j + 1)) (v' := .slice (some ⟨g5, 0, none⟩) (p + 1) cp5) (by rw [hl1, HJR.out, bcs_snoc]; exact HO5.out) (by rw [hl1]; have := HP.out; omega)
                    all_goals exact ⟨⟨j + 1, p + 1, _, by omega, hid (by have := HP.out; omega), by go_num, hap.1, HKK.out.trans ((KT.of_bw HWA.out).trans hap.2)⟩, by simp [intOf]; omega⟩
                  · obtain rfl : j = n := by omega
                    go_wp2
                    go_returns
                    exact Did.st HX.out HKK.out HII.out
          · have HX := hid (HX.out.trans (num_bad h4))
            refine (row_bad hs d1 d2 (by omega) (by omega) h4 HI3.out).mono ?_
            rintro e w5 ⟨rfl, hk5⟩
            exact ⟨rfl, Did.bad HX.out (HK3.out.trans hk5)⟩
      · have HX := hid (HX.out.trans (sym1_bad h2))
        refine (symbol_bad hs D tb dt hc HT2.out h2 HI2.out).mono ?_
        rintro e w3 ⟨rfl, hk3⟩
        exact ⟨rfl, Did.bad HX.out (HK2.out.trans hk3)⟩
    · have HX := hid (HX.out.trans (num_bad h1))
      refine (row_bad hs l1 l2 (by omega) (by omega) h1 HI.out).mono ?_
      rintro e w2 ⟨rfl, hk2⟩
      exact ⟨rfl, Did.bad HX.out hk2⟩
end
end Go.Proofs.YtkmbgkcpohchhaaGreatDoor
namespace Go.Proofs.YtkmbgkcpohchhaaGreatDoor
open Go.RowKit Go.Conc
set_option linter.unusedVariables false
def Ran (B : Nat) (fb g : Nat) (s : ByteArray) (lim : Nat) (pl pd : Option Addr) (last : Bool) (x : IOut) (w : World) (e : Ending) (w' : World) : Prop :=
  KT TI B w w' ∧ ((∃ er, Leads s lim x (.bad er) ∧ e = pan er) ∨ (∃ k' out' v, Leads s lim x (aft last k' out') ∧ e = .returned (.tuple #[]) ∧ Inf B w' fb g s k' out' lim v pl pd))
theorem Ran.bad {B fb g : Nat} {s : ByteArray} {lim : Nat} {pl pd : Option Addr} {last : Bool} {x : IOut} {w w' : World} {er : Int} (h : Leads s lim x (.bad er)) (hk : KT TI B w w') : Ran B fb g s lim pl pd last x w (pan er) w' := ⟨hk, .inl ⟨er, h, rfl⟩⟩
theorem Ran.ok {B fb g : Nat} {s : ByteArray} {lim : Nat} {pl pd : Option Addr} {last : Bool} {x : IOut} {w w' : World} {k : Nat} {out : List UInt8} {v : Value} (h : Leads s lim x (aft last k out)) (hk : KT TI B w w') (hi : Inf B w' fb g s k out lim v pl pd) : Ran B fb g s lim pl pd last x w (.returned (.tuple #[])) w' := ⟨hk, .inr ⟨k, out, v, h, rfl, hi⟩⟩
def SymIn (B : Nat) (w : World) (fb g nb tl td : Nat) (s : ByteArray) (k : Nat) (out : List UInt8) (lim : Nat) (pl pd : Option Addr) (last : Bool) (lt dt : List Int) (wr : World) : Prop :=
  ∃ k1 out1 v1, Inf B wr fb g s k1 out1 lim v1 pl pd ∧ KT TI B w wr ∧ Has wr nb 94 #[.pointer (some ⟨tl, 0, none⟩), .pointer (some ⟨td, 0, none⟩)] ∧ Leads s lim (.go ⟨.sym last lt dt, k, out⟩) (.go ⟨.sym last lt dt, k1, out1⟩)
theorem sym_eq (s : ByteArray) (lim : Nat) (last : Bool) (lt dt : List Int) (k : Nat) (out : List UInt8) : step s lim ⟨.sym last lt dt, k, out⟩ =
  sym1 s lt k fun x k1 =>
    if x = 256 then aft last k1 out
    else if x < 256 then (if lim < out.length + 1 then .bad 11 else .go ⟨.sym last lt dt, k1, out ++ [UInt8.ofNat x]⟩)
    else stMatch s lim last lt dt x k1 out := rfl
theorem match_go {s : ByteArray} {lim : Nat} {last : Bool} {lt dt : List Int} {x k : Nat} {out : List UInt8} : (∃ e, stMatch s lim last lt dt x k out = .bad e) ∨ ∃ k' out', stMatch s lim last lt dt x k out = .go ⟨.sym last lt dt, k', out'⟩ ∧ (k ≤ 8 * s.size → k ≤ k') := by
  rw [match_eq]
  split
  · exact .inl ⟨_, rfl⟩
  · by_cases h1 : k + (lenR (x - 257)).2 ≤ 8 * s.size
    · rw [num_ok h1]
      by_cases h2 : nextE dt s (k + (lenR (x - 257)).2) = 0
      · rw [sym1_ok h2]
        split
        · exact .inl ⟨_, rfl⟩
        · by_cases h3 : nextK dt s (k + (lenR (x - 257)).2) + (distR (nextV dt s (k + (lenR (x - 257)).2))).2 ≤ 8 * s.size
          · rw [num_ok h3]
            split
            · exact .inl ⟨_, rfl⟩
            · split
              · exact .inl ⟨_, rfl⟩
              · refine .inr ⟨_, _, rfl, fun hk => ?_⟩
                have := (next_more h2 h1).1
                omega
          · rw [num_bad h3]; exact .inl ⟨_, rfl⟩
      · rw [sym1_bad h2]; exact .inl ⟨_, rfl⟩
    · rw [num_bad h1]; exact .inl ⟨_, rfl⟩
section
variable {B : Nat} {w : World} {fb g : Nat} {s : ByteArray} {k : Nat} {out : List UInt8} {lim : Nat} {v : Value} {pl pd : Option Addr}
set_option maxRecDepth 100000 in
set_option maxHeartbeats 4000000 in
theorem symbols_any (hs : s.size ≤ 281474976710656) (hl : lim ≤ 1073741824) (last : Bool) (lt dt : List Int) (D1 tl D2 td : Nat) (hlc : IsCode lt) (hdc : IsCode dt) (hT1 : TabOf w D1 tl lt) (hT2 : TabOf w D2 td dt) (h : Inf B w fb g s k out lim v pl pd) :
    Calls Tryz.prog 107 #[.pointer (some ⟨fb, 0, none⟩), .agg #[.pointer (some ⟨tl, 0, none⟩), .pointer (some ⟨td, 0, none⟩)]] w (Ran B fb g s lim pl pd last (.go ⟨.sym last lt dt, k, out⟩) w) := by
  obtain ⟨i0, hinf, hz0, hz1, hz2⟩ := info_parts byteInfo
  have HI := hid h
  have HT1 := hid hT1
  have HT2 := hid hT2
  have HN := hid (Has.new w 94 #[.pointer (some ⟨tl, 0, none⟩), .pointer (some ⟨td, 0, none⟩)])
  have HW := hid (show Bw w (w.alloc (.cells #[.pointer (some ⟨tl, 0, none⟩), .pointer (some ⟨td, 0, none⟩)] 94)) from (Bw.refl w).alloc _)
  clear h hT1 hT2
  go_enter Tryz.func107, Tryz.ntmps107
  go_wp2_with fail
  have HI0 := hid (HI.out.bw HW.out)
  generalize w.alloc (.cells #[.pointer (some ⟨tl, 0, none⟩), .pointer (some ⟨td, 0, none⟩)] 94) = W at *
  generalize w.heap.size = nb at *
  go_loopw [4] (fun a wr => SymIn B w fb g nb tl td s k out lim pl pd last lt dt wr) (fun _ wr => 8 * s.size - posOf wr g)
  case atStart => exact ⟨k, out, v, HI0.out, KT.of_bw HW.out, HN.out, Leads.refl _⟩
  case round =>
    rename World => wr
    obtain ⟨k1, out1, v1, hi1, hk1, hn1, hL⟩ := hrel
    have HI1 := hid hi1
    have HK1 := hid hk1
    have HN1 := hid hn1
    have HL := hid hL
    have HP1 := hid (posOf_rd hi1.rd)
    have b0 : wr.cell? ⟨nb, 0, none⟩ = some (.pointer (some ⟨tl, 0, none⟩)) := hn1.cell 0
    have HX := hid (sym_eq s lim last lt dt k1 out1)
    clear hi1 hk1 hn1 hL
    go_wp2_with fail
    by_cases h1 : nextE lt s k1 = 0
    · have HX := hid (HX.out.trans (sym1_ok h1))
      have hmore := next_more h1 HI1.out.k8
      have hx9 := nextV_lt h1
      have hfew := hlc.few
      refine (symbol_ok hs D1 tl lt hlc (HK1.out.tab HT1.out (by decide) (by decide)) h1 HI1.out).mono ?_
      rintro e w2 ⟨rfl, hi2, hk2⟩
      have HI2 := hid hi2
      have HK2 := hid (HK1.out.trans hk2)
      have HN2 := hid (hk2.has HN1.out (by decide))
      clear hi2 hk2 b0 h1
      generalize nextV lt s k1 = x at *
      generalize nextK lt s k1 = k2 at *
      by_cases h2 : x = 256
      · have HX := hid (HX.out.trans (if_pos h2))
        subst h2
        go_wp2
        go_returns
        exact Ran.ok (HL.out.then HX.out) HK2.out HI2.out
      · have HX := hid (HX.out.trans (if_neg h2))
        have t0 : ((x : Int) == 256) = false := by simp; omega
        by_cases h3 : x < 256
        · have HX := hid (HX.out.trans (if_pos h3))
          have t1 : decide ((x : Int) < 256) = true := decide_eq_true (by omega)
          have hx256 : (x : Int) < 256 := by omega
          go_wp2_with fail
          by_cases h4 : lim < out1.length + 1
          · have HX := hid (HX.out.trans (if_pos h4))
            refine (room_bad 1 (by omega) hl h4 HI2.out).mono ?_
            rintro e w3 ⟨rfl, hb3⟩
            exact ⟨rfl, Ran.bad (HL.out.then HX.out) (HK2.out.trans (KT.of_bw hb3))⟩
          · have HX := hid (HX.out.trans (if_neg h4))
            refine (room_ok 1 (by omega) hl h4 HI2.out).mono ?_
            rintro e w3 ⟨rfl, hb3⟩
            have HI3 := hid (HI2.out.bw hb3)
            have HK3 := hid (HK2.out.trans (KT.of_bw hb3))
            have HN3 := hid (hb3.has HN2.out)
            clear hb3
            obtain ⟨ol, hol⟩ : ∃ ol, out1.length = ol := ⟨_, rfl⟩
            have hown := HI3.out.own
            have hhas := HI3.out.has
            rw [hol] at hown h4
            obtain ⟨vo, vc, rfl⟩ := own_slice hown
            have c1 : w3.cell? ⟨fb, 1, none⟩ = some (.slice vo ol vc) := hhas.cell 1
            have HOW := hid hown
            have HOL := hid hol
            have hBz : B ≤ w3.heap.size := by have h1 := HI3.out.gb; have h2 := Has.lt HI3.out.rd; omega
            have HU := hid (show ((UInt8.ofNat x).toNat : Nat) = x by simp [Nat.mod_eq_of_lt h3])
            have HWA := hid (show Bw w3 (w3.alloc (.cells #[.int .u8 x] 5)) from (Bw.refl w3).alloc _)
            have d1 := HWA.out.cell c1
            have HWF := hid (show ∀ w5, (w3.alloc (.cells #[.int .u8 x] 5)).grownBy w5 (Value.slice vo ol vc).ownBlock → w5.frozen? ⟨fb, 1, none⟩ = false from fun w5 hg => (((HI3.out.bw HWA.out).grown hg).1).frozen 1)
            have HWC := hid (show ∀ w5, (w3.alloc (.cells #[.int .u8 x] 5)).grownBy w5 (Value.slice vo ol vc).ownBlock → w5.cell? ⟨fb, 1, none⟩ = some (.slice vo ol vc) from fun w5 hg => (((HI3.out.bw HWA.out).grown hg).1).cell 1)
            have hol9 : ol ≤ 1073741824 := by omega
            clear hown hol hhas h2 t0
            go_wp2_with (at_builtin; refine wpList_append_own_at _ rfl (.tmp 19) (.tmp 22) 41 rfl B 5 i0 (.int .u8 0) 1 1 Tryz.underlying41 hinf hz0 hz1 hz2 rfl (by decide) (.slice vo ol vc) ol (bcs out1) rfl (HWA.out.own HOW.out) ⟨w3.heap.size, 0, none⟩ 1 1 [.int .u8 x] rfl rfl (cell_one_new _ _ _) (by intro u hu; simp at hu; rw [hu]; rfl) (by unfold maxLen; omega) (by omega) (by simp only [World.size_alloc]; omega) ?_; intro v' w5 hown5 hgrow5 _ _; obtain ⟨vo5, vc5, rfl⟩ := own_slice hown5; have HG5 := hid hgrow5; have HO5 := hid hown5; have z5 := HWF.out _ hgrow5; have y5 := HWC.out _ hgrow5; clear hown5 hgrow5)
            have hl1 : (out1 ++ [UInt8.ofNat x]).length = ol + 1 := by rw [List.length_append, HOL.out]; rfl
            have hap := (HI3.out.bw HWA.out).app HG5.out (out' := out1 ++ [UInt8.ofNat x]) (v' := .slice vo5 (ol + 1) vc5) (by rw [hl1, bcs_snoc, HU.out]; exact HO5.out) (by rw [hl1]; omega)
            refine ⟨⟨_, _, _, hap.1, HK3.out.trans ((KT.of_bw HWA.out).trans hap.2), ?_, HL.out.then HX.out⟩, ?_⟩
            · exact ((KT.of_bw HWA.out).trans hap.2 : KT TI B _ _).has HN3.out (by decide)
            · rw [HP1.out, posOf_rd hap.1.rd]; have := hmore; omega
        · have HX := hid (HX.out.trans (if_neg h3))
          have t1 : decide ((x : Int) < 256) = false := decide_eq_false (by omega)
          have b1 : w2.cell? ⟨nb, 1, none⟩ = some (.pointer (some ⟨td, 0, none⟩)) := HN2.out.cell 1
          go_wp2_with fail
          refine (repeat_any hs hl last lt dt x (by omega) (by omega) D2 td hdc (HK2.out.tab HT2.out (by decide) (by decide)) HI2.out).mono ?_
          rintro e w3 ⟨hk3, hm⟩
          have HK3 := hid (HK2.out.trans hk3)
          have HN3 := hid (hk3.has HN2.out (by decide))
          clear hk3
          rcases match_go (s := s) (lim := lim) (last := last) (lt := lt) (dt := dt) (x := x) (k := k2) (out := out1) with ⟨er, he⟩ | ⟨k3, o3, he, hk3⟩
          · rw [he] at hm
            have hm : e = pan er := hm
            subst hm
            exact ⟨rfl, Ran.bad (HL.out.then (HX.out.trans he)) HK3.out⟩
          · rw [he] at hm
            obtain ⟨rfl, v3, hi3⟩ := hm
            have hi3 : Inf B w3 fb g s k3 o3 lim v3 pl pd := hi3
            have HI3 := hid hi3
            have HE := hid he
            have HKK := hid hk3
            clear hi3 he hk3
            go_wp2
            refine ⟨⟨_, _, _, HI3.out, HK3.out, HN3.out, HL.out.then (HX.out.trans HE.out)⟩, ?_⟩
            rw [HP1.out, posOf_rd HI3.out.rd]; have := hmore; have h5 := HKK.out HI2.out.k8; have := HI3.out.k8; omega
    · have HX := hid (HX.out.trans (sym1_bad h1))
      refine (symbol_bad hs D1 tl lt hlc (HK1.out.tab HT1.out (by decide) (by decide)) h1 HI1.out).mono ?_
      rintro e w2 ⟨rfl, hk2⟩
      exact ⟨rfl, Ran.bad (HL.out.then HX.out) (HK1.out.trans hk2)⟩
end
end Go.Proofs.YtkmbgkcpohchhaaGreatDoor
namespace Go.Proofs.YtkmbgkcpohchhaaGreatDoor
open Go.RowKit Go.Conc
set_option linter.unusedVariables false
theorem has_two {w : World} {g : Nat} {t : TypeId} {a b : Value} (h : Has w g t #[a, b]) (x y : Value) : Has ((w.setCell ⟨g, 0, none⟩ x).setCell ⟨g, 1, none⟩ y) g t #[x, y] := by
  have := (h.put 0 x).put 1 y
  simpa using this
theorem bw_two {w0 w : World} {g : Nat} (h : Bw w0 w) (hg : w0.heap.size ≤ g) (x y : Value) : Bw w0 ((w.setCell ⟨g, 0, none⟩ x).setCell ⟨g, 1, none⟩ y) :=
  Below.setCell (Below.setCell h hg x) hg y
def NewC (l1 l2 : List Int) (w : World) (e : Ending) (w' : World) : Prop :=
  Bw w w' ∧ ((checkE l1 ≠ 0 ∧ e = pan (checkE l1)) ∨ (checkE l1 = 0 ∧ checkE l2 ≠ 0 ∧ e = pan (checkE l2)) ∨
    (checkE l1 = 0 ∧ checkE l2 = 0 ∧ ∃ tl td : Nat, e = .returned (.agg #[.pointer (some ⟨tl, 0, none⟩), .pointer (some ⟨td, 0, none⟩)]) ∧ w.heap.size ≤ tl ∧ w.heap.size ≤ td ∧ TabOf w' w.heap.size tl l1 ∧ TabOf w' w.heap.size td l2))
theorem TabOf.base {w : World} {B B' tb : Nat} {l : List Int} (h : TabOf w B tb l) (hB : B' ≤ B) : TabOf w B' tb l := by
  obtain ⟨P, h1, h2, h3, v, h4, h5⟩ := h
  exact ⟨P, h1, h2, by omega, v, h4, own_base h5 hB⟩
theorem Has.keep {w w' : World} {g : Nat} {t : TypeId} {cs : Array Value} (h : Has w g t cs) (e : w'.heap[g]? = w.heap[g]?) : Has w' g t cs := e.trans h
theorem TabOf.set {w : World} {B tb : Nat} {l : List Int} (h : TabOf w B tb l) {p : Addr} {t : TypeId} {cs : Array Value} (hp : Has w p.block t cs) (h1 : t ≠ 204) (h2 : t ≠ 210) (u : Value) : TabOf (w.setCell p u) B tb l := by
  obtain ⟨P, a1, a2, a3, v, a4, a5⟩ := h
  refine ⟨P, a1, a2, a3, v, a4.far (fun e => ?_) u, own_keep a5 fun b hb => Below.heap_setCell w p u b fun e => ?_⟩
  · rw [← e] at hp
    unfold Has at hp a4
    rw [hp] at a4
    injection a4 with a4
    injection a4 with _ a4
    exact h1 a4
  · exact own_ne_has a5 hp (fun e => h2 e.symm) (by rw [hb, e])
set_option maxRecDepth 100000 in
set_option maxHeartbeats 4000000 in
theorem newCodes_any (a1 : Option Addr) (n1 c1 : Nat) (l1 : List Int) (hl1 : Hid (l1.length = n1)) (a2 : Option Addr) (n2 c2 : Nat) (l2 : List Int) (hl2 : Hid (l2.length = n2)) (w : World) (h1 : ZsAt w a1 l1) (h2 : ZsAt w a2 l2) :
    Calls Tryz.prog 131 #[.slice a1 n1 c1, .slice a2 n2 c2] w (NewC l1 l2 w) := by
  have H1 := hid h1
  have H2 := hid h2
  have HN := hid (Has.new w 94 #[.pointer none, .pointer none])
  have HW := hid (show Bw w (w.alloc (.cells #[.pointer none, .pointer none] 94)) from (Bw.refl w).alloc _)
  have hsz : w.heap.size < (w.alloc (.cells #[.pointer none, .pointer none] 94)).heap.size := by simp
  clear h1 h2
  go_enter Tryz.func131, Tryz.ntmps131
  go_wp2_with fail
  generalize w.alloc (.cells #[.pointer none, .pointer none] 94) = W at *
  have HSZ := hid hsz
  obtain ⟨nb, hnb⟩ : ∃ nb, w.heap.size = nb := ⟨_, rfl⟩
  have HNB := hid hnb
  rw [hnb] at HN ⊢
  clear hnb hsz
  by_cases hc1 : checkE l1 = 0
  · refine (new_ok a1 n1 c1 l1 hl1 hc1 W (H1.out.bw HW.out)).mono ?_
    rintro e w2 ⟨tl, rfl, ht1, hT1, hb2⟩
    have HT1 := hid hT1
    have HB2 := hid hb2
    have HC1 := hid hc1
    clear hT1 hb2 hc1
    go_wp2_with fail
    refine (icheck_ok _).mono ?_
    rintro e w3 ⟨rfl, rfl⟩
    go_wp2_with fail
    by_cases hc2 : checkE l2 = 0
    · refine (new_ok a2 n2 c2 l2 hl2 hc2 w3 (H2.out.bw (HW.out.trans HB2.out))).mono ?_
      rintro e w4 ⟨td, rfl, ht2, hT2, hb4⟩
      have HT2 := hid hT2
      have HB4 := hid hb4
      have HC2 := hid hc2
      clear hT2 hb4 hc2
      go_wp2_with fail
      refine (icheck_ok _).mono ?_
      rintro e w5 ⟨rfl, rfl⟩
      have HN5 := hid ((HB2.out.trans HB4.out).has HN.out)
      have g0 : w5.cell? ⟨nb, 0, none⟩ = some (.pointer none) := HN5.out.cell 0
      have g1 : w5.cell? ⟨nb, 1, none⟩ = some (.pointer none) := HN5.out.cell 1
      have f0 : w5.frozen? ⟨nb, 0, none⟩ = false := HN5.out.frozen 0
      have f1 : w5.frozen? ⟨nb, 1, none⟩ = false := HN5.out.frozen 1
      have HP := hid (has_two HN5.out (.pointer (some ⟨tl, 0, none⟩)) (.pointer (some ⟨td, 0, none⟩)))
      have HBP := hid (bw_two (HW.out.trans (HB2.out.trans HB4.out)) (show w.heap.size ≤ nb by have := HNB.out; omega) (.pointer (some ⟨tl, 0, none⟩)) (.pointer (some ⟨td, 0, none⟩)))
      have HTA := hid (((HT1.out.bw HB4.out).set (p := ⟨nb, 0, none⟩) HN5.out (by decide) (by decide) (.pointer (some ⟨tl, 0, none⟩))).set (p := ⟨nb, 1, none⟩) (HN5.out.put 0 (.pointer (some ⟨tl, 0, none⟩))) (by decide) (by decide) (.pointer (some ⟨td, 0, none⟩)))
      have HTB := hid ((HT2.out.set (p := ⟨nb, 0, none⟩) HN5.out (by decide) (by decide) (.pointer (some ⟨tl, 0, none⟩))).set (p := ⟨nb, 1, none⟩) (HN5.out.put 0 (.pointer (some ⟨tl, 0, none⟩))) (by decide) (by decide) (.pointer (some ⟨td, 0, none⟩)))
      go_wp2
      generalize World.setCell (World.setCell w5 _ _) _ _ = W6 at *
      have p0 : W6.cell? ⟨nb, 0, none⟩ = some (.pointer (some ⟨tl, 0, none⟩)) := HP.out.cell 0
      have p1 : W6.cell? ⟨nb, 1, none⟩ = some (.pointer (some ⟨td, 0, none⟩)) := HP.out.cell 1
      try simp only [Exit.inBlock, Exit.then]
      refine bodyPost_ret (by simp [results, Tryz.results131, go_sem, p0, p1]; try rfl) rfl ?_
      have hz := HSZ.out
      have hz2 := HB2.out.size
      have hnb := HNB.out
      exact ⟨HBP.out, .inr (.inr ⟨HC1.out, HC2.out, tl, td, rfl, by omega, by omega, HTA.out.base (by omega), HTB.out.base (by omega)⟩)⟩
    · refine (new_bad a2 n2 c2 l2 hl2 hc2 w3 (H2.out.bw (HW.out.trans HB2.out))).mono ?_
      rintro e w4 ⟨rfl, hb4⟩
      have HC2 := hid hc2
      have HB4 := hid hb4
      clear hb4 hc2
      have HE := hid (show NewC l1 l2 w (pan (checkE l2)) w4 from ⟨HW.out.trans (HB2.out.trans HB4.out), .inr (.inl ⟨HC1.out, HC2.out, rfl⟩)⟩)
      generalize checkE l2 = ce at *
      go_wp2_with fail
      refine (icheck_bad ce HC2.out _).mono ?_
      rintro e w5 ⟨rfl, rfl⟩
      exact ⟨rfl, HE.out⟩
  · refine (new_bad a1 n1 c1 l1 hl1 hc1 W (H1.out.bw HW.out)).mono ?_
    rintro e w2 ⟨rfl, hb2⟩
    have HC1 := hid hc1
    have HB2 := hid hb2
    clear hb2 hc1
    have HE := hid (show NewC l1 l2 w (pan (checkE l1)) w2 from ⟨HW.out.trans HB2.out, .inl ⟨HC1.out, rfl⟩⟩)
    generalize checkE l1 = ce at *
    go_wp2_with fail
    refine (icheck_bad ce HC1.out _).mono ?_
    rintro e w5 ⟨rfl, rfl⟩
    exact ⟨rfl, HE.out⟩
theorem fixedLength_any_i (i : Nat) (hi : i < 288) (w : World) : Calls Tryz.prog 130 #[.int .i64 i] w fun e w' => e = .returned (.int .i64 (fixL.getD i 0)) ∧ w' = w := by
  rw [fixL_get i hi]
  by_cases h1 : i < 144
  · rw [if_pos h1]
    have t1 : decide ((i : Int) < 144) = true := decide_eq_true (by omega)
    go_enter Tryz.func130, Tryz.ntmps130
    go_wp2
    go_returns
    exact ⟨rfl, rfl⟩
  · rw [if_neg h1]
    have t1 : decide ((i : Int) < 144) = false := decide_eq_false (by omega)
    by_cases h2 : i < 256
    · rw [if_pos h2]
      have t2 : decide ((i : Int) < 256) = true := decide_eq_true (by omega)
      go_enter Tryz.func130, Tryz.ntmps130
      go_wp2
      go_returns
      exact ⟨rfl, rfl⟩
    · rw [if_neg h2]
      have t2 : decide ((i : Int) < 256) = false := decide_eq_false (by omega)
      by_cases h3 : i < 280
      · rw [if_pos h3]
        have t3 : decide ((i : Int) < 280) = true := decide_eq_true (by omega)
        go_enter Tryz.func130, Tryz.ntmps130
        go_wp2
        go_returns
        exact ⟨rfl, rfl⟩
      · rw [if_neg h3]
        have t3 : decide ((i : Int) < 280) = false := decide_eq_false (by omega)
        go_enter Tryz.func130, Tryz.ntmps130
        go_wp2
        go_returns
        exact ⟨rfl, rfl⟩
end Go.Proofs.YtkmbgkcpohchhaaGreatDoor
