import Derived.Test.YtkmbgkcpohchhaaGreatDoorGRowB
import Derived.Test.YtkmbgkcpohchhaaGreatDoorGInfP
import Derived.Test.YtkmbgkcpohchhaaGreatDoorGDefWH
import Derived.Deep.RegionHeld3
import Derived.IntWalk
import Derived.RegionDies
import Derived.Lib.AppendStr
namespace Go.Proofs.YtkmbgkcpohchhaaGreatDoor
open Go.RowKit Go.Conc
set_option linter.unusedVariables false
def TabOf (w : World) (B tb : Nat) (l : List Int) : Prop := ∃ P, TreeK l l.length P ∧ P.length ≤ 4800 ∧ B ≤ tb ∧ TabAt B w tb P (lfK l l.length)
theorem TabAt.bw {B tb : Nat} {P : List Path} {lf : Path → Option Nat} {w w' : World} (h : TabAt B w tb P lf) (hb : Bw w w') : TabAt B w' tb P lf := by
  obtain ⟨v, h1, h2⟩ := h
  exact ⟨v, hb.has h1, hb.own h2⟩
theorem TabOf.bw {B tb : Nat} {l : List Int} {w w' : World} (h : TabOf w B tb l) (hb : Bw w w') : TabOf w' B tb l := by
  obtain ⟨P, h1, h2, h3, h4⟩ := h
  exact ⟨P, h1, h2, h3, h4.bw hb⟩
theorem treeK_put {l : List Int} (hc : IsCode l) {k : Nat} (hk : 0 < lenF l k) {P P' : List Path} (h : TreeK l k P) (hT : TreeOk P' (lfPut (lfK l k) (lenF l k, codeF l k) k)) (hW : WayIn P' P (lenF l k) (codeF l k)) : TreeK l (k + 1) P' := by
  refine ⟨by rw [lfK_put hc hk]; exact hT, fun p => (hW p).trans ?_⟩
  rw [h.mem p]
  constructor
  · rintro (⟨i, hi, h1, h2⟩ | ⟨h1, h2⟩)
    · exact ⟨i, by omega, h1, h2⟩
    · exact ⟨k, by omega, h1, h2.symm⟩
  · rintro ⟨i, hi, h1, h2⟩
    by_cases e : i = k
    · subst e; exact .inr ⟨h1, h2.symm⟩
    · exact .inl ⟨i, by omega, h1, h2⟩
set_option maxRecDepth 100000 in
set_option maxHeartbeats 4000000 in
theorem new_bad (a : Option Addr) (len cap : Nat) (l : List Int) (hll : Hid (l.length = len)) (hE : checkE l ≠ 0) (w : World) (hst : ZsAt w a l) :
    Calls Tryz.prog 132 #[.slice a len cap] w fun e w' => e = .returned (.tuple #[.pointer none, .int .i64 (checkE l)]) ∧ Bw w w' := by
  have HC := hid (codes_bad a len cap l hll hE w hst)
  generalize checkE l = ce at *
  have hne : (ce != 0) = true := by simpa using hE
  clear hst
  go_enter Tryz.func132, Tryz.ntmps132
  go_wp2_with fail
  refine HC.out.mono ?_
  rintro e w2 ⟨rfl, hb⟩
  have HB := hid hb
  clear hb
  go_wp2
  go_returns
  exact ⟨rfl, HB.out⟩
set_option maxRecDepth 100000 in
set_option maxHeartbeats 8000000 in
theorem new_ok (a : Option Addr) (len cap : Nat) (l : List Int) (hll : Hid (l.length = len)) (hE : checkE l = 0) (w : World) (hst : ZsAt w a l) :
    Calls Tryz.prog 132 #[.slice a len cap] w fun e w' => ∃ tb : Nat, e = .returned (.tuple #[.pointer (some ⟨tb, 0, none⟩), .int .i64 0]) ∧ w.heap.size ≤ tb ∧ TabOf w' w.heap.size tb l ∧ Bw w w' := by
  have HC := hid (codes_ok a len cap l hll hE w hst)
  have hco := IsCode.of_check hE
  have hl320 : len ≤ 320 := by rw [← hll.out]; exact hco.few
  have HCO := hid hco
  have HST := hid hst
  clear hE hst hco
  go_enter Tryz.func132, Tryz.ntmps132
  go_wp2_with fail
  refine HC.out.mono ?_
  rintro e w2 ⟨rb, rfl, hrb, hcodes, hb⟩
  have HB := hid hb
  have HCD := hid hcodes
  have hrl := hcodes.lt
  have hws := hb.size
  clear hb hcodes HC
  go_wp2_with fail
  have HT0 := hid (Has.new w2 204 #[.slice none 0 0])
  have HBW := hid (Below.alloc (Below.refl w2.heap.size w2) (Nat.le_refl _) (.cells #[.slice none 0 0] 204))
  obtain ⟨nb, hnb⟩ : ∃ nb, w2.heap.size = nb := ⟨_, rfl⟩
  rw [hnb] at HT0 HBW hws hrl ⊢
  have HNB := hid hnb
  clear hnb
  generalize w2.alloc (.cells #[.slice none 0 0] 204) = W3 at *
  go_loopw [21] (fun i wr => ∃ (k : Nat) (P : List Path), k ≤ len ∧ i = .int .i64 k ∧ TreeK l k P ∧ P.length ≤ 15 * k ∧ TabAt nb wr nb P (lfK l k) ∧ Below nb w2 wr) (fun i _ => len - (intOf i).toNat)
  case atStart => exact ⟨0, [], Nat.zero_le _, rfl, treeK_zero l, Nat.le_refl _, ⟨_, HT0.out, World.ownsRow_nil _ _ _ _⟩, HBW.out⟩
  case round =>
    clear HT0 HBW
    obtain ⟨k, P, hk, rfl, hT, hlen, hTab, hbe⟩ := hrel
    have hbw : Bw w wr := HB.out.trans (by have h := HNB.out; subst h; exact hbe)
    have HT := hid hT
    have HTab := hid hTab
    have HBE := hid hbe
    have HBW := hid hbw
    clear hT hTab
    by_cases hlt : k < len
    · have hlti : (k : Int) < len := by omega
      have hkl : k < l.length := by rw [hll.out]; omega
      obtain ⟨hx15, hxe⟩ := HCO.out.len k
      have hgd : l.getD k 0 = l[k] := by simp [List.getD, hkl]
      obtain ⟨b, off, rfl, hbl, q0⟩ := HST.out k hkl
      have x0 : wr.cell? ⟨b, off + k, none⟩ = some (.int .i64 (lenF l k : Nat)) := by
        rw [← hxe, hgd]
        exact (World.cell?_of_block (hbw.block b hbl)).trans q0
      have cc : wr.cell? ⟨rb, k, none⟩ = some (.int .i64 (codeF l k : Nat)) := by
        have h1 := (HCD.out.below hbe hrl).cell k
        rw [cArr_get l len len k hlt, if_pos hlt] at h1
        exact h1
      clear q0 hgd hxe hkl hbw hbe
      by_cases h0 : lenF l k = 0
      · have HS := hid (treeK_skip HT.out h0)
        have HL := hid (lfK_skip h0)
        rw [h0] at x0
        clear h0 hx15
        go_wp2
        go_roundw
        case rel => exact ⟨k + 1, P, by omega, by go_num, HS.out, by omega, by rw [HL.out]; exact HTab.out, HBE.out⟩
        case measure => simp [intOf]; omega
      · have hn0 : 0 < lenF l k := by omega
        have HA := hid (add_any nb nb k (codeF l k) (lenF l k) P (lfK l k) HT.out.ok hx15 hn0 (code_lt HCO.out hn0) (by omega) (by omega) (fun M h1 h2 => lfK_way HCO.out h1 h2) wr (Nat.le_refl _) HTab.out)
        have HPUT := hid (fun (P' : List Path) (h1 : TreeOk P' (lfPut (lfK l k) (lenF l k, codeF l k) k)) (h2 : WayIn P' P (lenF l k) (codeF l k)) => treeK_put HCO.out hn0 HT.out h1 h2)
        have HLF := hid (lfK_put HCO.out hn0)
        rw [← HLF.out] at HA HPUT
        have hcl := code_lt HCO.out hn0
        have d0 : decide (0 < (lenF l k : Int)) = true := decide_eq_true (by omega)
        generalize codeF l k = c at *
        generalize lenF l k = n at *
        clear h0 hcl
        go_wp2_with fail
        refine HA.out.mono ?_
        rintro e w4 ⟨rfl, P', h1, h2, h3, h4, h5⟩
        have HK := hid (⟨HPUT.out P' h1 h2, h4, Below.trans HBE.out h5⟩ : TreeK l (k + 1) P' ∧ TabAt nb w4 nb P' (lfK l (k + 1)) ∧ Below nb w2 w4)
        clear h1 h2 h4 h5
        go_wp2
        go_roundw
        case rel => exact ⟨k + 1, P', by omega, by go_num, HK.out.1, by omega, HK.out.2.1, HK.out.2.2⟩
        case measure => simp [intOf]; omega
    · obtain rfl : k = len := by omega
      have HTO := hid (show TabOf wr w.heap.size nb l by
        obtain ⟨v, a1, a2⟩ := HTab.out
        refine ⟨P, by rw [hll.out]; exact HT.out, by omega, hws, v, a1, ?_⟩
        rw [hll.out]
        exact own_base a2 hws)
      clear hbw hbe
      go_wp2
      go_returns
      exact ⟨nb, rfl, hws, HTO.out, HBW.out⟩
end Go.Proofs.YtkmbgkcpohchhaaGreatDoor
namespace Go.Proofs.YtkmbgkcpohchhaaGreatDoor
open Go.RowKit Go.Conc
set_option linter.unusedVariables false
def NextPost (g : Nat) (l : List Int) (s : ByteArray) (k : Nat) (w : World) (e : Ending) (w' : World) : Prop :=
  e = .returned (.tuple #[.int .i64 (nextV l s k : Nat), .int .i64 (nextE l s k)]) ∧ Rd w' g s (nextK l s k) ∧ Keeps (· = g) w w'
theorem nd_root {l : List Int} (h : ndB l (0, 0) = false) {P : List Path} (hT : TreeK l l.length P) : P = [] := by
  rcases P with _ | ⟨x, r⟩
  · rfl
  · have e := hT.ok.root x rfl
    have := (hT.mem x).1 (List.mem_cons_self ..)
    rw [e] at this
    have := (ndB_iff l (0, 0)).2 this
    rw [h] at this; cases this
def posOf (w : World) (g : Nat) : Nat := (intOf ((w.cell? ⟨g, 0, none⟩).getD undef)).toNat
theorem posOf_rd {w : World} {g k : Nat} {s : ByteArray} (h : Rd w g s k) : posOf w g = k := by
  have hc : w.cell? ⟨g, 0, none⟩ = some (.int .i64 k) := h.cell 0
  unfold posOf
  rw [hc]
  simp [intOf]
theorem not_neg (x : Nat) (hx : x < 1000000) : bits .xor .i64 (-1) (-((x : Int) + 1)) = (x : Int) := by
  show IntKind.i64.wrap ((BitVec.ofInt 64 (-1) ^^^ BitVec.ofInt 64 (-((x : Int) + 1))).toNat : Int) = _
  have h1 : BitVec.ofInt 64 (-1) = BitVec.allOnes 64 := by decide
  have h2 : BitVec.ofInt 64 (-((x : Int) + 1)) = ~~~ (BitVec.ofNat 64 x) := by
    rw [show -((x : Int) + 1) = Int.negSucc x by omega]
    exact BitVec.ofInt_negSucc_eq_not_ofNat
  rw [h1, h2, BitVec.allOnes_xor, BitVec.not_not, BitVec.toNat_ofNat, IntKind.wrap_i64]
  omega
theorem neg_eq0 (i : Nat) : ((-((i : Int) + 1)) == 0) = false := by
  have : ¬ (-((i : Int) + 1)) = 0 := by omega
  simpa using this
theorem neg_lt0 (i : Nat) : decide ((-((i : Int) + 1)) < 0) = true := decide_eq_true (by omega)
theorem next_of {l : List Int} {s : ByteArray} {k v k2 : Nat} {e : Int} (h : nextR l s k = (v, e, k2)) : nextV l s k = v ∧ nextE l s k = e ∧ nextK l s k = if e = 0 then k2 else k := by
  unfold nextK nextV nextE
  rw [h]
  exact ⟨rfl, rfl, rfl⟩
set_option maxRecDepth 100000 in
set_option maxHeartbeats 8000000 in
theorem next_some (B tb g : Nat) (l : List Int) (hc : IsCode l) (s : ByteArray) (hs : s.size ≤ 281474976710656) (k : Nat) (hk : k ≤ 8 * s.size) (hnd : ndB l (0, 0) = true) (w : World) (hT : TabOf w B tb l) (hr : Rd w g s k) :
    Calls Tryz.prog 142 #[.pointer (some ⟨tb, 0, none⟩), .pointer (some ⟨g, 0, none⟩)] w (NextPost g l s k w) := by
  obtain ⟨P, hTK, hP, hBt, v, hh, ho⟩ := hT
  have hmem0 : (0, 0) ∈ P := (hTK.mem _).2 ((ndB_iff l _).1 hnd)
  have hlen0 := List.length_pos_of_mem hmem0
  obtain ⟨rb, cap, rfl⟩ := own_some ho hlen0
  obtain ⟨len, hPl⟩ : ∃ len, P.length = len := ⟨_, rfl⟩
  have hcap := ownp_cap ho
  rw [hPl] at hP hlen0 hcap
  have hgt : g ≠ tb := fun e => by
    have h1 : w.heap[g]? = _ := hr
    have h2 : w.heap[tb]? = _ := hh
    rw [e, h2] at h1
    injection h1 with h1
    injection h1 with _ h1
    exact absurd h1 (by decide)
  have hgr : rb ≠ g := fun e => own_ne_has ho hr (by decide) (by rw [e]; rfl)
  have cc : w.cell? ⟨tb, 0, none⟩ = some (.slice (some ⟨rb, 0, none⟩) len cap) := by rw [← hPl]; exact hh.cell 0
  have c0 : w.cell? ⟨g, 0, none⟩ = some (.int .i64 k) := hr.cell 0
  have c1 : w.cell? ⟨g, 1, none⟩ = some (.string s) := hr.cell 1
  have l0 : ((len : Int) == 0) = false := by
    have : ¬ (len : Int) = 0 := by omega
    simpa using this
  have hgl := hr.lt
  have htl := hh.lt
  have hrl := own_lt ho (b := rb) rfl
  have HTK := hid hTK
  have HPL := hid hPl
  have HH := hid hh
  have HO := hid ho
  have HR := hid hr
  have HM0 := hid hmem0
  have HND := hid hnd
  have HC := hid hc
  clear hTK hPl hh ho hr hmem0 hnd hc
  go_enter Tryz.func142, Tryz.ntmps142
  go_wp2_with fail
  have HR1 := hid (show Rd (w.alloc (.cells #[.int .i64 k, .string s] 142)) w.heap.size s k from Has.new w _ _)
  have HB1 := hid (Below.alloc (Below.refl w.heap.size w) (Nat.le_refl _) (.cells #[.int .i64 k, .string s] 142))
  obtain ⟨nb, hnb⟩ : ∃ nb, w.heap.size = nb := ⟨_, rfl⟩
  have HNB := hid hnb
  have HKF := hid (fun (W : World) (h : Below nb w W) => Keeps.of_bw (F := (· = g)) (show Bw w W by unfold Bw; rw [hnb]; exact h))
  rw [hnb] at HR1 HB1 hgl htl hrl ⊢
  clear hnb c0 c1 cc l0
  generalize w.alloc (.cells #[.int .i64 k, .string s] 142) = W1 at *
  go_loopw [7] (fun at_ wr => ∃ (f : Nat) (p : Path) (k' : Nat), p ∈ P ∧ at_ = .int .i64 (P.idxOf p : Nat) ∧ p.1 + f = 15 ∧ dGo l s (f + 1) p k' = nextR l s k ∧ k' ≤ 8 * s.size ∧ Rd wr nb s k' ∧ Below nb w wr) (fun _ wr => 8 * s.size - posOf wr nb)
  case atStart =>
    refine ⟨15, (0, 0), k, HM0.out, ?_, by omega, rfl, hk, HR1.out, HB1.out⟩
    have hl := hlen0
    rw [← HPL.out] at hl
    have e := HTK.out.ok.root P[0] (List.getElem?_eq_getElem hl)
    have := HTK.out.ok.nd.idxOf_getElem 0 hl
    rw [e] at this
    rw [this]; rfl
  case round =>
    clear HR1 HB1
    obtain ⟨f, p, k', hp, rfl, hpf, hR, hk', hrd, hbe⟩ := hrel
    have hnp : ndB l p = true := (ndB_iff l p).2 ((HTK.out.mem p).1 hp)
    have hlp := nd_apart HC.out hnp
    have hp15 := nd_short HC.out hnp
    obtain ⟨hat, hatE⟩ := idx_at hp
    have HA := hid (bits_any nb s hs k' hk' 1 wr hrd)
    unfold BitsPost at HA
    have HRD := hid hrd
    have HPOS := hid (posOf_rd hrd)
    have HBE := hid hbe
    have hbz : nb ≤ wr.heap.size := by have h1 := hbe.size; have h2 := HNB.out; rw [← h2]; exact h1
    clear hrd hbe
    obtain ⟨ix, hix⟩ : ∃ ix, P.idxOf p = ix := ⟨_, rfl⟩
    by_cases hcut : 8 * s.size ≤ k'
    · obtain ⟨e1, e2, e3⟩ := bits_short (n := 1) (by decide) s k' (by omega)
      rw [e1, e2, e3] at HA
      rw [dGo_cut hlp hnp s f k' hcut] at hR
      obtain ⟨n1, n2, n3⟩ := next_of hR.symm
      unfold NextPost
      rw [n1, n2, n3, if_neg (by decide)]
      clear hR n1 n2 n3 e1 e2 e3 hnp hlp hp hat hatE hpf
      rw [hix]
      clear hix
      go_wp2_with fail
      refine HA.out.mono ?_
      rintro e w2 ⟨rfl, hr2, hk2⟩
      have HB2 := hid (Below.trans HBE.out (hk2.below hbz (fun i hi => Nat.le_of_eq hi.symm)))
      clear hr2 hk2
      go_wp2
      go_returns
      exact ⟨rfl, HR.out.below HB2.out hgl, HKF.out _ HB2.out⟩
    · obtain ⟨e1, e2, e3⟩ := bits_good 1 (by omega) s k' (by omega)
      rw [dGo_on hlp hnp s f k' hcut] at hR
      have hbv : bv s k' 1 < 2 := bv_lt s k' 1
      have e1' : bitsV s k' 1 = bv s k' 1 := e1
      have e2' : bitsE s k' 1 = 0 := e2
      have e3' : bitsK s k' 1 = k' + 1 := e3
      rw [e1', e2', e3'] at HA
      clear e1 e2 e3 e1' e2' e3' hnp hlp
      generalize bv s k' 1 = b at *
      obtain ⟨f', rfl⟩ : ∃ f', f = f' + 1 := ⟨f - 1, by omega⟩
      have hcl := rowCells_get P (lfK l l.length) (P.idxOf p) b hat hbv
      rw [hatE, show 2 * P.idxOf p + b = P.idxOf p * 2 + b by omega] at hcl
      rw [hix] at hcl hat ⊢
      rw [HPL.out] at hat
      have hati : (ix : Int) < len := by omega
      have hb2i : (b : Int) < 2 := by omega
      obtain ⟨L, u⟩ := p
      simp only at hcl hpf hR hp15
      have HOW := hid (fun (W : World) (h : Below nb w W) => ownp_cell (own_keep HO.out (fun j hj => h.block j (by have := own_lt HO.out hj; rw [HNB.out] at this; exact this))) hcl)
      have HCC := hid (fun (W : World) (h : Below nb w W) => (HH.out.below h htl).cell 0)
      have HP := hid hp
      clear hatE hix hcl hp
      cases hlf : lfK l l.length (L + 1, 2 * u + b) with
      | some i =>
        rw [dGo_leaf hlf] at hR
        rw [chl_leaf hlf] at HOW
        have hi := (lfK_some hlf).1
        have h320 := HC.out.few
        obtain ⟨n1, n2, n3⟩ := next_of hR.symm
        unfold NextPost
        rw [n1, n2, n3, if_pos rfl]
        have hnot := not_neg i (by omega)
        have d1 := neg_eq0 i
        have d2 := neg_lt0 i
        clear hR n1 n2 n3 hlf hpf
        go_wp2_with fail
        refine HA.out.mono ?_
        rintro e w2 ⟨rfl, hr2, hk2⟩
        have HB2 := hid (Below.trans HBE.out (hk2.below hbz (fun i hi => Nat.le_of_eq hi.symm)))
        have y0 := HOW.out _ HB2.out
        have y1 : w2.cell? ⟨tb, 0, none⟩ = some (.slice (some ⟨rb, 0, none⟩) len cap) := by rw [← HPL.out]; exact HCC.out _ HB2.out
        have y2 : w2.cell? ⟨nb, 0, none⟩ = some (.int .i64 (k' + 1 : Nat)) := hr2.cell 0
        have y3 : w2.cell? ⟨nb, 1, none⟩ = some (.string s) := hr2.cell 1
        have HRG := hid (HR.out.below HB2.out hgl)
        have z0 := HRG.out.cell 0
        have z1 := HRG.out.cell 1
        have zf0 := HRG.out.frozen 0
        have zf1 := HRG.out.frozen 1
        clear hr2 hk2
        go_wp2
        go_returns
        refine ⟨rfl, ?_, ?_⟩
        · have h1 := (HRG.out.put 0 (.int .i64 ((k' : Int) + 1))).put 1 (.string s)
          unfold Rd
          simpa using h1
        · exact ((HKF.out _ HB2.out).setCell (p := ⟨g, 0, none⟩) (.inl rfl) _).setCell (p := ⟨g, 1, none⟩) (.inl rfl) _
      | none =>
        by_cases hq : (L + 1, 2 * u + b) ∈ P
        · rw [chl_row hlf hq] at HOW
          have hpos := idx_pos HTK.out.ok hq (by simp)
          have HQ := hid hq
          have HPF := hid (⟨hpf, hR⟩ : L + (f' + 1) = 15 ∧ dGo l s (f' + 1) (L + 1, 2 * u + b) (k' + 1) = nextR l s k)
          clear hq hlf hpf hR
          generalize hiq : P.idxOf (L + 1, 2 * u + b) = iq at *
          have HIQ := hid hiq
          clear hiq
          go_wp2_with fail
          refine HA.out.mono ?_
          rintro e w2 ⟨rfl, hr2, hk2⟩
          have HB2 := hid (Below.trans HBE.out (hk2.below hbz (fun i hi => Nat.le_of_eq hi.symm)))
          have y0 := HOW.out _ HB2.out
          have y1 : w2.cell? ⟨tb, 0, none⟩ = some (.slice (some ⟨rb, 0, none⟩) len cap) := by rw [← HPL.out]; exact HCC.out _ HB2.out
          have HR2 := hid hr2
          clear hr2 hk2
          go_wp2
          refine ⟨⟨f', (L + 1, 2 * u + b), k' + 1, HQ.out, by rw [HIQ.out], by have := HPF.out.1; simp only; omega, HPF.out.2, by omega, HR2.out, HB2.out⟩, ?_⟩
          rw [posOf_rd HR2.out, HPOS.out]
          omega
        · have hn : ndB l (L + 1, 2 * u + b) = false := by
            rw [← Bool.not_eq_true]
            exact fun h => hq ((HTK.out.mem _).2 ((ndB_iff l _).1 h))
          rw [dGo_off hlf hn] at hR
          rw [chl_none hlf hq] at HOW
          obtain ⟨n1, n2, n3⟩ := next_of hR.symm
          unfold NextPost
          rw [n1, n2, n3, if_neg (by decide)]
          clear hR n1 n2 n3 hlf hpf hq hn
          go_wp2_with fail
          refine HA.out.mono ?_
          rintro e w2 ⟨rfl, hr2, hk2⟩
          have HB2 := hid (Below.trans HBE.out (hk2.below hbz (fun i hi => Nat.le_of_eq hi.symm)))
          have y0 := HOW.out _ HB2.out
          have y1 : w2.cell? ⟨tb, 0, none⟩ = some (.slice (some ⟨rb, 0, none⟩) len cap) := by rw [← HPL.out]; exact HCC.out _ HB2.out
          clear hr2 hk2
          go_wp2
          go_returns
          exact ⟨rfl, HR.out.below HB2.out hgl, HKF.out _ HB2.out⟩
set_option maxRecDepth 100000 in
set_option maxHeartbeats 4000000 in
theorem next_none (B tb g : Nat) (l : List Int) (s : ByteArray) (k : Nat) (hnd : ndB l (0, 0) = false) (w : World) (hT : TabOf w B tb l) (hr : Rd w g s k) :
    Calls Tryz.prog 142 #[.pointer (some ⟨tb, 0, none⟩), .pointer (some ⟨g, 0, none⟩)] w (NextPost g l s k w) := by
  obtain ⟨P, hTK, hP, hBt, v, hh, ho⟩ := hT
  obtain rfl := nd_root hnd hTK
  obtain ⟨ro, rc, rfl⟩ := own_slice ho
  have hR : nextR l s k = (0, 3, k) := dGo_off (lfK_top l _ 0) hnd s 15 k
  obtain ⟨n1, n2, n3⟩ := next_of hR
  unfold NextPost
  rw [n1, n2, n3, if_neg (by decide)]
  have cc : w.cell? ⟨tb, 0, none⟩ = some (.slice ro 0 rc) := hh.cell 0
  have HR := hid hr
  clear hR n1 n2 n3 hnd hTK hh ho hr
  go_enter Tryz.func142, Tryz.ntmps142
  go_wp2
  go_returns
  exact ⟨rfl, HR.out, Keeps.refl _ _⟩
theorem next_any (B tb g : Nat) (l : List Int) (hc : IsCode l) (s : ByteArray) (hs : s.size ≤ 281474976710656) (k : Nat) (hk : k ≤ 8 * s.size) (w : World) (hT : TabOf w B tb l) (hr : Rd w g s k) :
    Calls Tryz.prog 142 #[.pointer (some ⟨tb, 0, none⟩), .pointer (some ⟨g, 0, none⟩)] w (NextPost g l s k w) := by
  cases hnd : ndB l (0, 0) with
  | false => exact next_none B tb g l s k hnd w hT hr
  | true => exact next_some B tb g l hc s hs k hk hnd w hT hr
end Go.Proofs.YtkmbgkcpohchhaaGreatDoor
namespace Go.Proofs.YtkmbgkcpohchhaaGreatDoor
open Go.RowKit
set_option linter.unusedVariables false
def bytesOk (s : ByteArray) (k : Nat) (n : Int) : Bool := decide (0 ≤ n) && decide (n ≤ (s.size : Int) - (upK k / 8 : Nat))
def rbytesV (s : ByteArray) (k : Nat) (n : Int) : ByteArray := if bytesOk s k n then s.extract (upK k / 8) (upK k / 8 + n.toNat) else ⟨#[]⟩
def rbytesE (s : ByteArray) (k : Nat) (n : Int) : Int := if n < 0 then 1 else if n ≤ (s.size : Int) - (upK k / 8 : Nat) then 0 else 2
def rbytesK (s : ByteArray) (k : Nat) (n : Int) : Nat := if n < 0 then k else if n ≤ (s.size : Int) - (upK k / 8 : Nat) then upK k + 8 * n.toNat else upK k
set_option maxHeartbeats 400000 in
theorem rbytes_bad (g : Nat) (n : Int) (hn : n < 0) (w : World) :
    Calls Tryz.prog 141 #[.pointer (some ⟨g, 0, none⟩), .int .i64 n] w fun e w' => e = .returned (.tuple #[.string ⟨#[]⟩, .int .i64 1]) ∧ w = w' := by
  go_enter Tryz.func141, Tryz.ntmps141
  go_wp2
  go_returns
  exact ⟨rfl, rfl⟩
set_option maxRecDepth 100000 in
set_option maxHeartbeats 1000000 in
theorem rbytes_ok (g : Nat) (s : ByteArray) (hs : s.size ≤ 281474976710656) (k : Nat) (hk : k ≤ 8 * s.size) (q : Nat) (hq : Hid (upK k / 8 = q)) (n : Nat) (hn : q + n ≤ s.size) (w : World) (h : Rd w g s k) :
    Calls Tryz.prog 141 #[.pointer (some ⟨g, 0, none⟩), .int .i64 n] w fun e w' => e = .returned (.tuple #[.string (s.extract q (q + n)), .int .i64 0]) ∧ Rd w' g s (upK k + 8 * n) ∧ Keeps (· = g) w w' := by
  have HH := hid h
  clear h
  have hu := upK_le k s.size hk
  go_enter Tryz.func141, Tryz.ntmps141
  go_wp2_with fail
  refine (ralign_any g s hs k hk _ HH.out).mono ?_
  rintro e w1 ⟨rfl, h1, hK⟩
  have d0 : w1.cell? ⟨g, 0, none⟩ = some (.int .i64 (upK k)) := h1.cell 0
  have d1 : w1.cell? ⟨g, 1, none⟩ = some (.string s) := h1.cell 1
  have hq1 : q ≤ s.size := by omega
  have hq2 : upK k = 8 * q := by have := upK_8 k; rw [hq.out] at this; exact this
  have HQ := hid hq2
  have H1 := hid h1
  clear hq2 h1
  have hu2 : upK k + 8 * n ≤ 1152921504606846976 := by have := HQ.out; omega
  have hu3 : upK k ≤ 1152921504606846976 := by omega
  go_wp2_with fail
  go_quiet ((go_at_call 96; exact Calls.quiet_of_same (whole_q g _ q hu3 hq _ (by simpa using d0))))
  go_wp2_with fail
  have hla := lift_advance g (upK k) (8 * n) hu2 s (w1.drewN nq) (H1.out.drewN nq)
  rw [show ((8 * n : Nat) : Int) = 8 * (n : Int) by omega] at hla
  refine hla.mono ?_
  rintro e w2 ⟨rfl, h2, hK2⟩
  have hx : (s.extract q s.size).size = s.size - q := by simp
  have HX := hid hx
  have i1 : (n : Int) ≤ ((s.extract q s.size).size : Int) := by rw [hx]; omega
  clear hx
  go_wp2
  go_returns
  refine ⟨?_, h2, (hK.drewN nq).trans hK2⟩
  rw [ByteArray.extract_extract, Nat.add_zero, Nat.min_eq_left (by omega)]
  rfl
set_option maxRecDepth 100000 in
set_option maxHeartbeats 1000000 in
theorem rbytes_few (g : Nat) (s : ByteArray) (hs : s.size ≤ 281474976710656) (k : Nat) (hk : k ≤ 8 * s.size) (q : Nat) (hq : Hid (upK k / 8 = q)) (n : Int) (hn0 : 0 ≤ n) (hn : (s.size : Int) - q < n) (w : World) (h : Rd w g s k) :
    Calls Tryz.prog 141 #[.pointer (some ⟨g, 0, none⟩), .int .i64 n] w fun e w' => e = .returned (.tuple #[.string ⟨#[]⟩, .int .i64 2]) ∧ Rd w' g s (upK k) ∧ Keeps (· = g) w w' := by
  have HH := hid h
  clear h
  have hu := upK_le k s.size hk
  go_enter Tryz.func141, Tryz.ntmps141
  go_wp2_with fail
  refine (ralign_any g s hs k hk _ HH.out).mono ?_
  rintro e w1 ⟨rfl, h1, hK⟩
  have d0 : w1.cell? ⟨g, 0, none⟩ = some (.int .i64 (upK k)) := h1.cell 0
  have d1 : w1.cell? ⟨g, 1, none⟩ = some (.string s) := h1.cell 1
  have hq2 : upK k = 8 * q := by have := upK_8 k; rw [hq.out] at this; exact this
  have hq1 : q ≤ s.size := by omega
  have HQ := hid hq2
  have H1 := hid h1
  clear hq2 h1
  have hu3 : upK k ≤ 1152921504606846976 := by omega
  go_wp2_with fail
  go_quiet ((go_at_call 96; exact Calls.quiet_of_same (whole_q g _ q hu3 hq _ (by simpa using d0))))
  have hx : (s.extract q s.size).size = s.size - q := by simp
  have i1 : ((s.extract q s.size).size : Int) < n := by rw [hx]; omega
  clear hx
  go_wp2
  go_returns
  exact ⟨rfl, H1.out.drewN nq, hK.drewN nq⟩
def RBytesPost (g : Nat) (s : ByteArray) (k : Nat) (n : Int) (w : World) (e : Ending) (w' : World) : Prop :=
  e = .returned (.tuple #[.string (rbytesV s k n), .int .i64 (rbytesE s k n)]) ∧ Rd w' g s (rbytesK s k n) ∧ Keeps (· = g) w w'
theorem rbytes_neg {n : Int} (h : n < 0) (s : ByteArray) (k : Nat) : rbytesV s k n = ⟨#[]⟩ ∧ rbytesE s k n = 1 ∧ rbytesK s k n = k := by
  simp [rbytesV, rbytesE, rbytesK, bytesOk, h, show ¬ 0 ≤ n by omega]
theorem rbytes_short {n : Int} (h : 0 ≤ n) (s : ByteArray) (k q : Nat) (hq : upK k / 8 = q) (hn : (s.size : Int) - q < n) : rbytesV s k n = ⟨#[]⟩ ∧ rbytesE s k n = 2 ∧ rbytesK s k n = upK k := by
  unfold rbytesV rbytesE rbytesK bytesOk
  rw [hq]
  simp [show ¬ n < 0 by omega, show ¬ n ≤ (s.size : Int) - q by omega]
theorem rbytes_good (n : Nat) (s : ByteArray) (k q : Nat) (hq : upK k / 8 = q) (hn : q + n ≤ s.size) : rbytesV s k n = s.extract q (q + n) ∧ rbytesE s k n = 0 ∧ rbytesK s k n = upK k + 8 * n := by
  unfold rbytesV rbytesE rbytesK bytesOk
  rw [hq]
  simp [show (n : Int) ≤ (s.size : Int) - q by omega, show ¬ (n : Int) < 0 by omega]
theorem rbytes_any (g : Nat) (s : ByteArray) (hs : s.size ≤ 281474976710656) (k : Nat) (hk : k ≤ 8 * s.size) (n : Int) (w : World) (h : Rd w g s k) :
    Calls Tryz.prog 141 #[.pointer (some ⟨g, 0, none⟩), .int .i64 n] w (RBytesPost g s k n w) := by
  unfold RBytesPost
  by_cases hn : n < 0
  · obtain ⟨e1, e2, e3⟩ := rbytes_neg hn s k
    rw [e1, e2, e3]
    refine (rbytes_bad g n hn w).mono ?_
    rintro e w' ⟨rfl, rfl⟩
    exact ⟨rfl, h, Keeps.refl _ _⟩
  · obtain ⟨q, hq⟩ : ∃ q, upK k / 8 = q := ⟨_, rfl⟩
    by_cases hl : (s.size : Int) - q < n
    · obtain ⟨e1, e2, e3⟩ := rbytes_short (by omega) s k q hq hl
      rw [e1, e2, e3]
      exact rbytes_few g s hs k hk q hq n (by omega) hl w h
    · obtain ⟨m, rfl⟩ := Int.eq_ofNat_of_zero_le (show 0 ≤ n by omega)
      have hq3 : q + m ≤ s.size := by omega
      obtain ⟨e1, e2, e3⟩ := rbytes_good m s k q hq hq3
      rw [e1, e2, e3]
      exact rbytes_ok g s hs k hk q hq m hq3 w h
end Go.Proofs.YtkmbgkcpohchhaaGreatDoor
namespace Go.Proofs.YtkmbgkcpohchhaaGreatDoor
open Go.RowKit
set_option linter.unusedVariables false
abbrev TI : List TypeId := [96, 142, 5]
abbrev pan (e : Int) : Ending := .panicked [{ v := .iface 24 (.int .i64 e), recovered := false }]
theorem KT.tab {T : List TypeId} {B D tb : Nat} {l : List Int} {w w' : World} (h : KT T B w w') (k : TabOf w D tb l) (h1 : 204 ∉ T) (h2 : 210 ∉ T) : TabOf w' D tb l := by
  obtain ⟨P, a1, a2, a3, v, a4, a5⟩ := k
  exact ⟨P, a1, a2, a3, v, h.has a4 h1, h.own a5 h2⟩
structure CellsAt (w : World) (B g n : Nat) (f : Nat → Value) : Prop where
  lt : g < B
  cell : ∀ i, i < n → w.cell? ⟨g, i, none⟩ = some (f i)
theorem CellsAt.kt {T : List TypeId} {B D g n : Nat} {f : Nat → Value} {w w' : World} (h : CellsAt w B g n f) (hk : KT T D w w') (hB : B ≤ D) : CellsAt w' B g n f := by
  refine ⟨h.lt, fun i hi => ?_⟩
  have hc := h.cell i hi
  have := h.lt
  exact (World.cell?_of_block (hk.block g (cell_lt hc) (.inl (by omega)))).trans hc
def lenC_i (i : Nat) : Value := .int .i64 ((if i % 2 = 0 then (lenR (i / 2)).1 else (lenR (i / 2)).2 : Nat) : Int)
def distC (i : Nat) : Value := .int .i64 ((if i % 2 = 0 then (distR (i / 2)).1 else (distR (i / 2)).2 : Nat) : Int)
def ordC (i : Nat) : Value := .int .i64 (ordL.getD i 0 : Nat)
structure Tabs (B : Nat) (w : World) : Prop where
  len : CellsAt w B 2 58 lenC_i
  dist : CellsAt w B 3 60 distC
  ord : CellsAt w B 1 19 ordC
theorem Tabs.kt {T : List TypeId} {B D : Nat} {w w' : World} (h : Tabs B w) (hk : KT T D w w') (hB : B ≤ D) : Tabs B w' := ⟨h.len.kt hk hB, h.dist.kt hk hB, h.ord.kt hk hB⟩
theorem Tabs.lens {B : Nat} {w : World} (h : Tabs B w) (i : Nat) (hi : i < 29) : w.cell? ⟨2, i * 2, none⟩ = some (.int .i64 ((lenR i).1 : Nat)) ∧ w.cell? ⟨2, i * 2 + 1, none⟩ = some (.int .i64 ((lenR i).2 : Nat)) := by
  have h1 := h.len.cell (i * 2) (by omega)
  have h2 := h.len.cell (i * 2 + 1) (by omega)
  unfold lenC_i at h1 h2
  rw [if_pos (by omega), show i * 2 / 2 = i by omega] at h1
  rw [if_neg (by omega), show (i * 2 + 1) / 2 = i by omega] at h2
  exact ⟨h1, h2⟩
theorem Tabs.dists {B : Nat} {w : World} (h : Tabs B w) (i : Nat) (hi : i < 30) : w.cell? ⟨3, i * 2, none⟩ = some (.int .i64 ((distR i).1 : Nat)) ∧ w.cell? ⟨3, i * 2 + 1, none⟩ = some (.int .i64 ((distR i).2 : Nat)) := by
  have h1 := h.dist.cell (i * 2) (by omega)
  have h2 := h.dist.cell (i * 2 + 1) (by omega)
  unfold distC at h1 h2
  rw [if_pos (by omega), show i * 2 / 2 = i by omega] at h1
  rw [if_neg (by omega), show (i * 2 + 1) / 2 = i by omega] at h2
  exact ⟨h1, h2⟩
def FixAt (w : World) (B : Nat) (pl pd : Option Addr) : Prop := (pl = none ∧ pd = none) ∨ ∃ tl td : Nat, pl = some ⟨tl, 0, none⟩ ∧ pd = some ⟨td, 0, none⟩ ∧ TabOf w B tl fixL ∧ TabOf w B td fixD
structure Inf (B : Nat) (w : World) (fb g : Nat) (s : ByteArray) (k : Nat) (out : List UInt8) (lim : Nat) (v : Value) (pl pd : Option Addr) : Prop where
  has : Has w fb 96 #[.pointer (some ⟨g, 0, none⟩), v, .int .i64 lim, .pointer pl, .pointer pd]
  rd : Rd w g s k
  own : w.ownsRow B 5 1 v out.length (bcs out)
  fix : FixAt w B pl pd
  fb : B ≤ fb
  gb : B ≤ g
  k8 : k ≤ 8 * s.size
  few : out.length ≤ lim
  tabs : Tabs B w
section
variable {B : Nat} {w w' : World} {fb g : Nat} {s : ByteArray} {k : Nat} {out : List UInt8} {lim : Nat} {v : Value} {pl pd : Option Addr}
theorem Inf.ne (h : Inf B w fb g s k out lim v pl pd) : fb ≠ g := fun e => by
  have h1 := h.has
  have h2 : Has w g _ _ := h.rd
  subst e
  unfold Has at h1 h2
  rw [h1] at h2
  injection h2 with h2
  injection h2 with _ h2
  exact absurd h2 (by decide)
theorem KT.of_rd {g : Nat} {s : ByteArray} {k : Nat} (h : Rd w g s k) (hB : B ≤ g) (hk : Keeps (· = g) w w') : KT TI B w w' :=
  KT.of_keeps hk fun i _ e => by subst e; exact ⟨hB, Has.hot (show Has w i _ _ from h) (by decide)⟩
theorem FixAt.kt {T : List TypeId} {D : Nat} (h : FixAt w B pl pd) (hk : KT T D w w') (h1 : 204 ∉ T) (h2 : 210 ∉ T) : FixAt w' B pl pd := by
  rcases h with h | ⟨tl, td, e1, e2, a, b⟩
  · exact .inl h
  · exact .inr ⟨tl, td, e1, e2, hk.tab a h1 h2, hk.tab b h1 h2⟩
theorem Inf.read (h : Inf B w fb g s k out lim v pl pd) {k' : Nat} (hr : Rd w' g s k') (hk : Keeps (· = g) w w') (h8 : k' ≤ 8 * s.size) : Inf B w' fb g s k' out lim v pl pd :=
  ⟨hk.has h.has h.ne, hr, own_keep h.own fun b hb => hk.block b (own_lt h.own hb) fun e => by subst e; exact own_ne_has h.own h.rd (by decide) hb,
    h.fix.kt (KT.of_rd h.rd h.gb hk) (by decide) (by decide), h.fb, h.gb, h8, h.few, h.tabs.kt (KT.of_rd h.rd h.gb hk) (Nat.le_refl _)⟩
theorem Inf.bw (h : Inf B w fb g s k out lim v pl pd) (hb : Bw w w') : Inf B w' fb g s k out lim v pl pd :=
  ⟨hb.has h.has, hb.has h.rd, hb.own h.own, h.fix.kt (T := []) (D := 0) (KT.of_bw hb) (by decide) (by decide), h.fb, h.gb, h.k8, h.few, h.tabs.kt (T := []) (D := B) (KT.of_bw hb) (Nat.le_refl _)⟩
end
set_option maxHeartbeats 400000 in
theorem icheck_ok (w : World) : Calls Tryz.prog 123 #[.int .i64 0] w fun e w' => e = .returned (.tuple #[]) ∧ w' = w := by
  go_enter Tryz.func123, Tryz.ntmps123
  go_wp2
  go_returns
  exact ⟨rfl, rfl⟩
set_option maxHeartbeats 400000 in
theorem icheck_bad (er : Int) (h : er ≠ 0) (w : World) : Calls Tryz.prog 123 #[.int .i64 er] w fun e w' => e = pan er ∧ w' = w := by
  have h1 : (er != 0) = true := by simpa using h
  go_enter Tryz.func123, Tryz.ntmps123
  go_wp2
  exact ⟨rfl, rfl, rfl⟩
set_option maxHeartbeats 400000 in
theorem demand_ok (w : World) : Calls Tryz.prog 125 #[.bool true] w fun e w' => e = .returned (.tuple #[]) ∧ w' = w := by
  go_enter Tryz.func125, Tryz.ntmps125
  go_wp2
  go_returns
  exact ⟨rfl, rfl⟩
set_option maxHeartbeats 400000 in
theorem demand_bad (w : World) : Calls Tryz.prog 125 #[.bool false] w fun e w' => e = pan 3 ∧ w' = w := by
  go_enter Tryz.func125, Tryz.ntmps125
  go_wp2
  exact ⟨rfl, rfl, rfl⟩
section
variable {B : Nat} {w : World} {fb g : Nat} {s : ByteArray} {k : Nat} {out : List UInt8} {lim : Nat} {v : Value} {pl pd : Option Addr}
set_option maxHeartbeats 1000000 in
theorem number_ok (hs : s.size ≤ 281474976710656) (n : Nat) (hn : n ≤ 32) (hk : k + n ≤ 8 * s.size) (h : Inf B w fb g s k out lim v pl pd) :
    Calls Tryz.prog 105 #[.pointer (some ⟨fb, 0, none⟩), .int .i64 n] w fun e w' => e = .returned (.int .i64 (bv s k n : Nat)) ∧ Inf B w' fb g s (k + n) out lim v pl pd ∧ KT TI B w w' := by
  have c0 : w.cell? ⟨fb, 0, none⟩ = some (.pointer (some ⟨g, 0, none⟩)) := h.has.cell 0
  have HB := hid (bits_any g s hs k h.k8 n w h.rd)
  obtain ⟨e1, e2, e3⟩ := bits_good n hn s k hk
  unfold BitsPost at HB
  rw [e1, e2, e3] at HB
  have hb := bv_lt32 s k n hn
  have HI := hid h
  clear h e1 e2 e3
  go_enter Tryz.func105, Tryz.ntmps105
  go_wp2_with fail
  refine HB.out.mono ?_
  rintro e w2 ⟨rfl, hr, hk2⟩
  have HI2 := hid (HI.out.read hr hk2 hk)
  have HK := hid (KT.of_rd HI.out.rd HI.out.gb hk2)
  clear hr hk2
  go_wp2_with fail
  refine (icheck_ok _).mono ?_
  rintro e w3 ⟨rfl, rfl⟩
  go_wp2
  go_returns
  exact ⟨rfl, HI2.out, HK.out⟩
set_option maxHeartbeats 1000000 in
theorem number_bad (hs : s.size ≤ 281474976710656) (n : Nat) (hn : n ≤ 32) (hk : ¬ k + n ≤ 8 * s.size) (h : Inf B w fb g s k out lim v pl pd) :
    Calls Tryz.prog 105 #[.pointer (some ⟨fb, 0, none⟩), .int .i64 n] w fun e w' => e = pan 2 ∧ KT TI B w w' := by
  have c0 : w.cell? ⟨fb, 0, none⟩ = some (.pointer (some ⟨g, 0, none⟩)) := h.has.cell 0
  have HB := hid (bits_any g s hs k h.k8 n w h.rd)
  obtain ⟨e1, e2, e3⟩ := bits_short (n := n) (decide_eq_true ⟨by omega, by omega⟩) s k (by omega)
  unfold BitsPost at HB
  rw [e1, e2, e3] at HB
  have HI := hid h
  clear h e1 e2 e3 hk
  go_enter Tryz.func105, Tryz.ntmps105
  go_wp2_with fail
  refine HB.out.mono ?_
  rintro e w2 ⟨rfl, hr, hk2⟩
  have HK := hid (KT.of_rd HI.out.rd HI.out.gb hk2)
  clear hr hk2
  go_wp2_with fail
  refine (icheck_bad 2 (by decide) _).mono ?_
  rintro e w3 ⟨rfl, rfl⟩
  exact ⟨rfl, rfl, HK.out⟩
end
end Go.Proofs.YtkmbgkcpohchhaaGreatDoor
namespace Go.Proofs.YtkmbgkcpohchhaaGreatDoor
open Go.RowKit
set_option linter.unusedVariables false
section
variable {B : Nat} {w : World} {fb g : Nat} {s : ByteArray} {k : Nat} {out : List UInt8} {lim : Nat} {v : Value} {pl pd : Option Addr}
set_option maxHeartbeats 1000000 in
theorem ibytes_ok (hs : s.size ≤ 281474976710656) (n q : Nat) (hq : Hid (upK k = 8 * q)) (hn : q + n ≤ s.size) (h : Inf B w fb g s k out lim v pl pd) :
    Calls Tryz.prog 126 #[.pointer (some ⟨fb, 0, none⟩), .int .i64 n] w fun e w' => e = .returned (.string (s.extract q (q + n))) ∧ Inf B w' fb g s (8 * (q + n)) out lim v pl pd ∧ KT TI B w w' := by
  have c0 : w.cell? ⟨fb, 0, none⟩ = some (.pointer (some ⟨g, 0, none⟩)) := h.has.cell 0
  have HB := hid (rbytes_any g s hs k h.k8 n w h.rd)
  obtain ⟨e1, e2, e3⟩ := rbytes_good n s k q (by rw [hq.out]; omega) hn
  unfold RBytesPost at HB
  rw [e1, e2, e3, hq.out, ← Nat.mul_add] at HB
  have HI := hid h
  clear h e1 e2 e3
  go_enter Tryz.func126, Tryz.ntmps126
  go_wp2_with fail
  refine HB.out.mono ?_
  rintro e w2 ⟨rfl, hr, hk2⟩
  have HI2 := hid (HI.out.read hr hk2 (by omega))
  have HK := hid (KT.of_rd HI.out.rd HI.out.gb hk2)
  clear hr hk2
  go_wp2_with fail
  refine (icheck_ok _).mono ?_
  rintro e w3 ⟨rfl, rfl⟩
  go_wp2
  go_returns
  exact ⟨rfl, HI2.out, HK.out⟩
set_option maxHeartbeats 1000000 in
theorem ibytes_bad (hs : s.size ≤ 281474976710656) (n q : Nat) (hq : Hid (upK k = 8 * q)) (hn : ¬ q + n ≤ s.size) (h : Inf B w fb g s k out lim v pl pd) :
    Calls Tryz.prog 126 #[.pointer (some ⟨fb, 0, none⟩), .int .i64 n] w fun e w' => e = pan 2 ∧ KT TI B w w' := by
  have c0 : w.cell? ⟨fb, 0, none⟩ = some (.pointer (some ⟨g, 0, none⟩)) := h.has.cell 0
  have HB := hid (rbytes_any g s hs k h.k8 n w h.rd)
  obtain ⟨e1, e2, e3⟩ := rbytes_short (n := n) (by omega) s k q (by rw [hq.out]; omega) (by omega)
  unfold RBytesPost at HB
  rw [e1, e2, e3] at HB
  have HI := hid h
  clear h e1 e2 e3 hn
  go_enter Tryz.func126, Tryz.ntmps126
  go_wp2_with fail
  refine HB.out.mono ?_
  rintro e w2 ⟨rfl, hr, hk2⟩
  have HK := hid (KT.of_rd HI.out.rd HI.out.gb hk2)
  clear hr hk2
  go_wp2_with fail
  refine (icheck_bad 2 (by decide) _).mono ?_
  rintro e w3 ⟨rfl, rfl⟩
  exact ⟨rfl, rfl, HK.out⟩
set_option maxHeartbeats 1000000 in
theorem symbol_ok (hs : s.size ≤ 281474976710656) (D tb : Nat) (l : List Int) (hc : IsCode l) (hT : TabOf w D tb l) (hE : nextE l s k = 0) (h : Inf B w fb g s k out lim v pl pd) :
    Calls Tryz.prog 128 #[.pointer (some ⟨fb, 0, none⟩), .pointer (some ⟨tb, 0, none⟩)] w fun e w' => e = .returned (.int .i64 (nextV l s k : Nat)) ∧ Inf B w' fb g s (nextK l s k) out lim v pl pd ∧ KT TI B w w' := by
  have c0 : w.cell? ⟨fb, 0, none⟩ = some (.pointer (some ⟨g, 0, none⟩)) := h.has.cell 0
  have HB := hid (next_any D tb g l hc s hs k h.k8 w hT h.rd)
  unfold NextPost at HB
  rw [hE] at HB
  have hk8 := nextK_le l s k h.k8
  have HI := hid h
  clear h hE hT
  generalize nextV l s k = nv at *
  generalize nextK l s k = nk at *
  go_enter Tryz.func128, Tryz.ntmps128
  go_wp2_with fail
  refine HB.out.mono ?_
  rintro e w2 ⟨rfl, hr, hk2⟩
  have HI2 := hid (HI.out.read hr hk2 hk8)
  have HK := hid (KT.of_rd HI.out.rd HI.out.gb hk2)
  clear hr hk2
  go_wp2_with fail
  refine (icheck_ok _).mono ?_
  rintro e w3 ⟨rfl, rfl⟩
  go_wp2
  go_returns
  exact ⟨rfl, HI2.out, HK.out⟩
set_option maxHeartbeats 1000000 in
theorem symbol_bad (hs : s.size ≤ 281474976710656) (D tb : Nat) (l : List Int) (hc : IsCode l) (hT : TabOf w D tb l) (hE : ¬ nextE l s k = 0) (h : Inf B w fb g s k out lim v pl pd) :
    Calls Tryz.prog 128 #[.pointer (some ⟨fb, 0, none⟩), .pointer (some ⟨tb, 0, none⟩)] w fun e w' => e = pan (nextE l s k) ∧ KT TI B w w' := by
  have c0 : w.cell? ⟨fb, 0, none⟩ = some (.pointer (some ⟨g, 0, none⟩)) := h.has.cell 0
  have HB := hid (next_any D tb g l hc s hs k h.k8 w hT h.rd)
  unfold NextPost at HB
  have HI := hid h
  have HE := hid hE
  clear h hT hE
  generalize nextV l s k = nv at *
  generalize nextK l s k = nk at *
  generalize nextE l s k = ne at *
  go_enter Tryz.func128, Tryz.ntmps128
  go_wp2_with fail
  refine HB.out.mono ?_
  rintro e w2 ⟨rfl, hr, hk2⟩
  have HK := hid (KT.of_rd HI.out.rd HI.out.gb hk2)
  clear hr hk2
  go_wp2_with fail
  refine (icheck_bad ne HE.out _).mono ?_
  rintro e w3 ⟨rfl, rfl⟩
  exact ⟨rfl, rfl, HK.out⟩
set_option maxHeartbeats 1000000 in
theorem room_ok (n : Nat) (hn : n ≤ 1000000) (hl : lim ≤ 1073741824) (hr : ¬ lim < out.length + n) (h : Inf B w fb g s k out lim v pl pd) :
    Calls Tryz.prog 127 #[.pointer (some ⟨fb, 0, none⟩), .int .i64 n] w fun e w' => e = .returned (.tuple #[]) ∧ Bw w w' := by
  obtain ⟨ol, ho⟩ : ∃ ol, out.length = ol := ⟨_, rfl⟩
  have hfew := h.few
  have hown := h.own
  rw [ho] at hown hr hfew
  obtain ⟨vo, vc, rfl⟩ := own_slice hown
  have c1 : w.cell? ⟨fb, 1, none⟩ = some (.slice vo ol vc) := h.has.cell 1
  have c2 : w.cell? ⟨fb, 2, none⟩ = some (.int .i64 lim) := h.has.cell 2
  clear h hown ho
  have HB := hid (Bw.refl w)
  go_enter Tryz.func127, Tryz.ntmps127
  go_wp2
  go_region
  go_wp2
  go_returns
  exact ⟨rfl, HB.out.drewN 1⟩
set_option maxHeartbeats 1000000 in
theorem room_bad (n : Nat) (hn : n ≤ 1000000) (hl : lim ≤ 1073741824) (hr : lim < out.length + n) (h : Inf B w fb g s k out lim v pl pd) :
    Calls Tryz.prog 127 #[.pointer (some ⟨fb, 0, none⟩), .int .i64 n] w fun e w' => e = pan 11 ∧ Bw w w' := by
  obtain ⟨ol, ho⟩ : ∃ ol, out.length = ol := ⟨_, rfl⟩
  have hfew := h.few
  have hown := h.own
  rw [ho] at hown hr hfew
  obtain ⟨vo, vc, rfl⟩ := own_slice hown
  have c1 : w.cell? ⟨fb, 1, none⟩ = some (.slice vo ol vc) := h.has.cell 1
  have c2 : w.cell? ⟨fb, 2, none⟩ = some (.int .i64 lim) := h.has.cell 2
  clear h hown ho
  have HB := hid (Bw.refl w)
  go_enter Tryz.func127, Tryz.ntmps127
  go_wp2
  go_region
  go_wp2
  exact ⟨rfl, rfl, HB.out.drewN 1⟩
end
end Go.Proofs.YtkmbgkcpohchhaaGreatDoor
namespace Go.Proofs.YtkmbgkcpohchhaaGreatDoor
open Go.RowKit
set_option linter.unusedVariables false
section
variable {B : Nat} {w : World} {fb g : Nat} {s : ByteArray} {k : Nat} {out : List UInt8} {lim : Nat} {v : Value} {pl pd : Option Addr}
set_option maxHeartbeats 2000000 in
theorem row_ok (hs : s.size ≤ 281474976710656) (least extra : Nat) (hl : least ≤ 30000) (hn : extra ≤ 13) (hk : k + extra ≤ 8 * s.size) (h : Inf B w fb g s k out lim v pl pd) :
    Calls Tryz.prog 143 #[.agg #[.int .i64 least, .int .i64 extra], .pointer (some ⟨fb, 0, none⟩)] w fun e w' => e = .returned (.int .i64 (least + bv s k extra : Nat)) ∧ Inf B w' fb g s (k + extra) out lim v pl pd ∧ KT TI B w w' := by
  have hb : bv s k extra < 8192 := Nat.lt_of_lt_of_le (bv_lt s k extra) (Nat.pow_le_pow_right (by decide) hn : 2 ^ extra ≤ 2 ^ 13)
  have HI := hid h
  have HN := hid (Has.new w 198 #[.int .i64 least, .int .i64 extra])
  have HW := hid (show Bw w (w.alloc (.cells #[.int .i64 least, .int .i64 extra] 198)) from (Bw.refl w).alloc _)
  clear h
  go_enter Tryz.func143, Tryz.ntmps143
  go_wp2_with fail
  generalize w.alloc (.cells #[.int .i64 least, .int .i64 extra] 198) = W at *
  generalize w.heap.size = nb at *
  have HI1 := hid (HI.out.bw (HW.out.drewN 1))
  have p0 : W.drew.cell? ⟨nb, 0, none⟩ = some (.int .i64 least) := HN.out.drew.cell 0
  have p1 : W.drew.cell? ⟨nb, 1, none⟩ = some (.int .i64 extra) := HN.out.drew.cell 1
  have hwr : IntKind.i64.wrap ((least : Int) + (bv s k extra : Nat)) = (least : Int) + (bv s k extra : Nat) := IntWalk.i64_in _ (by omega)
  go_region_held3 (fun w' => w'.cell? ⟨nb, 0, none⟩ = some (.int .i64 least) ∧ w'.cell? ⟨nb, 1, none⟩ = some (.int .i64 extra)) (first | exact ⟨p0, p1⟩ | exact ⟨q0, q1⟩)
    (first | (go_at_call 105; refine (number_ok hs extra (by omega) hk HI1.out).mono ?_; rintro e w2 ⟨rfl, hi2, hk2⟩; have q0 := (hk2.has HN.out.drew (by decide)).cell 0; have q1 := (hk2.has HN.out.drew (by decide)).cell 1; have HI2 := hid hi2; have HK2 := hid hk2; clear hi2 hk2))
  go_wp2
  go_returns
  exact ⟨by simp, HI2.out, (KT.of_bw (HW.out.drewN 1)).trans HK2.out⟩
set_option maxHeartbeats 2000000 in
theorem row_bad (hs : s.size ≤ 281474976710656) (least extra : Nat) (hl : least ≤ 30000) (hn : extra ≤ 13) (hk : ¬ k + extra ≤ 8 * s.size) (h : Inf B w fb g s k out lim v pl pd) :
    Calls Tryz.prog 143 #[.agg #[.int .i64 least, .int .i64 extra], .pointer (some ⟨fb, 0, none⟩)] w fun e w' => e = pan 2 ∧ KT TI B w w' := by
  have HI := hid h
  have HN := hid (Has.new w 198 #[.int .i64 least, .int .i64 extra])
  have HW := hid (show Bw w (w.alloc (.cells #[.int .i64 least, .int .i64 extra] 198)) from (Bw.refl w).alloc _)
  clear h
  go_enter Tryz.func143, Tryz.ntmps143
  go_wp2_with fail
  generalize w.alloc (.cells #[.int .i64 least, .int .i64 extra] 198) = W at *
  generalize w.heap.size = nb at *
  have HI1 := hid (HI.out.bw (HW.out.drewN 1))
  have p0 : W.drew.cell? ⟨nb, 0, none⟩ = some (.int .i64 least) := HN.out.drew.cell 0
  have p1 : W.drew.cell? ⟨nb, 1, none⟩ = some (.int .i64 extra) := HN.out.drew.cell 1
  go_region_dies
  all_goals (refine (number_bad hs extra (by omega) hk HI1.out).mono ?_; rintro e w2 ⟨rfl, hk2⟩; exact ⟨rfl, rfl, (KT.of_bw (HW.out.drewN 1)).trans hk2⟩)
end
end Go.Proofs.YtkmbgkcpohchhaaGreatDoor
namespace Go.Proofs.YtkmbgkcpohchhaaGreatDoor
open Go.RowKit
set_option linter.unusedVariables false
theorem app_str {P : Program} (w : World) (t u ty e : TypeId) (i : TypeInfo) (ht : P.underlying t = some (.slice e)) (hu : P.underlying u = some .string) (hi : P.info? e = some i) (hz : i.zero = some (.int .u8 0))
    (h1 : i.size = 1) (h2 : i.bytes = 1) (v : Value) (n : Nat) (xs : List Value) (hown : w.ownsRow 0 e 1 v n xs) (s : ByteArray) (hb : n + s.size ≤ 140737488355328) :
    ∃ v' w', (Builtin.append_ #[t, u] ty #[v, .string s]).run P w = .ok v' w' ∧ w'.ownsRow 0 e 1 v' (n + s.size) (xs ++ Lib.strCells s) ∧ w.grownBy w' v.ownBlock ∧ (v'.ownBlock = v.ownBlock ∨ ∀ b, v'.ownBlock = some b → w.heap.size ≤ b) := by
  have hm : n + s.size ≤ maxLen := by unfold maxLen; omega
  rcases hown.2 with ⟨rfl, rfl⟩ | ⟨g, cap, cur, rfl, hg0, hg, hnc, hcm, hcs, htk⟩
  · obtain ⟨v', w', hr, ho, hgr, _⟩ := Lib.run_append_own_string w w.heap.size t u ty e i ht hu hi hz h1 h2 (.slice none 0 0) 0 xs ⟨hown.1, .inl ⟨rfl, rfl⟩⟩ s hm hb (Nat.le_refl _)
    refine ⟨v', w', hr, ⟨ho.1, ?_⟩, hgr, .inr fun b hbb => ?_⟩
    · rcases ho.2 with h | ⟨g, cap, cur, e1, _, e3⟩
      · exact .inl h
      · exact .inr ⟨g, cap, cur, e1, Nat.zero_le _, e3⟩
    · rcases ho.2 with ⟨rfl, _⟩ | ⟨g, cap, cur, rfl, e2, _⟩
      · simp [Value.ownBlock] at hbb
      · have : g = b := by simpa [Value.ownBlock] using hbb
        omega
  · obtain ⟨v', w', hr, ho, hgr, _⟩ := Lib.run_append_own_string w 0 t u ty e i ht hu hi hz h1 h2 (.slice (some ⟨g, 0, none⟩) n cap) n xs hown s hm hb (Nat.zero_le _)
    refine ⟨v', w', hr, ho, hgr, ?_⟩
    have hcs' : cur.size = cap := by simpa using hcs
    by_cases hroom : n + s.size ≤ cap
    · have hr2 := Lib.run_append_room_string (P := P) w t u ty e i ht hu hi h1 g n cap cur hg s hroom (by omega)
      rw [hr] at hr2
      injection hr2 with e1 _
      left; rw [e1]; rfl
    · have hr2 := Lib.run_append_grow_string (P := P) w t u ty e i (.int .u8 0) ht hu hi hz ⟨g, 0, none⟩ n cap xs (by rw [h1]; exact hown.1) (hown.cells (g := g) rfl) s (by omega) (by omega) (by rw [h2]; exact growslice_fits (by omega) (by omega))
      rw [hr] at hr2
      injection hr2 with e1 _
      right; intro b hbb
      rw [e1] at hbb
      have : w.heap.size = b := by simpa [Value.ownBlock] using hbb
      omega
theorem wpList_app_str {P : Program} {w : World} {ops : Array Oper} {rest : List Oper} {o : Oper} {a : Act} {Q : Exit → Act → World → Prop} (hgd : o.guard = none) (x y : Operand) (t u : TypeId)
    (ho : o.op = .call { callee := .builtin .append, args := #[x, y], argTypes := #[t, u] }) {e : TypeId} {i : TypeInfo} (ht : P.underlying t = some (.slice e)) (hu : P.underlying u = some .string) (hi : P.info? e = some i) (hz : i.zero = some (.int .u8 0))
    (h1 : i.size = 1) (h2 : i.bytes = 1) (v : Value) (n : Nat) (xs : List Value) (hx : a.eval x = v) (hown : w.ownsRow 0 e 1 v n xs) (s : ByteArray) (hy : a.eval y = .string s) (hb : n + s.size ≤ 140737488355328)
    (h : ∀ v' w', w'.ownsRow 0 e 1 v' (n + s.size) (xs ++ Lib.strCells s) → w.grownBy w' v.ownBlock → (v'.ownBlock = v.ownBlock ∨ ∀ b, v'.ownBlock = some b → w.heap.size ≤ b) → wpList P ops Q rest (a.put o.dst v') w') : wpList P ops Q (o :: rest) a w := by
  obtain ⟨v', w', hr, k1, k2, k3⟩ := app_str (P := P) w t u o.type e i ht hu hi hz h1 h2 v n xs hown s hb
  refine wpList_plain hgd fun K hK => ?_
  unfold Oper.wp execOp
  simp only [ho, resolve, invoke, builtin, Sem.run_bind, Sem.run_pure, Result.andThen_ok, List.map_toArray, List.map_cons, List.map_nil, hx, hy, hr]
  exact hK _ _ (h v' w' k1 k2 k3)
theorem strCells_bcs (s : ByteArray) : Lib.strCells s = bcs s.data.toList := by
  unfold Lib.strCells bcs
  rfl
theorem own_lift {w : World} {B t size n : Nat} {v : Value} {xs : List Value} (h : w.ownsRow 0 t size v n xs) (hB : ∀ b, v.ownBlock = some b → B ≤ b) : w.ownsRow B t size v n xs := by
  refine ⟨h.1, ?_⟩
  rcases h.2 with h | ⟨g, cap, cur, rfl, _, h2⟩
  · exact .inl h
  · exact .inr ⟨g, cap, cur, rfl, hB g rfl, h2⟩
theorem own_down {w : World} {B B' t size n : Nat} {v : Value} {xs : List Value} (h : w.ownsRow B t size v n xs) (hB : B' ≤ B) : w.ownsRow B' t size v n xs := by
  refine ⟨h.1, ?_⟩
  rcases h.2 with h | ⟨g, cap, cur, rfl, h1, h2⟩
  · exact .inl h
  · exact .inr ⟨g, cap, cur, rfl, Nat.le_trans hB h1, h2⟩
end Go.Proofs.YtkmbgkcpohchhaaGreatDoor
namespace Go.Proofs.YtkmbgkcpohchhaaGreatDoor
set_option linter.unusedVariables false
def Pre (s t : ByteArray) : Prop := ∃ u : List UInt8, t.data.toList = s.data.toList ++ u
theorem Pre.size {s t : ByteArray} (h : Pre s t) : s.size ≤ t.size := by
  obtain ⟨u, h⟩ := h
  have := congrArg List.length h
  simp at this
  omega
theorem cut_list (s : ByteArray) (q n : Nat) : cut s q n = (s.data.toList.drop q).take n := by
  unfold cut
  rw [ByteArray.data_extract, Array.toList_extract, List.extract_eq_take_drop]
  congr 1
  omega
theorem cut_len (s : ByteArray) (q n : Nat) (h : q + n ≤ s.size) : (cut s q n).length = n := by
  have hl : s.data.toList.length = s.size := by simp
  rw [cut_list, List.length_take, List.length_drop]; omega
def PreEq (x y : IOut) : Prop := x = .bad 2 ∨ y = x
theorem PreEq.refl (x : IOut) : PreEq x x := .inr rfl
def IOut.pos : IOut → Nat
  | .go st => st.k
  | .fin k _ => k
  | .bad _ => 0
def IOut.len : IOut → Nat
  | .go st => st.out.length
  | .fin _ o => o.length
  | .bad _ => 0
theorem num_pos' {s : ByteArray} {k n : Nat} {f : Nat → Nat → IOut} (hf : ∀ v k', k' = k + n → k' ≤ 8 * s.size → (f v k').pos ≤ 8 * s.size) : (num s k n f).pos ≤ 8 * s.size := by
  by_cases hk : k + n ≤ 8 * s.size
  · rw [num_ok hk]; exact hf _ _ rfl hk
  · rw [num_bad hk]; exact Nat.zero_le _
theorem num_pos {s : ByteArray} {k n : Nat} {f : Nat → Nat → IOut} (hf : ∀ v k', k' ≤ 8 * s.size → (f v k').pos ≤ 8 * s.size) : (num s k n f).pos ≤ 8 * s.size := num_pos' fun v k' _ h => hf v k' h
theorem sym1_pos {s : ByteArray} {l : List Int} {k : Nat} (hk : k ≤ 8 * s.size) {f : Nat → Nat → IOut} (hf : ∀ v k', k' ≤ 8 * s.size → (f v k').pos ≤ 8 * s.size) : (sym1 s l k f).pos ≤ 8 * s.size := by
  by_cases h0 : nextE l s k = 0
  · rw [sym1_ok h0]; exact hf _ _ (nextK_le l s k hk)
  · rw [sym1_bad h0]; exact Nat.zero_le _
theorem ite_pos {n : Nat} {c : Prop} [Decidable c] {x y : IOut} (h : c → x.pos ≤ n) (k : ¬ c → y.pos ≤ n) : (if c then x else y).pos ≤ n := by
  by_cases hc : c
  · rw [if_pos hc]; exact h hc
  · rw [if_neg hc]; exact k hc
theorem aft_pos {last : Bool} {k n : Nat} {out : List UInt8} (h : k ≤ n) : (aft last k out).pos ≤ n := by
  cases last <;> exact h
theorem step_pos (s : ByteArray) (lim : Nat) (st : ISt) (hk : st.k ≤ 8 * s.size) : (step s lim st).pos ≤ 8 * s.size := by
  obtain ⟨m, k, out⟩ := st
  have hz : (0 : Nat) ≤ 8 * s.size := Nat.zero_le _
  cases m with
  | top =>
    rw [step_top]
    unfold stTop stStored stHead
    refine num_pos fun b k1 h1 => num_pos fun kind k2 h2 => ite_pos (fun _ => ?_) fun _ => ite_pos (fun _ => h2) fun _ => ite_pos (fun _ => ?_) fun _ => hz
    · refine num_pos' fun n k3 e3 h3 => num_pos' fun m k4 e4 h4 => ite_pos (fun _ => ite_pos (fun h => ite_pos (fun _ => hz) fun _ => aft_pos ?_) fun _ => hz) fun _ => hz
      have := upK_8 k2
      omega
    · exact num_pos fun a k3 h3 => num_pos fun b k4 h4 => num_pos fun c k5 h5 => ite_pos (fun _ => h5) fun _ => hz
  | hdr last n d g i l =>
    rw [step_hdr]
    unfold stHdr
    exact ite_pos (fun _ => num_pos fun _ _ h => h) fun _ => ite_pos (fun _ => hk) fun _ => hz
  | seq last n d t l =>
    rw [step_seq]
    unfold stSeq stPut
    refine ite_pos (fun _ => sym1_pos hk fun x k1 h1 => ite_pos (fun _ => ite_pos (fun _ => hz) fun _ => ?_) fun _ => ite_pos (fun _ => ?_) fun _ => ite_pos (fun _ => ?_) fun _ => ?_) fun _ => ite_pos (fun _ => hz) fun _ => ite_pos (fun _ => ite_pos (fun _ => hk) fun _ => hz) fun _ => hz
    · exact num_pos fun _ _ h => ite_pos (fun _ => h) fun _ => hz
    · exact num_pos fun _ _ h => ite_pos (fun _ => h) fun _ => hz
    · exact num_pos fun _ _ h => ite_pos (fun _ => h) fun _ => hz
    · exact ite_pos (fun _ => h1) fun _ => hz
  | sym last lt dt =>
    rw [step_sym]
    unfold stSym stMatch
    exact sym1_pos hk fun x k1 h1 => ite_pos (fun _ => aft_pos h1) fun _ => ite_pos (fun _ => ite_pos (fun _ => hz) fun _ => h1) fun _ => ite_pos (fun _ => hz) fun _ => num_pos fun v k2 h2 => sym1_pos h2 fun y k3 h3 => ite_pos (fun _ => hz) fun _ => num_pos fun u k4 h4 => ite_pos (fun _ => hz) fun _ => ite_pos (fun _ => hz) fun _ => h4
theorem itr_pos (s : ByteArray) (lim : Nat) (n : Nat) (x : IOut) (hk : x.pos ≤ 8 * s.size) : (itr s lim n x).pos ≤ 8 * s.size := by
  induction n generalizing x with
  | zero => exact hk
  | succ n ih =>
    refine ih _ ?_
    cases x with
    | go st => exact step_pos s lim st hk
    | fin k o => exact hk
    | bad e => exact hk
end Go.Proofs.YtkmbgkcpohchhaaGreatDoor
