/- Next (contract of the method). -/
import Derived.Test.YtcacnidlfjglbaaHufU
import Derived.Test.YtcacnidlfjglbaaBitR0
namespace Go.Proofs.Ytcacnidlfjglbaa
open Go.RowKit Go.Conc
set_option linter.unusedVariables false
def NextPost (g : Nat) (l : List Int) (s : ByteArray) (k : Nat) (w : World) (e : Ending) (w' : World) : Prop :=
  e = .returned (.tuple #[.int .i64 (nextV l s k : Nat), .int .i64 (nextE l s k)]) ∧ Rd w' g s (nextK l s k) ∧ Keeps (· = g) w w'
theorem nd_root {l : List Int} (h : ndB l (0, 0) = false) {P : List Path} (hT : TreeK l l.length P) : P = [] := by
  rcases P with _ | ⟨x, r⟩
  · rfl
  · have e := hT.ok.root x rfl
    have := (hT.mem x).1 (List.mem_cons_self ..)
    rw [e] at this
    have := (ndB_iff l (0, 0)).2 this
    rw [h] at this; cases this
/-- Where the reader at g stands. -/
def posOf (w : World) (g : Nat) : Nat := (intOf ((w.cell? ⟨g, 0, none⟩).getD undef)).toNat
theorem posOf_rd {w : World} {g k : Nat} {s : ByteArray} (h : Rd w g s k) : posOf w g = k := by
  have hc : w.cell? ⟨g, 0, none⟩ = some (.int .i64 k) := h.cell 0
  unfold posOf
  rw [hc]
  simp [intOf]
theorem not_neg (x : Nat) (hx : x < 1000000) : bits .xor .i64 (-1) (-((x : Int) + 1)) = (x : Int) := by
  show IntKind.i64.wrap ((BitVec.ofInt 64 (-1) ^^^ BitVec.ofInt 64 (-((x : Int) + 1))).toNat : Int) = _
  have h1 : BitVec.ofInt 64 (-1) = BitVec.allOnes 64 := by decide
  have h2 : BitVec.ofInt 64 (-((x : Int) + 1)) = ~~~ (BitVec.ofNat 64 x) := by
    rw [show -((x : Int) + 1) = Int.negSucc x by omega]
    exact BitVec.ofInt_negSucc_eq_not_ofNat
  rw [h1, h2, BitVec.allOnes_xor, BitVec.not_not, BitVec.toNat_ofNat, IntKind.wrap_i64]
  omega
theorem neg_eq0 (i : Nat) : ((-((i : Int) + 1)) == 0) = false := by
  have : ¬ (-((i : Int) + 1)) = 0 := by omega
  simpa using this
theorem neg_lt0 (i : Nat) : decide ((-((i : Int) + 1)) < 0) = true := decide_eq_true (by omega)
theorem next_of {l : List Int} {s : ByteArray} {k v k2 : Nat} {e : Int} (h : nextR l s k = (v, e, k2)) : nextV l s k = v ∧ nextE l s k = e ∧ nextK l s k = if e = 0 then k2 else k := by
  unfold nextK nextV nextE
  rw [h]
  exact ⟨rfl, rfl, rfl⟩
set_option maxRecDepth 100000 in
set_option maxHeartbeats 8000000 in
theorem next_some (B tb g : Nat) (l : List Int) (hc : IsCode l) (s : ByteArray) (hs : s.size ≤ 281474976710656) (k : Nat) (hk : k ≤ 8 * s.size) (hnd : ndB l (0, 0) = true) (w : World) (hT : TabOf w B tb l) (hr : Rd w g s k) :
    Calls Try.prog 15 #[.pointer (some ⟨tb, 0, none⟩), .pointer (some ⟨g, 0, none⟩)] w (NextPost g l s k w) := by
  obtain ⟨P, hTK, hP, hBt, v, hh, ho⟩ := hT
  have hmem0 : (0, 0) ∈ P := (hTK.mem _).2 ((ndB_iff l _).1 hnd)
  have hlen0 := List.length_pos_of_mem hmem0
  obtain ⟨rb, cap, rfl⟩ := own_some ho hlen0
  obtain ⟨len, hPl⟩ : ∃ len, P.length = len := ⟨_, rfl⟩
  have hcap := ownp_cap ho
  rw [hPl] at hP hlen0 hcap
  have hgt : g ≠ tb := fun e => by
    have h1 : w.heap[g]? = _ := hr
    have h2 : w.heap[tb]? = _ := hh
    rw [e, h2] at h1
    injection h1 with h1
    injection h1 with _ h1
    exact absurd h1 (by decide)
  have hgr : rb ≠ g := fun e => own_ne_has ho hr (by decide) (by rw [e]; rfl)
  have cc : w.cell? ⟨tb, 0, none⟩ = some (.slice (some ⟨rb, 0, none⟩) len cap) := by rw [← hPl]; exact hh.cell 0
  have c0 : w.cell? ⟨g, 0, none⟩ = some (.int .i64 k) := hr.cell 0
  have c1 : w.cell? ⟨g, 1, none⟩ = some (.string s) := hr.cell 1
  have l0 : ((len : Int) == 0) = false := by
    have : ¬ (len : Int) = 0 := by omega
    simpa using this
  have hgl := hr.lt
  have htl := hh.lt
  have hrl := own_lt ho (b := rb) rfl
  have HTK := hid hTK
  have HPL := hid hPl
  have HH := hid hh
  have HO := hid ho
  have HR := hid hr
  have HM0 := hid hmem0
  have HND := hid hnd
  have HC := hid hc
  clear hTK hPl hh ho hr hmem0 hnd hc
  go_enter Try.func15, Try.ntmps15
  go_wp2_with fail
  have HR1 := hid (show Rd (w.alloc (.cells #[.int .i64 k, .string s] 59)) w.heap.size s k from Has.new w _ _)
  have HB1 := hid (Below.alloc (Below.refl w.heap.size w) (Nat.le_refl _) (.cells #[.int .i64 k, .string s] 59))
  obtain ⟨nb, hnb⟩ : ∃ nb, w.heap.size = nb := ⟨_, rfl⟩
  have HNB := hid hnb
  have HKF := hid (fun (W : World) (h : Below nb w W) => Keeps.of_bw (F := (· = g)) (show Bw w W by unfold Bw; rw [hnb]; exact h))
  rw [hnb] at HR1 HB1 hgl htl hrl ⊢
  clear hnb c0 c1 cc l0
  generalize w.alloc (.cells #[.int .i64 k, .string s] 59) = W1 at *
  go_loopw [7] (fun at_ wr => ∃ (f : Nat) (p : Path) (k' : Nat), p ∈ P ∧ at_ = .int .i64 (P.idxOf p : Nat) ∧ p.1 + f = 15 ∧ dGo l s (f + 1) p k' = nextR l s k ∧ k' ≤ 8 * s.size ∧ Rd wr nb s k' ∧ Below nb w wr) (fun _ wr => 8 * s.size - posOf wr nb)
  case atStart =>
    refine ⟨15, (0, 0), k, HM0.out, ?_, by omega, rfl, hk, HR1.out, HB1.out⟩
    have hl := hlen0
    rw [← HPL.out] at hl
    have e := HTK.out.ok.root P[0] (List.getElem?_eq_getElem hl)
    have := HTK.out.ok.nd.idxOf_getElem 0 hl
    rw [e] at this
    rw [this]; rfl
  case round =>
    clear HR1 HB1
    obtain ⟨f, p, k', hp, rfl, hpf, hR, hk', hrd, hbe⟩ := hrel
    have hnp : ndB l p = true := (ndB_iff l p).2 ((HTK.out.mem p).1 hp)
    have hlp := nd_apart HC.out hnp
    have hp15 := nd_short HC.out hnp
    obtain ⟨hat, hatE⟩ := idx_at hp
    have HA := hid (bits_any nb s hs k' hk' 1 wr hrd)
    unfold BitsPost at HA
    have HRD := hid hrd
    have HPOS := hid (posOf_rd hrd)
    have HBE := hid hbe
    have hbz : nb ≤ wr.heap.size := by have h1 := hbe.size; have h2 := HNB.out; rw [← h2]; exact h1
    clear hrd hbe
    obtain ⟨ix, hix⟩ : ∃ ix, P.idxOf p = ix := ⟨_, rfl⟩
    by_cases hcut : 8 * s.size ≤ k'
    · obtain ⟨e1, e2, e3⟩ := bits_short (n := 1) (by decide) s k' (by omega)
      rw [e1, e2, e3] at HA
      rw [dGo_cut hlp hnp s f k' hcut] at hR
      obtain ⟨n1, n2, n3⟩ := next_of hR.symm
      unfold NextPost
      rw [n1, n2, n3, if_neg (by decide)]
      clear hR n1 n2 n3 e1 e2 e3 hnp hlp hp hat hatE hpf
      rw [hix]
      clear hix
      go_wp2_with fail
      refine HA.out.mono ?_
      rintro e w2 ⟨rfl, hr2, hk2⟩
      have HB2 := hid (Below.trans HBE.out (hk2.below hbz (fun i hi => Nat.le_of_eq hi.symm)))
      clear hr2 hk2
      go_wp2
      go_returns
      exact ⟨rfl, HR.out.below HB2.out hgl, HKF.out _ HB2.out⟩
    · obtain ⟨e1, e2, e3⟩ := bits_good 1 (by omega) s k' (by omega)
      rw [dGo_on hlp hnp s f k' hcut] at hR
      have hbv : bv s k' 1 < 2 := bv_lt s k' 1
      have e1' : bitsV s k' 1 = bv s k' 1 := e1
      have e2' : bitsE s k' 1 = 0 := e2
      have e3' : bitsK s k' 1 = k' + 1 := e3
      rw [e1', e2', e3'] at HA
      clear e1 e2 e3 e1' e2' e3' hnp hlp
      generalize bv s k' 1 = b at *
      obtain ⟨f', rfl⟩ : ∃ f', f = f' + 1 := ⟨f - 1, by omega⟩
      have hcl := rowCells_get P (lfK l l.length) (P.idxOf p) b hat hbv
      rw [hatE, show 2 * P.idxOf p + b = P.idxOf p * 2 + b by omega] at hcl
      rw [hix] at hcl hat ⊢
      rw [HPL.out] at hat
      have hati : (ix : Int) < len := by omega
      have hb2i : (b : Int) < 2 := by omega
      obtain ⟨L, u⟩ := p
      simp only at hcl hpf hR hp15
      have HOW := hid (fun (W : World) (h : Below nb w W) => ownp_cell (own_keep HO.out (fun j hj => h.block j (by have := own_lt HO.out hj; rw [HNB.out] at this; exact this))) hcl)
      have HCC := hid (fun (W : World) (h : Below nb w W) => (HH.out.below h htl).cell 0)
      have HP := hid hp
      clear hatE hix hcl hp
      cases hlf : lfK l l.length (L + 1, 2 * u + b) with
      | some i =>
        rw [dGo_leaf hlf] at hR
        rw [chl_leaf hlf] at HOW
        have hi := (lfK_some hlf).1
        have h320 := HC.out.few
        obtain ⟨n1, n2, n3⟩ := next_of hR.symm
        unfold NextPost
        rw [n1, n2, n3, if_pos rfl]
        have hnot := not_neg i (by omega)
        have d1 := neg_eq0 i
        have d2 := neg_lt0 i
        clear hR n1 n2 n3 hlf hpf
        go_wp2_with fail
        refine HA.out.mono ?_
        rintro e w2 ⟨rfl, hr2, hk2⟩
        have HB2 := hid (Below.trans HBE.out (hk2.below hbz (fun i hi => Nat.le_of_eq hi.symm)))
        have y0 := HOW.out _ HB2.out
        have y1 : w2.cell? ⟨tb, 0, none⟩ = some (.slice (some ⟨rb, 0, none⟩) len cap) := by rw [← HPL.out]; exact HCC.out _ HB2.out
        have y2 : w2.cell? ⟨nb, 0, none⟩ = some (.int .i64 (k' + 1 : Nat)) := hr2.cell 0
        have y3 : w2.cell? ⟨nb, 1, none⟩ = some (.string s) := hr2.cell 1
        have HRG := hid (HR.out.below HB2.out hgl)
        have z0 := HRG.out.cell 0
        have z1 := HRG.out.cell 1
        have zf0 := HRG.out.frozen 0
        have zf1 := HRG.out.frozen 1
        clear hr2 hk2
        go_wp2
        go_returns
        refine ⟨rfl, ?_, ?_⟩
        · have h1 := (HRG.out.put 0 (.int .i64 ((k' : Int) + 1))).put 1 (.string s)
          unfold Rd
          simpa using h1
        · exact ((HKF.out _ HB2.out).setCell (p := ⟨g, 0, none⟩) (.inl rfl) _).setCell (p := ⟨g, 1, none⟩) (.inl rfl) _
      | none =>
        by_cases hq : (L + 1, 2 * u + b) ∈ P
        · rw [chl_row hlf hq] at HOW
          have hpos := idx_pos HTK.out.ok hq (by simp)
          have HQ := hid hq
          have HPF := hid (⟨hpf, hR⟩ : L + (f' + 1) = 15 ∧ dGo l s (f' + 1) (L + 1, 2 * u + b) (k' + 1) = nextR l s k)
          clear hq hlf hpf hR
          generalize hiq : P.idxOf (L + 1, 2 * u + b) = iq at *
          have HIQ := hid hiq
          clear hiq
          go_wp2_with fail
          refine HA.out.mono ?_
          rintro e w2 ⟨rfl, hr2, hk2⟩
          have HB2 := hid (Below.trans HBE.out (hk2.below hbz (fun i hi => Nat.le_of_eq hi.symm)))
          have y0 := HOW.out _ HB2.out
          have y1 : w2.cell? ⟨tb, 0, none⟩ = some (.slice (some ⟨rb, 0, none⟩) len cap) := by rw [← HPL.out]; exact HCC.out _ HB2.out
          have HR2 := hid hr2
          clear hr2 hk2
          go_wp2
          refine ⟨⟨f', (L + 1, 2 * u + b), k' + 1, HQ.out, by rw [HIQ.out], by have := HPF.out.1; simp only; omega, HPF.out.2, by omega, HR2.out, HB2.out⟩, ?_⟩
          rw [posOf_rd HR2.out, HPOS.out]
          omega
        · have hn : ndB l (L + 1, 2 * u + b) = false := by
            rw [← Bool.not_eq_true]
            exact fun h => hq ((HTK.out.mem _).2 ((ndB_iff l _).1 h))
          rw [dGo_off hlf hn] at hR
          rw [chl_none hlf hq] at HOW
          obtain ⟨n1, n2, n3⟩ := next_of hR.symm
          unfold NextPost
          rw [n1, n2, n3, if_neg (by decide)]
          clear hR n1 n2 n3 hlf hpf hq hn
          go_wp2_with fail
          refine HA.out.mono ?_
          rintro e w2 ⟨rfl, hr2, hk2⟩
          have HB2 := hid (Below.trans HBE.out (hk2.below hbz (fun i hi => Nat.le_of_eq hi.symm)))
          have y0 := HOW.out _ HB2.out
          have y1 : w2.cell? ⟨tb, 0, none⟩ = some (.slice (some ⟨rb, 0, none⟩) len cap) := by rw [← HPL.out]; exact HCC.out _ HB2.out
          clear hr2 hk2
          go_wp2
          go_returns
          exact ⟨rfl, HR.out.below HB2.out hgl, HKF.out _ HB2.out⟩
set_option maxRecDepth 100000 in
set_option maxHeartbeats 4000000 in
theorem next_none (B tb g : Nat) (l : List Int) (s : ByteArray) (k : Nat) (hnd : ndB l (0, 0) = false) (w : World) (hT : TabOf w B tb l) (hr : Rd w g s k) :
    Calls Try.prog 15 #[.pointer (some ⟨tb, 0, none⟩), .pointer (some ⟨g, 0, none⟩)] w (NextPost g l s k w) := by
  obtain ⟨P, hTK, hP, hBt, v, hh, ho⟩ := hT
  obtain rfl := nd_root hnd hTK
  obtain ⟨ro, rc, rfl⟩ := own_slice ho
  have hR : nextR l s k = (0, 3, k) := dGo_off (lfK_top l _ 0) hnd s 15 k
  obtain ⟨n1, n2, n3⟩ := next_of hR
  unfold NextPost
  rw [n1, n2, n3, if_neg (by decide)]
  have cc : w.cell? ⟨tb, 0, none⟩ = some (.slice ro 0 rc) := hh.cell 0
  have HR := hid hr
  clear hR n1 n2 n3 hnd hTK hh ho hr
  go_enter Try.func15, Try.ntmps15
  go_wp2
  go_returns
  exact ⟨rfl, HR.out, Keeps.refl _ _⟩
theorem next_any (B tb g : Nat) (l : List Int) (hc : IsCode l) (s : ByteArray) (hs : s.size ≤ 281474976710656) (k : Nat) (hk : k ≤ 8 * s.size) (w : World) (hT : TabOf w B tb l) (hr : Rd w g s k) :
    Calls Try.prog 15 #[.pointer (some ⟨tb, 0, none⟩), .pointer (some ⟨g, 0, none⟩)] w (NextPost g l s k w) := by
  cases hnd : ndB l (0, 0) with
  | false => exact next_none B tb g l s k hnd w hT hr
  | true => exact next_some B tb g l hc s hs k hk hnd w hT hr
end Go.Proofs.Ytcacnidlfjglbaa
