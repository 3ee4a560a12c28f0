import Derived.Test.YtgchopfagobleaaDoorDocA
import Derived.Test.YtgchopfagobleaaDoorInfZ
import Derived.Deep.QuietTactic
import Derived.BigQuiet
import Derived.Test.YtgchopfagobleaaDoorRowB
import Derived.Test.YtgchopfagobleaaDoorInfP
import Derived.Laws.BitsAllLaws
import Derived.Laws.ShiftsVarLaws
import Derived.Test.YtgchopfagobleaaDoorInfE
import Derived.StillTailTactics
/- The document's stored block (contract of the method). -/
namespace Go.Proofs.YtgchopfagobleaaDoor
open Go.RowKit Go.Conc
set_option linter.unusedVariables false
/-- What a method of the document leaves: the inflater as the step says, or an error. -/
def DidR (B : Nat) (fb g : Nat) (s : ByteArray) (lim : Nat) (x : IOut) (w : World) (e : Ending) (w' : World) : Prop :=
  KT TJ B w w' ∧ match x with
    | .bad er => e = .returned (.int .i64 er)
    | .go st => e = .returned (.int .i64 0) ∧ ∃ v, Ref B w' fb g s st.k st.out lim v
    | .fin k out => e = .returned (.int .i64 0) ∧ ∃ v, Ref B w' fb g s k out lim v
theorem DidR.bad {B fb g : Nat} {s : ByteArray} {lim : Nat} {x : IOut} {w w' : World} {er : Int} (h : x = .bad er) (hk : KT TJ B w w') : DidR B fb g s lim x w (.returned (.int .i64 er)) w' := by
  subst h; exact ⟨hk, rfl⟩
theorem DidR.st {B fb g : Nat} {s : ByteArray} {lim : Nat} {x : IOut} {w w' : World} {m : IMode} {k : Nat} {out : List UInt8} (h : x = .go ⟨m, k, out⟩) (hk : KT TJ B w w') {v : Value} (hi : Ref B w' fb g s k out lim v) : DidR B fb g s lim x w (.returned (.int .i64 0)) w' := by
  subst h; exact ⟨hk, rfl, v, hi⟩
theorem DidR.end_ {B fb g : Nat} {s : ByteArray} {lim : Nat} {x : IOut} {w w' : World} {last : Bool} {k : Nat} {out : List UInt8} (h : x = aft last k out) (hk : KT TJ B w w') {v : Value} (hi : Ref B w' fb g s k out lim v) : DidR B fb g s lim x w (.returned (.int .i64 0)) w' := by
  subst h; cases last <;> exact ⟨hk, rfl, v, hi⟩
theorem ext_get (s : ByteArray) (q i : Nat) (hi : i < 4) (h : q + 4 ≤ s.size) : ∃ h2 : i < (s.extract q (q + 4)).size, (s.extract q (q + 4))[i]'h2 = s[q + i]'(by omega) := by
  have hz : (s.extract q (q + 4)).size = 4 := by simp; omega
  refine ⟨by omega, ?_⟩
  rw [ByteArray.getElem_extract]
section
variable {B : Nat} {w : World} {fb g : Nat} {s : ByteArray} {k : Nat} {out : List UInt8} {lim : Nat} {v : Value}
set_option maxRecDepth 100000 in
set_option maxHeartbeats 4000000 in
theorem rstored_any (hs : s.size ≤ 281474976710656) (hl : lim ≤ 1073741824) (last : Bool) (h : Ref B w fb g s k out lim v) :
    Calls Tryd.prog 25 #[.pointer (some ⟨fb, 0, none⟩)] w (DidR B fb g s lim (stStored s lim last k out) w) := by
  obtain ⟨i0, hinf, hz0, hz1, hz2⟩ := info_parts byteInfo
  obtain ⟨q, hq⟩ : ∃ q, upK k = 8 * q := ⟨upK k / 8, upK_8 k⟩
  have c0 : w.cell? ⟨fb, 0, none⟩ = some (.pointer (some ⟨g, 0, none⟩)) := h.has.cell 0
  have HA := hid (refbytes_any g s hs k h.k8 4 w h.rd)
  have hu := upK_le k s.size h.k8
  have hq8 : upK k / 8 = q := by omega
  have HQ := hid hq
  have HI := hid h
  clear h
  by_cases h4 : q + 4 ≤ s.size
  · obtain ⟨e1, e2, e3⟩ := rbytes_good 4 s k q hq8 h4
    unfold RefBytesPost at HA
    have e1 : rbytesV s k 4 = _ := e1
    have e2 : rbytesE s k 4 = _ := e2
    have e3 : rbytesK s k 4 = _ := e3
    rw [e1, e2, e3, hq] at HA
    have HX := hid (stored_at (s := s) (lim := lim) (last := last) (k := k) (out := out) HQ.out (by omega))
    have hn16 := bytes16 s q (by omega)
    have hm16 := bytes16 s (q + 2) (by omega)
    rw [show 8 * q + 16 = 8 * (q + 2) by omega] at HX
    obtain ⟨g0, x0⟩ := ext_get s q 0 (by omega) h4
    obtain ⟨g1, x1⟩ := ext_get s q 1 (by omega) h4
    obtain ⟨g2, x2⟩ := ext_get s q 2 (by omega) h4
    obtain ⟨g3, x3⟩ := ext_get s q 3 (by omega) h4
    have hz4 : (s.extract q (q + 4)).size = 4 := by simp; omega
    generalize hH : s.extract q (q + 4) = H at *
    obtain ⟨y0, hy0⟩ : ∃ y : Nat, H[0].toNat = y := ⟨_, rfl⟩
    obtain ⟨y1, hy1⟩ : ∃ y : Nat, H[1].toNat = y := ⟨_, rfl⟩
    obtain ⟨y2, hy2⟩ : ∃ y : Nat, H[2].toNat = y := ⟨_, rfl⟩
    obtain ⟨y3, hy3⟩ : ∃ y : Nat, H[3].toNat = y := ⟨_, rfl⟩
    have l0 : y0 < 256 := by rw [← hy0]; exact H[0].toNat_lt
    have l1 : y1 < 256 := by rw [← hy1]; exact H[1].toNat_lt
    have l2 : y2 < 256 := by rw [← hy2]; exact H[2].toNat_lt
    have l3 : y3 < 256 := by rw [← hy3]; exact H[3].toNat_lt
    have z0 : (s[q]'(by omega)).toNat = y0 := by rw [← hy0, x0]; rfl
    have z1 : (s[q + 1]'(by omega)).toNat = y1 := by rw [← hy1, x1]
    have z2 : (s[q + 2]'(by omega)).toNat = y2 := by rw [← hy2, x2]
    have z3 : (s[q + 2 + 1]'(by omega)).toNat = y3 := by rw [← hy3, x3]
    rw [z0, z1] at hn16
    rw [z2, z3] at hm16
    rw [hn16, hm16] at HX
    obtain ⟨n, hn⟩ : ∃ n, y0 + 256 * y1 = n := ⟨_, rfl⟩
    obtain ⟨m, hm⟩ : ∃ m, y2 + 256 * y3 = m := ⟨_, rfl⟩
    obtain ⟨j, hj⟩ : ∃ j, 65535 - n = j := ⟨_, rfl⟩
    rw [hn, hm, hj] at HX
    have n1 : (y0 : Int) + 256 * (y1 : Int) = (n : Nat) := by omega
    have m1 : (y2 : Int) + 256 * (y3 : Int) = (m : Nat) := by omega
    have j1 : (65535 : Int) - (n : Nat) = (j : Nat) := by omega
    have hn9 : n ≤ 65535 := by omega
    have hm9 : m ≤ 65535 := by omega
    have hz4i : (4 : Int) ≤ H.size := by omega
    have HJ := hid hj
    clear e1 e2 e3 hn16 hm16 hq hq8 hu x0 x1 x2 x3 z0 z1 z2 z3 hH hn hm hj
    go_enter Tryd.func25, Tryd.ntmps25
    go_wp2_with fail
    refine HA.out.mono ?_
    rintro e w1 ⟨rfl, hr1, hk1⟩
    have HI1 := hid (HI.out.read hr1 hk1 (by omega))
    have HK1 := hid (KT.of_rx HI.out.rd HI.out.gb hk1)
    clear hr1 hk1 c0
    have p0 : (0 : Int) < H.size := by omega
    have p1 : (1 : Int) < H.size := by omega
    have p2 : (2 : Int) < H.size := by omega
    have p3 : (3 : Int) < H.size := by omega
    go_wp2_with fail
    go_quiet (fail)
    have HI2 := hid (HI1.out.bw ((Bw.refl w1).drewN nq))
    have HK2 := hid (HK1.out.trans (KT.of_bw ((Bw.refl w1).drewN nq)))
    generalize w1.drewN nq = w2 at *
    by_cases hmj : m = j
    · subst hmj
      rw [if_pos rfl] at HX
      go_wp2_with fail
      go_quiet (fail)
      have HI3 := hid (show Ref B (w2.drewN nq) fb g s (8 * (q + 4)) out lim v by rw [show 8 * (q + 4) = 8 * q + 8 * 4 by omega]; exact HI2.out.bw ((Bw.refl w2).drewN nq))
      have HK3 := hid (HK2.out.trans (KT.of_bw ((Bw.refl w2).drewN nq)))
      generalize w2.drewN nq = w3 at *
      have c3 : w3.cell? ⟨fb, 0, none⟩ = some (.pointer (some ⟨g, 0, none⟩)) := HI3.out.has.cell 0
      have hu4 : upK (8 * (q + 4)) = 8 * (q + 4) := by unfold upK; omega
      have HB := hid (refbytes_any g s hs (8 * (q + 4)) (by omega) n w3 HI3.out.rd)
      have HU := hid hu4
      clear p0 p1 p2 p3
      by_cases h5 : q + 4 + n ≤ s.size
      · rw [if_pos h5] at HX
        obtain ⟨f1, f2, f3⟩ := rbytes_good n s (8 * (q + 4)) (q + 4) (by rw [hu4]; omega) h5
        unfold RefBytesPost at HB
        rw [f1, f2, f3, hu4, ← Nat.mul_add] at HB
        have HCL := hid (cut_len s (q + 4) n h5)
        have HSZ := hid (show (s.extract (q + 4) (q + 4 + n)).size = n by have h9 := HCL.out; unfold cut at h9; rw [Array.length_toList] at h9; exact h9)
        have HCB := hid (strCells_bcs (s.extract (q + 4) (q + 4 + n)))
        have HCU := hid (show cut s (q + 4) n = (s.extract (q + 4) (q + 4 + n)).data.toList from rfl)
        generalize s.extract (q + 4) (q + 4 + n) = xs at *
        clear f1 f2 f3 hu4
        go_wp2_with fail
        refine HB.out.mono ?_
        rintro e w4 ⟨rfl, hr4, hk4⟩
        have HI4 := hid (HI3.out.read hr4 hk4 (by omega))
        have HK4 := hid (HK3.out.trans (KT.of_rx HI3.out.rd HI3.out.gb hk4))
        clear hr4 hk4 c3
        obtain ⟨ol, hol⟩ : ∃ ol, out.length = ol := ⟨_, rfl⟩
        have hown := HI4.out.own
        have hfew := HI4.out.few
        rw [hol] at hown HX hfew
        obtain ⟨vo, vc, rfl⟩ := own_slice hown
        have HOL := hid hol
        have HID := hid (HI4.out.bw ((Bw.refl w4).drewN 1))
        have HKD := hid (HK4.out.trans (KT.of_bw ((Bw.refl w4).drewN 1)))
        clear hol
        by_cases h6 : lim < ol + n
        · rw [if_pos h6] at HX
          have c1 : w4.drew.cell? ⟨fb, 1, none⟩ = some (.slice vo ol vc) := HID.out.has.cell 1
          have c2 : w4.drew.cell? ⟨fb, 2, none⟩ = some (.int .i64 lim) := HID.out.has.cell 2
          have d6 : decide (((lim : Nat) : Int) - ol < n) = true := decide_eq_true (by omega)
          go_wp2_with fail
          go_region
          all_goals go_wp2
          all_goals go_returns
          all_goals exact DidR.bad HX.out HKD.out
        · rw [if_neg h6] at HX
          have c1 : w4.drew.cell? ⟨fb, 1, none⟩ = some (.slice vo ol vc) := HID.out.has.cell 1
          have c2 : w4.drew.cell? ⟨fb, 2, none⟩ = some (.int .i64 lim) := HID.out.has.cell 2
          have d6 : decide (((lim : Nat) : Int) - ol < n) = false := decide_eq_false (by omega)
          have HO6 := hid (own_down (HID.out.own) (Nat.zero_le _))
          have HGE := hid (fun b hb => own_ge HID.out.own (b := b) hb)
          have hb9 : B ≤ w4.drew.heap.size := by have h1 := HID.out.gb; have h2 : g < w4.drew.heap.size := Has.lt HID.out.rd; omega
          rw [HOL.out] at HO6
          clear hown
          go_wp2_with fail
          go_region
          have HKD : Hid (KT TJ B w w4.drew) := HKD
          have HID : Hid (Ref B w4.drew fb g s (8 * (q + 4 + n)) out lim (.slice vo ol vc)) := HID
          have HO6 : Hid (w4.drew.ownsRow 0 5 1 (.slice vo ol vc) ol (bcs out)) := HO6
          generalize w4.drew = W at *
          have HLN := hid h6
          go_wp2_with (at_builtin; refine wpList_app_str rfl _ _ 27 9 rfl Tryd.underlying27 Tryd.underlying9 hinf hz0 hz1 hz2 (.slice vo ol vc) ol (bcs out) rfl HO6.out xs rfl (by have := HSZ.out; omega) ?_; intro rd' w7 hown7 hgrow7 hblk7; obtain ⟨ao2, cap2, rfl⟩ := own_slice hown7; have HG7 := hid hgrow7; have HO7 := hid hown7; have HBL := hid hblk7; have h7 := (HID.out.grown hgrow7).1; have g1 : w7.frozen? ⟨fb, 1, none⟩ = false := h7.frozen 1; have g2 : w7.cell? ⟨fb, 1, none⟩ = some (.slice vo ol vc) := h7.cell 1; clear hgrow7 hown7 hblk7 h7)
          go_returns
          have hln : (out ++ cut s (q + 4) n).length = ol + xs.size := by rw [List.length_append, HOL.out, HCL.out, HSZ.out]
          have hap := HID.out.app HG7.out (out' := out ++ cut s (q + 4) n) (v' := .slice ao2 (ol + xs.size) cap2) (by
            rw [hln, HCU.out, bcs_append, ← HCB.out]
            refine own_lift HO7.out fun b hb => ?_
            rcases HBL.out with h | h
            · exact HGE.out b (by rw [← h]; exact hb)
            · have := h b hb; omega) (by have := HLN.out; rw [hln, HSZ.out]; omega)
          exact DidR.end_ HX.out (HKD.out.trans hap.2) hap.1
      · rw [if_neg h5] at HX
        obtain ⟨f1, f2, f3⟩ := rbytes_short (n := n) (by omega) s (8 * (q + 4)) (q + 4) (by rw [hu4]; omega) (by omega)
        unfold RefBytesPost at HB
        rw [f1, f2, f3] at HB
        clear f1 f2 f3 hu4
        go_wp2_with fail
        refine HB.out.mono ?_
        rintro e w4 ⟨rfl, hr4, hk4⟩
        have HK4 := hid (HK3.out.trans (KT.of_rx HI3.out.rd HI3.out.gb hk4))
        clear hr4 hk4 c3
        go_wp2
        go_returns
        exact DidR.bad HX.out HK4.out
    · rw [if_neg hmj] at HX
      have t1 : ((m : Int) != (j : Int)) = true := by simp; omega
      go_wp2_with fail
      go_quiet (fail)
      have HK3 := hid (HK2.out.trans (KT.of_bw ((Bw.refl w2).drewN nq)))
      generalize w2.drewN nq = w3 at *
      go_wp2
      go_returns
      exact DidR.bad HX.out HK3.out
  · obtain ⟨e1, e2, e3⟩ := rbytes_short (n := 4) (by omega) s k q hq8 (by omega)
    unfold RefBytesPost at HA
    rw [e1, e2, e3] at HA
    have HX := hid (show stStored s lim last k out = .bad 2 by
      by_cases h1 : 8 * q + 16 ≤ 8 * s.size
      · exact stored_cut2 hq h1 (by omega)
      · exact stored_cut1 hq h1)
    clear e1 e2 e3 hq hq8
    go_enter Tryd.func25, Tryd.ntmps25
    go_wp2_with fail
    refine HA.out.mono ?_
    rintro e w1 ⟨rfl, hr1, hk1⟩
    have HK1 := hid (KT.of_rx HI.out.rd HI.out.gb hk1)
    clear hr1 hk1 c0
    go_wp2
    go_returns
    exact DidR.bad HX.out HK1.out
end
end Go.Proofs.YtgchopfagobleaaDoor
/- The document's Length and Distance, symbol by symbol (contracts of the functions). -/
namespace Go.Proofs.YtgchopfagobleaaDoor
open Go.RowKit
set_option linter.unusedVariables false
set_option maxRecDepth 100000 in
theorem rlen_257 (w : World) : Calls Tryd.prog 65 #[.int .i64 257] w fun e w' => e = .returned (.tuple #[.int .i64 3, .int .i64 0]) ∧ w' = w := by
  go_enter Tryd.func65, Tryd.ntmps65
  go_wp2
  go_returns
  exact ⟨rfl, rfl⟩
set_option maxRecDepth 100000 in
theorem rlen_258 (w : World) : Calls Tryd.prog 65 #[.int .i64 258] w fun e w' => e = .returned (.tuple #[.int .i64 4, .int .i64 0]) ∧ w' = w := by
  go_enter Tryd.func65, Tryd.ntmps65
  go_wp2
  go_returns
  exact ⟨rfl, rfl⟩
set_option maxRecDepth 100000 in
theorem rlen_259 (w : World) : Calls Tryd.prog 65 #[.int .i64 259] w fun e w' => e = .returned (.tuple #[.int .i64 5, .int .i64 0]) ∧ w' = w := by
  go_enter Tryd.func65, Tryd.ntmps65
  go_wp2
  go_returns
  exact ⟨rfl, rfl⟩
set_option maxRecDepth 100000 in
theorem rlen_260 (w : World) : Calls Tryd.prog 65 #[.int .i64 260] w fun e w' => e = .returned (.tuple #[.int .i64 6, .int .i64 0]) ∧ w' = w := by
  go_enter Tryd.func65, Tryd.ntmps65
  go_wp2
  go_returns
  exact ⟨rfl, rfl⟩
set_option maxRecDepth 100000 in
theorem rlen_261 (w : World) : Calls Tryd.prog 65 #[.int .i64 261] w fun e w' => e = .returned (.tuple #[.int .i64 7, .int .i64 0]) ∧ w' = w := by
  go_enter Tryd.func65, Tryd.ntmps65
  go_wp2
  go_returns
  exact ⟨rfl, rfl⟩
set_option maxRecDepth 100000 in
theorem rlen_262 (w : World) : Calls Tryd.prog 65 #[.int .i64 262] w fun e w' => e = .returned (.tuple #[.int .i64 8, .int .i64 0]) ∧ w' = w := by
  go_enter Tryd.func65, Tryd.ntmps65
  go_wp2
  go_returns
  exact ⟨rfl, rfl⟩
set_option maxRecDepth 100000 in
theorem rlen_263 (w : World) : Calls Tryd.prog 65 #[.int .i64 263] w fun e w' => e = .returned (.tuple #[.int .i64 9, .int .i64 0]) ∧ w' = w := by
  go_enter Tryd.func65, Tryd.ntmps65
  go_wp2
  go_returns
  exact ⟨rfl, rfl⟩
set_option maxRecDepth 100000 in
theorem rlen_264 (w : World) : Calls Tryd.prog 65 #[.int .i64 264] w fun e w' => e = .returned (.tuple #[.int .i64 10, .int .i64 0]) ∧ w' = w := by
  go_enter Tryd.func65, Tryd.ntmps65
  go_wp2
  go_returns
  exact ⟨rfl, rfl⟩
set_option maxRecDepth 100000 in
theorem rlen_265 (w : World) : Calls Tryd.prog 65 #[.int .i64 265] w fun e w' => e = .returned (.tuple #[.int .i64 11, .int .i64 1]) ∧ w' = w := by
  go_enter Tryd.func65, Tryd.ntmps65
  go_wp2
  go_returns
  exact ⟨rfl, rfl⟩
set_option maxRecDepth 100000 in
theorem rlen_266 (w : World) : Calls Tryd.prog 65 #[.int .i64 266] w fun e w' => e = .returned (.tuple #[.int .i64 13, .int .i64 1]) ∧ w' = w := by
  go_enter Tryd.func65, Tryd.ntmps65
  go_wp2
  go_returns
  exact ⟨rfl, rfl⟩
set_option maxRecDepth 100000 in
theorem rlen_267 (w : World) : Calls Tryd.prog 65 #[.int .i64 267] w fun e w' => e = .returned (.tuple #[.int .i64 15, .int .i64 1]) ∧ w' = w := by
  go_enter Tryd.func65, Tryd.ntmps65
  go_wp2
  go_returns
  exact ⟨rfl, rfl⟩
set_option maxRecDepth 100000 in
theorem rlen_268 (w : World) : Calls Tryd.prog 65 #[.int .i64 268] w fun e w' => e = .returned (.tuple #[.int .i64 17, .int .i64 1]) ∧ w' = w := by
  go_enter Tryd.func65, Tryd.ntmps65
  go_wp2
  go_returns
  exact ⟨rfl, rfl⟩
set_option maxRecDepth 100000 in
theorem rlen_269 (w : World) : Calls Tryd.prog 65 #[.int .i64 269] w fun e w' => e = .returned (.tuple #[.int .i64 19, .int .i64 2]) ∧ w' = w := by
  go_enter Tryd.func65, Tryd.ntmps65
  go_wp2
  go_returns
  exact ⟨rfl, rfl⟩
set_option maxRecDepth 100000 in
theorem rlen_270 (w : World) : Calls Tryd.prog 65 #[.int .i64 270] w fun e w' => e = .returned (.tuple #[.int .i64 23, .int .i64 2]) ∧ w' = w := by
  go_enter Tryd.func65, Tryd.ntmps65
  go_wp2
  go_returns
  exact ⟨rfl, rfl⟩
set_option maxRecDepth 100000 in
theorem rlen_271 (w : World) : Calls Tryd.prog 65 #[.int .i64 271] w fun e w' => e = .returned (.tuple #[.int .i64 27, .int .i64 2]) ∧ w' = w := by
  go_enter Tryd.func65, Tryd.ntmps65
  go_wp2
  go_returns
  exact ⟨rfl, rfl⟩
set_option maxRecDepth 100000 in
theorem rlen_272 (w : World) : Calls Tryd.prog 65 #[.int .i64 272] w fun e w' => e = .returned (.tuple #[.int .i64 31, .int .i64 2]) ∧ w' = w := by
  go_enter Tryd.func65, Tryd.ntmps65
  go_wp2
  go_returns
  exact ⟨rfl, rfl⟩
set_option maxRecDepth 100000 in
theorem rlen_273 (w : World) : Calls Tryd.prog 65 #[.int .i64 273] w fun e w' => e = .returned (.tuple #[.int .i64 35, .int .i64 3]) ∧ w' = w := by
  go_enter Tryd.func65, Tryd.ntmps65
  go_wp2
  go_returns
  exact ⟨rfl, rfl⟩
set_option maxRecDepth 100000 in
theorem rlen_274 (w : World) : Calls Tryd.prog 65 #[.int .i64 274] w fun e w' => e = .returned (.tuple #[.int .i64 43, .int .i64 3]) ∧ w' = w := by
  go_enter Tryd.func65, Tryd.ntmps65
  go_wp2
  go_returns
  exact ⟨rfl, rfl⟩
set_option maxRecDepth 100000 in
theorem rlen_275 (w : World) : Calls Tryd.prog 65 #[.int .i64 275] w fun e w' => e = .returned (.tuple #[.int .i64 51, .int .i64 3]) ∧ w' = w := by
  go_enter Tryd.func65, Tryd.ntmps65
  go_wp2
  go_returns
  exact ⟨rfl, rfl⟩
set_option maxRecDepth 100000 in
theorem rlen_276 (w : World) : Calls Tryd.prog 65 #[.int .i64 276] w fun e w' => e = .returned (.tuple #[.int .i64 59, .int .i64 3]) ∧ w' = w := by
  go_enter Tryd.func65, Tryd.ntmps65
  go_wp2
  go_returns
  exact ⟨rfl, rfl⟩
set_option maxRecDepth 100000 in
theorem rlen_277 (w : World) : Calls Tryd.prog 65 #[.int .i64 277] w fun e w' => e = .returned (.tuple #[.int .i64 67, .int .i64 4]) ∧ w' = w := by
  go_enter Tryd.func65, Tryd.ntmps65
  go_wp2
  go_returns
  exact ⟨rfl, rfl⟩
set_option maxRecDepth 100000 in
theorem rlen_278 (w : World) : Calls Tryd.prog 65 #[.int .i64 278] w fun e w' => e = .returned (.tuple #[.int .i64 83, .int .i64 4]) ∧ w' = w := by
  go_enter Tryd.func65, Tryd.ntmps65
  go_wp2
  go_returns
  exact ⟨rfl, rfl⟩
set_option maxRecDepth 100000 in
theorem rlen_279 (w : World) : Calls Tryd.prog 65 #[.int .i64 279] w fun e w' => e = .returned (.tuple #[.int .i64 99, .int .i64 4]) ∧ w' = w := by
  go_enter Tryd.func65, Tryd.ntmps65
  go_wp2
  go_returns
  exact ⟨rfl, rfl⟩
set_option maxRecDepth 100000 in
theorem rlen_280 (w : World) : Calls Tryd.prog 65 #[.int .i64 280] w fun e w' => e = .returned (.tuple #[.int .i64 115, .int .i64 4]) ∧ w' = w := by
  go_enter Tryd.func65, Tryd.ntmps65
  go_wp2
  go_returns
  exact ⟨rfl, rfl⟩
set_option maxRecDepth 100000 in
theorem rlen_281 (w : World) : Calls Tryd.prog 65 #[.int .i64 281] w fun e w' => e = .returned (.tuple #[.int .i64 131, .int .i64 5]) ∧ w' = w := by
  go_enter Tryd.func65, Tryd.ntmps65
  go_wp2
  go_returns
  exact ⟨rfl, rfl⟩
set_option maxRecDepth 100000 in
theorem rlen_282 (w : World) : Calls Tryd.prog 65 #[.int .i64 282] w fun e w' => e = .returned (.tuple #[.int .i64 163, .int .i64 5]) ∧ w' = w := by
  go_enter Tryd.func65, Tryd.ntmps65
  go_wp2
  go_returns
  exact ⟨rfl, rfl⟩
set_option maxRecDepth 100000 in
theorem rlen_283 (w : World) : Calls Tryd.prog 65 #[.int .i64 283] w fun e w' => e = .returned (.tuple #[.int .i64 195, .int .i64 5]) ∧ w' = w := by
  go_enter Tryd.func65, Tryd.ntmps65
  go_wp2
  go_returns
  exact ⟨rfl, rfl⟩
set_option maxRecDepth 100000 in
theorem rlen_284 (w : World) : Calls Tryd.prog 65 #[.int .i64 284] w fun e w' => e = .returned (.tuple #[.int .i64 227, .int .i64 5]) ∧ w' = w := by
  go_enter Tryd.func65, Tryd.ntmps65
  go_wp2
  go_returns
  exact ⟨rfl, rfl⟩
set_option maxRecDepth 100000 in
theorem rlen_285 (w : World) : Calls Tryd.prog 65 #[.int .i64 285] w fun e w' => e = .returned (.tuple #[.int .i64 258, .int .i64 0]) ∧ w' = w := by
  go_enter Tryd.func65, Tryd.ntmps65
  go_wp2
  go_returns
  exact ⟨rfl, rfl⟩
set_option maxRecDepth 100000 in
theorem rdst_0 (w : World) : Calls Tryd.prog 66 #[.int .i64 0] w fun e w' => e = .returned (.tuple #[.int .i64 1, .int .i64 0]) ∧ w' = w := by
  go_enter Tryd.func66, Tryd.ntmps66
  go_wp2
  go_returns
  exact ⟨rfl, rfl⟩
set_option maxRecDepth 100000 in
theorem rdst_1 (w : World) : Calls Tryd.prog 66 #[.int .i64 1] w fun e w' => e = .returned (.tuple #[.int .i64 2, .int .i64 0]) ∧ w' = w := by
  go_enter Tryd.func66, Tryd.ntmps66
  go_wp2
  go_returns
  exact ⟨rfl, rfl⟩
set_option maxRecDepth 100000 in
theorem rdst_2 (w : World) : Calls Tryd.prog 66 #[.int .i64 2] w fun e w' => e = .returned (.tuple #[.int .i64 3, .int .i64 0]) ∧ w' = w := by
  go_enter Tryd.func66, Tryd.ntmps66
  go_wp2
  go_returns
  exact ⟨rfl, rfl⟩
set_option maxRecDepth 100000 in
theorem rdst_3 (w : World) : Calls Tryd.prog 66 #[.int .i64 3] w fun e w' => e = .returned (.tuple #[.int .i64 4, .int .i64 0]) ∧ w' = w := by
  go_enter Tryd.func66, Tryd.ntmps66
  go_wp2
  go_returns
  exact ⟨rfl, rfl⟩
set_option maxRecDepth 100000 in
theorem rdst_4 (w : World) : Calls Tryd.prog 66 #[.int .i64 4] w fun e w' => e = .returned (.tuple #[.int .i64 5, .int .i64 1]) ∧ w' = w := by
  go_enter Tryd.func66, Tryd.ntmps66
  go_wp2
  go_returns
  exact ⟨rfl, rfl⟩
set_option maxRecDepth 100000 in
theorem rdst_5 (w : World) : Calls Tryd.prog 66 #[.int .i64 5] w fun e w' => e = .returned (.tuple #[.int .i64 7, .int .i64 1]) ∧ w' = w := by
  go_enter Tryd.func66, Tryd.ntmps66
  go_wp2
  go_returns
  exact ⟨rfl, rfl⟩
set_option maxRecDepth 100000 in
theorem rdst_6 (w : World) : Calls Tryd.prog 66 #[.int .i64 6] w fun e w' => e = .returned (.tuple #[.int .i64 9, .int .i64 2]) ∧ w' = w := by
  go_enter Tryd.func66, Tryd.ntmps66
  go_wp2
  go_returns
  exact ⟨rfl, rfl⟩
set_option maxRecDepth 100000 in
theorem rdst_7 (w : World) : Calls Tryd.prog 66 #[.int .i64 7] w fun e w' => e = .returned (.tuple #[.int .i64 13, .int .i64 2]) ∧ w' = w := by
  go_enter Tryd.func66, Tryd.ntmps66
  go_wp2
  go_returns
  exact ⟨rfl, rfl⟩
set_option maxRecDepth 100000 in
theorem rdst_8 (w : World) : Calls Tryd.prog 66 #[.int .i64 8] w fun e w' => e = .returned (.tuple #[.int .i64 17, .int .i64 3]) ∧ w' = w := by
  go_enter Tryd.func66, Tryd.ntmps66
  go_wp2
  go_returns
  exact ⟨rfl, rfl⟩
set_option maxRecDepth 100000 in
theorem rdst_9 (w : World) : Calls Tryd.prog 66 #[.int .i64 9] w fun e w' => e = .returned (.tuple #[.int .i64 25, .int .i64 3]) ∧ w' = w := by
  go_enter Tryd.func66, Tryd.ntmps66
  go_wp2
  go_returns
  exact ⟨rfl, rfl⟩
set_option maxRecDepth 100000 in
theorem rdst_10 (w : World) : Calls Tryd.prog 66 #[.int .i64 10] w fun e w' => e = .returned (.tuple #[.int .i64 33, .int .i64 4]) ∧ w' = w := by
  go_enter Tryd.func66, Tryd.ntmps66
  go_wp2
  go_returns
  exact ⟨rfl, rfl⟩
set_option maxRecDepth 100000 in
theorem rdst_11 (w : World) : Calls Tryd.prog 66 #[.int .i64 11] w fun e w' => e = .returned (.tuple #[.int .i64 49, .int .i64 4]) ∧ w' = w := by
  go_enter Tryd.func66, Tryd.ntmps66
  go_wp2
  go_returns
  exact ⟨rfl, rfl⟩
set_option maxRecDepth 100000 in
theorem rdst_12 (w : World) : Calls Tryd.prog 66 #[.int .i64 12] w fun e w' => e = .returned (.tuple #[.int .i64 65, .int .i64 5]) ∧ w' = w := by
  go_enter Tryd.func66, Tryd.ntmps66
  go_wp2
  go_returns
  exact ⟨rfl, rfl⟩
set_option maxRecDepth 100000 in
theorem rdst_13 (w : World) : Calls Tryd.prog 66 #[.int .i64 13] w fun e w' => e = .returned (.tuple #[.int .i64 97, .int .i64 5]) ∧ w' = w := by
  go_enter Tryd.func66, Tryd.ntmps66
  go_wp2
  go_returns
  exact ⟨rfl, rfl⟩
set_option maxRecDepth 100000 in
theorem rdst_14 (w : World) : Calls Tryd.prog 66 #[.int .i64 14] w fun e w' => e = .returned (.tuple #[.int .i64 129, .int .i64 6]) ∧ w' = w := by
  go_enter Tryd.func66, Tryd.ntmps66
  go_wp2
  go_returns
  exact ⟨rfl, rfl⟩
set_option maxRecDepth 100000 in
theorem rdst_15 (w : World) : Calls Tryd.prog 66 #[.int .i64 15] w fun e w' => e = .returned (.tuple #[.int .i64 193, .int .i64 6]) ∧ w' = w := by
  go_enter Tryd.func66, Tryd.ntmps66
  go_wp2
  go_returns
  exact ⟨rfl, rfl⟩
set_option maxRecDepth 100000 in
theorem rdst_16 (w : World) : Calls Tryd.prog 66 #[.int .i64 16] w fun e w' => e = .returned (.tuple #[.int .i64 257, .int .i64 7]) ∧ w' = w := by
  go_enter Tryd.func66, Tryd.ntmps66
  go_wp2
  go_returns
  exact ⟨rfl, rfl⟩
set_option maxRecDepth 100000 in
theorem rdst_17 (w : World) : Calls Tryd.prog 66 #[.int .i64 17] w fun e w' => e = .returned (.tuple #[.int .i64 385, .int .i64 7]) ∧ w' = w := by
  go_enter Tryd.func66, Tryd.ntmps66
  go_wp2
  go_returns
  exact ⟨rfl, rfl⟩
set_option maxRecDepth 100000 in
theorem rdst_18 (w : World) : Calls Tryd.prog 66 #[.int .i64 18] w fun e w' => e = .returned (.tuple #[.int .i64 513, .int .i64 8]) ∧ w' = w := by
  go_enter Tryd.func66, Tryd.ntmps66
  go_wp2
  go_returns
  exact ⟨rfl, rfl⟩
set_option maxRecDepth 100000 in
theorem rdst_19 (w : World) : Calls Tryd.prog 66 #[.int .i64 19] w fun e w' => e = .returned (.tuple #[.int .i64 769, .int .i64 8]) ∧ w' = w := by
  go_enter Tryd.func66, Tryd.ntmps66
  go_wp2
  go_returns
  exact ⟨rfl, rfl⟩
set_option maxRecDepth 100000 in
theorem rdst_20 (w : World) : Calls Tryd.prog 66 #[.int .i64 20] w fun e w' => e = .returned (.tuple #[.int .i64 1025, .int .i64 9]) ∧ w' = w := by
  go_enter Tryd.func66, Tryd.ntmps66
  go_wp2
  go_returns
  exact ⟨rfl, rfl⟩
set_option maxRecDepth 100000 in
theorem rdst_21 (w : World) : Calls Tryd.prog 66 #[.int .i64 21] w fun e w' => e = .returned (.tuple #[.int .i64 1537, .int .i64 9]) ∧ w' = w := by
  go_enter Tryd.func66, Tryd.ntmps66
  go_wp2
  go_returns
  exact ⟨rfl, rfl⟩
set_option maxRecDepth 100000 in
theorem rdst_22 (w : World) : Calls Tryd.prog 66 #[.int .i64 22] w fun e w' => e = .returned (.tuple #[.int .i64 2049, .int .i64 10]) ∧ w' = w := by
  go_enter Tryd.func66, Tryd.ntmps66
  go_wp2
  go_returns
  exact ⟨rfl, rfl⟩
set_option maxRecDepth 100000 in
theorem rdst_23 (w : World) : Calls Tryd.prog 66 #[.int .i64 23] w fun e w' => e = .returned (.tuple #[.int .i64 3073, .int .i64 10]) ∧ w' = w := by
  go_enter Tryd.func66, Tryd.ntmps66
  go_wp2
  go_returns
  exact ⟨rfl, rfl⟩
set_option maxRecDepth 100000 in
theorem rdst_24 (w : World) : Calls Tryd.prog 66 #[.int .i64 24] w fun e w' => e = .returned (.tuple #[.int .i64 4097, .int .i64 11]) ∧ w' = w := by
  go_enter Tryd.func66, Tryd.ntmps66
  go_wp2
  go_returns
  exact ⟨rfl, rfl⟩
set_option maxRecDepth 100000 in
theorem rdst_25 (w : World) : Calls Tryd.prog 66 #[.int .i64 25] w fun e w' => e = .returned (.tuple #[.int .i64 6145, .int .i64 11]) ∧ w' = w := by
  go_enter Tryd.func66, Tryd.ntmps66
  go_wp2
  go_returns
  exact ⟨rfl, rfl⟩
set_option maxRecDepth 100000 in
theorem rdst_26 (w : World) : Calls Tryd.prog 66 #[.int .i64 26] w fun e w' => e = .returned (.tuple #[.int .i64 8193, .int .i64 12]) ∧ w' = w := by
  go_enter Tryd.func66, Tryd.ntmps66
  go_wp2
  go_returns
  exact ⟨rfl, rfl⟩
set_option maxRecDepth 100000 in
theorem rdst_27 (w : World) : Calls Tryd.prog 66 #[.int .i64 27] w fun e w' => e = .returned (.tuple #[.int .i64 12289, .int .i64 12]) ∧ w' = w := by
  go_enter Tryd.func66, Tryd.ntmps66
  go_wp2
  go_returns
  exact ⟨rfl, rfl⟩
set_option maxRecDepth 100000 in
theorem rdst_28 (w : World) : Calls Tryd.prog 66 #[.int .i64 28] w fun e w' => e = .returned (.tuple #[.int .i64 16385, .int .i64 13]) ∧ w' = w := by
  go_enter Tryd.func66, Tryd.ntmps66
  go_wp2
  go_returns
  exact ⟨rfl, rfl⟩
set_option maxRecDepth 100000 in
theorem rdst_29 (w : World) : Calls Tryd.prog 66 #[.int .i64 29] w fun e w' => e = .returned (.tuple #[.int .i64 24577, .int .i64 13]) ∧ w' = w := by
  go_enter Tryd.func66, Tryd.ntmps66
  go_wp2
  go_returns
  exact ⟨rfl, rfl⟩
theorem rlenR (i : Nat) (hi : i < 29) (w : World) : Calls Tryd.prog 65 #[.int .i64 ((257 + i : Nat) : Int)] w fun e w' => e = .returned (.tuple #[.int .i64 ((lenR i).1 : Nat), .int .i64 ((lenR i).2 : Nat)]) ∧ w' = w :=
  match i, hi with
  | 0, _ => rlen_257 w
  | 1, _ => rlen_258 w
  | 2, _ => rlen_259 w
  | 3, _ => rlen_260 w
  | 4, _ => rlen_261 w
  | 5, _ => rlen_262 w
  | 6, _ => rlen_263 w
  | 7, _ => rlen_264 w
  | 8, _ => rlen_265 w
  | 9, _ => rlen_266 w
  | 10, _ => rlen_267 w
  | 11, _ => rlen_268 w
  | 12, _ => rlen_269 w
  | 13, _ => rlen_270 w
  | 14, _ => rlen_271 w
  | 15, _ => rlen_272 w
  | 16, _ => rlen_273 w
  | 17, _ => rlen_274 w
  | 18, _ => rlen_275 w
  | 19, _ => rlen_276 w
  | 20, _ => rlen_277 w
  | 21, _ => rlen_278 w
  | 22, _ => rlen_279 w
  | 23, _ => rlen_280 w
  | 24, _ => rlen_281 w
  | 25, _ => rlen_282 w
  | 26, _ => rlen_283 w
  | 27, _ => rlen_284 w
  | 28, _ => rlen_285 w
  | n + 29, h => absurd h (by omega)
theorem rdistR (i : Nat) (hi : i < 30) (w : World) : Calls Tryd.prog 66 #[.int .i64 (i : Nat)] w fun e w' => e = .returned (.tuple #[.int .i64 ((distR i).1 : Nat), .int .i64 ((distR i).2 : Nat)]) ∧ w' = w :=
  match i, hi with
  | 0, _ => rdst_0 w
  | 1, _ => rdst_1 w
  | 2, _ => rdst_2 w
  | 3, _ => rdst_3 w
  | 4, _ => rdst_4 w
  | 5, _ => rdst_5 w
  | 6, _ => rdst_6 w
  | 7, _ => rdst_7 w
  | 8, _ => rdst_8 w
  | 9, _ => rdst_9 w
  | 10, _ => rdst_10 w
  | 11, _ => rdst_11 w
  | 12, _ => rdst_12 w
  | 13, _ => rdst_13 w
  | 14, _ => rdst_14 w
  | 15, _ => rdst_15 w
  | 16, _ => rdst_16 w
  | 17, _ => rdst_17 w
  | 18, _ => rdst_18 w
  | 19, _ => rdst_19 w
  | 20, _ => rdst_20 w
  | 21, _ => rdst_21 w
  | 22, _ => rdst_22 w
  | 23, _ => rdst_23 w
  | 24, _ => rdst_24 w
  | 25, _ => rdst_25 w
  | 26, _ => rdst_26 w
  | 27, _ => rdst_27 w
  | 28, _ => rdst_28 w
  | 29, _ => rdst_29 w
  | n + 30, h => absurd h (by omega)
end Go.Proofs.YtgchopfagobleaaDoor
/- The document's length and distance: bytes of the output again (contract of the method). -/
namespace Go.Proofs.YtgchopfagobleaaDoor
open Go.RowKit Go.Conc
set_option linter.unusedVariables false
section
variable {B : Nat} {w : World} {fb g : Nat} {s : ByteArray} {k : Nat} {out : List UInt8} {lim : Nat} {v : Value}
set_option maxRecDepth 100000 in
set_option maxHeartbeats 4000000 in
theorem rmatch_any (hs : s.size ≤ 281474976710656) (hl : lim ≤ 1073741824) (last : Bool) (lt dt : List Int) (x : Nat) (hx : 257 ≤ x) (hx9 : x ≤ 320) (c : Value) (hc : CodeR w c dt) (h : Ref B w fb g s k out lim v) :
    Calls Tryd.prog 45 #[.pointer (some ⟨fb, 0, none⟩), .int .i64 x, c] w (DidR B fb g s lim (stMatch s lim last lt dt x k out) w) := by
  obtain ⟨i0, hinf, hz0, hz1, hz2⟩ := info_parts byteInfo
  have HX := hid (match_eq s lim last lt dt x k out)
  have HI := hid h
  have HCO := hid hc.code
  obtain ⟨cb, coff, clen, ccap, crb, rfl, hcl, hci, hch⟩ := hc.ex
  have HCL := hid hcl
  have HCI := hid hci
  have HCH := hid hch
  have HW := hid (show Bw w (w.alloc (.cells #[.slice (some ⟨cb, coff, none⟩) clen ccap, .slice (some ⟨crb, 0, none⟩) clen clen] 69)) from (Bw.refl w).alloc _)
  have HN := hid (Has.new w 69 #[.slice (some ⟨cb, coff, none⟩) clen ccap, .slice (some ⟨crb, 0, none⟩) clen clen])
  have HI1 := hid (h.bw HW.out)
  clear h hc hcl hci hch
  by_cases h0 : 286 ≤ x
  · have HX := hid (HX.out.trans (if_pos h0))
    have t0 : decide (285 < (x : Int)) = true := decide_eq_true (by omega)
    have t1 : decide (285 < x) = true := decide_eq_true (by omega)
    go_enter Tryd.func45, Tryd.ntmps45
    go_wp2
    go_returns
    exact DidR.bad HX.out (KT.of_bw HW.out)
  · have HX := hid (HX.out.trans (if_neg h0))
    have t0 : decide (285 < (x : Int)) = false := decide_eq_false (by omega)
    have t1 : decide (285 < x) = false := decide_eq_false (by omega)
    obtain ⟨i, hi⟩ : ∃ i, x - 257 = i := ⟨_, rfl⟩
    have hxi : 257 + i = x := by omega
    have HLX := hid (fun W => rlenR i (by omega) W)
    rw [hxi] at HLX
    rw [hi] at HX
    obtain ⟨hl1, hl2⟩ := lenR_le i
    obtain ⟨l1, hl1e⟩ : ∃ l1, (lenR i).1 = l1 := ⟨_, rfl⟩
    obtain ⟨l2, hl2e⟩ : ∃ l2, (lenR i).2 = l2 := ⟨_, rfl⟩
    rw [hl1e, hl2e] at HX HLX
    rw [hl1e] at hl1
    rw [hl2e] at hl2
    clear hl1e hl2e hi h0 hxi
    go_enter Tryd.func45, Tryd.ntmps45
    go_wp2_with fail
    obtain ⟨nb, hnb⟩ : ∃ nb, w.heap.size = nb := ⟨_, rfl⟩
    rw [hnb] at HN ⊢
    have HNB := hid hnb
    have HK1 := hid (KT.of_bw HW.out : KT TJ B w _)
    have HCI1 := hid (HCI.out.bw HW.out)
    have HCH1 := hid (HW.out.has HCH.out)
    generalize w.alloc (.cells #[.slice (some ⟨cb, coff, none⟩) clen ccap, .slice (some ⟨crb, 0, none⟩) clen clen] 69) = W1 at *
    clear hnb
    refine (HLX.out _).mono ?_
    rintro e w1 ⟨rfl, rfl⟩
    go_wp2_with fail
    by_cases h1 : k + l2 ≤ 8 * s.size
    · have HX := hid (HX.out.trans (num_ok h1))
      refine (rbits_ok hs l2 (by omega) l1 (by omega) h1 HI1.out).mono ?_
      rintro e w2 ⟨rfl, hi2, hk2⟩
      have HI2 := hid hi2
      have HK2 := hid (HK1.out.trans hk2)
      have HN2 := hid (hk2.has HN.out (by decide))
      have HCI2 := hid (HCI1.out.kt hk2 (by decide))
      have HCH2 := hid (hk2.has HCH1.out (by decide))
      clear hi2 hk2
      have hb1 : bv s k l2 < 32 := Nat.lt_of_lt_of_le (bv_lt s k l2) (Nat.pow_le_pow_right (by decide) hl2 : 2 ^ l2 ≤ 2 ^ 5)
      obtain ⟨n, hn⟩ : ∃ n, l1 + bv s k l2 = n := ⟨_, rfl⟩
      have HY : Hid (stMatch s lim last lt dt x k out = sym1 s dt (k + l2) fun y k3 => if 30 ≤ y then .bad 3 else num s k3 (distR y).2 fun u k4 => if out.length < (distR y).1 + u then .bad 3 else if lim < out.length + n then .bad 11 else .go ⟨.sym last lt dt, k4, rep out ((distR y).1 + u) n⟩) := hid (by rw [HX.out, ← hn])
      rw [hn]
      have hn9 : n ≤ 300 := by omega
      clear hn hb1 h1 HX
      generalize k + l2 = k2 at *
      have HX := HY
      clear HY
      have b0 : w2.cell? ⟨nb, 0, none⟩ = some (.slice (some ⟨cb, coff, none⟩) clen ccap) := HN2.out.cell 0
      have b1 : w2.cell? ⟨nb, 1, none⟩ = some (.slice (some ⟨crb, 0, none⟩) clen clen) := HN2.out.cell 1
      have b2 : w2.cell? ⟨fb, 0, none⟩ = some (.pointer (some ⟨g, 0, none⟩)) := HI2.out.has.cell 0
      have HD := hid (show Bw w2 w2.drew from (Bw.refl w2).drewN 1)
      have HIE := hid (HI2.out.bw HD.out)
      have HSY := hid (rsym_any hs cb coff clen ccap crb dt HCO.out HCL.out (HCI2.out.bw HD.out) (HD.out.has HCH2.out) HIE.out)
      have HN3 := hid (HD.out.has HN2.out)
      have HK3 := hid (HK2.out.trans (KT.of_bw HD.out))
      go_wp2_with fail
      go_region_held3 (fun W => W.cell? ⟨nb, 0, none⟩ = some (.slice (some ⟨cb, coff, none⟩) clen ccap) ∧ W.cell? ⟨nb, 1, none⟩ = some (.slice (some ⟨crb, 0, none⟩) clen clen) ∧ W.cell? ⟨fb, 0, none⟩ = some (.pointer (some ⟨g, 0, none⟩)))
        (first | exact ⟨b0, b1, b2⟩ | exact ⟨s0, s1, s2⟩ | exact ⟨by assumption, by assumption, by assumption⟩)
        (first | (go_at_call 44; refine HSY.out.mono ?_; rintro e w4 ⟨rfl, hi4, hk4⟩; have HI4 := hid hi4; have HK4 := hid (HK3.out.trans hk4); have hn4 := hk4.has HN3.out (by decide); have s0 := hn4.cell 0; have s1 := hn4.cell 1; have s2 := hi4.has.cell 0; clear hi4 hk4 hn4))
      clear b0 b1 b2
      by_cases h2 : nextE dt s k2 = 0
      · have HX := hid (HX.out.trans (sym1_ok h2))
        have hy9 := nextV_lt h2
        have hyl := HCO.out.few
        have hk3 := nextK_le dt s k2 HI2.out.k8
        rw [h2]
        generalize nextV dt s k2 = y at *
        generalize nextK dt s k2 = k3 at *
        clear h2
        by_cases h3 : 30 ≤ y
        · have HX := hid (HX.out.trans (if_pos h3))
          have t0 : decide (29 < (y : Int)) = true := decide_eq_true (by omega)
          have t1 : decide (29 < y) = true := decide_eq_true (by omega)
          go_wp2
          go_returns
          exact DidR.bad HX.out HK4.out
        · have HX := hid (HX.out.trans (if_neg h3))
          have t0 : decide (29 < (y : Int)) = false := decide_eq_false (by omega)
          have t1 : decide (29 < y) = false := decide_eq_false (by omega)
          have HDX := hid (fun W => rdistR y (by omega) W)
          obtain ⟨hd1, hd2⟩ := distR_le y
          have hd0 := distR_pos y h3
          obtain ⟨d1, hd1e⟩ : ∃ d1, (distR y).1 = d1 := ⟨_, rfl⟩
          obtain ⟨d2, hd2e⟩ : ∃ d2, (distR y).2 = d2 := ⟨_, rfl⟩
          rw [hd1e] at hd1 hd0
          rw [hd2e] at hd2
          rw [hd1e, hd2e] at HX HDX
          clear hd1e hd2e h3
          go_wp2_with fail
          refine (HDX.out _).mono ?_
          rintro e w5 ⟨rfl, rfl⟩
          go_wp2_with fail
          by_cases h4 : k3 + d2 ≤ 8 * s.size
          · have HX := hid (HX.out.trans (num_ok h4))
            refine (rbits_ok hs d2 (by omega) d1 (by omega) h4 HI4.out).mono ?_
            rintro e w6 ⟨rfl, hi6, hk6⟩
            have HI6 := hid hi6
            have HK6 := hid (HK4.out.trans hk6)
            clear hi6 hk6
            have hb2 : bv s k3 d2 < 8192 := Nat.lt_of_lt_of_le (bv_lt s k3 d2) (Nat.pow_le_pow_right (by decide) hd2 : 2 ^ d2 ≤ 2 ^ 13)
            obtain ⟨d, hd⟩ : ∃ d, d1 + bv s k3 d2 = d := ⟨_, rfl⟩
            have HY : Hid (stMatch s lim last lt dt x k out = if out.length < d then .bad 3 else if lim < out.length + n then .bad 11 else .go ⟨.sym last lt dt, k3 + d2, rep out d n⟩) := hid (by rw [HX.out, ← hd])
            rw [hd]
            have hd9 : d ≤ 40000 := by omega
            have hd0 : 1 ≤ d := by omega
            clear hd hb2 h4 HX
            have HX := HY
            clear HY
            generalize k3 + d2 = k4 at *
            obtain ⟨ol, hol⟩ : ∃ ol, out.length = ol := ⟨_, rfl⟩
            have hown := HI6.out.own
            have hhas := HI6.out.has
            have hfew := HI6.out.few
            rw [hol] at HX hown hfew
            obtain ⟨vo, vc, rfl⟩ := own_slice hown
            have c1 : w6.cell? ⟨fb, 1, none⟩ = some (.slice vo ol vc) := hhas.cell 1
            have HOL := hid hol
            have HD6 := hid (show Bw w6 w6.drew from (Bw.refl w6).drewN 1)
            have HID := hid (HI6.out.bw HD6.out)
            have HKD := hid (HK6.out.trans (KT.of_bw HD6.out))
            clear hown hol hhas
            by_cases h5 : ol < d
            · have HX := hid (HX.out.trans (if_pos h5))
              have u0 : decide (ol < d) = true := decide_eq_true (by omega)
              have u1 : decide ((ol : Int) < d) = true := decide_eq_true (by omega)
              go_wp2
              go_returns
              exact DidR.bad HX.out HK6.out
            · have HX := hid (HX.out.trans (if_neg h5))
              have u0 : decide (ol < d) = false := decide_eq_false (by omega)
              have u1 : decide ((ol : Int) < d) = false := decide_eq_false (by omega)
              go_wp2_with fail
              clear c1 u0 u1 t0 t1
              have c1 : w6.drew.cell? ⟨fb, 1, none⟩ = some (.slice vo ol vc) := HID.out.has.cell 1
              have c2 : w6.drew.cell? ⟨fb, 2, none⟩ = some (.int .i64 lim) := HID.out.has.cell 2
              by_cases h6 : lim < ol + n
              · have HX := hid (HX.out.trans (if_pos h6))
                have d6 : decide (((lim : Nat) : Int) - ol < n) = true := decide_eq_true (by omega)
                go_region
                all_goals go_wp2
                all_goals go_returns
                all_goals exact DidR.bad HX.out HKD.out
              · have HX := hid (HX.out.trans (if_neg h6))
                have d6 : decide (((lim : Nat) : Int) - ol < n) = false := decide_eq_false (by omega)
                have HLEN := hid (fun j => (rep_len out d j).trans (by rw [HOL.out]))
                have HREP := hid (fun j => rep_byte out d j (by omega) (by rw [HOL.out]; omega))
                go_region
                have HID : Hid (Ref B w6.drew fb g s k4 out lim (.slice vo ol vc)) := HID
                have HKD : Hid (KT TJ B w w6.drew) := HKD
                clear c1 c2
                generalize w6.drew = W7 at *
                go_wp2
                go_loopw [17] (fun i wi => ∃ (j p : Nat) (v' : Value), j ≤ n ∧ Hid (ol + j = p) ∧ i = .int .i64 j ∧ Ref B wi fb g s k4 (rep out d j) lim v' ∧ KT TJ B w wi) (fun i _ => n - (intOf i).toNat)
                case atStart => exact ⟨0, ol, _, Nat.zero_le _, hid rfl, rfl, HID.out, HKD.out⟩
                case round =>
                  rename World => wi
                  obtain ⟨j, p, v', hj, HP, rfl, hi, hk⟩ := hrel
                  have HII := hid hi
                  have HKK := hid hk
                  clear hi hk
                  by_cases hjn : j < n
                  · have hown := HII.out.own
                    have hhas := HII.out.has
                    have hfew := HII.out.few
                    have hlj : (rep out d j).length = p := (HLEN.out j).trans HP.out
                    have hp9 : ol ≤ p ∧ p ≤ ol + n := by have := HP.out; omega
                    obtain ⟨hp1, hp2⟩ := hp9
                    obtain ⟨hjl, hjr⟩ := HREP.out j
                    have cj0 := fun (g cap : Nat) (hv : v' = .slice (some ⟨g, 0, none⟩) p cap) => own_byte (w := wi) (B := B) (g := g) (n := p) (cap := cap) (l := rep out d j) (by rw [← hv]; rw [hlj] at hown; exact hown) ((rep out d j).length - d) hjl
                    rw [hlj] at hown hfew
                    obtain ⟨gj, cj, rfl⟩ := own_some hown (by omega)
                    have cj0 := cj0 gj cj rfl
                    generalize (rep out d j)[(rep out d j).length - d]'hjl = bb at *
                    rw [hlj] at cj0
                    obtain ⟨q, hq⟩ : ∃ q, p - d = q := ⟨_, rfl⟩
                    have e1 : ((p : Nat) : Int) - d = (q : Nat) := by omega
                    have hqp : q < p := by omega
                    rw [hq] at cj0
                    have c1 : wi.cell? ⟨fb, 1, none⟩ = some (.slice (some ⟨gj, 0, none⟩) p cj) := hhas.cell 1
                    have hjn1 : (j : Int) < n := by omega
                    have HJR := hid hjr
                    have hp30 : p ≤ 1073741824 := by omega
                    have hdp : d ≤ p := by omega
                    clear hown hhas hjr hlj hjl hq
                    have b1 : (0 : Int) ≤ q := by omega
                    have b2 : (q : Int) < p := by omega
                    have b3 : (q : Int).toNat = q := rfl
                    have b4 : IntKind.i64.wrap (q : Int) = (q : Int) := IntWalk.i64_in _ (by omega)
                    go_wp2_with fail
                    have HOW := hid (show wi.ownsRow B 5 1 (.slice (some ⟨gj, 0, none⟩) p cj) p (bcs (rep out d j)) by have := HII.out.own; rw [HLEN.out j, HP.out] at this; exact this)
                    have hBz : B ≤ wi.heap.size := by have h1 := HII.out.gb; have h2 := Has.lt HII.out.rd; omega
                    have HWA := hid (show Bw wi (wi.alloc (.cells #[.int .u8 (bb.toNat : Nat)] 5)).drew from ((Bw.refl wi).alloc _).drewN 1)
                    have HWF := hid (show ∀ w5, (wi.alloc (.cells #[.int .u8 (bb.toNat : Nat)] 5)).drew.grownBy w5 (some gj) → w5.frozen? ⟨fb, 1, none⟩ = false from fun w5 hg => (((HII.out.bw HWA.out).grown hg).1).frozen 1)
                    have d1 : wi.drew.cell? ⟨fb, 1, none⟩ = some (.slice (some ⟨gj, 0, none⟩) p cj) := c1
                    have d2 : wi.drew.cell? ⟨gj, q, none⟩ = some (.int .u8 (bb.toNat : Nat)) := cj0
                    have d3 := HWA.out.cell c1
                    clear c1 cj0
                    go_region_law
                      (first
                        | (refine step_append_lies _ (by rfl) (.tmp 95) (.tmp 109) 27 (by rfl) B 5 i0 (.int .u8 0) 1 1 Tryd.underlying27 hinf hz0 hz1 hz2 (by rfl) (by decide) (.slice (some ⟨gj, 0, none⟩) p cj) p (bcs (rep out d j)) (by rfl) (HWA.out.own HOW.out) ⟨wi.heap.size, 0, none⟩ 1 1 [.int .u8 (bb.toNat : Nat)] (by rfl) rfl (cell_one_new _ _ _) (by intro u hu; simp at hu; rw [hu]; rfl) (by omega) (by unfold maxLen; omega) (by omega) (by simp only [World.size_alloc, World.drew]; omega) (wi.heap.size + 1) (by simp) ?_; intro g5 cp5 w5 hown5 hgrow5 hat5 hlt5; have HO5 := hid hown5; have HG5 := hid hgrow5; have z5 := HWF.out _ hgrow5; have y5 := ((HII.out.bw HWA.out).grown hgrow5).1.cell 1; clear hown5 hgrow5 hat5 hlt5))
                    all_goals go_wp2
                    all_goals have hl1 : (rep out d (j + 1)).length = p + 1 := by rw [HLEN.out (j + 1)]; have := HP.out; omega
                    all_goals have hap := (HII.out.bw HWA.out).app HG5.out (out' := rep out d (j + 1)) (v' := .slice (some ⟨g5, 0, none⟩) (p + 1) cp5) (by rw [hl1, HJR.out, bcs_snoc]; exact HO5.out) (by rw [hl1]; have := HP.out; omega)
                    all_goals exact ⟨⟨j + 1, p + 1, _, by omega, hid (by have := HP.out; omega), by go_num, hap.1, HKK.out.trans ((KT.of_bw HWA.out).trans hap.2)⟩, by simp [intOf]; omega⟩
                  · obtain rfl : j = n := by omega
                    go_wp2
                    go_returns
                    exact DidR.st HX.out HKK.out HII.out
          · have HX := hid (HX.out.trans (num_bad h4))
            refine (rbits_bad hs d2 (by omega) d1 (by omega) h4 HI4.out).mono ?_
            rintro e w6 ⟨rfl, hi6, hk6⟩
            have HK6 := hid (HK4.out.trans hk6)
            clear hi6 hk6
            go_wp2
            go_returns
            exact DidR.bad HX.out HK6.out
      · have HX := hid (HX.out.trans (sym1_bad h2))
        have t9 : ((nextE dt s k2) != 0) = true := by simp [h2]
        go_wp2
        go_returns
        exact DidR.bad HX.out HK4.out
    · have HX := hid (HX.out.trans (num_bad h1))
      refine (rbits_bad hs l2 (by omega) l1 (by omega) h1 HI1.out).mono ?_
      rintro e w2 ⟨rfl, hi2, hk2⟩
      have HK2 := hid (HK1.out.trans hk2)
      clear hi2 hk2
      go_wp2
      go_returns
      exact DidR.bad HX.out HK2.out
end
end Go.Proofs.YtgchopfagobleaaDoor
