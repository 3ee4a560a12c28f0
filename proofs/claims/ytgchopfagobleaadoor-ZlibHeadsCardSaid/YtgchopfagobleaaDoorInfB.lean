/- The inflater's methods: bytes, symbol, room, number of a row, stored (contracts of the methods). -/
import Derived.Test.YtgchopfagobleaaDoorInfA
namespace Go.Proofs.YtgchopfagobleaaDoor
open Go.RowKit
set_option linter.unusedVariables false
section
variable {B : Nat} {w : World} {fb g : Nat} {s : ByteArray} {k : Nat} {out : List UInt8} {lim : Nat} {v : Value} {pl pd : Option Addr}
set_option maxHeartbeats 1000000 in
theorem ibytes_ok (hs : s.size ≤ 281474976710656) (n q : Nat) (hq : Hid (upK k = 8 * q)) (hn : q + n ≤ s.size) (h : Inf B w fb g s k out lim v pl pd) :
    Calls Tryd.prog 55 #[.pointer (some ⟨fb, 0, none⟩), .int .i64 n] w fun e w' => e = .returned (.string (s.extract q (q + n))) ∧ Inf B w' fb g s (8 * (q + n)) out lim v pl pd ∧ KT TI B w w' := by
  have c0 : w.cell? ⟨fb, 0, none⟩ = some (.pointer (some ⟨g, 0, none⟩)) := h.has.cell 0
  have HB := hid (rbytes_any g s hs k h.k8 n w h.rd)
  obtain ⟨e1, e2, e3⟩ := rbytes_good n s k q (by rw [hq.out]; omega) hn
  unfold RBytesPost at HB
  rw [e1, e2, e3, hq.out, ← Nat.mul_add] at HB
  have HI := hid h
  clear h e1 e2 e3
  go_enter Tryd.func55, Tryd.ntmps55
  go_wp2_with fail
  refine HB.out.mono ?_
  rintro e w2 ⟨rfl, hr, hk2⟩
  have HI2 := hid (HI.out.read hr hk2 (by omega))
  have HK := hid (KT.of_rd HI.out.rd HI.out.gb hk2)
  clear hr hk2
  go_wp2_with fail
  refine (icheck_ok _).mono ?_
  rintro e w3 ⟨rfl, rfl⟩
  go_wp2
  go_returns
  exact ⟨rfl, HI2.out, HK.out⟩
set_option maxHeartbeats 1000000 in
theorem ibytes_bad (hs : s.size ≤ 281474976710656) (n q : Nat) (hq : Hid (upK k = 8 * q)) (hn : ¬ q + n ≤ s.size) (h : Inf B w fb g s k out lim v pl pd) :
    Calls Tryd.prog 55 #[.pointer (some ⟨fb, 0, none⟩), .int .i64 n] w fun e w' => e = pan 2 ∧ KT TI B w w' := by
  have c0 : w.cell? ⟨fb, 0, none⟩ = some (.pointer (some ⟨g, 0, none⟩)) := h.has.cell 0
  have HB := hid (rbytes_any g s hs k h.k8 n w h.rd)
  obtain ⟨e1, e2, e3⟩ := rbytes_short (n := n) (by omega) s k q (by rw [hq.out]; omega) (by omega)
  unfold RBytesPost at HB
  rw [e1, e2, e3] at HB
  have HI := hid h
  clear h e1 e2 e3 hn
  go_enter Tryd.func55, Tryd.ntmps55
  go_wp2_with fail
  refine HB.out.mono ?_
  rintro e w2 ⟨rfl, hr, hk2⟩
  have HK := hid (KT.of_rd HI.out.rd HI.out.gb hk2)
  clear hr hk2
  go_wp2_with fail
  refine (icheck_bad 2 (by decide) _).mono ?_
  rintro e w3 ⟨rfl, rfl⟩
  exact ⟨rfl, rfl, HK.out⟩
set_option maxHeartbeats 1000000 in
theorem symbol_ok (hs : s.size ≤ 281474976710656) (D tb : Nat) (l : List Int) (hc : IsCode l) (hT : TabOf w D tb l) (hE : nextE l s k = 0) (h : Inf B w fb g s k out lim v pl pd) :
    Calls Tryd.prog 57 #[.pointer (some ⟨fb, 0, none⟩), .pointer (some ⟨tb, 0, none⟩)] w fun e w' => e = .returned (.int .i64 (nextV l s k : Nat)) ∧ Inf B w' fb g s (nextK l s k) out lim v pl pd ∧ KT TI B w w' := by
  have c0 : w.cell? ⟨fb, 0, none⟩ = some (.pointer (some ⟨g, 0, none⟩)) := h.has.cell 0
  have HB := hid (next_any D tb g l hc s hs k h.k8 w hT h.rd)
  unfold NextPost at HB
  rw [hE] at HB
  have hk8 := nextK_le l s k h.k8
  have HI := hid h
  clear h hE hT
  generalize nextV l s k = nv at *
  generalize nextK l s k = nk at *
  go_enter Tryd.func57, Tryd.ntmps57
  go_wp2_with fail
  refine HB.out.mono ?_
  rintro e w2 ⟨rfl, hr, hk2⟩
  have HI2 := hid (HI.out.read hr hk2 hk8)
  have HK := hid (KT.of_rd HI.out.rd HI.out.gb hk2)
  clear hr hk2
  go_wp2_with fail
  refine (icheck_ok _).mono ?_
  rintro e w3 ⟨rfl, rfl⟩
  go_wp2
  go_returns
  exact ⟨rfl, HI2.out, HK.out⟩
set_option maxHeartbeats 1000000 in
theorem symbol_bad (hs : s.size ≤ 281474976710656) (D tb : Nat) (l : List Int) (hc : IsCode l) (hT : TabOf w D tb l) (hE : ¬ nextE l s k = 0) (h : Inf B w fb g s k out lim v pl pd) :
    Calls Tryd.prog 57 #[.pointer (some ⟨fb, 0, none⟩), .pointer (some ⟨tb, 0, none⟩)] w fun e w' => e = pan (nextE l s k) ∧ KT TI B w w' := by
  have c0 : w.cell? ⟨fb, 0, none⟩ = some (.pointer (some ⟨g, 0, none⟩)) := h.has.cell 0
  have HB := hid (next_any D tb g l hc s hs k h.k8 w hT h.rd)
  unfold NextPost at HB
  have HI := hid h
  have HE := hid hE
  clear h hT hE
  generalize nextV l s k = nv at *
  generalize nextK l s k = nk at *
  generalize nextE l s k = ne at *
  go_enter Tryd.func57, Tryd.ntmps57
  go_wp2_with fail
  refine HB.out.mono ?_
  rintro e w2 ⟨rfl, hr, hk2⟩
  have HK := hid (KT.of_rd HI.out.rd HI.out.gb hk2)
  clear hr hk2
  go_wp2_with fail
  refine (icheck_bad ne HE.out _).mono ?_
  rintro e w3 ⟨rfl, rfl⟩
  exact ⟨rfl, rfl, HK.out⟩
set_option maxHeartbeats 1000000 in
theorem room_ok (n : Nat) (hn : n ≤ 1000000) (hl : lim ≤ 1073741824) (hr : ¬ lim < out.length + n) (h : Inf B w fb g s k out lim v pl pd) :
    Calls Tryd.prog 56 #[.pointer (some ⟨fb, 0, none⟩), .int .i64 n] w fun e w' => e = .returned (.tuple #[]) ∧ Bw w w' := by
  obtain ⟨ol, ho⟩ : ∃ ol, out.length = ol := ⟨_, rfl⟩
  have hfew := h.few
  have hown := h.own
  rw [ho] at hown hr hfew
  obtain ⟨vo, vc, rfl⟩ := own_slice hown
  have c1 : w.cell? ⟨fb, 1, none⟩ = some (.slice vo ol vc) := h.has.cell 1
  have c2 : w.cell? ⟨fb, 2, none⟩ = some (.int .i64 lim) := h.has.cell 2
  clear h hown ho
  have HB := hid (Bw.refl w)
  go_enter Tryd.func56, Tryd.ntmps56
  go_wp2
  go_region
  go_wp2
  go_returns
  exact ⟨rfl, HB.out.drewN 1⟩
set_option maxHeartbeats 1000000 in
theorem room_bad (n : Nat) (hn : n ≤ 1000000) (hl : lim ≤ 1073741824) (hr : lim < out.length + n) (h : Inf B w fb g s k out lim v pl pd) :
    Calls Tryd.prog 56 #[.pointer (some ⟨fb, 0, none⟩), .int .i64 n] w fun e w' => e = pan 11 ∧ Bw w w' := by
  obtain ⟨ol, ho⟩ : ∃ ol, out.length = ol := ⟨_, rfl⟩
  have hfew := h.few
  have hown := h.own
  rw [ho] at hown hr hfew
  obtain ⟨vo, vc, rfl⟩ := own_slice hown
  have c1 : w.cell? ⟨fb, 1, none⟩ = some (.slice vo ol vc) := h.has.cell 1
  have c2 : w.cell? ⟨fb, 2, none⟩ = some (.int .i64 lim) := h.has.cell 2
  clear h hown ho
  have HB := hid (Bw.refl w)
  go_enter Tryd.func56, Tryd.ntmps56
  go_wp2
  go_region
  go_wp2
  exact ⟨rfl, rfl, HB.out.drewN 1⟩
end
end Go.Proofs.YtgchopfagobleaaDoor
