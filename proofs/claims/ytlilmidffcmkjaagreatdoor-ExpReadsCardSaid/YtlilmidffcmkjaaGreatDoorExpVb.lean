/- An element's value, all of them (contract of the method). -/
import Derived.Test.YtlilmidffcmkjaaGreatDoorExpVa
import Derived.Test.YtlilmidffcmkjaaGreatDoorExpI
namespace Go.Proofs.YtlilmidffcmkjaaGreatDoor
open Go.RowKit
set_option linter.unusedVariables false
set_option linter.unusedSimpArgs false
set_option maxRecDepth 100000 in
set_option maxHeartbeats 4000000 in
theorem value_step (w0 : World) (g vb : Nat) (a : Option Addr) (len cap : Nat) (na : Option Addr) (nlen ncap N : Nat) (l : List ExpR) (names : List BindR) (hc : checkB l = true) (hlen : len ≤ 9223372036854775807) (hll : Hid (l.length = len)) (hst : ExpAt w0 a l) (hN : N ≤ l.length) (i : Nat) (hi : i < N)
    (EV : ∀ W, EvS w0 W g vb a len cap na nlen ncap N l names → Calls Tryz.prog 31 #[.pointer (some ⟨g, 0, none⟩), .agg #[.string (l[i]'(Nat.lt_of_lt_of_le hi hN)).op, .string (l[i]'(Nat.lt_of_lt_of_le hi hN)).name, .int .u64 (l[i]'(Nat.lt_of_lt_of_le hi hN)).n, .int .i64 (l[i]'(Nat.lt_of_lt_of_le hi hN)).l, .int .i64 (l[i]'(Nat.lt_of_lt_of_le hi hN)).r]] W (EvP w0 W g vb a len cap na nlen ncap N l names (wrt l names i)))
    (w : World) (hs : EvS w0 w g vb a len cap na nlen ncap N l names) :
    Calls Tryz.prog 21 #[.pointer (some ⟨g, 0, none⟩), .int .i64 i] w (EvP w0 w g vb a len cap na nlen ncap N l names (wrt l names i)) := by
  have hil : i < l.length := Nat.lt_of_lt_of_le hi hN
  have g0 := hs.ev.cell 0
  have g1 := hs.ev.cell 1
  have g2 := hs.ev.cell 2
  simp at g0 g1 g2
  obtain ⟨cs, hcs, hv⟩ := hs.vals
  obtain ⟨k, n, h0, h1, h2⟩ := hv i hi
  have p0 : w.cell? ⟨vb, i * 2, none⟩ = some (.bool k) := (hcs.cell _).trans h0
  have p1 : w.cell? ⟨vb, i * 2 + 1, none⟩ = some (.int .u64 n) := (hcs.cell _).trans h1
  have i1 : (i : Int) < N := by omega
  have i2 : (i : Int) < len := by have := hll.out; omega
  have HS := hid hs
  have HERR := hid (wrt_err (l := l) (names := names) (i := i))
  obtain ⟨b, off, rfl, hbb, c0, c1, c2, c3, c4, hv'⟩ := hst.below hs.bw i hil
  have HEV := hid EV
  clear hs hcs hv h0 h1 EV
  cases k with
  | true =>
    have HW := hid (h2 rfl)
    clear h2 hv'
    go_enter Tryz.func21, Tryz.ntmps21
    go_wp2
    go_returns
    exact ⟨by rw [HW.out]; rfl, HS.out, Keeps.refl _ _⟩
  | false =>
    clear h2 hv'
    obtain ⟨⟨o, nm, m, x, y⟩, hx⟩ : ∃ q, l[i] = q := ⟨_, rfl⟩
    rw [hx] at c0 c1 c2 c3 c4 HEV
    simp only at c0 c1 c2 c3 c4 HEV
    go_enter Tryz.func21, Tryz.ntmps21
    go_wp2_with fail
    refine (HEV.out _ HS.out).mono ?_
    rintro e w2 ⟨rfl, hs2, hk2⟩
    have HS2 := hid hs2
    have HK2 := hid hk2
    have e2 := hs2.ev.cell 2
    simp at e2
    obtain ⟨cs2, hcs2, hv2⟩ := hs2.vals
    obtain ⟨k2, n2, q0, q1, _⟩ := hv2 i hi
    have p02 : w2.cell? ⟨vb, i * 2, none⟩ = some (.bool k2) := (hcs2.cell _).trans q0
    have p12 : w2.cell? ⟨vb, i * 2 + 1, none⟩ = some (.int .u64 n2) := (hcs2.cell _).trans q1
    have f0 := hcs2.frozen (i * 2)
    have f1 := hcs2.frozen (i * 2 + 1)
    clear hs2 hk2 hcs2 hv2 q0 q1
    generalize hp : wrt l names i = p at *
    obtain ⟨m2, er⟩ := p
    by_cases d : er = 0
    · subst d
      have HSET := hid (HS2.out.set i hi m2 hp)
      have HKS := hid ((HK2.out.setCell (p := ⟨vb, i * 2, none⟩) (.inl rfl) (.bool true)).setCell (p := ⟨vb, i * 2 + 1, none⟩) (.inl rfl) (.int .u64 m2))
      clear hp HERR
      go_wp2
      go_returns
      exact ⟨rfl, HSET.out, HKS.out⟩
    · have td : (er != 0) = true := by simpa using d
      have hz : m2 = 0 := HERR.out d
      subst hz
      go_wp2
      go_returns
      exact ⟨rfl, HS2.out, HK2.out⟩
theorem value_any (w0 : World) (g vb : Nat) (a : Option Addr) (len cap : Nat) (na : Option Addr) (nlen ncap N : Nat) (l : List ExpR) (names : List BindR) (hc : checkB l = true) (hlen : len ≤ 9223372036854775807) (hll : Hid (l.length = len)) (hst : ExpAt w0 a l) (hnl : nlen ≤ 9223372036854775807) (hnn : Hid (names.length = nlen)) (hbn : BndAt w0 na names) (hN : N ≤ l.length) :
    ∀ (m i : Nat), i < m → i < N → ∀ w, EvS w0 w g vb a len cap na nlen ncap N l names → Calls Tryz.prog 21 #[.pointer (some ⟨g, 0, none⟩), .int .i64 i] w (EvP w0 w g vb a len cap na nlen ncap N l names (wrt l names i))
  | 0, i, h, _ => by omega
  | m + 1, i, h, hi => fun w hs => by
    have hil : i < l.length := Nat.lt_of_lt_of_le hi hN
    obtain ⟨_, _, _, _, _, _, _, _, _, hok⟩ := hst i hil
    exact value_step w0 g vb a len cap na nlen ncap N l names hc hlen hll hst hN i hi (fun W hW => evaluate_any w0 g vb a len cap na nlen ncap N l names hc hnl hnn hbn i hil hok (fun j hj W' hW' => value_any w0 g vb a len cap na nlen ncap N l names hc hlen hll hst hnl hnn hbn hN m j (by omega) (by omega) W' hW') W hW) w hs
/-- A list and an index into it. -/
def idxE (l : List ExpR) (i : Int) : Int := if checkB l then (if 0 ≤ i ∧ i < l.length then 0 else 1) else 9
/-- What Eval answers. -/
def evalX (l : List ExpR) (i : Int) (names : List BindR) : Nat × Int := if idxE l i = 0 then wrt l names i.toNat else (0, idxE l i)
set_option maxRecDepth 100000 in
set_option maxHeartbeats 4000000 in
theorem checkIndex_any (a : Option Addr) (len cap : Nat) (hlen : len ≤ 9223372036854775807) (l : List ExpR) (hll : Hid (l.length = len)) (i : Int) (w : World) (hst : ExpAt w a l) (hS : SgnAt w) :
    Calls Tryz.prog 20 #[.slice a len cap, .int .i64 i] w fun e w' => e = .returned (.int .i64 (idxE l i)) ∧ Bw w w' := by
  have HC := hid (check_any a len cap hlen l hll w hst hS)
  have HX := hid (show checkX l = if checkB l then 0 else 9 from rfl)
  have HI := hid (show idxE l i = if checkB l then (if 0 ≤ i ∧ i < l.length then 0 else 1) else 9 from rfl)
  clear hst hS
  go_enter Tryz.func20, Tryz.ntmps20
  go_wp2_with fail
  refine HC.out.mono ?_
  rintro e w2 ⟨rfl, hb⟩
  have HB := hid hb
  clear hb
  cases hB : checkB l with
  | false =>
    rw [hB] at HX HI
    have hx : checkX l = 9 := HX.out
    have HI2 := hid (show idxE l i = 9 from HI.out)
    rw [hx]
    clear hB hx HI HX
    go_wp2
    go_returns
    exact ⟨by rw [HI2.out]; rfl, HB.out⟩
  | true =>
    rw [hB] at HX HI
    have hx : checkX l = 0 := HX.out
    rw [hx, ]
    have HI2 := hid (show idxE l i = (if 0 ≤ i ∧ i < l.length then 0 else 1) from HI.out)
    rw [hll.out] at HI2
    clear hB hx HI HX
    by_cases h0 : 0 ≤ i
    · have h0n : ¬ i < 0 := by omega
      by_cases h1 : i < len
      · have h1n : ¬ (len : Int) ≤ i := by omega
        have HI3 := hid (HI2.out.trans (if_pos ⟨h0, h1⟩))
        go_wp2
        go_returns
        exact ⟨by rw [HI3.out]; rfl, by first | exact HB.out | exact HB.out.drewN 1⟩
      · have h1n : (len : Int) ≤ i := by omega
        have HI3 := hid (HI2.out.trans (if_neg (fun h => h1 h.2)))
        go_wp2
        go_returns
        exact ⟨by rw [HI3.out]; rfl, by first | exact HB.out | exact HB.out.drewN 1⟩
    · have h0n : i < 0 := by omega
      have HI3 := hid (HI2.out.trans (if_neg (fun h => h0 h.1)))
      go_wp2
      go_returns
      exact ⟨by rw [HI3.out]; rfl, by first | exact HB.out | exact HB.out.drewN 1⟩
end Go.Proofs.YtlilmidffcmkjaaGreatDoor
