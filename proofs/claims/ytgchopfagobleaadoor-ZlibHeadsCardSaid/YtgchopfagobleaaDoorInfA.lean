/- The inflater in memory; what its small methods do (contracts of the methods). -/
import Derived.Test.YtgchopfagobleaaDoorKT
import Derived.Test.YtgchopfagobleaaDoorInfP
import Derived.Test.YtgchopfagobleaaDoorHufV
import Derived.Test.YtgchopfagobleaaDoorBitRB
import Derived.Test.YtgchopfagobleaaDoorRowB
namespace Go.Proofs.YtgchopfagobleaaDoor
open Go.RowKit
set_option linter.unusedVariables false
/-- The kinds of blocks that the inflater's methods write. -/
abbrev TI : List TypeId := [37, 62, 5]
abbrev pan (e : Int) : Ending := .panicked [{ v := .iface 23 (.int .i64 e), recovered := false }]
theorem KT.tab {T : List TypeId} {B D tb : Nat} {l : List Int} {w w' : World} (h : KT T B w w') (k : TabOf w D tb l) (h1 : 118 ∉ T) (h2 : 122 ∉ T) : TabOf w' D tb l := by
  obtain ⟨P, a1, a2, a3, v, a4, a5⟩ := k
  exact ⟨P, a1, a2, a3, v, h.has a4 h1, h.own a5 h2⟩
/-- The program's three tables. -/
structure CellsAt (w : World) (B g n : Nat) (f : Nat → Value) : Prop where
  lt : g < B
  cell : ∀ i, i < n → w.cell? ⟨g, i, none⟩ = some (f i)
theorem CellsAt.kt {T : List TypeId} {B D g n : Nat} {f : Nat → Value} {w w' : World} (h : CellsAt w B g n f) (hk : KT T D w w') (hB : B ≤ D) : CellsAt w' B g n f := by
  refine ⟨h.lt, fun i hi => ?_⟩
  have hc := h.cell i hi
  have := h.lt
  exact (World.cell?_of_block (hk.block g (cell_lt hc) (.inl (by omega)))).trans hc
def lenC (i : Nat) : Value := .int .i64 ((if i % 2 = 0 then (lenR (i / 2)).1 else (lenR (i / 2)).2 : Nat) : Int)
def distC (i : Nat) : Value := .int .i64 ((if i % 2 = 0 then (distR (i / 2)).1 else (distR (i / 2)).2 : Nat) : Int)
def ordC (i : Nat) : Value := .int .i64 (ordL.getD i 0 : Nat)
structure Tabs (B : Nat) (w : World) : Prop where
  len : CellsAt w B 1 58 lenC
  dist : CellsAt w B 2 60 distC
  ord : CellsAt w B 0 19 ordC
theorem Tabs.kt {T : List TypeId} {B D : Nat} {w w' : World} (h : Tabs B w) (hk : KT T D w w') (hB : B ≤ D) : Tabs B w' := ⟨h.len.kt hk hB, h.dist.kt hk hB, h.ord.kt hk hB⟩
theorem Tabs.lens {B : Nat} {w : World} (h : Tabs B w) (i : Nat) (hi : i < 29) : w.cell? ⟨1, i * 2, none⟩ = some (.int .i64 ((lenR i).1 : Nat)) ∧ w.cell? ⟨1, i * 2 + 1, none⟩ = some (.int .i64 ((lenR i).2 : Nat)) := by
  have h1 := h.len.cell (i * 2) (by omega)
  have h2 := h.len.cell (i * 2 + 1) (by omega)
  unfold lenC at h1 h2
  rw [if_pos (by omega), show i * 2 / 2 = i by omega] at h1
  rw [if_neg (by omega), show (i * 2 + 1) / 2 = i by omega] at h2
  exact ⟨h1, h2⟩
theorem Tabs.dists {B : Nat} {w : World} (h : Tabs B w) (i : Nat) (hi : i < 30) : w.cell? ⟨2, i * 2, none⟩ = some (.int .i64 ((distR i).1 : Nat)) ∧ w.cell? ⟨2, i * 2 + 1, none⟩ = some (.int .i64 ((distR i).2 : Nat)) := by
  have h1 := h.dist.cell (i * 2) (by omega)
  have h2 := h.dist.cell (i * 2 + 1) (by omega)
  unfold distC at h1 h2
  rw [if_pos (by omega), show i * 2 / 2 = i by omega] at h1
  rw [if_neg (by omega), show (i * 2 + 1) / 2 = i by omega] at h2
  exact ⟨h1, h2⟩
/-- The tables of the fixed codes, once they are made. -/
def FixAt (w : World) (B : Nat) (pl pd : Option Addr) : Prop := (pl = none ∧ pd = none) ∨ ∃ tl td : Nat, pl = some ⟨tl, 0, none⟩ ∧ pd = some ⟨td, 0, none⟩ ∧ TabOf w B tl fixL ∧ TabOf w B td fixD
/-- The inflater at fb, its reader at g. -/
structure Inf (B : Nat) (w : World) (fb g : Nat) (s : ByteArray) (k : Nat) (out : List UInt8) (lim : Nat) (v : Value) (pl pd : Option Addr) : Prop where
  has : Has w fb 37 #[.pointer (some ⟨g, 0, none⟩), v, .int .i64 lim, .pointer pl, .pointer pd]
  rd : Rd w g s k
  own : w.ownsRow B 5 1 v out.length (bcs out)
  fix : FixAt w B pl pd
  fb : B ≤ fb
  gb : B ≤ g
  k8 : k ≤ 8 * s.size
  few : out.length ≤ lim
  tabs : Tabs B w
section
variable {B : Nat} {w w' : World} {fb g : Nat} {s : ByteArray} {k : Nat} {out : List UInt8} {lim : Nat} {v : Value} {pl pd : Option Addr}
theorem Inf.ne (h : Inf B w fb g s k out lim v pl pd) : fb ≠ g := fun e => by
  have h1 := h.has
  have h2 : Has w g _ _ := h.rd
  subst e
  unfold Has at h1 h2
  rw [h1] at h2
  injection h2 with h2
  injection h2 with _ h2
  exact absurd h2 (by decide)
theorem KT.of_rd {g : Nat} {s : ByteArray} {k : Nat} (h : Rd w g s k) (hB : B ≤ g) (hk : Keeps (· = g) w w') : KT TI B w w' :=
  KT.of_keeps hk fun i _ e => by subst e; exact ⟨hB, Has.hot (show Has w i _ _ from h) (by decide)⟩
theorem FixAt.kt {T : List TypeId} {D : Nat} (h : FixAt w B pl pd) (hk : KT T D w w') (h1 : 118 ∉ T) (h2 : 122 ∉ T) : FixAt w' B pl pd := by
  rcases h with h | ⟨tl, td, e1, e2, a, b⟩
  · exact .inl h
  · exact .inr ⟨tl, td, e1, e2, hk.tab a h1 h2, hk.tab b h1 h2⟩
/-- The reader alone went on. -/
theorem Inf.read (h : Inf B w fb g s k out lim v pl pd) {k' : Nat} (hr : Rd w' g s k') (hk : Keeps (· = g) w w') (h8 : k' ≤ 8 * s.size) : Inf B w' fb g s k' out lim v pl pd :=
  ⟨hk.has h.has h.ne, hr, own_keep h.own fun b hb => hk.block b (own_lt h.own hb) fun e => by subst e; exact own_ne_has h.own h.rd (by decide) hb,
    h.fix.kt (KT.of_rd h.rd h.gb hk) (by decide) (by decide), h.fb, h.gb, h8, h.few, h.tabs.kt (KT.of_rd h.rd h.gb hk) (Nat.le_refl _)⟩
theorem Inf.bw (h : Inf B w fb g s k out lim v pl pd) (hb : Bw w w') : Inf B w' fb g s k out lim v pl pd :=
  ⟨hb.has h.has, hb.has h.rd, hb.own h.own, h.fix.kt (T := []) (D := 0) (KT.of_bw hb) (by decide) (by decide), h.fb, h.gb, h.k8, h.few, h.tabs.kt (T := []) (D := B) (KT.of_bw hb) (Nat.le_refl _)⟩
end
/-- What a call that reads, or panics, leaves: where good holds, a value and the reader further on; else a panic. -/
def RdPost (B : Nat) (w : World) (fb g : Nat) (s : ByteArray) (out : List UInt8) (lim : Nat) (v : Value) (pl pd : Option Addr) (er : Int) (x : Value) (k' : Nat) (e : Ending) (w' : World) : Prop :=
  KT TI B w w' ∧ (er = 0 → e = .returned x ∧ Inf B w' fb g s k' out lim v pl pd) ∧ (er ≠ 0 → e = pan er)
set_option maxHeartbeats 400000 in
theorem icheck_ok (w : World) : Calls Tryd.prog 52 #[.int .i64 0] w fun e w' => e = .returned (.tuple #[]) ∧ w' = w := by
  go_enter Tryd.func52, Tryd.ntmps52
  go_wp2
  go_returns
  exact ⟨rfl, rfl⟩
set_option maxHeartbeats 400000 in
theorem icheck_bad (er : Int) (h : er ≠ 0) (w : World) : Calls Tryd.prog 52 #[.int .i64 er] w fun e w' => e = pan er ∧ w' = w := by
  have h1 : (er != 0) = true := by simpa using h
  go_enter Tryd.func52, Tryd.ntmps52
  go_wp2
  exact ⟨rfl, rfl, rfl⟩
set_option maxHeartbeats 400000 in
theorem demand_ok (w : World) : Calls Tryd.prog 54 #[.bool true] w fun e w' => e = .returned (.tuple #[]) ∧ w' = w := by
  go_enter Tryd.func54, Tryd.ntmps54
  go_wp2
  go_returns
  exact ⟨rfl, rfl⟩
set_option maxHeartbeats 400000 in
theorem demand_bad (w : World) : Calls Tryd.prog 54 #[.bool false] w fun e w' => e = pan 3 ∧ w' = w := by
  go_enter Tryd.func54, Tryd.ntmps54
  go_wp2
  exact ⟨rfl, rfl, rfl⟩
section
variable {B : Nat} {w : World} {fb g : Nat} {s : ByteArray} {k : Nat} {out : List UInt8} {lim : Nat} {v : Value} {pl pd : Option Addr}
set_option maxHeartbeats 1000000 in
theorem number_ok (hs : s.size ≤ 281474976710656) (n : Nat) (hn : n ≤ 32) (hk : k + n ≤ 8 * s.size) (h : Inf B w fb g s k out lim v pl pd) :
    Calls Tryd.prog 36 #[.pointer (some ⟨fb, 0, none⟩), .int .i64 n] w fun e w' => e = .returned (.int .i64 (bv s k n : Nat)) ∧ Inf B w' fb g s (k + n) out lim v pl pd ∧ KT TI B w w' := by
  have c0 : w.cell? ⟨fb, 0, none⟩ = some (.pointer (some ⟨g, 0, none⟩)) := h.has.cell 0
  have HB := hid (bits_any g s hs k h.k8 n w h.rd)
  obtain ⟨e1, e2, e3⟩ := bits_good n hn s k hk
  unfold BitsPost at HB
  rw [e1, e2, e3] at HB
  have hb := bv_lt32 s k n hn
  have HI := hid h
  clear h e1 e2 e3
  go_enter Tryd.func36, Tryd.ntmps36
  go_wp2_with fail
  refine HB.out.mono ?_
  rintro e w2 ⟨rfl, hr, hk2⟩
  have HI2 := hid (HI.out.read hr hk2 hk)
  have HK := hid (KT.of_rd HI.out.rd HI.out.gb hk2)
  clear hr hk2
  go_wp2_with fail
  refine (icheck_ok _).mono ?_
  rintro e w3 ⟨rfl, rfl⟩
  go_wp2
  go_returns
  exact ⟨rfl, HI2.out, HK.out⟩
set_option maxHeartbeats 1000000 in
theorem number_bad (hs : s.size ≤ 281474976710656) (n : Nat) (hn : n ≤ 32) (hk : ¬ k + n ≤ 8 * s.size) (h : Inf B w fb g s k out lim v pl pd) :
    Calls Tryd.prog 36 #[.pointer (some ⟨fb, 0, none⟩), .int .i64 n] w fun e w' => e = pan 2 ∧ KT TI B w w' := by
  have c0 : w.cell? ⟨fb, 0, none⟩ = some (.pointer (some ⟨g, 0, none⟩)) := h.has.cell 0
  have HB := hid (bits_any g s hs k h.k8 n w h.rd)
  obtain ⟨e1, e2, e3⟩ := bits_short (n := n) (decide_eq_true ⟨by omega, by omega⟩) s k (by omega)
  unfold BitsPost at HB
  rw [e1, e2, e3] at HB
  have HI := hid h
  clear h e1 e2 e3 hk
  go_enter Tryd.func36, Tryd.ntmps36
  go_wp2_with fail
  refine HB.out.mono ?_
  rintro e w2 ⟨rfl, hr, hk2⟩
  have HK := hid (KT.of_rd HI.out.rd HI.out.gb hk2)
  clear hr hk2
  go_wp2_with fail
  refine (icheck_bad 2 (by decide) _).mono ?_
  rintro e w3 ⟨rfl, rfl⟩
  exact ⟨rfl, rfl, HK.out⟩
end
end Go.Proofs.YtgchopfagobleaaDoor
