/- New (contract of the function). -/
import Derived.Test.YtcacnidlfjglbaaHufT
namespace Go.Proofs.Ytcacnidlfjglbaa
open Go.RowKit Go.Conc
set_option linter.unusedVariables false
/-- The table of a code. -/
def TabOf (w : World) (B tb : Nat) (l : List Int) : Prop := ∃ P, TreeK l l.length P ∧ P.length ≤ 4800 ∧ B ≤ tb ∧ TabAt B w tb P (lfK l l.length)
theorem own_base {w : World} {B B' t size n : Nat} {v : Value} {xs : List Value} (h : w.ownsRow B t size v n xs) (hB : B' ≤ B) : w.ownsRow B' t size v n xs := by
  refine ⟨h.1, ?_⟩
  rcases h.2 with ⟨e, h0⟩ | ⟨g, cap, cur, e, h1, h2⟩
  · exact .inl ⟨e, h0⟩
  · exact .inr ⟨g, cap, cur, e, Nat.le_trans hB h1, h2⟩
theorem TabAt.bw {B tb : Nat} {P : List Path} {lf : Path → Option Nat} {w w' : World} (h : TabAt B w tb P lf) (hb : Bw w w') : TabAt B w' tb P lf := by
  obtain ⟨v, h1, h2⟩ := h
  exact ⟨v, hb.has h1, hb.own h2⟩
theorem TabOf.bw {B tb : Nat} {l : List Int} {w w' : World} (h : TabOf w B tb l) (hb : Bw w w') : TabOf w' B tb l := by
  obtain ⟨P, h1, h2, h3, h4⟩ := h
  exact ⟨P, h1, h2, h3, h4.bw hb⟩
theorem treeK_put {l : List Int} (hc : IsCode l) {k : Nat} (hk : 0 < lenF l k) {P P' : List Path} (h : TreeK l k P) (hT : TreeOk P' (lfPut (lfK l k) (lenF l k, codeF l k) k)) (hW : WayIn P' P (lenF l k) (codeF l k)) : TreeK l (k + 1) P' := by
  refine ⟨by rw [lfK_put hc hk]; exact hT, fun p => (hW p).trans ?_⟩
  rw [h.mem p]
  constructor
  · rintro (⟨i, hi, h1, h2⟩ | ⟨h1, h2⟩)
    · exact ⟨i, by omega, h1, h2⟩
    · exact ⟨k, by omega, h1, h2.symm⟩
  · rintro ⟨i, hi, h1, h2⟩
    by_cases e : i = k
    · subst e; exact .inr ⟨h1, h2.symm⟩
    · exact .inl ⟨i, by omega, h1, h2⟩
set_option maxRecDepth 100000 in
set_option maxHeartbeats 4000000 in
theorem new_bad (a : Option Addr) (len cap : Nat) (l : List Int) (hll : Hid (l.length = len)) (hE : checkE l ≠ 0) (w : World) (hst : ZsAt w a l) :
    Calls Try.prog 13 #[.slice a len cap] w fun e w' => e = .returned (.tuple #[.pointer none, .int .i64 (checkE l)]) ∧ Bw w w' := by
  have HC := hid (codes_bad a len cap l hll hE w hst)
  generalize checkE l = ce at *
  have hne : (ce != 0) = true := by simpa using hE
  clear hst
  go_enter Try.func13, Try.ntmps13
  go_wp2_with fail
  refine HC.out.mono ?_
  rintro e w2 ⟨rfl, hb⟩
  have HB := hid hb
  clear hb
  go_wp2
  go_returns
  exact ⟨rfl, HB.out⟩
set_option maxRecDepth 100000 in
set_option maxHeartbeats 8000000 in
theorem new_ok (a : Option Addr) (len cap : Nat) (l : List Int) (hll : Hid (l.length = len)) (hE : checkE l = 0) (w : World) (hst : ZsAt w a l) :
    Calls Try.prog 13 #[.slice a len cap] w fun e w' => ∃ tb : Nat, e = .returned (.tuple #[.pointer (some ⟨tb, 0, none⟩), .int .i64 0]) ∧ w.heap.size ≤ tb ∧ TabOf w' w.heap.size tb l ∧ Bw w w' := by
  have HC := hid (codes_ok a len cap l hll hE w hst)
  have hco := IsCode.of_check hE
  have hl320 : len ≤ 320 := by rw [← hll.out]; exact hco.few
  have HCO := hid hco
  have HST := hid hst
  clear hE hst hco
  go_enter Try.func13, Try.ntmps13
  go_wp2_with fail
  refine HC.out.mono ?_
  rintro e w2 ⟨rb, rfl, hrb, hcodes, hb⟩
  have HB := hid hb
  have HCD := hid hcodes
  have hrl := hcodes.lt
  have hws := hb.size
  clear hb hcodes HC
  go_wp2_with fail
  have HT0 := hid (Has.new w2 54 #[.slice none 0 0])
  have HBW := hid (Below.alloc (Below.refl w2.heap.size w2) (Nat.le_refl _) (.cells #[.slice none 0 0] 54))
  obtain ⟨nb, hnb⟩ : ∃ nb, w2.heap.size = nb := ⟨_, rfl⟩
  rw [hnb] at HT0 HBW hws hrl ⊢
  have HNB := hid hnb
  clear hnb
  generalize w2.alloc (.cells #[.slice none 0 0] 54) = W3 at *
  go_loopw [21] (fun i wr => ∃ (k : Nat) (P : List Path), k ≤ len ∧ i = .int .i64 k ∧ TreeK l k P ∧ P.length ≤ 15 * k ∧ TabAt nb wr nb P (lfK l k) ∧ Below nb w2 wr) (fun i _ => len - (intOf i).toNat)
  case atStart => exact ⟨0, [], Nat.zero_le _, rfl, treeK_zero l, Nat.le_refl _, ⟨_, HT0.out, World.ownsRow_nil _ _ _ _⟩, HBW.out⟩
  case round =>
    clear HT0 HBW
    obtain ⟨k, P, hk, rfl, hT, hlen, hTab, hbe⟩ := hrel
    have hbw : Bw w wr := HB.out.trans (by have h := HNB.out; subst h; exact hbe)
    have HT := hid hT
    have HTab := hid hTab
    have HBE := hid hbe
    have HBW := hid hbw
    clear hT hTab
    by_cases hlt : k < len
    · have hlti : (k : Int) < len := by omega
      have hkl : k < l.length := by rw [hll.out]; omega
      obtain ⟨hx15, hxe⟩ := HCO.out.len k
      have hgd : l.getD k 0 = l[k] := by simp [List.getD, hkl]
      obtain ⟨b, off, rfl, hbl, q0⟩ := HST.out k hkl
      have x0 : wr.cell? ⟨b, off + k, none⟩ = some (.int .i64 (lenF l k : Nat)) := by
        rw [← hxe, hgd]
        exact (World.cell?_of_block (hbw.block b hbl)).trans q0
      have cc : wr.cell? ⟨rb, k, none⟩ = some (.int .i64 (codeF l k : Nat)) := by
        have h1 := (HCD.out.below hbe hrl).cell k
        rw [cArr_get l len len k hlt, if_pos hlt] at h1
        exact h1
      clear q0 hgd hxe hkl hbw hbe
      by_cases h0 : lenF l k = 0
      · have HS := hid (treeK_skip HT.out h0)
        have HL := hid (lfK_skip h0)
        rw [h0] at x0
        clear h0 hx15
        go_wp2
        go_roundw
        case rel => exact ⟨k + 1, P, by omega, by go_num, HS.out, by omega, by rw [HL.out]; exact HTab.out, HBE.out⟩
        case measure => simp [intOf]; omega
      · have hn0 : 0 < lenF l k := by omega
        have HA := hid (add_any nb nb k (codeF l k) (lenF l k) P (lfK l k) HT.out.ok hx15 hn0 (code_lt HCO.out hn0) (by omega) (by omega) (fun M h1 h2 => lfK_way HCO.out h1 h2) wr (Nat.le_refl _) HTab.out)
        have HPUT := hid (fun (P' : List Path) (h1 : TreeOk P' (lfPut (lfK l k) (lenF l k, codeF l k) k)) (h2 : WayIn P' P (lenF l k) (codeF l k)) => treeK_put HCO.out hn0 HT.out h1 h2)
        have HLF := hid (lfK_put HCO.out hn0)
        rw [← HLF.out] at HA HPUT
        have hcl := code_lt HCO.out hn0
        have d0 : decide (0 < (lenF l k : Int)) = true := decide_eq_true (by omega)
        generalize codeF l k = c at *
        generalize lenF l k = n at *
        clear h0 hcl
        go_wp2_with fail
        refine HA.out.mono ?_
        rintro e w4 ⟨rfl, P', h1, h2, h3, h4, h5⟩
        have HK := hid (⟨HPUT.out P' h1 h2, h4, Below.trans HBE.out h5⟩ : TreeK l (k + 1) P' ∧ TabAt nb w4 nb P' (lfK l (k + 1)) ∧ Below nb w2 w4)
        clear h1 h2 h4 h5
        go_wp2
        go_roundw
        case rel => exact ⟨k + 1, P', by omega, by go_num, HK.out.1, by omega, HK.out.2.1, HK.out.2.2⟩
        case measure => simp [intOf]; omega
    · obtain rfl : k = len := by omega
      have HTO := hid (show TabOf wr w.heap.size nb l by
        obtain ⟨v, a1, a2⟩ := HTab.out
        refine ⟨P, by rw [hll.out]; exact HT.out, by omega, hws, v, a1, ?_⟩
        rw [hll.out]
        exact own_base a2 hws)
      clear hbw hbe
      go_wp2
      go_returns
      exact ⟨nb, rfl, hws, HTO.out, HBW.out⟩
end Go.Proofs.Ytcacnidlfjglbaa
