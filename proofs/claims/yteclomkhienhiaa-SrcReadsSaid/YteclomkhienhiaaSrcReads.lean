/- SrcReads returns true for every text, script and list of asks, and changes nothing that was there; no condition. -/
import Derived.Test.YteclomkhienhiaaSrxG
import Derived.SizedLaws
import Derived.Deep.QuietTactic
import Derived.ProofKit
import Derived.OpenShut
import Derived.ShutString
import Derived.ChangeOld
namespace Go.Proofs.Yteclomkhienhiaa.srcReads
open Go.RowKit Go.ChangeShapes Go.WideShapes Go.ChangeAt
set_option linter.unusedVariables false
open Go.WideMaps Go.WideElems
open Go.ChangeMaps (open_string shut_string)
theorem quiet_flip {P : Program} {f : FuncId} {xs : Array Value} {w : World} {v : Value} (h : Calls P f xs w fun e w' => e = .returned v ∧ w = w') : Calls P f xs w fun e w' => e = .returned v ∧ w' = w := h.mono fun e w' ⟨a, b⟩ => ⟨a, b.symm⟩
theorem str_le {s : ByteArray} (h : s.data.toList.length ≤ reachBytes) : s.size ≤ 140737488351232 := by
  have h4 : s.size = s.data.toList.length := by simp
  have h5 : reachBytes = 140737488351232 := by decide
  omega
section
variable {H : Type} {enc : TypeId × Value → H} {w : World} {base : Nat} {spare : Nat → Bool} {held : Bool}
theorem open_steps2 {n : Nat} {u : Value} {y : DataW H × List MemPlace} (h : DataW.trod enc Try.prog w base spare held n 22 [u] = some y) :
    ∃ (a : Option Addr) (len cap : Nat) (l : List (Int × Int)), u = .slice a len cap ∧ (a = none → cap = 0) ∧ l.length = len ∧ StepsAt w a l := by
  obtain ⟨a, len, cap, l, rfl, h2, h3⟩ := open_steps h
  refine ⟨a, len, cap, l, rfl, fun e => ?_, h2, h3⟩
  subst e
  rcases Go.Deep.open_slice Try.underlying22 h with ⟨hcs, _⟩ | ⟨b, len', cap', mm, nn, D, Pl, hcs, _⟩
  · simp only [List.cons.injEq, and_true] at hcs
    injection hcs
  · simp only [List.cons.injEq, and_true] at hcs
    injection hcs with h1
    cases h1
theorem steps_len {n : Nat} {a : Option Addr} {len cap : Nat} {d : DataW H} {pl : List MemPlace} {ts : List TypeId} {ds : List (DataW H)} {j : Nat} (hsz : (DataW.weightsEach Try.prog ts ds).all (· ≤ reachBytes) = true) (ht : ts[j]? = some 22) (hd : ds[j]? = some d)
    (h : DataW.trod enc Try.prog w base spare held n 22 [.slice a len cap] = some (d, pl)) : len * 16 ≤ 140737488355328 := by
  have hr : reachBytes = 140737488351232 := by decide
  have hb : Try.prog.bytesOf 33 = 16 := by kernel_rfl
  rcases Go.Deep.open_slice Try.underlying22 h with ⟨hcs, _⟩ | ⟨b, len', cap', mm, nn, D, Pl, hcs, _, _, _, _, hx, _⟩
  · simp only [List.cons.injEq, and_true] at hcs
    injection hcs with _ h2 _
    omega
  · simp only [List.cons.injEq, and_true] at hcs
    injection hcs with _ h2 _
    simp only [Prod.mk.injEq] at hx
    obtain ⟨hx1, _⟩ := hx
    subst hx1
    have := sized_slice hsz ht hd Try.underlying22
    rw [hb, hr] at this
    simp only [List.length_map, List.length_range] at this
    omega
end
/-- Both sources, each with its own blocks. -/
structure Two (w : World) (s : ByteArray) (g1 g2 : Nat) (F1 F2 : Nat → Prop) (l : List (Int × Int)) (sp : List (Nat × Nat)) (wr : World) : Prop where
  a : SrcF F1 wr g1 s l sp
  b : Srx F2 wr g2 s l sp
  lt1 : ∀ i, F1 i → i < wr.heap.size
  lt2 : ∀ i, F2 i → i < wr.heap.size
  apart : ∀ i, F1 i → ¬ F2 i
  new1 : ∀ i, F1 i → w.heap.size ≤ i
  new2 : ∀ i, F2 i → w.heap.size ≤ i
  bel : Below w.heap.size w wr
theorem Two.keep {w : World} {s : ByteArray} {g1 g2 : Nat} {F1 F2 G : Nat → Prop} {l : List (Int × Int)} {sp : List (Nat × Nat)} {wr w' : World} (h : Two w s g1 g2 F1 F2 l sp wr) (hk : Keeps G wr w') (k1 : ∀ i, F1 i → ¬ G i) (k2 : ∀ i, F2 i → ¬ G i) (k3 : ∀ i, G i → w.heap.size ≤ i) : Two w s g1 g2 F1 F2 l sp w' :=
  ⟨h.a.keep hk k1, h.b.keep hk k2, fun i hi => Nat.lt_of_lt_of_le (h.lt1 i hi) hk.size, fun i hi => Nat.lt_of_lt_of_le (h.lt2 i hi) hk.size, h.apart, h.new1, h.new2, h.bel.trans (hk.below h.bel.size k3)⟩
theorem Two.bw {w : World} {s : ByteArray} {g1 g2 : Nat} {F1 F2 : Nat → Prop} {l : List (Int × Int)} {sp : List (Nat × Nat)} {wr w' : World} (h : Two w s g1 g2 F1 F2 l sp wr) (hk : Bw wr w') : Two w s g1 g2 F1 F2 l sp w' :=
  h.keep (Keeps.of_bw (F := fun _ => False) hk) (fun _ _ h => h) (fun _ _ h => h) (fun _ h => h.elim)
theorem Two.step {w : World} {s : ByteArray} {g1 g2 : Nat} {F1 F2 G1 G2 : Nat → Prop} {l l2 : List (Int × Int)} {sp sp2 : List (Nat × Nat)} {wr w2 w3 : World} (h : Two w s g1 g2 F1 F2 l sp wr) (h1 : SrcF G1 w2 g1 s l2 sp2) (h2 : ∀ i, G1 i → i < w2.heap.size) (h3 : Keeps F1 wr w2) (h4 : ∀ i, G1 i → F1 i ∨ wr.heap.size ≤ i)
    (k1 : Srx G2 w3 g2 s l2 sp2) (k3 : Keeps F2 w2 w3) (k4 : ∀ i, G2 i → F2 i ∨ w2.heap.size ≤ i) : Two w s g1 g2 G1 G2 l2 sp2 w3 := by
  have hz := h.bel.size
  have hz2 := h3.size
  have hz3 := k3.size
  have d1 : ∀ i, G1 i → ¬ F2 i := fun i hi hf => by
    rcases h4 i hi with h5 | h5
    · exact h.apart i h5 hf
    · have := h.lt2 i hf; omega
  refine ⟨h1.keep k3 d1, k1, fun i hi => Nat.lt_of_lt_of_le (h2 i hi) hz3, fun i hi => ?_, fun i hi hf => ?_, fun i hi => ?_, fun i hi => ?_, (h.bel.trans (h3.below hz h.new1)).trans (k3.below (by omega) h.new2)⟩
  · obtain ⟨_, _, _, _, _, _, _, h5⟩ := k1
    exact h5 i hi
  · rcases k4 i hf with h5 | h5
    · exact d1 i hi h5
    · have := h2 i hi; omega
  · rcases h4 i hi with h5 | h5
    · exact h.new1 i h5
    · omega
  · rcases k4 i hi with h5 | h5
    · exact h.new2 i h5
    · omega
/-- A block of two-cell elements, whatever they hold. -/
def Row2 (w : World) (b : Nat) (t : TypeId) (len : Nat) : Prop := ∃ cs : Array Value, Has w b t cs ∧ len * 2 ≤ cs.size
theorem Row2.cell {w : World} {b : Nat} {t : TypeId} {len : Nat} (h : Row2 w b t len) {j : Nat} (hj : j < len * 2) : ∃ u, w.cell? ⟨b, j, none⟩ = some u := by
  obtain ⟨cs, h1, h2⟩ := h
  exact ⟨cs[j]'(by omega), by rw [h1.cell j, Array.getElem?_eq_getElem]⟩
theorem Row2.frozen {w : World} {b : Nat} {t : TypeId} {len : Nat} (h : Row2 w b t len) (j : Nat) : w.frozen? ⟨b, j, none⟩ = false := h.choose_spec.1.frozen j
theorem Row2.put {w : World} {b : Nat} {t : TypeId} {len : Nat} (h : Row2 w b t len) (j : Nat) (u : Value) : Row2 (w.setCell ⟨b, j, none⟩ u) b t len := by
  obtain ⟨cs, h1, h2⟩ := h
  exact ⟨_, h1.put j u, by simpa using h2⟩
theorem Row2.of_own {w : World} {b : Nat} {t : TypeId} {n cap : Nat} {xs : List Value} (h : w.ownsRow 0 t 2 (.slice (some ⟨b, 0, none⟩) n cap) n xs) : Row2 w b t n := by
  rcases h.2 with ⟨h1, _⟩ | ⟨g, c, cur, h1, _, h2, h3, _, h4, _⟩
  · cases h1
  · injection h1 with e1 _
    have e2 := Option.some.inj e1
    injection e2 with e2
    subst e2
    exact ⟨cur, h2, by rw [h4]; omega⟩
set_option maxRecDepth 100000 in
set_option maxHeartbeats 4000000 in
theorem walk_long (s : ByteArray) (hs : 5000 < s.size) (A : Option Addr) (len cap : Nat) (B : Option Addr) (lenb capb : Nat) (w : World) :
    Calls Try.prog 3 #[.string s, .slice A len cap, .slice B lenb capb] w fun e w' => e = .returned (.bool true) ∧ Bw w w' := by
  go_enter Try.func3, Try.ntmps3
  go_wp2_with fail
  refine (live2_any _).mono ?_
  rintro e w9 ⟨rfl, h9⟩
  go_wp2
  go_returns
  exact ⟨rfl, h9⟩
set_option maxRecDepth 100000 in
set_option maxHeartbeats 4000000 in
theorem walk_bad (s : ByteArray) (hs : s.size ≤ 5000) (A : Option Addr) (len cap : Nat) (hlen : len * 16 ≤ 140737488355328) (hA : A = none → cap = 0) (l : List (Int × Int)) (hll : Hid (l.length = len)) (hok : newOk l = false) (B : Option Addr) (lenb capb : Nat) (w : World) (hst : StepsAt w A l) :
    Calls Try.prog 3 #[.string s, .slice A len cap, .slice B lenb capb] w fun e w' => e = .returned (.bool true) ∧ Bw w w' := by
  have HST := hid hst
  have HA := hid hA
  have HOK := hid hok
  clear hst hA hok
  go_enter Try.func3, Try.ntmps3
  go_wp2_with (at_builtin; refine wpList_app_steps rfl _ _ rfl rfl rfl HA.out HST.out hll.out hlen ?_; intro v' w5 hown hbw hnew; obtain ⟨ao, cap2, rfl⟩ := own_slice hown; have HO := hid hown; have HB := hid hbw; have HN := hid hnew; clear hown hbw hnew)
  refine (new_any s ao l.length cap2 l rfl _ (steps_own HO.out)).mono ?_
  intro e w1 h0
  unfold NewPost at h0
  rw [HOK.out] at h0
  obtain ⟨rfl, hb1⟩ := h0
  have HB1 := hid (Bw.trans HB.out hb1)
  clear hb1
  go_wp2_with fail
  refine (rnew_bad s A len cap (by omega) l hll HOK.out _ (HST.out.below HB1.out)).mono ?_
  rintro e w2 ⟨rfl, h2⟩
  have HB2 := hid (Bw.trans HB1.out h2)
  clear h2
  go_wp2_with fail
  refine (live2_any _).mono ?_
  rintro e w9 ⟨rfl, h9⟩
  go_wp2
  go_returns
  exact ⟨rfl, Bw.trans HB2.out h9⟩
set_option maxRecDepth 100000 in
set_option maxHeartbeats 8000000 in
theorem walk_good (s : ByteArray) (hs : s.size ≤ 5000) (A : Option Addr) (len cap : Nat) (hlen : len * 16 ≤ 140737488355328) (hA : A = none → cap = 0) (l : List (Int × Int)) (hll : Hid (l.length = len)) (hok : newOk l = true) (B : Option Addr) (lenb capb : Nat) (hlenb : lenb ≤ 9223372036854775807) (q : List AskR) (hlq : Hid (q.length = lenb)) (w : World) (hst : StepsAt w A l) (hq : AsksAt w B q) :
    Calls Try.prog 3 #[.string s, .slice A len cap, .slice B lenb capb] w fun e w' => e = .returned (.bool true) ∧ Bw w w' := by
  have hl1000 : l.length ≤ 1000 := by
    have := newOk_end (newOk_all hok)
    rw [hok] at this
    simpa using this.symm
  have HL1 := hid hl1000
  have HST := hid hst
  have HQ := hid hq
  have HA := hid hA
  have HOK := hid hok
  clear hst hA hok hq hl1000
  go_enter Try.func3, Try.ntmps3
  go_wp2_with (at_builtin; refine wpList_app_steps rfl _ _ rfl rfl rfl HA.out HST.out hll.out hlen ?_; intro v' w5 hown hbw hnew; obtain ⟨ao, cap2, rfl⟩ := own_slice hown; have HO := hid hown; have HB := hid hbw; have HN := hid hnew; clear hown hbw hnew)
  refine (new_any s ao l.length cap2 l rfl _ (steps_own HO.out)).mono ?_
  intro e w1 h0
  obtain ⟨g1, rfl, hF1, hb1⟩ := new_good HOK.out h0
  clear h0
  have HF1 := hid hF1.small
  have HB1 := hid hb1
  have HB01 := hid (Bw.trans HB.out hb1)
  clear hb1 hF1
  go_wp2_with fail
  refine (rnew_good s A len cap HA.out l hll HOK.out _ (HST.out.below HB01.out)).mono ?_
  rintro e w2 ⟨g2, F2, rfl, h2, h2n, h2b⟩
  have HF2 := hid h2
  have H2N := hid h2n
  have H2B := hid h2b
  clear h2 h2n h2b
  go_wp2_with fail
  refine (live2_any _).mono ?_
  rintro e w3 ⟨rfl, h3⟩
  have HT : Hid (Two w s g1 g2 (fun i => w5.heap.size ≤ i ∧ i < w1.heap.size) F2 l [] w3) := by
    have hs5 := HB.out.size
    have hs1 := HB1.out.size
    have hs2 := H2B.out.size
    have hF2l : ∀ i, F2 i → i < w2.heap.size := by obtain ⟨_, _, _, _, _, _, _, h5⟩ := HF2.out; exact h5
    have t0 : Two w s g1 g2 (fun i => w5.heap.size ≤ i ∧ i < w1.heap.size) F2 l [] w2 := ⟨HF1.out.keep (Keeps.of_bw (F := fun _ => False) H2B.out) (fun _ _ h => h), HF2.out, fun i h => by omega, hF2l, fun i h h' => by have := H2N.out i h'; omega, fun i h => by omega, fun i h => by have := H2N.out i h; omega, Bw.trans HB01.out H2B.out⟩
    exact hid (t0.bw h3)
  have hrow : ∀ bo, ao = some ⟨bo, 0, none⟩ → Row2 w3 bo 33 l.length ∧ w.heap.size ≤ bo ∧ bo < w5.heap.size := fun bo e => by
    subst e
    have hr := Row2.of_own HO.out
    obtain ⟨cs, hh, hc⟩ := hr
    exact ⟨⟨cs, h3.has (H2B.out.has (HB1.out.has hh)), hc⟩, HN.out bo rfl, hh.lt⟩
  have hform : l.length = 0 ∨ ∃ bo, ao = some ⟨bo, 0, none⟩ := by
    rcases HO.out.2 with ⟨_, h0⟩ | ⟨g, c2, cur, he, _⟩
    · exact .inl h0
    · injection he with e1 _; exact .inr ⟨g, e1⟩
  have HROW := hid hrow
  have HFORM := hid hform
  have hF2x : ∀ i, F2 i → w5.heap.size ≤ i := fun i h => by have h1 := H2N.out i h; have h2 := HB1.out.size; omega
  have HF2X := hid hF2x
  clear hrow hform h3 hF2x
  go_wp2_with fail
  go_loopw [12] (fun i wr => ∃ j : Nat, j ≤ l.length ∧ i = .int .i64 j ∧ Two w s g1 g2 (fun i => w5.heap.size ≤ i ∧ i < w1.heap.size) F2 l [] wr ∧ ∀ bo, ao = some ⟨bo, 0, none⟩ → Row2 wr bo 33 l.length ∧ w.heap.size ≤ bo ∧ bo < w5.heap.size) (fun i _ => l.length - (intOf i).toNat)
  case atStart => exact ⟨0, Nat.zero_le _, rfl, HT.out, HROW.out⟩
  case round =>
    rename World => wr
    obtain ⟨j, hj, rfl, hT, hR⟩ := hrel
    have HT2 := hid hT
    have HR2 := hid hR
    clear hT hR
    by_cases hlt : j < l.length
    · obtain ⟨bo, rfl⟩ : ∃ bo, ao = some ⟨bo, 0, none⟩ := by
        rcases HFORM.out with h | h
        · omega
        · exact h
      obtain ⟨hrw, hbo1, hbo2⟩ := HR2.out bo rfl
      obtain ⟨u0, c0⟩ := hrw.cell (j := j * 2) (by omega)
      obtain ⟨u1, c1⟩ := hrw.cell (j := j * 2 + 1) (by omega)
      have f0 := hrw.frozen (j * 2)
      have f1 := hrw.frozen (j * 2 + 1)
      have HRW := hid hrw
      have hl1 : l.length ≤ 1000 := HL1.out
      clear hrw
      go_wp2
      go_roundw
      case rel =>
        have hk : Keeps (· = bo) wr _ := (Keeps.of_setCell (w := wr) (F := (· = bo)) (p := ⟨bo, j * 2, none⟩) rfl (.int .i64 2)).setCell (p := ⟨bo, j * 2 + 1, none⟩) (.inl rfl) (.int .i64 0)
        refine ⟨j + 1, by omega, by go_num, HT2.out.keep hk (fun i h e => by omega) (fun i h e => by have := HF2X.out i h; omega) (fun i h => by omega), fun bo' e => ?_⟩
        have e1 := Option.some.inj e
        injection e1 with e1
        subst e1
        exact ⟨(HRW.out.put _ _).put _ _, hbo1, hbo2⟩
      case measure => simp [intOf]; omega
    · have hje : j = l.length := by omega
      subst hje
      have hl1 : l.length ≤ 1000 := HL1.out
      have HOA := hid (newOk_all HOK.out)
      go_wp2_with fail
      go_loopw [13] (fun i wr => ∃ (j : Nat) (l1 : List (Int × Int)) (sp1 : List (Nat × Nat)) (G1 G2 : Nat → Prop), j ≤ lenb ∧ j ≤ 100 ∧ i = .int .i64 j ∧ Two w s g1 g2 G1 G2 l1 sp1 wr ∧ OkAll l1 ∧ l1.length ≤ 1000 ∧ sp1.length ≤ 1001 * j) (fun i _ => lenb - (intOf i).toNat)
      case atStart => exact ⟨0, l, [], _, F2, Nat.zero_le _, Nat.zero_le _, rfl, HT2.out, HOA.out, hl1, by simp⟩
      case round =>
        rename World => wr
        obtain ⟨j, l1, sp1, G1, G2, hj, hj100, rfl, hT, hOk, hl1k, hsp1⟩ := hrel
        have HT3 := hid hT
        have HOk := hid hOk
        clear hT hOk
        by_cases hlt : j < lenb ∧ j < 100
        · obtain ⟨hlt1, hlt2⟩ := hlt
          obtain ⟨b, off, rfl, hbl, c0, c1, c2, hia, hin⟩ := (HQ.out.below HT3.out.bel) j (by rw [hlq.out]; exact hlt1)
          obtain ⟨xa, xn, xf, hx⟩ : ∃ xa xn xf, q[j]'(by rw [hlq.out]; exact hlt1) = ⟨xa, xn, xf⟩ := ⟨_, _, _, rfl⟩
          rw [hx] at c0 c1 c2 hia hin
          simp only at c0 c1 c2 hia hin
          clear hx
          obtain ⟨ha1, ha2⟩ := hia
          obtain ⟨hn1, hn2⟩ := hin
          have hs47 : s.size ≤ 140737488351232 := by omega
          have hbound : sp1.length + l1.length ≤ 999999999 := by omega
          cases xf with
          | true =>
            obtain ⟨V, E, l2, sp2, h1, h2, hl2, hok2, hsp2⟩ : ∃ V E l2 sp2, SrcDoes 12 s l1 sp1 xa xn V E l2 sp2 ∧ SrxDoes 13 s l1 sp1 xa xn V E l2 sp2 ∧ l2.length ≤ l1.length ∧ OkAll l2 ∧ sp2.length ≤ sp1.length + 1001 :=
              ⟨_, _, _, _, src_full s hs47 l1 HOk.out sp1 hbound xa xn ha1 ha2 hn1 hn2, srx_full s hs47 l1 HOk.out sp1 hbound xa xn ha1 ha2 hn1 hn2, (fullAll_l s l1 xa xn sp1).1, (fullAll_l s l1 xa xn sp1).2.1 HOk.out, by have := (fullAll_l s l1 xa xn sp1).2.2; omega⟩
            have H1 := hid h1
            have H2 := hid h2
            have HOK2 := hid hok2
            clear h1 h2 hok2 ha1 ha2 hn1 hn2
            have hT0 := HT3.out.bw ((Bw.refl wr).alloc (.cells #[.int .i64 xa, .int .i64 xn, .bool true] 35))
            have hloc := Has.new wr 35 #[.int .i64 xa, .int .i64 xn, .bool true]
            have HT0 := hid hT0
            have HLOC := hid hloc
            clear hT0 hloc
            go_wp2_with fail
            refine (H1.out G1 g1 _ HT0.out.a HT0.out.lt1).mono ?_
            rintro e w6 ⟨rfl, K1, k1, k2, k3, k4⟩
            have hloc6 : Has w6 wr.heap.size 35 #[.int .i64 xa, .int .i64 xn, .bool true] := k3.has HLOC.out (fun h => by have := HT3.out.lt1 _ h; omega)
            have x0 : w6.cell? ⟨wr.heap.size, 0, none⟩ = some (.int .i64 xa) := hloc6.cell 0
            have x1 : w6.cell? ⟨wr.heap.size, 1, none⟩ = some (.int .i64 xn) := hloc6.cell 1
            have K1' := hid k1
            have K2' := hid k2
            have K3' := hid k3
            have K4' := hid k4
            have hb6 := HT0.out.b.keep k3 (fun i h h' => HT0.out.apart i h' h)
            have HB6 := hid hb6
            clear k1 k2 k3 k4 hloc6 hb6
            go_wp2_with fail
            refine (H2.out G2 g2 _ HB6.out).mono ?_
            rintro e w7 ⟨rfl, K5, k5, k6, k7⟩
            have HT7 := hid (HT0.out.step K1'.out K2'.out K3'.out K4'.out k5 k6 k7)
            clear k5 k6 k7 x0 x1
            obtain ⟨ao3, cap3, rd3, hB3, _⟩ := HT7.out.b
            have y1 : w7.cell? ⟨g2, 1, none⟩ = some (.slice ao3 l2.length cap3) := hB3.blk.cell 1
            have HLEFT := hid (fun (z : Nat) => quiet_flip (left_any K1 g1 s sp2 l2 (w7.drewN z) (HT7.out.a.keep ((Keeps.refl (fun _ => False) w7).drewN z) (fun _ _ h => h))))
            clear hB3
            go_wp2_with fail
            go_quiet ((go_at_call 16; exact Calls.quiet_of_same (HLEFT.out _)))
            go_wp2
            go_roundw
            case rel => exact ⟨j + 1, l2, sp2, K1, K5, by omega, by omega, by go_num, HT7.out.bw ((Bw.refl _).drewN _), HOK2.out, by omega, by omega⟩
            case measure => simp [intOf]; omega
          | false =>
            obtain ⟨V, E, l2, sp2, h1, h2, hl2, hok2, hsp2⟩ : ∃ V E l2 sp2, SrcDoes 14 s l1 sp1 xa xn V E l2 sp2 ∧ SrxDoes 15 s l1 sp1 xa xn V E l2 sp2 ∧ l2.length ≤ l1.length ∧ OkAll l2 ∧ sp2.length ≤ sp1.length + 1001 :=
              ⟨_, _, _, _, src_read s hs47 l1 HOk.out sp1 hbound xa xn ha1 ha2 hn1 hn2, srx_read s hs47 l1 HOk.out sp1 hbound xa xn ha1 ha2 hn1 hn2, (rdAll_l s l1 xa xn).1, (rdAll_l s l1 xa xn).2 HOk.out, by have := rdSp_len sp1 xa.toNat (rdAll s l1 xa xn).1; omega⟩
            have H1 := hid h1
            have H2 := hid h2
            have HOK2 := hid hok2
            clear h1 h2 hok2 ha1 ha2 hn1 hn2
            have hT0 := HT3.out.bw ((Bw.refl wr).alloc (.cells #[.int .i64 xa, .int .i64 xn, .bool false] 35))
            have hloc := Has.new wr 35 #[.int .i64 xa, .int .i64 xn, .bool false]
            have HT0 := hid hT0
            have HLOC := hid hloc
            clear hT0 hloc
            go_wp2_with fail
            refine (H1.out G1 g1 _ HT0.out.a HT0.out.lt1).mono ?_
            rintro e w6 ⟨rfl, K1, k1, k2, k3, k4⟩
            have hloc6 : Has w6 wr.heap.size 35 #[.int .i64 xa, .int .i64 xn, .bool false] := k3.has HLOC.out (fun h => by have := HT3.out.lt1 _ h; omega)
            have x0 : w6.cell? ⟨wr.heap.size, 0, none⟩ = some (.int .i64 xa) := hloc6.cell 0
            have x1 : w6.cell? ⟨wr.heap.size, 1, none⟩ = some (.int .i64 xn) := hloc6.cell 1
            have K1' := hid k1
            have K2' := hid k2
            have K3' := hid k3
            have K4' := hid k4
            have hb6 := HT0.out.b.keep k3 (fun i h h' => HT0.out.apart i h' h)
            have HB6 := hid hb6
            clear k1 k2 k3 k4 hloc6 hb6
            go_wp2_with fail
            refine (H2.out G2 g2 _ HB6.out).mono ?_
            rintro e w7 ⟨rfl, K5, k5, k6, k7⟩
            have HT7 := hid (HT0.out.step K1'.out K2'.out K3'.out K4'.out k5 k6 k7)
            clear k5 k6 k7 x0 x1
            obtain ⟨ao3, cap3, rd3, hB3, _⟩ := HT7.out.b
            have y1 : w7.cell? ⟨g2, 1, none⟩ = some (.slice ao3 l2.length cap3) := hB3.blk.cell 1
            have HLEFT := hid (fun (z : Nat) => quiet_flip (left_any K1 g1 s sp2 l2 (w7.drewN z) (HT7.out.a.keep ((Keeps.refl (fun _ => False) w7).drewN z) (fun _ _ h => h))))
            clear hB3
            go_wp2_with fail
            go_quiet ((go_at_call 16; exact Calls.quiet_of_same (HLEFT.out _)))
            go_wp2
            go_roundw
            case rel => exact ⟨j + 1, l2, sp2, K1, K5, by omega, by omega, by go_num, HT7.out.bw ((Bw.refl _).drewN _), HOK2.out, by omega, by omega⟩
            case measure => simp [intOf]; omega
        · have hor : (¬ j < lenb) ∨ (j < lenb ∧ ¬ j < 100) := by omega
          have hs47 : s.size ≤ 140737488351232 := by omega
          have hspk : sp1.length ≤ 100100 := by omega
          clear hlt hj hj100 hsp1
          rcases hor with hq1 | ⟨hq1, hq2⟩
          all_goals
            go_wp2_with fail
            refine (reads_any G1 g1 s l1 sp1 (by omega) _ HT3.out.a).mono ?_
            rintro e w6 ⟨v', rfl, ho, hb, hn⟩
            obtain ⟨ao6, cap6, rfl⟩ := own_slice ho
            have HT6 := hid (HT3.out.bw hb)
            obtain ⟨ao3, cap3, rd3, hB3, _⟩ := HT6.out.b
            obtain ⟨ro, rc, rfl⟩ := own_slice hB3.row
            have y2 : w6.cell? ⟨g2, 2, none⟩ = some (.slice ro sp1.length rc) := hB3.blk.cell 2
            have HSAME := hid (same_any ao6 ro sp1.length cap6 rc (by omega) sp1 (hid rfl) w6 (spans_own ho) (spans_own hB3.row))
            have hrow6 : ∀ bo, ao6 = some ⟨bo, 0, none⟩ → Row2 w6 bo 45 sp1.length ∧ w.heap.size ≤ bo ∧ ¬ G1 bo ∧ ¬ G2 bo := fun bo e => by
              subst e
              have h1 := hn bo rfl
              have h2 := HT3.out.bel.size
              exact ⟨Row2.of_own ho, by omega, fun h => by have := HT3.out.lt1 _ h; omega, fun h => by have := HT3.out.lt2 _ h; omega⟩
            have hform6 : sp1.length = 0 ∨ ∃ bo, ao6 = some ⟨bo, 0, none⟩ := by
              rcases ho.2 with ⟨_, h0⟩ | ⟨g, c2, cur, he, _⟩
              · exact .inl h0
              · injection he with e1 _; exact .inr ⟨g, e1⟩
            have HROW6 := hid hrow6
            have HFORM6 := hid hform6
            clear ho hb hn hB3 hrow6 hform6
            go_wp2_with fail
            refine HSAME.out.mono ?_
            rintro e w7 ⟨rfl, z, hz⟩
            have HT7 : Hid (Two w s g1 g2 G1 G2 l1 sp1 w7) := hid (by rw [hz]; exact HT6.out.bw ((Bw.refl _).drewN z))
            have HROW7 : Hid (∀ bo, ao6 = some ⟨bo, 0, none⟩ → Row2 w7 bo 45 sp1.length ∧ w.heap.size ≤ bo ∧ ¬ G1 bo ∧ ¬ G2 bo) := hid fun bo e => by
              obtain ⟨⟨cs, h1, h2⟩, h3⟩ := HROW6.out bo e
              exact ⟨⟨cs, by rw [hz]; exact h1.drewN z, h2⟩, h3⟩
            clear hz y2
            go_wp2_with fail
            go_loopw [25] (fun i wr => ∃ j : Nat, j ≤ sp1.length ∧ i = .int .i64 j ∧ Two w s g1 g2 G1 G2 l1 sp1 wr ∧ ∀ bo, ao6 = some ⟨bo, 0, none⟩ → Row2 wr bo 45 sp1.length ∧ w.heap.size ≤ bo ∧ ¬ G1 bo ∧ ¬ G2 bo) (fun i _ => sp1.length - (intOf i).toNat)
            case atStart => exact ⟨0, Nat.zero_le _, rfl, HT7.out, HROW7.out⟩
            case round =>
              rename World => wr
              obtain ⟨j, hj, rfl, hT, hR⟩ := hrel
              have HT8 := hid hT
              have HR8 := hid hR
              clear hT hR
              by_cases hlt : j < sp1.length
              · obtain ⟨bo, rfl⟩ : ∃ bo, ao6 = some ⟨bo, 0, none⟩ := by
                  rcases HFORM6.out with h | h
                  · omega
                  · exact h
                obtain ⟨hrw, hbo1, hbo2, hbo3⟩ := HR8.out bo rfl
                obtain ⟨u0, c0⟩ := hrw.cell (j := j * 2) (by omega)
                have f0 := hrw.frozen (j * 2)
                have HRW := hid hrw
                have HB2 := hid hbo2
                have HB3 := hid hbo3
                clear hrw hbo2 hbo3
                go_wp2
                go_roundw
                case rel =>
                  have hk : Keeps (· = bo) wr _ := Keeps.of_setCell (w := wr) (F := (· = bo)) (p := ⟨bo, j * 2, none⟩) rfl (.int .i64 (-7))
                  refine ⟨j + 1, by omega, by go_num, HT8.out.keep hk (fun i h e => HB2.out (e ▸ h)) (fun i h e => HB3.out (e ▸ h)) (fun i h => by omega), fun bo' e => ?_⟩
                  have e1 := Option.some.inj e
                  injection e1 with e1
                  subst e1
                  exact ⟨HRW.out.put _ _, hbo1, HB2.out, HB3.out⟩
                case measure => simp [intOf]; omega
              · have hje2 : j = sp1.length := by omega
                subst hje2
                clear hlt hj
                go_wp2_with fail
                refine (reads_any G1 g1 s l1 sp1 (by omega) _ HT8.out.a).mono ?_
                rintro e w10 ⟨v', rfl, ho, hb, hn⟩
                obtain ⟨ao9, cap9, rfl⟩ := own_slice ho
                have HT9 := hid (HT8.out.bw hb)
                obtain ⟨ao4, cap4, rd4, hB4, _⟩ := HT9.out.b
                obtain ⟨ro4, rc4, rfl⟩ := own_slice hB4.row
                have y2 : w10.cell? ⟨g2, 2, none⟩ = some (.slice ro4 sp1.length rc4) := hB4.blk.cell 2
                have HSAME9 := hid (same_any ao9 ro4 sp1.length cap9 rc4 (by omega) sp1 (hid rfl) w10 (spans_own ho) (spans_own hB4.row))
                clear ho hb hn hB4
                go_wp2_with fail
                refine HSAME9.out.mono ?_
                rintro e w11 ⟨rfl, z, hz⟩
                have HT10 : Hid (Two w s g1 g2 G1 G2 l1 sp1 w11) := hid (by rw [hz]; exact HT9.out.bw ((Bw.refl _).drewN z))
                clear hz y2
                go_wp2_with fail
                refine (slen_any G1 g1 s hs47 sp1 l1 _ HT10.out.a).mono ?_
                rintro e w12 ⟨rfl, rfl⟩
                go_wp2
                go_returns
                exact ⟨rfl, HT10.out.bel⟩
theorem walk (s : ByteArray) (A : Option Addr) (len cap : Nat) (hlen : len * 16 ≤ 140737488355328) (hA : A = none → cap = 0) (l : List (Int × Int)) (hll : l.length = len) (B : Option Addr) (lenb capb : Nat) (hlenb : lenb ≤ 9223372036854775807) (q : List AskR) (hlq : q.length = lenb) (w : World) (hst : StepsAt w A l) (hq : AsksAt w B q) :
    Calls Try.prog 3 #[.string s, .slice A len cap, .slice B lenb capb] w fun e w' => e = .returned (.bool true) ∧ Bw w w' := by
  by_cases hs : 5000 < s.size
  · exact walk_long s hs A len cap B lenb capb w
  · cases hok : newOk l with
    | false => exact walk_bad s (by omega) A len cap hlen hA l (hid hll) hok B lenb capb w hst
    | true => exact walk_good s (by omega) A len cap hlen hA l (hid hll) hok B lenb capb hlenb q (hid hlq) w hst hq

/-! The frame: from the walk to the statement. -/
theorem own : ownKnob Try.prog.godebug = none := by kernel_rfl
theorem laidOut : laidOutB Try.prog = true := by kernel_rfl
set_option maxRecDepth 100000 in
theorem lifted (os : Os) (started : os.Started) (H : Type) (enc : TypeId × Value → H) :
    ReturnsInHanded {} Try.checked os 3 .any (Rows.srcReadsSpec.pre6 enc Try.prog Try.f3 Rows.srcReadsRow.domain false) (Rows.srcReadsSpec.post enc Try.prog Try.f3 false true false false) := by
  refine returnsInHanded_of_change_sized (C := Try.checked) own started (by kernel_rfl) Try.func3
    (ChangeSpec.witness6 (enc := enc) (C := Try.checked) false ⟨#[], #[.string ⟨#[]⟩, .slice none 0 0, .slice none 0 0], []⟩ 8 (by kernel_rfl) (by kernel_rfl) (by kernel_rfl) (by kernel_rfl)) ?_
  intro W base args ds gs before hval0 hW hcnd hsz0 _
  have hval : ∀ (j : Nat) t v, Try.f3.params[j]? = some t → args[j]? = some v → Value.okWide Try.prog W .any base t v := hval0
  have hW' := hW
  obtain ⟨p, q, hA0, hV, rfl, hfz, hnd⟩ := hW
  have hA : DataW.TrodAll enc Try.prog W 0 (fun _ => true) true Try.f3.params.toList args.toList ds p := hA0
  have hsz : (DataW.weightsEach Try.prog (Try.f3.params.toList ++ Rows.srcReadsSpec.plain.varTypes Try.prog) (ds ++ gs)).all (· ≤ reachBytes) = true := hsz0
  rw [Try.params3] at hA hval hsz
  obtain ⟨v0, vs0, d0, ds0, p0, q0, hargs, rfl, rfl, h0, r0⟩ := trodAll_cons hA
  obtain ⟨v1, vs1, d1, ds1, p1, q1, rfl, rfl, rfl, h1, r1⟩ := trodAll_cons r0
  obtain ⟨v2, vs2, d2, ds2, p2, q2, rfl, rfl, rfl, h2, r2⟩ := trodAll_cons r1
  obtain ⟨rfl, rfl, rfl⟩ := trodAll_nil r2
  obtain rfl : args = #[v0, v1, v2] := by cases args; simp_all
  obtain ⟨rfl, rfl⟩ := trodVars_none hV
  obtain ⟨a0, rfl, rfl, rfl, w0⟩ := open_string Try.underlying9 (hval 0 9 v0 rfl rfl) h0
  have z0 := sized_string hsz (j := 0) (t := 9) (bytes := a0.data.toList) rfl rfl
  have k1 := h1
  have lt1 : ∀ x ∈ p1, x.block < W.heap.size := by obtain ⟨m, hm⟩ := k1; exact DataW.trod_lt m _ _ _ hm
  obtain ⟨oa1, ol1, oc1, rfl⟩ := okWide_slice Try.underlying22 (hval 1 22 v1 rfl rfl)
  obtain ⟨m1, t1⟩ := h1
  obtain ⟨A1, len1, cap1, l1, he1, hl1, hll1, hst1⟩ := open_steps2 t1
  have k2 := h2
  have lt2 : ∀ x ∈ p2, x.block < W.heap.size := by obtain ⟨m, hm⟩ := k2; exact DataW.trod_lt m _ _ _ hm
  obtain ⟨oa2, ol2, oc2, rfl⟩ := okWide_slice Try.underlying23 (hval 2 23 v2 rfl rfl)
  obtain ⟨m2, t2⟩ := h2
  obtain ⟨A2, len2, cap2, l2, he2, hl2, hll2, hst2⟩ := open_asks t2
  rw [he1] at hW' k1 t1 ⊢
  rw [he2] at hW' k2 ⊢
  clear hA0 hval0
  try simp only [List.append_nil] at hW'
  refine (walk a0 A1 len1 cap1 (steps_len hsz (j := 1) rfl rfl t1) hl1 l1 hll1 A2 len2 cap2 hl2 l2 hll2 W hst1 hst2).mono fun e W' ⟨he, bel⟩ => ?_
  subst he
  exact ⟨_, rfl, _, _, _, [], _, [], hW', trodAll_mk1 (shut_bool Try.underlying4 _), (trodAll_cons_mk (shut_string Try.underlying9 w0) (trodAll_cons_mk (Below.trod laidOut (by kernel_rfl) (of_decide_eq_true (by kernel_rfl)) k1 bel lt1) (trodAll_cons_mk (Below.trod laidOut (by kernel_rfl) (of_decide_eq_true (by kernel_rfl)) k2 bel lt2) trodAll_mk0))), rfl, Below.frame bel _, fun h => by cases h⟩

theorem proved : Rows.SrcReadsSaid :=
  OpenClaim.holds_of_wide 3 Try.f3 rfl rfl rfl rfl rfl rfl rfl ⟨rfl, rfl, rfl, rfl, rfl⟩ rfl rfl rfl rfl rfl (by kernel_rfl) Try.func3 (by kernel_rfl)
    (of_decide_eq_true (by kernel_rfl)) (by unfold Func.isWrapper; first | (rw [if_pos (by decide +kernel)]; kernel_rfl) | (rw [if_neg (by decide +kernel)]; exact ⟨rfl, rfl⟩))
    (fun os started H enc _ => lifted os started H enc)
end Go.Proofs.Yteclomkhienhiaa.srcReads
