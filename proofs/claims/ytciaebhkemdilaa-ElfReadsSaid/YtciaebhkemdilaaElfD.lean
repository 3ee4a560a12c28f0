/- The head of a file (contract of the method). -/
import Derived.Test.YtciaebhkemdilaaElfC
import Derived.Test.YtciaebhkemdilaaKitS
import Derived.RegionDies
import Derived.Deep.RegionWith
namespace Go.Proofs.Ytciaebhkemdilaa
open Go.RowKit
set_option linter.unusedVariables false
set_option linter.unusedSimpArgs false
theorem Bw.keep1 {w a b : World} {g : Nat} (h : Bw w a) (hg : w.heap.size ≤ g) (k : Keeps (· = g) a b) : Bw w b := Below.trans h (k.below h.size fun i e => by subst e; exact hg)
def zHead : Array Value := #[.int .i64 0, .int .i64 0, .int .u64 0, .int .i64 0, .slice none 0 0, .slice none 0 0, .int .u64 0, .int .u64 0, .int .i64 0, .int .i64 0]
/-- While the head is read: the reader at g, the head at hb, the result's box at rb. -/
structure HeadW (w0 : World) (g hb rb : Nat) (T : ByteArray) (q : Nat) (cs : Array Value) (w : World) : Prop where
  bw : Bw w0 w
  rd : Rdr w g 0 T q
  hd : Has w hb 86 cs
  rs : Has w rb 86 zHead
  gl : w0.heap.size ≤ g
  hl : w0.heap.size ≤ hb
  gh : hb ≠ g
  gr : rb ≠ g
  hr : rb ≠ hb
section
variable {w0 w w' : World} {g hb rb : Nat} {T : ByteArray} {q q' : Nat} {cs : Array Value}
theorem HeadW.step (h : HeadW w0 g hb rb T q cs w) (hr : Rdr w' g 0 T q') (hk : Keeps (· = g) w w') : HeadW w0 g hb rb T q' cs w' :=
  ⟨h.bw.keep1 h.gl hk, hr, hk.has h.hd h.gh, hk.has h.rs h.gr, h.gl, h.hl, h.gh, h.gr, h.hr⟩
theorem HeadW.put (h : HeadW w0 g hb rb T q cs w) (i : Nat) (v : Value) : HeadW w0 g hb rb T q (cs.setIfInBounds i v) (w.setCell ⟨hb, i, none⟩ v) :=
  ⟨Below.setCell (p := ⟨hb, i, none⟩) h.bw h.hl v, Has.far h.rd (p := ⟨hb, i, none⟩) h.gh.symm v, h.hd.put i v, h.rs.far (p := ⟨hb, i, none⟩) h.hr v, h.gl, h.hl, h.gh, h.gr, h.hr⟩
end
theorem pre_mag (T : ByteArray) (h : 16 ≤ T.size) : Lib.hasPrefix T.data.toList (⟨#[127, 69, 76, 70, 2, 1, 1, 0, 0, 0, 0, 0, 0, 0, 0, 0]⟩ : ByteArray).data.toList = decide (T.extract 0 16 = magT) := by
  have e : T.data.toList.take 16 = (T.extract 0 16).data.toList := by rw [ext_list]; rfl
  rw [Bool.eq_iff_iff, decide_eq_true_eq]
  unfold Lib.hasPrefix
  rw [List.isPrefixOf_iff_prefix, List.prefix_iff_eq_take]
  show magT.data.toList = T.data.toList.take 16 ↔ _
  rw [e]
  exact ⟨fun h => ba_ext h.symm, fun h => by rw [h]⟩
/-- What head does. -/
def HeadQ (s : ByteArray) (w : World) (e : Ending) (w' : World) : Prop :=
  Bw w w' ∧ ((HeadOk s ∧ e = .returned (.agg #[.int .i64 (n2 s 16), .int .i64 (n2 s 18), .int .u64 (n8 s 24), .int .i64 (n4 s 48), .slice none 0 0, .slice none 0 0, .int .u64 (pAt s), .int .u64 (sAt s), .int .i64 (nSeg s), .int .i64 (nSec s)])) ∨ (¬ HeadOk s ∧ e = pan 3))
set_option maxRecDepth 100000 in
set_option maxHeartbeats 8000000 in
theorem head_any (s : ByteArray) (hs : s.size ≤ lim) (h64 : 64 ≤ s.size) (w : World) :
    Calls Try.prog 42 #[.agg #[.int .i64 0, .string s]] w (HeadQ s w) := by
  have HP := hid (fun W => part_ok s hs 0 64 (by omega) W)
  rw [Nat.zero_add] at HP
  have hT : (s.extract 0 64).size = 64 := by simp; omega
  have HTX := hid (fun W => text_any 0 (s.extract 0 64) (by rw [hT]; decide) W)
  have HHP := hid (fun W => lib_HasPrefix (s.extract 0 64) ⟨#[127, 69, 76, 70, 2, 1, 1, 0, 0, 0, 0, 0, 0, 0, 0, 0]⟩ W)
  have hpm := pre_mag (s.extract 0 64) (by omega)
  have hx : (s.extract 0 64).extract 0 16 = s.extract 0 16 := by
    apply ba_ext
    rw [ext_list, ext_list, ext_list, List.drop_zero, List.drop_zero, List.take_take]
    rfl
  rw [hx] at hpm
  have hnp : ∀ d a, a + d ≤ 64 → numAt (s.extract 0 64) a d false = numAt s a d false := fun d a h => by
    have := num_part s 0 64 a d h (by omega)
    simpa using this
  have e16 : n2 (s.extract 0 64) 16 = n2 s 16 := hnp 2 16 (by decide)
  have e18 : n2 (s.extract 0 64) 18 = n2 s 18 := hnp 2 18 (by decide)
  have e20 : n4 (s.extract 0 64) 20 = n4 s 20 := hnp 4 20 (by decide)
  have e24 : n8 (s.extract 0 64) 24 = n8 s 24 := hnp 8 24 (by decide)
  have e32 : n8 (s.extract 0 64) 32 = n8 s 32 := hnp 8 32 (by decide)
  have e40 : n8 (s.extract 0 64) 40 = n8 s 40 := hnp 8 40 (by decide)
  have e48 : n4 (s.extract 0 64) 48 = n4 s 48 := hnp 4 48 (by decide)
  have e52 : n2 (s.extract 0 64) 52 = n2 s 52 := hnp 2 52 (by decide)
  have e54 : n2 (s.extract 0 64) 54 = n2 s 54 := hnp 2 54 (by decide)
  have e56 : n2 (s.extract 0 64) 56 = n2 s 56 := hnp 2 56 (by decide)
  have e58 : n2 (s.extract 0 64) 58 = n2 s 58 := hnp 2 58 (by decide)
  have e60 : n2 (s.extract 0 64) 60 = n2 s 60 := hnp 2 60 (by decide)
  have e62 : n2 (s.extract 0 64) 62 = n2 s 62 := hnp 2 62 (by decide)
  obtain ⟨T, hTT⟩ : ∃ T, s.extract 0 64 = T := ⟨_, rfl⟩
  have hlT : T.size ≤ lim := by rw [← hTT, hT]; decide
  have C16 := hid (fun g W (h : Rdr W g 0 T 16) => half_any (w := W) (by omega) hlT (by rw [← hTT]; omega) h)
  have C18 := hid (fun g W (h : Rdr W g 0 T 18) => half_any (w := W) (by omega) hlT (by rw [← hTT]; omega) h)
  have C20 := hid (fun g W (h : Rdr W g 0 T 20) => word_any (w := W) (by omega) hlT (by rw [← hTT]; omega) h)
  have C24 := hid (fun g W (h : Rdr W g 0 T 24) => long_any (w := W) (by omega) hlT (by rw [← hTT]; omega) h)
  have C32 := hid (fun g W (h : Rdr W g 0 T 32) => long_any (w := W) (by omega) hlT (by rw [← hTT]; omega) h)
  have C40 := hid (fun g W (h : Rdr W g 0 T 40) => long_any (w := W) (by omega) hlT (by rw [← hTT]; omega) h)
  have C48 := hid (fun g W (h : Rdr W g 0 T 48) => word_any (w := W) (by omega) hlT (by rw [← hTT]; omega) h)
  have C52 := hid (fun g W (h : Rdr W g 0 T 52) => half_any (w := W) (by omega) hlT (by rw [← hTT]; omega) h)
  have C54 := hid (fun g W (h : Rdr W g 0 T 54) => half_any (w := W) (by omega) hlT (by rw [← hTT]; omega) h)
  have C56 := hid (fun g W (h : Rdr W g 0 T 56) => half_any (w := W) (by omega) hlT (by rw [← hTT]; omega) h)
  have C58 := hid (fun g W (h : Rdr W g 0 T 58) => half_any (w := W) (by omega) hlT (by rw [← hTT]; omega) h)
  have C60 := hid (fun g W (h : Rdr W g 0 T 60) => half_any (w := W) (by omega) hlT (by rw [← hTT]; omega) h)
  have C62 := hid (fun g W (h : Rdr W g 0 T 62) => half_any (w := W) (by omega) hlT (by rw [← hTT]; omega) h)
  rw [hTT] at HP HTX HHP hpm hT e16 e18 e20 e24 e32 e40 e48 e52 e54 e56 e58 e60 e62
  rw [e16] at C16
  rw [e18] at C18
  rw [e20] at C20
  rw [e24] at C24
  rw [e32] at C32
  rw [e40] at C40
  rw [e48] at C48
  rw [e52] at C52
  rw [e54] at C54
  rw [e56] at C56
  rw [e58] at C58
  rw [e60] at C60
  rw [e62] at C62
  rw [hpm] at HHP
  clear hpm hx hnp hTT e16 e18 e20 e24 e32 e40 e48 e52 e54 e56 e58 e60 e62
  have hOk : Hid (HeadOk s ↔ (s.extract 0 16 = magT ∧ n4 s 20 = 1 ∧ n2 s 52 = 64 ∧ n2 s 54 = 56 ∧ n2 s 58 = 64 ∧ (n2 s 62 : Int) = (n2 s 60 : Int) - 1 ∧ 2 ≤ n2 s 60 ∧ n2 s 60 ≤ 1002 ∧ n2 s 56 ≤ 1000)) :=
    hid ⟨fun h => ⟨h.mag, h.ver, h.hsz, h.psz, h.ssz, h.nam, h.two, h.few, h.seg⟩, fun ⟨a, b, c, d, e, f, g, h, i⟩ => ⟨a, b, c, d, e, f, g, h, i⟩⟩
  have HGOOD := hid (fun e w' (hb : Bw w w') (h : HeadOk s) (he : e = .returned (.agg #[.int .i64 (n2 s 16), .int .i64 (n2 s 18), .int .u64 (n8 s 24), .int .i64 (n4 s 48), .slice none 0 0, .slice none 0 0, .int .u64 (n8 s 32), .int .u64 (n8 s 40), .int .i64 (n2 s 56), .int .i64 (n2 s 60)])) => (show HeadQ s w e w' from ⟨hb, .inl ⟨h, he⟩⟩))
  have HBADQ := hid (fun e w' (hb : Bw w w') (h : ¬ HeadOk s) (he : e = pan 3) => (show HeadQ s w e w' from ⟨hb, .inr ⟨h, he⟩⟩))
  have l16 := n2_lt s 16
  have l18 := n2_lt s 18
  have l20 := n4_lt s 20
  have l24 := n8_lt s 24
  have l32 := n8_lt s 32
  have l40 := n8_lt s 40
  have l48 := n4_lt s 48
  have l52 := n2_lt s 52
  have l54 := n2_lt s 54
  have l56 := n2_lt s 56
  have l58 := n2_lt s 58
  have l60 := n2_lt s 60
  have l62 := n2_lt s 62
  obtain ⟨x16, hx16⟩ : ∃ x, n2 s 16 = x := ⟨_, rfl⟩
  rw [hx16] at C16 l16 HGOOD
  simp only [Nat.reduceAdd] at C16
  obtain ⟨x18, hx18⟩ : ∃ x, n2 s 18 = x := ⟨_, rfl⟩
  rw [hx18] at C18 l18 HGOOD
  simp only [Nat.reduceAdd] at C18
  obtain ⟨x20, hx20⟩ : ∃ x, n4 s 20 = x := ⟨_, rfl⟩
  rw [hx20] at C20 l20 hOk
  simp only [Nat.reduceAdd] at C20
  obtain ⟨x24, hx24⟩ : ∃ x, n8 s 24 = x := ⟨_, rfl⟩
  rw [hx24] at C24 l24 HGOOD
  simp only [Nat.reduceAdd] at C24
  obtain ⟨x32, hx32⟩ : ∃ x, n8 s 32 = x := ⟨_, rfl⟩
  rw [hx32] at C32 l32 HGOOD
  simp only [Nat.reduceAdd] at C32
  obtain ⟨x40, hx40⟩ : ∃ x, n8 s 40 = x := ⟨_, rfl⟩
  rw [hx40] at C40 l40 HGOOD
  simp only [Nat.reduceAdd] at C40
  obtain ⟨x48, hx48⟩ : ∃ x, n4 s 48 = x := ⟨_, rfl⟩
  rw [hx48] at C48 l48 HGOOD
  simp only [Nat.reduceAdd] at C48
  obtain ⟨x52, hx52⟩ : ∃ x, n2 s 52 = x := ⟨_, rfl⟩
  rw [hx52] at C52 l52 hOk
  simp only [Nat.reduceAdd] at C52
  obtain ⟨x54, hx54⟩ : ∃ x, n2 s 54 = x := ⟨_, rfl⟩
  rw [hx54] at C54 l54 hOk
  simp only [Nat.reduceAdd] at C54
  obtain ⟨x56, hx56⟩ : ∃ x, n2 s 56 = x := ⟨_, rfl⟩
  rw [hx56] at C56 l56 hOk HGOOD
  simp only [Nat.reduceAdd] at C56
  obtain ⟨x58, hx58⟩ : ∃ x, n2 s 58 = x := ⟨_, rfl⟩
  rw [hx58] at C58 l58 hOk
  simp only [Nat.reduceAdd] at C58
  obtain ⟨x60, hx60⟩ : ∃ x, n2 s 60 = x := ⟨_, rfl⟩
  rw [hx60] at C60 l60 hOk HGOOD
  simp only [Nat.reduceAdd] at C60
  obtain ⟨x62, hx62⟩ : ∃ x, n2 s 62 = x := ⟨_, rfl⟩
  rw [hx62] at C62 l62 hOk
  simp only [Nat.reduceAdd] at C62
  clear hx16 hx18 hx20 hx24 hx32 hx40 hx48 hx52 hx54 hx56 hx58 hx60 hx62
  obtain ⟨mb, hmb⟩ : ∃ b, b = decide (s.extract 0 16 = magT) := ⟨_, rfl⟩
  have HMB := hid (show mb = true ↔ s.extract 0 16 = magT by rw [hmb, decide_eq_true_eq])
  rw [← hmb] at HHP
  clear hmb
  have HF := hid (Has.new w 49 #[.int .i64 0, .string s])
  have HB0 := hid ((Bw.refl w).alloc (.cells #[.int .i64 0, .string s] 49))
  obtain ⟨fb, hfb⟩ : ∃ fb, w.heap.size = fb := ⟨_, rfl⟩
  have HFB := hid hfb
  rw [hfb] at HF
  have HZ := hid (show Has ((w.alloc (.cells #[.int .i64 0, .string s] 49)).alloc (.cells zHead 86)) (fb + 1) 86 zHead from by
    have := Has.new (w.alloc (.cells #[.int .i64 0, .string s] 49)) 86 zHead
    rw [World.size_alloc, hfb] at this
    exact this)
  have HF1 := hid (HF.out.alloc (.cells zHead 86))
  have HB1 := hid (HB0.out.alloc (.cells zHead 86))
  clear HF HB0
  unfold zHead at HZ HF1 HB1
  go_enter Try.func42, Try.ntmps42
  go_wp2_with fail
  generalize (w.alloc (.cells #[.int .i64 0, .string s] 49)).alloc _ = W1 at *
  refine (HP.out W1).mono ?_
  rintro e w2 ⟨g, rfl, hrd, hgl, hb2⟩
  have HB2 := hid (HB1.out.trans hb2)
  have HR2 := hid hrd
  have HZ2 := hid (hb2.has HZ.out)
  have HG := hid (show fb + 1 < g from Nat.lt_of_lt_of_le HZ.out.lt hgl)
  clear hrd hgl hb2 HP HB1 HZ HF1
  have r0 : w2.cell? ⟨g, 0, none⟩ = some (.int .i64 0) := HR2.out.cell 0
  have r1 : w2.cell? ⟨g, 1, none⟩ = some (.string T) := HR2.out.cell 1
  go_wp2_with fail
  refine (HTX.out _).mono ?_
  rintro e w3 ⟨rfl, hb3⟩
  have HB3 := hid (HB2.out.trans hb3)
  have HR3 := hid (show Rdr w3 g 0 T 0 from hb3.has HR2.out)
  have HZ3 := hid (hb3.has HZ2.out)
  clear hb3 HB2 HR2 HZ2 r0 r1
  go_wp2_with fail
  refine (HHP.out _).mono ?_
  rintro e w4 ⟨rfl, rfl⟩
  go_wp2_with fail
  cases mb with
  | false =>
    refine (is_bad _).mono ?_
    rintro e w5 ⟨rfl, rfl⟩
    exact ⟨rfl, HBADQ.out _ _ HB3.out (fun h => (fun (x : false = true) => by cases x) (HMB.out.2 (hOk.out.1 h).1)) rfl⟩
  | true =>
  refine (is_ok _).mono ?_
  rintro e w5 ⟨rfl, rfl⟩
  have HM := hid (HMB.out.1 rfl)
  clear HMB HTX HHP
  have r2 : w5.cell? ⟨g, 2, none⟩ = some (.int .i64 0) := HR3.out.cell 2
  have f2 : w5.frozen? ⟨g, 2, none⟩ = false := HR3.out.frozen 2
  have HR6 := hid (show Rdr (w5.setCell ⟨g, 2, none⟩ (.int .i64 16)) g 0 T 16 from Has.put HR3.out 2 (.int .i64 16))
  have HB6 := hid (show Bw w (w5.setCell ⟨g, 2, none⟩ (.int .i64 16)) from Below.setCell (p := ⟨g, 2, none⟩) HB3.out (show w.heap.size ≤ g by have := HG.out; omega) _)
  have HZ6 := hid (HZ3.out.far (p := ⟨g, 2, none⟩) (show fb + 1 ≠ g by have := HG.out; omega) (.int .i64 16))
  have HH6 := hid (Has.new (w5.setCell ⟨g, 2, none⟩ (.int .i64 16)) 86 zHead)
  have HS6 := hid (show (w5.setCell ⟨g, 2, none⟩ (.int .i64 16)).heap.size = w5.heap.size by simp [World.setCell])
  obtain ⟨hb, hhb⟩ : ∃ hb, w5.heap.size = hb := ⟨_, rfl⟩
  rw [HS6.out, hhb] at HH6
  have HW := hid (show HeadW w g hb (fb + 1) T 16 zHead ((w5.setCell ⟨g, 2, none⟩ (.int .i64 16)).alloc (.cells zHead 86)) from
    ⟨HB6.out.alloc _, Has.alloc HR6.out _, HH6.out, HZ6.out.alloc _, by have := HG.out; omega, by have := HZ3.out.lt; omega, by have := Has.lt HR3.out; omega, by have := HG.out; omega, by have := HZ3.out.lt; omega⟩)
  clear HB3 HR3 HZ3 HR6 HB6 HZ6 HH6 HS6 HG
  unfold zHead at HW
  go_wp2_with fail
  generalize (w5.setCell ⟨g, 2, none⟩ (.int .i64 16)).alloc _ = w6 at *
  clear hhb r2 f2 hfb
  refine (C16.out _ _ HW.out.rd).mono ?_
  rintro e w7 ⟨rfl, h1, h2⟩
  have H7 := hid (HW.out.step h1 h2)
  clear h1 h2 HW C16
  go_wp2_with fail
  refine (C18.out _ _ H7.out.rd).mono ?_
  rintro e w8 ⟨rfl, h1, h2⟩
  have H8 := hid (H7.out.step h1 h2)
  clear h1 h2 H7 C18
  have c0 := H8.out.hd.cell 0
  have f0 := H8.out.hd.frozen 0
  have c1 := H8.out.hd.cell 1
  have f1 := H8.out.hd.frozen 1
  simp only [List.getElem?_toArray, List.getElem?_cons_zero, List.getElem?_cons_succ] at c0 c1
  have H9 := hid ((H8.out.put 0 (.int .i64 x16)).put 1 (.int .i64 x18))
  simp only [List.setIfInBounds_toArray, List.set_cons_zero, List.set_cons_succ] at H9
  go_wp2_with fail
  generalize World.setCell (World.setCell w8 _ _) _ _ = w9 at *
  clear H8 c0 f0 c1 f1
  refine (C20.out _ _ H9.out.rd).mono ?_
  rintro e w10 ⟨rfl, h1, h2⟩
  have H10 := hid (H9.out.step h1 h2)
  clear h1 h2 H9 C20
  by_cases hc : x20 = 1
  case neg =>
    have hq : ((x20 : Int) == 1) = false := beq_eq_false_iff_ne.2 (by omega)
    go_wp2_with fail
    refine (is_bad _).mono ?_
    rintro e wz ⟨rfl, rfl⟩
    exact ⟨rfl, HBADQ.out _ _ H10.out.bw (fun h => hc (hOk.out.1 h).2.1) rfl⟩
  have HC20 := hid hc
  have hq : ((x20 : Int) == 1) = true := beq_iff_eq.2 (by omega)
  clear hc
  go_wp2_with fail
  refine (is_ok _).mono ?_
  rintro e wz ⟨rfl, rfl⟩
  clear hq
  go_wp2_with fail
  refine (C24.out _ _ H10.out.rd).mono ?_
  rintro e w11 ⟨rfl, h1, h2⟩
  have H11 := hid (H10.out.step h1 h2)
  clear h1 h2 H10 C24
  go_wp2_with fail
  refine (C32.out _ _ H11.out.rd).mono ?_
  rintro e w12 ⟨rfl, h1, h2⟩
  have H12 := hid (H11.out.step h1 h2)
  clear h1 h2 H11 C32
  go_wp2_with fail
  refine (C40.out _ _ H12.out.rd).mono ?_
  rintro e w13 ⟨rfl, h1, h2⟩
  have H13 := hid (H12.out.step h1 h2)
  clear h1 h2 H12 C40
  go_wp2_with fail
  refine (C48.out _ _ H13.out.rd).mono ?_
  rintro e w14 ⟨rfl, h1, h2⟩
  have H14 := hid (H13.out.step h1 h2)
  clear h1 h2 H13 C48
  have c2 := H14.out.hd.cell 2
  have f2 := H14.out.hd.frozen 2
  have c6 := H14.out.hd.cell 6
  have f6 := H14.out.hd.frozen 6
  have c7 := H14.out.hd.cell 7
  have f7 := H14.out.hd.frozen 7
  have c3 := H14.out.hd.cell 3
  have f3 := H14.out.hd.frozen 3
  simp only [List.getElem?_toArray, List.getElem?_cons_zero, List.getElem?_cons_succ] at c2 c6 c7 c3
  have H15 := hid ((((H14.out.put 2 (.int .u64 x24)).put 6 (.int .u64 x32)).put 7 (.int .u64 x40)).put 3 (.int .i64 x48))
  simp only [List.setIfInBounds_toArray, List.set_cons_zero, List.set_cons_succ] at H15
  go_wp2_with fail
  generalize World.setCell (World.setCell (World.setCell (World.setCell w14 _ _) _ _) _ _) _ _ = w15 at *
  clear H14 c2 f2 c6 f6 c7 f7 c3 f3
  refine (C52.out _ _ H15.out.rd).mono ?_
  rintro e w16 ⟨rfl, h1, h2⟩
  have H16 := hid (H15.out.step h1 h2)
  clear h1 h2 H15 C52
  by_cases hc : x52 = 64
  case neg =>
    have hq : ((x52 : Int) == 64) = false := beq_eq_false_iff_ne.2 (by omega)
    go_wp2_with fail
    refine (is_bad _).mono ?_
    rintro e wz ⟨rfl, rfl⟩
    exact ⟨rfl, HBADQ.out _ _ H16.out.bw (fun h => hc (hOk.out.1 h).2.2.1) rfl⟩
  have HC52 := hid hc
  have hq : ((x52 : Int) == 64) = true := beq_iff_eq.2 (by omega)
  clear hc
  go_wp2_with fail
  refine (is_ok _).mono ?_
  rintro e wz ⟨rfl, rfl⟩
  clear hq
  go_wp2_with fail
  refine (C54.out _ _ H16.out.rd).mono ?_
  rintro e w17 ⟨rfl, h1, h2⟩
  have H17 := hid (H16.out.step h1 h2)
  clear h1 h2 H16 C54
  by_cases hc : x54 = 56
  case neg =>
    have hq : ((x54 : Int) == 56) = false := beq_eq_false_iff_ne.2 (by omega)
    go_wp2_with fail
    refine (is_bad _).mono ?_
    rintro e wz ⟨rfl, rfl⟩
    exact ⟨rfl, HBADQ.out _ _ H17.out.bw (fun h => hc (hOk.out.1 h).2.2.2.1) rfl⟩
  have HC54 := hid hc
  have hq : ((x54 : Int) == 56) = true := beq_iff_eq.2 (by omega)
  clear hc
  go_wp2_with fail
  refine (is_ok _).mono ?_
  rintro e wz ⟨rfl, rfl⟩
  clear hq
  go_wp2_with fail
  refine (C56.out _ _ H17.out.rd).mono ?_
  rintro e w18 ⟨rfl, h1, h2⟩
  have H18 := hid (H17.out.step h1 h2)
  clear h1 h2 H17 C56
  have c8 := H18.out.hd.cell 8
  have f8 := H18.out.hd.frozen 8
  simp only [List.getElem?_toArray, List.getElem?_cons_zero, List.getElem?_cons_succ] at c8
  have H19 := hid (H18.out.put 8 (.int .i64 x56))
  simp only [List.setIfInBounds_toArray, List.set_cons_zero, List.set_cons_succ] at H19
  go_wp2_with fail
  generalize World.setCell w18 _ _ = w19 at *
  clear H18 c8 f8
  refine (C58.out _ _ H19.out.rd).mono ?_
  rintro e w20 ⟨rfl, h1, h2⟩
  have H20 := hid (H19.out.step h1 h2)
  clear h1 h2 H19 C58
  by_cases hc : x58 = 64
  case neg =>
    have hq : ((x58 : Int) == 64) = false := beq_eq_false_iff_ne.2 (by omega)
    go_wp2_with fail
    refine (is_bad _).mono ?_
    rintro e wz ⟨rfl, rfl⟩
    exact ⟨rfl, HBADQ.out _ _ H20.out.bw (fun h => hc (hOk.out.1 h).2.2.2.2.1) rfl⟩
  have HC58 := hid hc
  have hq : ((x58 : Int) == 64) = true := beq_iff_eq.2 (by omega)
  clear hc
  go_wp2_with fail
  refine (is_ok _).mono ?_
  rintro e wz ⟨rfl, rfl⟩
  clear hq
  go_wp2_with fail
  refine (C60.out _ _ H20.out.rd).mono ?_
  rintro e w21 ⟨rfl, h1, h2⟩
  have H21 := hid (H20.out.step h1 h2)
  clear h1 h2 H20 C60
  have c9 := H21.out.hd.cell 9
  have f9 := H21.out.hd.frozen 9
  simp only [List.getElem?_toArray, List.getElem?_cons_zero, List.getElem?_cons_succ] at c9
  have H22 := hid (H21.out.put 9 (.int .i64 x60))
  simp only [List.setIfInBounds_toArray, List.set_cons_zero, List.set_cons_succ] at H22
  go_wp2_with fail
  generalize World.setCell w21 _ _ = w22 at *
  clear H21 c9 f9
  have HX := hid (fun W (hW : HeadW w g hb (fb + 1) T 62 #[.int .i64 x16, .int .i64 x18, .int .u64 x24, .int .i64 x48, .slice none 0 0, .slice none 0 0, .int .u64 x32, .int .u64 x40, .int .i64 x56, .int .i64 x60] W) => (show W.cell? ⟨hb, 9, none⟩ = some (.int .i64 x60) from hW.hd.cell 9))
  have HDR := hid (show HeadW w g hb (fb + 1) T 62 #[.int .i64 x16, .int .i64 x18, .int .u64 x24, .int .i64 x48, .slice none 0 0, .slice none 0 0, .int .u64 x32, .int .u64 x40, .int .i64 x56, .int .i64 x60] w22.drew from
    H22.out.step (show Rdr w22.drew g 0 T 62 from Has.drew H22.out.rd) ((Keeps.refl _ _).drewN 1))
  have HY := hid (fun W (hW : HeadW w g hb (fb + 1) T 64 #[.int .i64 x16, .int .i64 x18, .int .u64 x24, .int .i64 x48, .slice none 0 0, .slice none 0 0, .int .u64 x32, .int .u64 x40, .int .i64 x56, .int .i64 x60] W) => (show W.cell? ⟨hb, 9, none⟩ = some (.int .i64 x60) from hW.hd.cell 9))
  have v1 : IntKind.i64.wrap ((x60 : Int) - 1) = (x60 : Int) - 1 := IntWalk.i64_in _ (by omega)
  have y0 : w22.drew.cell? ⟨hb, 9, none⟩ = some (.int .i64 x60) := HX.out _ HDR.out
  by_cases hc : (x62 : Int) = (x60 : Int) - 1
  case neg =>
    have hq : ((x62 : Int) == (x60 : Int) - 1) = false := beq_eq_false_iff_ne.2 hc
    go_region_dies
    · refine (C62.out _ _ HDR.out.rd).mono ?_
      rintro e w23 ⟨rfl, h1, h2⟩
      have H23 := hid (HDR.out.step h1 h2)
      have y1 : w23.cell? ⟨hb, 9, none⟩ = some (.int .i64 x60) := HY.out _ H23.out
      clear h1 h2
      rename_i K hK
      refine hK _ _ ?_
      clear hK K
      refine wpAny_ready (rs := [4]) (by kernel_rfl) (by simp) ?_
      refine AllReady.cons rfl (fun K hK => ?_) AllReady.nil
      go_simp
      refine hK _ _ ?_
      clear hK K
      refine wpAny_ready (rs := [5]) (by kernel_rfl) (by simp) ?_
      refine AllReady.cons rfl (fun K hK => ?_) AllReady.nil
      go_simp
      refine hK _ _ ?_
      clear hK K
      refine wpAny_ready (rs := [6]) (by kernel_rfl) (by simp) ?_
      refine AllReady.cons rfl (fun K hK => ?_) AllReady.nil
      go_simp
      refine hK _ _ ?_
      clear hK K
      refine wpAny_ready (rs := [7]) (by kernel_rfl) (by simp) ?_
      refine AllReady.cons rfl (fun K hK => ?_) AllReady.nil
      go_simp
      refine (is_bad _).mono ?_
      rintro e wz ⟨rfl, rfl⟩
      exact ⟨rfl, HBADQ.out _ _ H23.out.bw (fun h => hc (hOk.out.1 h).2.2.2.2.2.1) rfl⟩
    · refine (C62.out _ _ HDR.out.rd).mono ?_
      rintro e w23 ⟨rfl, h1, h2⟩
      have H23 := hid (HDR.out.step h1 h2)
      have y1 : w23.cell? ⟨hb, 9, none⟩ = some (.int .i64 x60) := HY.out _ H23.out
      clear h1 h2
      rename_i K hK
      refine hK _ _ ?_
      clear hK K
      refine wpAny_ready (rs := [6]) (by kernel_rfl) (by simp) ?_
      refine AllReady.cons rfl (fun K hK => ?_) AllReady.nil
      go_simp
      refine hK _ _ ?_
      clear hK K
      refine wpAny_ready (rs := [7]) (by kernel_rfl) (by simp) ?_
      refine AllReady.cons rfl (fun K hK => ?_) AllReady.nil
      go_simp
      refine (is_bad _).mono ?_
      rintro e wz ⟨rfl, rfl⟩
      exact ⟨rfl, HBADQ.out _ _ H23.out.bw (fun h => hc (hOk.out.1 h).2.2.2.2.2.1) rfl⟩
  have HC62 := hid hc
  have hq : ((x62 : Int) == (x60 : Int) - 1) = true := beq_iff_eq.2 hc
  clear hc
  go_region_held3 (fun W => W.cell? ⟨hb, 9, none⟩ = some (.int .i64 x60))
    (first | exact y0 | exact HY.out _ H23.out)
    (first | (go_at_call 72; refine (C62.out _ _ HDR.out.rd).mono ?_; rintro e w23 ⟨rfl, h1, h2⟩; have H23 := hid (HDR.out.step h1 h2); have y1 : w23.cell? ⟨hb, 9, none⟩ = some (.int .i64 x60) := HY.out _ H23.out; clear h1 h2) | (go_at_call 68; refine (is_ok _).mono ?_; rintro e wz ⟨rfl, rfl⟩))
  clear y0 y1 HX HY HDR hq
  have H24 := hid (show HeadW w g hb (fb + 1) T 64 #[.int .i64 x16, .int .i64 x18, .int .u64 x24, .int .i64 x48, .slice none 0 0, .slice none 0 0, .int .u64 x32, .int .u64 x40, .int .i64 x56, .int .i64 x60] wz from H23.out)
  have c8 : wz.cell? ⟨hb, 8, none⟩ = some (.int .i64 x56) := H24.out.hd.cell 8
  have c9 : wz.cell? ⟨hb, 9, none⟩ = some (.int .i64 x60) := H24.out.hd.cell 9
  have HBAD := hid (fun (h : ¬ (2 ≤ x60 ∧ x60 ≤ 1002 ∧ x56 ≤ 1000)) => (show HeadOk s → False from fun k => h (hOk.out.1 k).2.2.2.2.2.2))
  have hend : 2 ≤ x60 ∧ x60 ≤ 1002 ∧ x56 ≤ 1000 → True := fun _ => trivial
  by_cases g1 : 2 ≤ x60
  case neg =>
    have q1 : decide ((2 : Int) ≤ x60) = false := decide_eq_false (by omega)
    have HBAD := hid (HBAD.out (by omega))
    go_wp2_with fail
    refine (is_bad _).mono ?_
    rintro e wz ⟨rfl, rfl⟩
    exact ⟨rfl, HBADQ.out _ _ H24.out.bw (HBAD.out) rfl⟩
  have q1 : decide ((2 : Int) ≤ x60) = true := decide_eq_true (by omega)
  by_cases g2 : x60 ≤ 1002
  case neg =>
    have q2 : decide ((x60 : Int) ≤ 1002) = false := decide_eq_false (by omega)
    have HBAD := hid (HBAD.out (by omega))
    go_wp2_with fail
    refine (is_bad _).mono ?_
    rintro e wz ⟨rfl, rfl⟩
    exact ⟨rfl, HBADQ.out _ _ H24.out.bw (HBAD.out) rfl⟩
  have q2 : decide ((x60 : Int) ≤ 1002) = true := decide_eq_true (by omega)
  by_cases g3 : x56 ≤ 1000
  case neg =>
    have q3 : decide ((x56 : Int) ≤ 1000) = false := decide_eq_false (by omega)
    have HBAD := hid (HBAD.out (by omega))
    go_wp2_with fail
    refine (is_bad _).mono ?_
    rintro e wz ⟨rfl, rfl⟩
    exact ⟨rfl, HBADQ.out _ _ H24.out.bw (HBAD.out) rfl⟩
  have q3 : decide ((x56 : Int) ≤ 1000) = true := decide_eq_true (by omega)
  have HFIN := hid (hOk.out.2 ⟨HM.out, HC20.out, HC52.out, HC54.out, HC58.out, HC62.out, g1, g2, g3⟩)
  clear HBAD hend g1 g2 g3
  go_wp2_with fail
  refine (is_ok _).mono ?_
  rintro e wz ⟨rfl, rfl⟩
  clear c8 c9 q1 q2 q3
  have HRS := hid (show Has wz (fb + 1) 86 #[.int .i64 0, .int .i64 0, .int .u64 0, .int .i64 0, .slice none 0 0, .slice none 0 0, .int .u64 0, .int .u64 0, .int .i64 0, .int .i64 0] from H24.out.rs)
  have HPN := hid (HRS.out.set [.int .i64 x16, .int .i64 x18, .int .u64 x24, .int .i64 x48, .slice none 0 0, .slice none 0 0, .int .u64 x32, .int .u64 x40, .int .i64 x56, .int .i64 x60] rfl)
  have HBN := hid (H24.out.bw.set (show w.heap.size ≤ fb + 1 by rw [HFB.out]; omega) [.int .i64 x16, .int .i64 x18, .int .u64 x24, .int .i64 x48, .slice none 0 0, .slice none 0 0, .int .u64 x32, .int .u64 x40, .int .i64 x56, .int .i64 x60])
  go_upto_region 16 with fail
  refine wp_region_list ?_
  refine wpList_load_mid rfl 86 (.tmp 5) rfl (hb) 0 rfl [.int .i64 x16, .int .i64 x18, .int .u64 x24, .int .i64 x48, .slice none 0 0, .slice none 0 0, .int .u64 x32, .int .u64 x40, .int .i64 x56, .int .i64 x60] _ H24.out.hd.range Try.underlying86 rfl inf_head ?_
  simp only [Act.put, List.setIfInBounds_toArray, List.set_cons_zero, List.set_cons_succ]
  refine wpList_store_mid rfl 86 (.tmp 2) (.tmp 90) rfl (fb + 1) 0 #[.int .i64 x16, .int .i64 x18, .int .u64 x24, .int .i64 x48, .slice none 0 0, .slice none 0 0, .int .u64 x32, .int .u64 x40, .int .i64 x56, .int .i64 x60] rfl rfl (HRS.out.there 10 (Nat.le_refl _)) inf_head (by simp only [List.all_toArray, List.all_cons, List.all_nil]; rfl) ?_
  generalize World.setCells wz _ _ _ = wy at *
  go_wp2_with fail
  have p0 := HPN.out.cell 0
  have p1 := HPN.out.cell 1
  have p2 := HPN.out.cell 2
  have p3 := HPN.out.cell 3
  have p4 := HPN.out.cell 4
  have p5 := HPN.out.cell 5
  have p6 := HPN.out.cell 6
  have p7 := HPN.out.cell 7
  have p8 := HPN.out.cell 8
  have p9 := HPN.out.cell 9
  simp only [List.getElem?_toArray, List.getElem?_cons_zero, List.getElem?_cons_succ] at p0 p1 p2 p3 p4 p5 p6 p7 p8 p9
  refine bodyPost_ret (by simp [results, Try.results42, go_sem, p0, p1, p2, p3, p4, p5, p6, p7, p8, p9]; try rfl) rfl ?_
  exact HGOOD.out _ _ HBN.out HFIN.out rfl
end Go.Proofs.Ytciaebhkemdilaa
