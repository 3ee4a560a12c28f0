/- sfnt's reader: one table (contract of the function). -/
import Derived.Test.YtciaebhkemdilabSfC
import Derived.Test.YtciaebhkemdilabSfW
import Derived.Test.YtciaebhkemdilabShelfSf
import Derived.Deep.QuietTactic
import Derived.BigQuiet
import Derived.Deep.RegionLaw
namespace Go.Proofs.Ytciaebhkemdilab
open Go.RowKit
set_option linter.unusedVariables false
set_option linter.unusedSimpArgs false
def prevT (s : ByteArray) : Nat → ByteArray
  | 0 => ⟨#[]⟩
  | i + 1 => tagOf s i
theorem ord_no {s : ByteArray} {i : Nat} (ht : typB (tagOf s i) = true) (h : Op.bytesLess (tagOf s i).toList (prevT s i).toList = true ∨ ((tagOf s i).toList == (prevT s i).toList) = true) : ordB s i = false := by
  cases i with
  | zero =>
    have h4 := typ_size ht
    rcases h with h | h
    · have : (prevT s 0).toList = [] := by show (⟨#[]⟩ : ByteArray).toList = []; rw [toList_data]
      rw [this] at h
      cases hl : (tagOf s 0).toList with
      | nil => rw [hl] at h; cases h
      | cons a x => rw [hl] at h; cases h
    · rw [beq_iff_eq, toList_data, toList_data] at h
      have : (tagOf s 0).data.toList.length = 0 := by rw [h]; rfl
      have h5 : (tagOf s 0).data.toList.length = 4 := by rw [← h4]; simp
      omega
  | succ i =>
    show ltT (tagOf s i) (tagOf s (i + 1)) = false
    unfold ltT
    rcases h with h | h
    · exact (less_asym h).1
    · rw [beq_iff_eq] at h
      have h : (tagOf s (i + 1)).toList = (tagOf s i).toList := h
      rw [h]
      cases hb : Op.bytesLess (tagOf s i).toList (tagOf s i).toList with
      | false => rfl
      | true => exact absurd rfl (less_asym hb).2
theorem ord_yes {s : ByteArray} {i : Nat} (h1 : Op.bytesLess (tagOf s i).toList (prevT s i).toList = false) (h2 : ((tagOf s i).toList == (prevT s i).toList) = false) : ordB s i = true := by
  cases i with
  | zero => rfl
  | succ i =>
    exact less_not h1 (by
      have := beq_eq_false_iff_ne.1 h2
      exact this)
theorem count_all {s : ByteArray} {p q : Nat} (hp : p ≤ q) (hq : q ≤ s.size) : (Lib.countByte (s.extract p q).data.toList 0 = q - p) ↔ zeroB s p q = true := by
  have hl : (s.extract p q).data.toList.length = q - p := by
    have : (s.extract p q).size = q - p := by simp; omega
    rw [← this, size_list]
  unfold Lib.countByte zeroB
  rw [decide_eq_true_eq, ← hl, List.count_eq_length]
  have hb : ∀ j (hj : j < q - p), ((s.extract p q).data.toList[j]'(by rw [hl]; exact hj)).toNat = bt s (p + j) := fun j hj => by
    have h1 : j < (s.extract p q).size := by simp; omega
    have h2 := bt_eq (s.extract p q) j h1
    have h3 : bt (s.extract p q) j = bt s (p + j) := by
      have := bt_extract s p (q - p) j (by omega) hj
      rw [show p + (q - p) = q by omega] at this
      exact this
    rw [← h3, h2]; rfl
  constructor
  · intro h j hj
    rw [hl] at hj
    rw [← hb j hj, ← h _ (List.getElem_mem _)]
    rfl
  · intro h b hm
    obtain ⟨j, hj, rfl⟩ := List.getElem_of_mem hm
    have hj2 : j < q - p := by rw [← hl]; exact hj
    have := h j (by rw [hl]; exact hj2)
    rw [← hb j hj2] at this
    exact (UInt8.toNat_inj.1 (by rw [this]; rfl)).symm
def TabQ (s : ByteArray) (n i B : Nat) (l : List Nat) (rb g : Nat) (w : World) (e : Ending) (w' : World) : Prop :=
  Keeps (fun j => Oth B l j ∨ j = rb) w w' ∧
  ((tabE s n i = 0 ∧ e = .returned (.tuple #[.agg #[.string (tagOf s i), .string (datOf s i)], .int .i64 0]) ∧ Has w' rb 86 #[.int .i64 0, .string s, .pointer (some ⟨g, 0, none⟩), .string (tagOf s i), .int .i64 (allN s (i + 1) : Nat)] ∧ SetP (Oth B l) w' g (spnL s n (i + 1)))
    ∨ (tabE s n i ≠ 0 ∧ e = .returned (.tuple #[.agg #[.string ⟨#[]⟩, .string ⟨#[]⟩], .int .i64 (tabE s n i)])))
def put2t (w : World) (g : Nat) (a b : Value) : World := (w.setCell ⟨g, 0, none⟩ a).setCell ⟨g, 1, none⟩ b
theorem put2t_has {w : World} {g : Nat} {t : TypeId} {x0 x1 : Value} (k : Has w g t #[x0, x1]) (a b : Value) : Has (put2t w g a b) g t #[a, b] := (k.put 0 a).put 1 b
theorem put2t_far {w : World} {g h : Nat} {t : TypeId} {cs : Array Value} (k : Has w h t cs) (hn : h ≠ g) (a b : Value) : Has (put2t w g a b) h t cs := (k.far (p := ⟨g, 0, none⟩) hn a).far (p := ⟨g, 1, none⟩) hn b
theorem put2t_keeps {F : Nat → Prop} {a w : World} (h : Keeps F a w) {g : Nat} (hg : a.heap.size ≤ g) (x y : Value) : Keeps F a (put2t w g x y) := (h.setCell (p := ⟨g, 0, none⟩) (.inr hg) x).setCell (p := ⟨g, 1, none⟩) (.inr hg) y
theorem put2t_set {P : Nat → Prop} {w : World} {g h : Nat} {L : List PartR} (k : SetP P w h L) (hg : ¬ P g) (x y : Value) : SetP P (put2t w g x y) h L :=
  have hk : Keeps (fun j => j = g) w (put2t w g x y) := (Keeps.setCell (F := fun j => j = g) (Keeps.setCell (F := fun j => j = g) (Keeps.refl _ w) (p := ⟨g, 0, none⟩) (.inl rfl) x) (p := ⟨g, 1, none⟩) (.inl rfl) y)
  k.keep hk fun i hi e => hg (e ▸ hi)
theorem claim_e {L : List PartR} {p q : Nat} (h : p < q) (hq : q ≤ 4611686018427387904) : addE L p q = 0 ∨ addE L p q = 5 := by
  unfold addE
  rw [if_pos (by unfold spB; exact decide_eq_true ⟨by omega, by omega, by omega⟩)]
  split
  · exact .inr rfl
  · exact .inl rfl
theorem ext2 (s : ByteArray) (p q a b : Nat) (h : p + b ≤ q) (hq : q ≤ s.size) : (s.extract p q).extract a b = s.extract (p + a) (p + b) := by
  apply ba_ext
  rw [ext_list, ext_list, ext_list, List.drop_take, List.take_take, List.drop_drop]
  congr 1
  omega
def SubW (wx : World) (E b : Int) (T : ByteArray) (v6 v7 : Value) (W : World) : Prop :=
  v7 = .int .i64 E ∧ ∃ nb, v6 = .pointer (some ⟨nb, 0, none⟩) ∧ wx.heap.size ≤ nb ∧ Has W nb 57 #[.int .i64 b, .string T] ∧ Bw wx W
set_option maxRecDepth 100000 in
set_option maxHeartbeats 16000000 in
theorem table_any (s : ByteArray) (hs : s.size ≤ 1000000000) (n i : Nat) (hn : n ≤ 1000) (hi : i < n) (B : Nat) (l : List Nat) (rb g : Nat) (w : World) (hB : B ≤ w.heap.size) (hl : ∀ j ∈ l, j < w.heap.size) (hrb : rb ∈ l) (hal : allN s i ≤ 100000000000) (hr : Has w rb 86 #[.int .i64 0, .string s, .pointer (some ⟨g, 0, none⟩), .string (prevT s i), .int .i64 (allN s i : Nat)]) (hp : SetP (Oth B l) w g (spnL s n i)) :
    Calls Try.prog 42 #[.pointer (some ⟨rb, 0, none⟩), .agg #[.string (tagOf s i), .int .u32 (sumOf s i : Nat), .int .i64 (atOf s i : Nat), .int .i64 (lenOf s i : Nat)]] w (TabQ s n i B l rb g w) := by
  have hlm : s.size ≤ lim := by unfold lim; omega
  have HBD := hid (fun e w' (E : Int) (hk : Keeps (fun j => Oth B l j ∨ j = rb) w w') (h0 : tabE s n i = E) (h1 : E ≠ 0) (he : e = .returned (.tuple #[.agg #[.string ⟨#[]⟩, .string ⟨#[]⟩], .int .i64 E])) => (show TabQ s n i B l rb g w e w' from ⟨hk, .inr ⟨by rw [h0]; exact h1, by rw [h0]; exact he⟩⟩))
  have HGD := hid (fun e w' (hk : Keeps (fun j => Oth B l j ∨ j = rb) w w') (h0 : tabE s n i = 0) (he : e = .returned (.tuple #[.agg #[.string (tagOf s i), .string (datOf s i)], .int .i64 0])) (h1 : Has w' rb 86 #[.int .i64 0, .string s, .pointer (some ⟨g, 0, none⟩), .string (tagOf s i), .int .i64 (allN s (i + 1) : Nat)]) (h2 : SetP (Oth B l) w' g (spnL s n (i + 1))) => (show TabQ s n i B l rb g w e w' from ⟨hk, .inl ⟨h0, he, h1, h2⟩⟩))
  have HL := hid hl
  have HRB := hid hrb
  have HP0 := hid hp
  have HR0 := hid hr
  have hRise := hid (spnL_rising (s := s) (n := n) (by omega) i)
  have hLen := hid (show (spnL s n i).length ≤ 1000 from by have := spnL_len (s := s) n i; omega)
  have HFORM := hid (show formB s i = (typB (tagOf s i) && ordB s i && decide (atOf s i % 4 = 0) && decide (lenOf s i ≤ 16777216)) from rfl)
  have HF3 := hid (fun (h : formB s i = false) => tab_form (n := n) h)
  have HF2 := hid (fun (h : formB s i = true) (h2 : s.size < atOf s i + up4 (lenOf s i)) => tab_cut (n := n) h h2)
  have HFZ := hid (fun (h : formB s i = true) (h2 : ¬ s.size < atOf s i + up4 (lenOf s i)) (h3 : zeroB s (atOf s i + lenOf s i) (atOf s i + up4 (lenOf s i)) = false) => tab_zero (n := n) h h2 h3)
  have HFO := hid (fun (h : formB s i = true) (h2 : ¬ s.size < atOf s i + up4 (lenOf s i)) (h3 : zeroB s (atOf s i + lenOf s i) (atOf s i + up4 (lenOf s i)) = true) (h4 : lenOf s i ≠ 0 ∧ addE (spnL s n i) (atOf s i) ((atOf s i + up4 (lenOf s i) : Nat) : Int) ≠ 0) => tab_over (n := n) h h2 h3 h4)
  have HFS := hid (fun (h : formB s i = true) (h2 : ¬ s.size < atOf s i + up4 (lenOf s i)) (h3 : zeroB s (atOf s i + lenOf s i) (atOf s i + up4 (lenOf s i)) = true) (h4 : lenOf s i ≠ 0 → addE (spnL s n i) (atOf s i) ((atOf s i + up4 (lenOf s i) : Nat) : Int) = 0) (h5 : wrdT (datOf s i) ≠ sumOf s i) => tab_sum (n := n) h h2 h3 h4 h5)
  have HFK := hid (fun (h : formB s i = true) (h2 : ¬ s.size < atOf s i + up4 (lenOf s i)) (h3 : zeroB s (atOf s i + lenOf s i) (atOf s i + up4 (lenOf s i)) = true) (h4 : lenOf s i ≠ 0 → addE (spnL s n i) (atOf s i) ((atOf s i + up4 (lenOf s i) : Nat) : Int) = 0) (h5 : wrdT (datOf s i) = sumOf s i) => tab_ok (n := n) h h2 h3 h4 h5)
  have HON := hid (@ord_no s i)
  have HOY := hid (@ord_yes s i)
  have HSN := hid (show spnL s n (i + 1) = if up4 (lenOf s i) = 0 then spnL s n i else addL (spnL s n i) (atOf s i) ((atOf s i + up4 (lenOf s i) : Nat) : Int) i from rfl)
  have HAN := hid (show allN s (i + 1) = allN s i + up4 (lenOf s i) from rfl)
  have HDA := hid (show datOf s i = s.extract (atOf s i) (atOf s i + lenOf s i) from rfl)
  have lp := b4_lt s (eAt i + 8)
  have lm := b4_lt s (eAt i + 12)
  have ls := b4_lt s (eAt i + 4)
  change atOf s i < 4294967296 at lp
  change lenOf s i < 4294967296 at lm
  change sumOf s i < 4294967296 at ls
  have htz : (tagOf s i).size ≤ lim := by unfold tagOf lim; simp; omega
  obtain ⟨t, ht⟩ : ∃ x, tagOf s i = x := ⟨_, rfl⟩
  obtain ⟨tg, htg⟩ : ∃ x, prevT s i = x := ⟨_, rfl⟩
  obtain ⟨sm, hsm⟩ : ∃ x, sumOf s i = x := ⟨_, rfl⟩
  obtain ⟨p, hpp⟩ : ∃ x, atOf s i = x := ⟨_, rfl⟩
  obtain ⟨m, hmm⟩ : ∃ x, lenOf s i = x := ⟨_, rfl⟩
  obtain ⟨al, hall⟩ : ∃ x, allN s i = x := ⟨_, rfl⟩
  obtain ⟨L, hL⟩ : ∃ x, spnL s n i = x := ⟨_, rfl⟩
  rw [ht] at HON HOY HGD HFORM htz ⊢
  rw [htg] at HON HOY HR0
  rw [hsm] at HFS HFK ls ⊢
  rw [hpp] at HFORM HF2 HFZ HFO HFS HFK HSN HDA lp ⊢
  rw [hmm] at HFORM HF2 HFZ HFO HFS HFK HSN HAN HDA lm ⊢
  rw [hall] at HAN hal HR0
  rw [hL] at hRise hLen HFO HFS HFK HSN HP0
  obtain ⟨u, hu⟩ : ∃ x, up4 m = x := ⟨_, rfl⟩
  have HU := hid hu
  have hu1 : m ≤ u := by rw [← hu]; exact up4_ge m
  have hu2 : u < m + 4 := by rw [← hu]; exact up4_lt m
  have HU0 := hid (show u = 0 ↔ m = 0 from by rw [← hu]; exact up4_0)
  rw [hu] at HF2 HFZ HFO HFS HFK HSN HAN
  have HTG := hid (fun W => tag_any t htz W)
  have HW1 := hid (((Bw.refl w).alloc (.cells #[.string t, .int .u32 sm, .int .i64 p, .int .i64 m] 50)).alloc (.cells #[.string ⟨#[]⟩, .string ⟨#[]⟩] 35))
  have HE1 := hid ((Has.new w 50 #[.string t, .int .u32 sm, .int .i64 p, .int .i64 m]).alloc (.cells #[.string ⟨#[]⟩, .string ⟨#[]⟩] 35))
  have HT1 := hid (Has.new (w.alloc (.cells #[.string t, .int .u32 sm, .int .i64 p, .int .i64 m] 50)) 35 #[.string ⟨#[]⟩, .string ⟨#[]⟩])
  obtain ⟨eb, heb⟩ : ∃ x, w.heap.size = x := ⟨_, rfl⟩
  simp only [World.size_alloc, heb] at HE1 HT1
  have HEB := hid heb
  have HOE := hid (show ¬ Oth B l (eb + 1) ∨ True from .inr trivial)
  rw [heb] at hB
  have hNL := hid (show ∀ j ∈ l, j < eb from by rw [← heb]; exact hl)
  clear hl hrb hp hr ht htg hsm hpp hmm hall hL hu HOE
  clear htz
  go_enter Try.func42, Try.ntmps42
  go_upto_region 1 with fail
  generalize (w.alloc (.cells #[.string t, .int .u32 sm, .int .i64 p, .int .i64 m] 50)).alloc (.cells #[.string ⟨#[]⟩, .string ⟨#[]⟩] 35) = w1 at *
  clear heb
  have HR1 := hid (HW1.out.has HR0.out)
  have HP1 := hid (HP0.out.bw HW1.out)
  obtain ⟨FB, hFB⟩ : ∃ b, formB s i = b := ⟨_, rfl⟩
  have HFB := hid hFB
  rw [hFB] at HFORM HF3 HF2 HFZ HFO HFS HFK
  clear hFB
  go_cut [34] (fun v W => v = .bool (!FB) ∧ Bw w1 W)
  case first =>
    have e0 : w1.cell? ⟨eb, 0, none⟩ = some (.string t) := HE1.out.cell 0
    have e2 : w1.cell? ⟨eb, 2, none⟩ = some (.int .i64 p) := HE1.out.cell 2
    have e3 : w1.cell? ⟨eb, 3, none⟩ = some (.int .i64 m) := HE1.out.cell 3
    have r3 : w1.cell? ⟨rb, 3, none⟩ = some (.string tg) := HR1.out.cell 3
    obtain ⟨TB, hTB⟩ : ∃ b, typB t = b := ⟨_, rfl⟩
    rw [hTB] at HTG HON HFORM
    clear hTB
    cases TB with
    | false =>
      obtain rfl : FB = false := by rw [HFORM.out]; simp [*]
      go_quiet ((go_at_call 28; exact Calls.quiet_of_same (quiet_flip (HTG.out _))))
      go_wp2_with fail
      go_meet
      exact ⟨rfl, (Bw.refl w1).drewN _⟩
    | true =>
      obtain ⟨b1, hb1⟩ : ∃ b, Op.bytesLess t.toList tg.toList = b := ⟨_, rfl⟩
      obtain ⟨b2, hb2⟩ : ∃ b, (t.toList == tg.toList) = b := ⟨_, rfl⟩
      obtain ⟨OB, hOB⟩ : ∃ b, ordB s i = b := ⟨_, rfl⟩
      rw [hb1, hb2, hOB] at HON HOY
      rw [hOB] at HFORM
      have HBX := hid (show (b1 = true ∨ b2 = true) → OB = false from fun h => HON.out rfl h)
      have HBY := hid (show b1 = false → b2 = false → OB = true from HOY.out)
      clear hOB HON HOY
      cases b1 with
      | true =>
        have ho := HBX.out (.inl rfl)
        obtain rfl : FB = false := by rw [HFORM.out]; simp [*]
        go_quiet ((go_at_call 28; exact Calls.quiet_of_same (quiet_flip (HTG.out _))))
        go_wp2_with fail
        go_meet
        exact ⟨rfl, (Bw.refl w1).drewN _⟩
      | false =>
        cases b2 with
        | true =>
          have ho := HBX.out (.inr rfl)
          obtain rfl : FB = false := by rw [HFORM.out]; simp [*]
          go_quiet ((go_at_call 28; exact Calls.quiet_of_same (quiet_flip (HTG.out _))))
          go_wp2_with fail
          go_meet
          exact ⟨rfl, (Bw.refl w1).drewN _⟩
        | false =>
          have ho := HBY.out rfl rfl
          obtain ⟨r, hr⟩ : ∃ r, p % 4 = r := ⟨_, rfl⟩
          have v1 : (p : Int).tmod 4 = (r : Int) := by rw [Int.tmod_eq_emod_of_nonneg (by omega)]; omega
          rw [hr] at HFORM
          clear hr
          by_cases h4 : r = 0
          · have q4 : ((r : Int) != 0) = false := by rw [bne_eq_false_iff_eq]; omega
            by_cases hm : m ≤ 16777216
            · have qm : decide ((16777216 : Int) < (m : Int)) = false := decide_eq_false (by omega)
              obtain rfl : FB = true := by rw [HFORM.out]; simp [*]
              go_quiet ((go_at_call 28; exact Calls.quiet_of_same (quiet_flip (HTG.out _))))
              go_wp2_with fail
              go_meet
              exact ⟨rfl, (Bw.refl w1).drewN _⟩
            · have qm : decide ((16777216 : Int) < (m : Int)) = true := decide_eq_true (by omega)
              obtain rfl : FB = false := by rw [HFORM.out]; simp [*]
              go_quiet ((go_at_call 28; exact Calls.quiet_of_same (quiet_flip (HTG.out _))))
              go_wp2_with fail
              go_meet
              exact ⟨rfl, (Bw.refl w1).drewN _⟩
          · have q4 : ((r : Int) != 0) = true := by rw [bne_iff_ne]; omega
            obtain rfl : FB = false := by rw [HFORM.out]; simp [*]
            go_quiet ((go_at_call 28; exact Calls.quiet_of_same (quiet_flip (HTG.out _))))
            go_wp2_with fail
            go_meet
            exact ⟨rfl, (Bw.refl w1).drewN _⟩
  case rest =>
    obtain ⟨rfl, hbc⟩ := hcut
    have HEC := hid (hbc.has HE1.out)
    have HTC := hid (hbc.has HT1.out)
    have HRC := hid (hbc.has HR1.out)
    have HPC := hid (HP1.out.bw hbc)
    have HBC := hid (HW1.out.trans hbc)
    have HKC := hid (show Keeps (fun j => Oth B l j ∨ j = rb) w wc from Keeps.of_bw HBC.out)
    generalize wc = wx at *
    clear hbc HE1 HT1 HR1 HP1
    cases FB with
    | false =>
      have HE := hid (HF3.out (by trivial))
      have f0 := HTC.out.frozen 0
      have f1 := HTC.out.frozen 1
      have z0 : wx.cell? ⟨eb + 1, 0, none⟩ = some (.string ⟨#[]⟩) := HTC.out.cell 0
      have z1 : wx.cell? ⟨eb + 1, 1, none⟩ = some (.string ⟨#[]⟩) := HTC.out.cell 1
      have HPN := hid (put2t_has HTC.out (.string ⟨#[]⟩) (.string ⟨#[]⟩))
      have HKN := hid (put2t_keeps HKC.out (show w.heap.size ≤ eb + 1 by have := HEB.out; omega) (.string ⟨#[]⟩) (.string ⟨#[]⟩))
      unfold put2t at HPN HKN
      go_wp2
      generalize World.setCell (World.setCell wx _ _) _ _ = wz at *
      have p0 := HPN.out.cell 0
      have p1 := HPN.out.cell 1
      simp only [List.getElem?_toArray, List.getElem?_cons_zero, List.getElem?_cons_succ] at p0 p1
      refine bodyPost_ret (by simp [results, Try.results42, go_sem, p0, p1]; try rfl) rfl ?_
      exact HBD.out _ _ 3 HKN.out HE.out (by decide) rfl
    | true =>
      have HPD := hid (fun W => padded_any m (by omega) W)
      rw [HU.out] at HPD
      obtain ⟨bb, T, E, HSB, HCC⟩ : ∃ (bb : Int) (T : ByteArray) (E : Int), Hid (∀ W, Calls Try.prog 36 #[.agg #[.int .i64 0, .string s], .int .i64 p, .int .i64 u] W fun e w' => e = .returned (.tuple #[.agg #[.int .i64 bb, .string T], .int .i64 E]) ∧ Bw W w') ∧ Hid ((s.size < p + u ∧ E = 2) ∨ (¬ s.size < p + u ∧ E = 0 ∧ T = s.extract p (p + u))) := by
        by_cases hcc : s.size < p + u
        · exact ⟨0, ⟨#[]⟩, 2, hid (fun W => sub_out 0 (by omega) s hlm p u hcc W), hid (.inl ⟨hcc, rfl⟩)⟩
        · exact ⟨p, s.extract p (p + u), 0, hid (fun W => by
            have := sub_in 0 (by omega) s hlm p u (by omega) W
            simpa using this), hid (.inr ⟨hcc, rfl, rfl⟩)⟩
      have HS := hid (fun W (h : Bw wx W) => (show W.cell? ⟨rb, 0, none⟩ = some (.int .i64 0) ∧ W.cell? ⟨rb, 1, none⟩ = some (.string s) ∧ W.cell? ⟨eb, 2, none⟩ = some (.int .i64 p) ∧ W.cell? ⟨eb, 3, none⟩ = some (.int .i64 m) from ⟨(h.has HRC.out).cell 0, (h.has HRC.out).cell 1, (h.has HEC.out).cell 2, (h.has HEC.out).cell 3⟩))
      have HB0 := hid (show Bw wx wx.drew from (Bw.refl wx).drewN 1)
      have HBA := hid (show Bw wx (wx.alloc (.cells #[.int .i64 0, .string ⟨#[]⟩] 57)).drew from ((Bw.refl wx).alloc _).drewN 1)
      have HAN2 := hid (show Has (wx.alloc (.cells #[.int .i64 0, .string ⟨#[]⟩] 57)).drew wx.heap.size 57 #[.int .i64 0, .string ⟨#[]⟩] from Has.new wx _ _)
      go_upto_region 3 with fail
      go_cut [6, 7] (fun v6 v7 W => SubW wx E bb T v6 v7 W)
      case first =>
        go_region_held3 (fun W => W.cell? ⟨rb, 0, none⟩ = some (.int .i64 0) ∧ W.cell? ⟨rb, 1, none⟩ = some (.string s) ∧ W.cell? ⟨eb, 2, none⟩ = some (.int .i64 p) ∧ W.cell? ⟨eb, 3, none⟩ = some (.int .i64 m))
          (first | (with_reducible exact HS.out _ HB0.out) | (with_reducible exact HS.out _ HBA.out) | (with_reducible exact HS.out _ HB2.out) | (with_reducible exact HS.out _ (Bw.alloc HB2.out _)) | exact HS.out _ (Below.setCell (p := ⟨wx.heap.size, 1, none⟩) (Below.setCell (p := ⟨wx.heap.size, 0, none⟩) HB2.out (Nat.le_refl _) _) (Nat.le_refl _) _))
          (first
            | (go_at_call 18; refine (HPD.out _).mono ?_; rintro e w2 ⟨rfl, rfl⟩)
            | (go_at_call 36; refine (HSB.out _).mono ?_; rintro e w2 ⟨rfl, hb2⟩; have HB2 := hid (HB0.out.trans hb2); clear hb2)
            | (go_at_call 36; refine (HSB.out _).mono ?_; rintro e w2 ⟨rfl, hb2⟩; have HB2 := hid (HBA.out.trans hb2); have HAN3 := hid (hb2.has HAN2.out); have y0 := HAN3.out.cell 0; have y1 := HAN3.out.cell 1; have g0 := HAN3.out.frozen 0; have g1 := HAN3.out.frozen 1; clear hb2))
        all_goals
          go_wp2_with fail
          go_meet
          first
            | exact ⟨rfl, w2.heap.size, rfl, Below.size HB2.out, Has.new _ _ _, Bw.alloc HB2.out _⟩
            | exact ⟨rfl, wx.heap.size, rfl, Nat.le_refl _, put2t_has HAN3.out _ _, Below.setCell (p := ⟨wx.heap.size, 1, none⟩) (Below.setCell (p := ⟨wx.heap.size, 0, none⟩) HB2.out (Nat.le_refl _) _) (Nat.le_refl _) _⟩
      case rest =>
        obtain ⟨rfl, nb, rfl, hnb, hnw, hbw⟩ := hcut
        have HN := hid hnw
        have HEY := hid (hbw.has HEC.out)
        have HTY := hid (hbw.has HTC.out)
        have HRY := hid (hbw.has HRC.out)
        have HBY := hid (HBC.out.trans hbw)
        have HKY := hid (HKC.out.trans (Keeps.of_bw hbw))
        have HNB := hid (show eb + 1 < nb from by have := HTC.out.lt; omega)
        have HPY := hid (show SetP (Oth B (nb :: (eb + 1) :: eb :: l)) wc g L from (HP0.out.mono fun j hj ho => ⟨ho.1, fun hm => by
          rcases List.mem_cons.1 hm with rfl | hm
          · have := HNB.out; have := HEB.out; omega
          rcases List.mem_cons.1 hm with rfl | hm
          · have := HEB.out; omega
          rcases List.mem_cons.1 hm with rfl | hm
          · have := HEB.out; omega
          exact ho.2 hm⟩).bw HBY.out)
        have HLY := hid (show ∀ j ∈ nb :: (eb + 1) :: eb :: l, j < wc.heap.size from fun j hm => by
          have h1 := HTY.out.lt
          rcases List.mem_cons.1 hm with rfl | hm
          · exact HN.out.lt
          rcases List.mem_cons.1 hm with rfl | hm
          · exact h1
          rcases List.mem_cons.1 hm with rfl | hm
          · omega
          have := hNL.out j hm; omega)
        have HBS := hid (show B ≤ wc.heap.size from Nat.le_trans (by rw [← HEB.out] at hB; exact hB) (Below.size HBY.out))
        generalize wc = wy at *
        clear hnb hnw hbw HS HB0 HBA HAN2 HSB HEC HTC HRC HPC HBC HKC HP0 HR0
        rcases HCC.out with ⟨hc, rfl⟩ | ⟨hc, rfl, hT⟩
        · have HE := hid (HF2.out (by trivial) hc)
          clear hc HCC
          have f0 := HTY.out.frozen 0
          have f1 := HTY.out.frozen 1
          have z0 : wy.cell? ⟨eb + 1, 0, none⟩ = some (.string ⟨#[]⟩) := HTY.out.cell 0
          have z1 : wy.cell? ⟨eb + 1, 1, none⟩ = some (.string ⟨#[]⟩) := HTY.out.cell 1
          have HPN := hid (put2t_has HTY.out (.string ⟨#[]⟩) (.string ⟨#[]⟩))
          have HKN := hid (put2t_keeps HKY.out (show w.heap.size ≤ eb + 1 by have := HEB.out; omega) (.string ⟨#[]⟩) (.string ⟨#[]⟩))
          unfold put2t at HPN HKN
          go_wp2
          generalize World.setCell (World.setCell wy _ _) _ _ = wz at *
          have p0 := HPN.out.cell 0
          have p1 := HPN.out.cell 1
          simp only [List.getElem?_toArray, List.getElem?_cons_zero, List.getElem?_cons_succ] at p0 p1
          refine bodyPost_ret (by simp [results, Try.results42, go_sem, p0, p1]; try rfl) rfl ?_
          exact HBD.out _ _ 2 HKN.out HE.out (by decide) rfl
        · have HC := hid hc
          have hTz : T.size = u := by rw [hT]; simp; omega
          have HDAT := hid (show T.extract 0 m = datOf s i from by rw [hT, HDA.out, ext2 s p (p + u) 0 m (by omega) (by omega), Nat.add_zero])
          have HPAD := hid (show T.extract m u = s.extract (p + m) (p + u) from by rw [hT, ext2 s p (p + u) m u (by omega) (by omega)])
          have hTl : T.size ≤ lim := by rw [hTz]; unfold lim; omega
          have HTX := hid (fun W => text_any bb T hTl W)
          have HLN := hid (fun W => len_any bb T hTl W)
          rw [hTz] at HLN
          have HZB := hid (show (Lib.countByte (T.extract m u).data.toList 0 = u - m) ↔ zeroB s (p + m) (p + u) = true from by
            have := count_all (s := s) (p := p + m) (q := p + u) (by omega) (by omega)
            rw [HPAD.out, this.symm]
            constructor <;> intro h <;> omega)
          have hpz : (T.extract m u).size = u - m := by simp; omega
          have HWD := hid (fun W => words_any (T.extract 0 m) (by unfold lim; simp; omega) W)
          have hwl := wrdT_lt (T.extract 0 m)
          have HWT := hid (show wrdN (T.extract 0 m) (T.extract 0 m).size = wrdT (T.extract 0 m) from rfl)
          rw [HWT.out] at HWD
          clear hc hT HCC hTl
          have HS := hid (fun W (h : Bw wy W) => (show W.cell? ⟨nb, 0, none⟩ = some (.int .i64 bb) ∧ W.cell? ⟨nb, 1, none⟩ = some (.string T) ∧ W.cell? ⟨eb, 2, none⟩ = some (.int .i64 p) ∧ W.cell? ⟨eb, 3, none⟩ = some (.int .i64 m) from ⟨(h.has HN.out).cell 0, (h.has HN.out).cell 1, (h.has HEY.out).cell 2, (h.has HEY.out).cell 3⟩))
          have HB0 := hid (show Bw wy wy.drew from (Bw.refl wy).drewN 1)
          have hm1 : (m : Int) ≤ (u : Int) := by omega
          have hm0 : (0 : Int) ≤ (m : Int) := by omega
          go_upto_region 6 with fail
          go_region_held3 (fun W => W.cell? ⟨nb, 0, none⟩ = some (.int .i64 bb) ∧ W.cell? ⟨nb, 1, none⟩ = some (.string T) ∧ W.cell? ⟨eb, 2, none⟩ = some (.int .i64 p) ∧ W.cell? ⟨eb, 3, none⟩ = some (.int .i64 m))
            (first | (with_reducible exact HS.out _ HB0.out) | (with_reducible exact HS.out _ HB3.out) | (with_reducible exact HS.out _ HB2.out))
            (first
              | (go_at_call 38; refine (HTX.out _).mono ?_; rintro e w2 ⟨rfl, hb2⟩; have HB3 := hid (HB2.out.trans hb2); clear hb2)
              | (go_at_call 38; refine (HTX.out _).mono ?_; rintro e w2 ⟨rfl, hb2⟩; have HB2 := hid (HB0.out.trans hb2); clear hb2))
          have HEZ := hid (HB3.out.has HEY.out)
          have HTZ := hid (HB3.out.has HTY.out)
          have HRZ := hid (HB3.out.has HRY.out)
          have HNZ := hid (HB3.out.has HN.out)
          have HBZ := hid (HBY.out.trans HB3.out)
          have HKZ := hid (HKY.out.trans (Keeps.of_bw HB3.out))
          have HPZ := hid (HPY.out.bw HB3.out)
          have HLZ := hid (show ∀ j ∈ nb :: (eb + 1) :: eb :: l, j < w2.heap.size from fun j hm => Nat.lt_of_lt_of_le (HLY.out j hm) (Below.size HB3.out))
          have HBSZ := hid (show B ≤ w2.heap.size from Nat.le_trans HBS.out (Below.size HB3.out))
          generalize w2 = w3 at *
          clear HEY HTY HRY HN HBY HKY HPY HLY HBS HS HB0 HB3 hm1
          obtain ⟨cn, hcn⟩ : ∃ x, Lib.countByte (T.extract m u).data.toList 0 = x := ⟨_, rfl⟩
          have HCN := hid (fun W => lib_Count (T.extract m u) W)
          rw [hcn] at HZB HCN
          obtain ⟨pad, hpad⟩ : ∃ x, T.extract m u = x := ⟨_, rfl⟩
          obtain ⟨dat, hdat⟩ : ∃ x, T.extract 0 m = x := ⟨_, rfl⟩
          obtain ⟨pz, hpzz⟩ : ∃ x, u - m = x := ⟨_, rfl⟩
          rw [hpad] at HCN hpz ⊢
          rw [hdat] at HDAT HWD hwl ⊢
          rw [hpzz] at hpz HZB
          clear hcn hpad hdat hpzz HPAD HWT
          by_cases hz : cn = pz
          case neg =>
            have HE := hid (HFZ.out (by trivial) HC.out (by
              cases h : zeroB s (p + m) (p + u) with
              | false => rfl
              | true => exact absurd (HZB.out.2 h) hz))
            have qz : ((cn : Int) != (pz : Int)) = true := by rw [bne_iff_ne]; omega
            clear hz
            go_wp2_with fail
            refine (HCN.out _).mono ?_
            rintro e w4 ⟨rfl, rfl⟩
            have f0 := HTZ.out.frozen 0
            have f1 := HTZ.out.frozen 1
            have z0 : w3.cell? ⟨eb + 1, 0, none⟩ = some (.string ⟨#[]⟩) := HTZ.out.cell 0
            have z1 : w3.cell? ⟨eb + 1, 1, none⟩ = some (.string ⟨#[]⟩) := HTZ.out.cell 1
            have HPN := hid (put2t_has HTZ.out (.string ⟨#[]⟩) (.string ⟨#[]⟩))
            have HKN := hid (put2t_keeps HKZ.out (show w.heap.size ≤ eb + 1 by have := HEB.out; omega) (.string ⟨#[]⟩) (.string ⟨#[]⟩))
            unfold put2t at HPN HKN
            go_wp2
            generalize World.setCell (World.setCell w3 _ _) _ _ = wz at *
            have p0 := HPN.out.cell 0
            have p1 := HPN.out.cell 1
            simp only [List.getElem?_toArray, List.getElem?_cons_zero, List.getElem?_cons_succ] at p0 p1
            refine bodyPost_ret (by simp [results, Try.results42, go_sem, p0, p1]; try rfl) rfl ?_
            exact HBD.out _ _ 3 HKN.out HE.out (by decide) rfl
          have HZE := hid (HZB.out.1 hz)
          have qz : ((cn : Int) != (pz : Int)) = false := by rw [bne_eq_false_iff_eq]; omega
          clear hz HZB
          obtain ⟨CE, hCE⟩ : ∃ x : Int, (if u = 0 then 0 else addE L p ((p + u : Nat) : Int)) = x := ⟨_, rfl⟩
          have HCE := hid hCE
          obtain ⟨M, hM⟩ : ∃ x : List PartR, (if u = 0 then L else addL L p ((p + u : Nat) : Int) i) = x := ⟨_, rfl⟩
          have HMM := hid hM
          have HCL := hid (fun W (h : Bw w3 W) => (show Calls Try.prog 40 #[.pointer (some ⟨rb, 0, none⟩), .int .i64 p, .int .i64 u] W fun e w' => e = .returned (.int .i64 CE) ∧ SetP (Oth B (nb :: (eb + 1) :: eb :: l)) w' g M ∧ Keeps (Oth B (nb :: (eb + 1) :: eb :: l)) W w' from by
            have q := claim_any B (nb :: (eb + 1) :: eb :: l) rb g 0 al s tg L hRise.out hLen.out p u (by omega) i W (Nat.le_trans HBSZ.out (Below.size h)) (fun j hm => Nat.lt_of_lt_of_le (HLZ.out j hm) (Below.size h)) (h.has HRZ.out) (HPZ.out.bw h)
            unfold ClaimQ at q
            rw [hCE, hM] at q
            exact q))
          have HS := hid (fun W (h : Bw w3 W) => (show W.cell? ⟨nb, 0, none⟩ = some (.int .i64 bb) ∧ W.cell? ⟨nb, 1, none⟩ = some (.string T) ∧ W.cell? ⟨eb, 2, none⟩ = some (.int .i64 p) from ⟨(h.has HNZ.out).cell 0, (h.has HNZ.out).cell 1, (h.has HEZ.out).cell 2⟩))
          have hnn := hid (show ¬ Oth B (nb :: (eb + 1) :: eb :: l) nb ∧ ¬ Oth B (nb :: (eb + 1) :: eb :: l) eb ∧ ¬ Oth B (nb :: (eb + 1) :: eb :: l) (eb + 1) ∧ ¬ Oth B (nb :: (eb + 1) :: eb :: l) rb from ⟨fun h => h.2 (by simp), fun h => h.2 (by simp), fun h => h.2 (by simp), fun h => h.2 (by
            have := HRB.out
            exact List.mem_cons_of_mem _ (List.mem_cons_of_mem _ (List.mem_cons_of_mem _ this)))⟩)
          have HSK := hid (fun W W' (h : Bw w3 W) (k : Keeps (Oth B (nb :: (eb + 1) :: eb :: l)) W W') => (show W'.cell? ⟨nb, 0, none⟩ = some (.int .i64 bb) ∧ W'.cell? ⟨nb, 1, none⟩ = some (.string T) ∧ W'.cell? ⟨eb, 2, none⟩ = some (.int .i64 p) from ⟨(k.has (h.has HNZ.out) hnn.out.1).cell 0, (k.has (h.has HNZ.out) hnn.out.1).cell 1, (k.has (h.has HEZ.out) hnn.out.2.1).cell 2⟩))
          have HB0 := hid (show Bw w3 w3.drew from (Bw.refl w3).drewN 1)
          clear hCE hM
          go_wp2_with fail
          refine (HCN.out _).mono ?_
          rintro e w4 ⟨rfl, rfl⟩
          go_upto_region 9 with fail
          go_region_held3 (fun W => W.cell? ⟨nb, 0, none⟩ = some (.int .i64 bb) ∧ W.cell? ⟨nb, 1, none⟩ = some (.string T) ∧ W.cell? ⟨eb, 2, none⟩ = some (.int .i64 p))
            (first | (with_reducible exact HS.out _ HB0.out) | (with_reducible exact HS.out _ HB2.out) | (with_reducible exact HSK.out _ _ HB2.out HK5.out))
            (first
              | (go_at_call 41; refine (HLN.out _).mono ?_; rintro e w4 ⟨rfl, hb2⟩; have HB2 := hid (HB0.out.trans hb2); clear hb2)
              | (go_at_call 40; refine (HCL.out _ HB2.out).mono ?_; rintro e w5 ⟨rfl, hp5, hk5⟩; have HP5 := hid hp5; have HK5 := hid hk5; clear hp5 hk5))
          have HE5 := hid (HK5.out.has (HB2.out.has HEZ.out) hnn.out.2.1)
          have HT5 := hid (HK5.out.has (HB2.out.has HTZ.out) hnn.out.2.2.1)
          have HR5 := hid (HK5.out.has (HB2.out.has HRZ.out) hnn.out.2.2.2)
          have HN5 := hid (HK5.out.has (HB2.out.has HNZ.out) hnn.out.1)
          have HK6 := hid (show Keeps (fun j => Oth B l j ∨ j = rb) w w5 from (HKZ.out.trans (Keeps.of_bw HB2.out)).trans (HK5.out.mono fun j _ h => .inl ⟨h.1, fun hm => h.2 (List.mem_cons_of_mem _ (List.mem_cons_of_mem _ (List.mem_cons_of_mem _ hm)))⟩))
          have HP6 := hid (show SetP (Oth B ((eb + 1) :: l)) w5 g M from HP5.out.mono fun j _ h => ⟨h.1, fun hm => h.2 (by
            rcases List.mem_cons.1 hm with rfl | hm
            · simp
            · exact List.mem_cons_of_mem _ (List.mem_cons_of_mem _ (List.mem_cons_of_mem _ hm)))⟩)
          have HZ5 := hid (show w.heap.size ≤ w5.heap.size from HK6.out.size)
          generalize w5 = wv at *
          clear HEZ HTZ HRZ HNZ HBZ HKZ HPZ HLZ HBSZ HS HSK HB0 HB2 HK5 HP5 HCL HCN qz
          have hC5 : CE = 0 ∨ CE = 5 := by
            rw [← HCE.out]
            by_cases h0 : u = 0
            · rw [if_pos h0]; exact .inl rfl
            · rw [if_neg h0]; exact claim_e (by omega) (by omega)
          rcases hC5 with rfl | rfl
          case inr =>
            have HE := hid (HFO.out (by trivial) HC.out HZE.out (by
              have h := HCE.out
              by_cases h0 : u = 0
              · rw [if_pos h0] at h; cases h
              · rw [if_neg h0] at h
                exact ⟨fun hm => h0 (HU0.out.2 hm), by rw [h]; decide⟩))
            have f0 := HT5.out.frozen 0
            have f1 := HT5.out.frozen 1
            have z0 : wv.cell? ⟨eb + 1, 0, none⟩ = some (.string ⟨#[]⟩) := HT5.out.cell 0
            have z1 : wv.cell? ⟨eb + 1, 1, none⟩ = some (.string ⟨#[]⟩) := HT5.out.cell 1
            have HPN := hid (put2t_has HT5.out (.string ⟨#[]⟩) (.string ⟨#[]⟩))
            have HKN := hid (put2t_keeps HK6.out (show w.heap.size ≤ eb + 1 by have := HEB.out; omega) (.string ⟨#[]⟩) (.string ⟨#[]⟩))
            unfold put2t at HPN HKN
            go_wp2
            generalize World.setCell (World.setCell wv _ _) _ _ = wz at *
            have p0 := HPN.out.cell 0
            have p1 := HPN.out.cell 1
            simp only [List.getElem?_toArray, List.getElem?_cons_zero, List.getElem?_cons_succ] at p0 p1
            refine bodyPost_ret (by simp [results, Try.results42, go_sem, p0, p1]; try rfl) rfl ?_
            exact HBD.out _ _ 5 HKN.out HE.out (by decide) rfl
          have HOK := hid (show m ≠ 0 → addE L p ((p + u : Nat) : Int) = 0 from fun hm => by
            have h := HCE.out
            rw [if_neg (fun h0 => hm (HU0.out.1 h0))] at h
            exact h)
          clear HCE
          obtain ⟨wd, hwd⟩ : ∃ x, wrdT dat = x := ⟨_, rfl⟩
          rw [hwd] at HWD hwl
          have HWE := hid (show wrdT (datOf s i) = wd from by rw [← HDAT.out]; exact hwd)
          clear hwd
          have e1 : wv.cell? ⟨eb, 1, none⟩ = some (.int .u32 sm) := HE5.out.cell 1
          go_upto_region 12 with fail
          by_cases hw : wd = sm
          case neg =>
            have HE := hid (HFS.out (by trivial) HC.out HZE.out HOK.out (by rw [HWE.out]; exact hw))
            have qw : ((wd : Int) != (sm : Int)) = true := by rw [bne_iff_ne]; omega
            clear hw
            go_quiet ((go_at_call 11; exact Calls.quiet_of_same (quiet_flip (HWD.out _))))
            have HT6 := hid (show Has (wv.drewN nq) (eb + 1) 35 #[.string ⟨#[]⟩, .string ⟨#[]⟩] from ((Bw.refl wv).drewN nq).has HT5.out)
            have HK7 := hid (HK6.out.drewN nq)
            generalize wv.drewN nq = ww at *
            clear e1
            have f0 := HT6.out.frozen 0
            have f1 := HT6.out.frozen 1
            have z0 : ww.cell? ⟨eb + 1, 0, none⟩ = some (.string ⟨#[]⟩) := HT6.out.cell 0
            have z1 : ww.cell? ⟨eb + 1, 1, none⟩ = some (.string ⟨#[]⟩) := HT6.out.cell 1
            have HPN := hid (put2t_has HT6.out (.string ⟨#[]⟩) (.string ⟨#[]⟩))
            have HKN := hid (put2t_keeps HK7.out (show w.heap.size ≤ eb + 1 by have := HEB.out; omega) (.string ⟨#[]⟩) (.string ⟨#[]⟩))
            unfold put2t at HPN HKN
            go_wp2
            generalize World.setCell (World.setCell ww _ _) _ _ = wz at *
            have p0 := HPN.out.cell 0
            have p1 := HPN.out.cell 1
            simp only [List.getElem?_toArray, List.getElem?_cons_zero, List.getElem?_cons_succ] at p0 p1
            refine bodyPost_ret (by simp [results, Try.results42, go_sem, p0, p1]; try rfl) rfl ?_
            exact HBD.out _ _ 4 HKN.out HE.out (by decide) rfl
          have HE := hid (HFK.out (by trivial) HC.out HZE.out HOK.out (by rw [HWE.out]; exact hw))
          have qw : ((wd : Int) != (sm : Int)) = false := by rw [bne_eq_false_iff_eq]; omega
          clear hw
          go_quiet ((go_at_call 11; exact Calls.quiet_of_same (quiet_flip (HWD.out _))))
          have HBW := hid (show Bw wv (wv.drewN nq) from (Bw.refl wv).drewN nq)
          have HE6 := hid (HBW.out.has HE5.out)
          have HT6 := hid (HBW.out.has HT5.out)
          have HR6 := hid (HBW.out.has HR5.out)
          have HN6 := hid (HBW.out.has HN5.out)
          have HK7 := hid (HK6.out.drewN nq)
          have HP7 := hid (HP6.out.bw HBW.out)
          generalize wv.drewN nq = ww at *
          clear e1 HE5 HT5 HR5 HN5 HK6 HP6 HBW
          have e0 : ww.cell? ⟨eb, 0, none⟩ = some (.string t) := HE6.out.cell 0
          have r3 : ww.cell? ⟨rb, 3, none⟩ = some (.string tg) := HR6.out.cell 3
          have f3 : ww.frozen? ⟨rb, 3, none⟩ = false := HR6.out.frozen 3
          have hrn := hid (show rb < eb from hNL.out rb HRB.out)
          have HRX := hid (show Has (ww.setCell ⟨rb, 3, none⟩ (.string t)) rb 86 #[.int .i64 0, .string s, .pointer (some ⟨g, 0, none⟩), .string t, .int .i64 al] from HR6.out.put 3 _)
          have HEX := hid (HE6.out.far (p := ⟨rb, 3, none⟩) (show eb ≠ rb by have := hrn.out; omega) (.string t))
          have HTX2 := hid (HT6.out.far (p := ⟨rb, 3, none⟩) (show eb + 1 ≠ rb by have := hrn.out; omega) (.string t))
          have HNX := hid (HN6.out.far (p := ⟨rb, 3, none⟩) (show nb ≠ rb by have := hrn.out; have := HNB.out; omega) (.string t))
          have HKX := hid (HK7.out.setCell (p := ⟨rb, 3, none⟩) (.inl (.inr rfl)) (.string t))
          have HPX := hid (show SetP (Oth B ((eb + 1) :: l)) (ww.setCell ⟨rb, 3, none⟩ (.string t)) g M from HP7.out.keep (F := fun j => j = rb) (Keeps.of_setCell (F := fun j => j = rb) (p := ⟨rb, 3, none⟩) rfl _) fun j hj e => hj.2 (by rw [e]; exact List.mem_cons_of_mem _ HRB.out))
          go_upto_region 15 with fail
          generalize ww.setCell ⟨rb, 3, none⟩ (.string t) = wq at *
          clear e0 r3 f3 HE6 HT6 HR6 HN6 HK7 HP7
          have v1 : IntKind.i64.wrap ((al : Int) + (u : Int)) = ((al + u : Nat) : Int) := by rw [IntWalk.i64_in _ (by omega)]; omega
          have n0 : wq.drew.cell? ⟨nb, 0, none⟩ = some (.int .i64 bb) := HNX.out.cell 0
          have n1 : wq.drew.cell? ⟨nb, 1, none⟩ = some (.string T) := HNX.out.cell 1
          have r4 : wq.drew.cell? ⟨rb, 4, none⟩ = some (.int .i64 al) := HRX.out.cell 4
          have HB0 := hid (show Bw wq wq.drew from (Bw.refl wq).drewN 1)
          go_region_law (go_simp; go_at_call 41; refine (HLN.out _).mono ?_; rintro e w8 ⟨rfl, hb8⟩; have HB8 := hid (HB0.out.trans hb8); have x4 : w8.cell? ⟨rb, 4, none⟩ = some (.int .i64 al) := (HB8.out.has HRX.out).cell 4; have x5 : w8.frozen? ⟨rb, 4, none⟩ = false := (HB8.out.has HRX.out).frozen 4; clear hb8)
          all_goals
            have HR9 := hid (show Has (w8.setCell ⟨rb, 4, none⟩ (.int .i64 ((al : Int) + (u : Int)))) rb 86 #[.int .i64 0, .string s, .pointer (some ⟨g, 0, none⟩), .string t, .int .i64 ((al + u : Nat) : Int)] from (HB8.out.has HRX.out).put 4 _)
            have HE9 := hid ((HB8.out.has HEX.out).far (p := ⟨rb, 4, none⟩) (show eb ≠ rb by have := hrn.out; omega) (.int .i64 ((al : Int) + (u : Int))))
            have HT9 := hid ((HB8.out.has HTX2.out).far (p := ⟨rb, 4, none⟩) (show eb + 1 ≠ rb by have := hrn.out; omega) (.int .i64 ((al : Int) + (u : Int))))
            have HK9 := hid (Keeps.setCell (HKX.out.trans (Keeps.of_bw HB8.out)) (p := ⟨rb, 4, none⟩) (.inl (.inr rfl)) (.int .i64 ((al : Int) + (u : Int))))
            have HP9 := hid (show SetP (Oth B ((eb + 1) :: l)) (w8.setCell ⟨rb, 4, none⟩ (.int .i64 ((al : Int) + (u : Int)))) g M from (HPX.out.bw HB8.out).keep (F := fun j => j = rb) (Keeps.of_setCell (F := fun j => j = rb) (p := ⟨rb, 4, none⟩) rfl _) fun j hj e => hj.2 (by rw [e]; exact List.mem_cons_of_mem _ HRB.out))
            generalize w8.setCell ⟨rb, 4, none⟩ (.int .i64 ((al : Int) + (u : Int))) = w9 at *
            clear x4 x5 n0 n1 r4 HB8 v1 HRX HEX HTX2 HNX HKX HPX
            have e0 : w9.cell? ⟨eb, 0, none⟩ = some (.string t) := HE9.out.cell 0
            have f0 := HT9.out.frozen 0
            have f1 := HT9.out.frozen 1
            have z0 : w9.cell? ⟨eb + 1, 0, none⟩ = some (.string ⟨#[]⟩) := HT9.out.cell 0
            have z1 : w9.cell? ⟨eb + 1, 1, none⟩ = some (.string ⟨#[]⟩) := HT9.out.cell 1
            have HPN := hid (put2t_has HT9.out (.string t) (.string dat))
            have HKN := hid (put2t_keeps HK9.out (show w.heap.size ≤ eb + 1 by have := HEB.out; omega) (.string t) (.string dat))
            have HRN := hid (put2t_far HR9.out (show rb ≠ eb + 1 by have := hrn.out; omega) (.string t) (.string dat))
            have HSN2 := hid (show SetP (Oth B l) (put2t w9 (eb + 1) (.string t) (.string dat)) g M from (put2t_set HP9.out (fun h => h.2 (by simp)) (.string t) (.string dat)).mono fun j _ h => ⟨h.1, fun hm => h.2 (List.mem_cons_of_mem _ hm)⟩)
            unfold put2t at HPN HKN HRN HSN2
            go_wp2
            generalize World.setCell (World.setCell w9 _ _) _ _ = wz at *
            have p0 := HPN.out.cell 0
            have p1 := HPN.out.cell 1
            simp only [List.getElem?_toArray, List.getElem?_cons_zero, List.getElem?_cons_succ] at p0 p1
            refine bodyPost_ret (by simp [results, Try.results42, go_sem, p0, p1]; try rfl) rfl ?_
            exact HGD.out _ _ HKN.out HE.out (by rw [← HDAT.out]) (by rw [HAN.out]; exact HRN.out) (by rw [HSN.out, HMM.out]; exact HSN2.out)
end Go.Proofs.Ytciaebhkemdilab
