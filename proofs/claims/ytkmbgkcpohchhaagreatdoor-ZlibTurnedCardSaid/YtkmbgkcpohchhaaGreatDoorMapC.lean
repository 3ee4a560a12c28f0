import Derived.Test.YtkmbgkcpohchhaaGreatDoorGRowB
import Derived.Deep.RegionHeld3
/- token, where three bytes are left (contract of the function). -/
namespace Go.Proofs.YtkmbgkcpohchhaaGreatDoor
open Go.RowKit
set_option linter.unusedVariables false
/-- The finder in memory. -/
structure FinAt (w : World) (g mb n : Nat) (s : ByteArray) (F : Pl) : Prop where
  blk : Has w g 86 #[.string s, .map (some mb)]
  map : MapAt w mb n F
theorem FinAt.bw {w w' : World} {g mb n : Nat} {s : ByteArray} {F : Pl} (h : FinAt w g mb n s F) (hb : Bw w w') : FinAt w' g mb n s F := ⟨hb.has h.blk, h.map.bw hb⟩
/-- A place that may be kept for three bytes: none, or one where they stand. -/
def PlOk (s : ByteArray) (k : Nat) (x y z : UInt8) (p : Int) : Prop := p = 0 ∨ ∃ q : Nat, p = (q : Nat) + 1 ∧ q < k ∧ s.data[q]? = some x ∧ s.data[q + 1]? = some y ∧ s.data[q + 2]? = some z
def PlsOk (s : ByteArray) (k : Nat) (F : Pl) : Prop := ∀ x y z, ∀ p ∈ F x y z, PlOk s k x y z p
/-- A token that may follow the first k bytes of a text. -/
def TokAt (s : ByteArray) (k : Nat) (t : TokR) : Prop :=
  (∃ b, s.data[k]? = some b ∧ t = ⟨b.toNat, 0, 0⟩) ∨ ∃ n d : Nat, t = ⟨0, n, d⟩ ∧ 3 ≤ n ∧ n ≤ 258 ∧ k + n ≤ s.size ∧ 1 ≤ d ∧ d ≤ k ∧ d ≤ 32768 ∧ Same s (k - d) k n
/-- It reaches as far as the place at p. -/
def Reach (s : ByteArray) (k : Nat) (p : Int) (t : TokR) : Prop := ∀ q m : Nat, p = (q : Nat) + 1 → q < k → k - q ≤ 32768 → m ≤ min (s.size - k) 258 → Same s q k m → (m : Int) ≤ t.len
theorem index_pl (ps : List Int) (h8 : ps.length = 8) (j : Nat) (hj : j < 8) (w : World) : (Instr.index 136 (plV ps) (.int .i64 j)).run Tryz.prog w = .ok (.int .i64 (ps.getD j 0)) w := by
  have e : (Instr.index 136 (plV ps) (.int .i64 j)).run Tryz.prog w = (part 3 (ps.map (Value.int .i64)).toArray (j * 1)).run Tryz.prog w := by
    have h0 : 0 ≤ (j : Int) ∧ (j : Int) < (8 : Nat) := by omega
    unfold plV
    simp [Instr.index, run_underlying Tryz.underlying136, asIntOf, h0, hj, go_sem]
  rw [e]
  have hg : (ps.map (Value.int .i64)).toArray[j]? = some (.int .i64 (ps.getD j 0)) := by
    simp [List.getD, hj, h8]
  simp [part, hg, go_sem]
theorem has_put3' {w2 : World} {g : Nat} {t : TypeId} {a b c : Value} (h : Has w2 g t #[a, b, c]) (x y z : Value) : Has (put3 w2 g x y z) g t #[x, y, z] := by
  have h2 := ((h.put 0 x).put 1 y).put 2 z
  unfold put3
  simpa using h2
theorem com3 {s : ByteArray} {q k most n : Nat} (h0 : s.data[q]? = s.data[k]?) (h1 : s.data[q + 1]? = s.data[k + 1]?) (h2 : s.data[q + 2]? = s.data[k + 2]?) (hm : 3 ≤ most) (hn : n = most ∨ s.data[q + n]? ≠ s.data[k + n]?) : 3 ≤ n := by
  rcases Nat.lt_or_ge n 3 with h | h
  · have : n = 0 ∨ n = 1 ∨ n = 2 := by omega
    rcases hn with hn | hn
    · omega
    · rcases this with rfl | rfl | rfl
      · exact absurd h0 hn
      · exact absurd h1 hn
      · exact absurd h2 hn
  · exact h
theorem com_max {s : ByteArray} {q k most n m : Nat} (hn : n = most ∨ s.data[q + n]? ≠ s.data[k + n]?) (hm : m ≤ most) (hs : Same s q k m) : m ≤ n := by
  rcases Nat.lt_or_ge n m with h | h
  · rcases hn with hn | hn
    · omega
    · exact absurd (hs n h) hn
  · exact h
theorem put3_far {w2 : World} {g g' : Nat} {t : TypeId} {cs : Array Value} (h : Has w2 g t cs) (hg : g ≠ g') (x y z : Value) : Has (put3 w2 g' x y z) g t cs :=
  ((h.far (p := ⟨g', 0, none⟩) hg x).far (p := ⟨g', 1, none⟩) hg y).far (p := ⟨g', 2, none⟩) hg z
theorem put3_bw' {w w2 : World} (h : Bw w w2) {g : Nat} (hg : w.heap.size ≤ g) (x y z : Value) : Bw w (put3 w2 g x y z) :=
  Below.setCell (Below.setCell (Below.setCell h hg _) hg _) hg _
/-- How many bytes are the same from q and from k on, up to so many. -/
def comGo (s : ByteArray) (q k : Nat) : Nat → Nat → Nat
  | 0, n => n
  | f + 1, n => if s.data[q + n]? = s.data[k + n]? then comGo s q k f (n + 1) else n
def comN (s : ByteArray) (q k : Nat) : Nat := comGo s q k (min (s.size - k) 258) 0
theorem comGo_is (s : ByteArray) (q k m : Nat) (hs : ∀ i, i < m → s.data[q + i]? = s.data[k + i]?) : ∀ f n, n ≤ m → (m = n + f ∨ (m < n + f ∧ s.data[q + m]? ≠ s.data[k + m]?)) → comGo s q k f n = m
  | 0, n, h1, h2 => by
    show n = m
    rcases h2 with h | h <;> omega
  | f + 1, n, h1, h2 => by
    rw [comGo]
    rcases Nat.lt_or_ge n m with h | h
    · rw [if_pos (hs n h)]
      exact comGo_is s q k m hs f (n + 1) (by omega) (by
        rcases h2 with h2 | h2
        · left; omega
        · right; exact ⟨by omega, h2.2⟩)
    · obtain rfl : n = m := by omega
      rcases h2 with h2 | h2
      · omega
      · rw [if_neg h2.2]
theorem comN_is {s : ByteArray} {q k m : Nat} (hm : m ≤ min (s.size - k) 258) (hs : Same s q k m) (hn : m = min (s.size - k) 258 ∨ s.data[q + m]? ≠ s.data[k + m]?) : comN s q k = m := by
  refine comGo_is s q k m hs _ 0 (Nat.zero_le _) ?_
  rcases hn with h | h
  · left; omega
  · rcases Nat.lt_or_ge m (min (s.size - k) 258) with h2 | h2
    · right; exact ⟨by omega, h⟩
    · left; omega
/-- The best of the places left. -/
def bstGo (s : ByteArray) (k : Nat) : List Int → TokR → TokR
  | [], t => t
  | p :: r, t => if p = 0 ∨ 32768 < (k : Int) + 1 - p then t else bstGo s k r (if t.len < (comN s (p.toNat - 1) k : Nat) then ⟨0, (comN s (p.toNat - 1) k : Nat), ((k + 1 - p.toNat : Nat) : Int)⟩ else t)
theorem bstGo_zero {s : ByteArray} {k j : Nat} {ps : List Int} (h8 : ps.length = 8) (hj : j < 8) (h : ps.getD j 0 = 0) (t : TokR) : bstGo s k (ps.drop j) t = t := by
  have hg : ps[j]'(by omega) = 0 := by simpa [List.getD, show j < ps.length by omega] using h
  rw [List.drop_eq_getElem_cons (by omega), bstGo, if_pos (.inl hg)]
theorem bstGo_far {s : ByteArray} {k j q : Nat} {ps : List Int} (h8 : ps.length = 8) (hj : j < 8) (h : ps.getD j 0 = ((q : Nat) : Int) + 1) (hd : 32768 < k - q) (t : TokR) : bstGo s k (ps.drop j) t = t := by
  have hg : ps[j]'(by omega) = ((q : Nat) : Int) + 1 := by simpa [List.getD, show j < ps.length by omega] using h
  rw [List.drop_eq_getElem_cons (by omega), bstGo, if_pos (.inr (by rw [hg]; omega))]
theorem bstGo_next {s : ByteArray} {k j q m : Nat} {ps : List Int} (h8 : ps.length = 8) (hj : j < 8) (h : ps.getD j 0 = ((q : Nat) : Int) + 1) (hm : comN s q k = m) (hd : k - q ≤ 32768) (t : TokR) : bstGo s k (ps.drop j) t = bstGo s k (ps.drop (j + 1)) (if t.len < (m : Nat) then ⟨0, (m : Nat), ((k - q : Nat) : Int)⟩ else t) := by
  have hg : ps[j]'(by omega) = ((q : Nat) : Int) + 1 := by simpa [List.getD, show j < ps.length by omega] using h
  rw [List.drop_eq_getElem_cons (by omega), bstGo, if_neg (by rw [hg]; omega), hg, show (((q : Nat) : Int) + 1).toNat - 1 = q by omega, hm, show k + 1 - (((q : Nat) : Int) + 1).toNat = k - q by omega]
set_option maxRecDepth 100000 in
set_option maxHeartbeats 4000000 in
theorem token_long (g mb n : Nat) (s : ByteArray) (hs : s.size ≤ 1000000) (F : Pl) (k : Nat) (hk : k + 2 < s.size) (w : World) (hf : FinAt w g mb n s F) (hF : PlsOk s k F) :
    Calls Tryz.prog 42 #[.pointer (some ⟨g, 0, none⟩), .int .i64 k] w fun e w' => ∃ t : TokR, e = .returned (.agg #[.int .u8 t.lit, .int .i64 t.len, .int .i64 t.dist]) ∧ TokAt s k t ∧ Reach s k ((F s[k] (s[k + 1]'(by omega)) (s[k + 2]'hk)).getD 0 0) t ∧ Bw w w' ∧ t = bstGo s k (F s[k] (s[k + 1]'(by omega)) (s[k + 2]'hk)) ⟨s[k].toNat, 0, 0⟩ := by
  have hc : w.cell? ⟨g, 0, none⟩ = some (.string s) := hf.blk.cell 0
  have hk1 : (k : Int) < s.size := by omega
  have h3 : ¬ ((s.size : Int) - k) < 3 := by omega
  have hc1 := cell_al1 hc
  have hc2 := cell_al2 hc
  have HKD := hid (⟨Array.getElem?_eq_getElem (show k < s.data.size from by show k < s.size; omega), Array.getElem?_eq_getElem (show k + 1 < s.data.size from by show k + 1 < s.size; omega), Array.getElem?_eq_getElem (show k + 2 < s.data.size from hk)⟩ : s.data[k]? = some s[k] ∧ s.data[k + 1]? = some (s[k + 1]'(Nat.lt_of_succ_lt hk)) ∧ s.data[k + 2]? = some (s[k + 2]'hk))
  have HX := hid (show s.data[k]? = some s[k] from Array.getElem?_eq_getElem (show k < s.size by omega))
  have HK := hid (fun (W : World) (h : W.cell? ⟨g, 0, none⟩ = some (.string s)) => keyAt_any g s (by omega) k hk W h)
  have HL := hid (fun (W : World) (h : MapAt W mb n F) => h.look s[k] (s[k + 1]'(by omega)) (s[k + 2]'hk))
  have hlen := hf.map.len s[k] (s[k + 1]'(by omega)) (s[k + 2]'hk)
  have HPO := hid (hF s[k] (s[k + 1]'(by omega)) (s[k + 2]'hk))
  have HF := hid hf
  generalize F s[k] (s[k + 1]'(by omega)) (s[k + 2]'hk) = ps at *
  generalize keyV s[k] (s[k + 1]'(by omega)) (s[k + 2]'hk) = kv at *
  have HLEN := hid hlen
  clear hc hlen hf hF
  go_enter Tryz.func42, Tryz.ntmps42
  go_wp2_with fail
  have HB0 := hid (((Bw.refl w).alloc (.cells #[.int .u8 0, .int .i64 0, .int .i64 0] 29)).alloc (.cells #[.int .u8 (s[k].toNat : Nat), .int .i64 0, .int .i64 0] 29))
  have HZ0 := hid ((Has.new w 29 #[.int .u8 0, .int .i64 0, .int .i64 0]).alloc (.cells #[.int .u8 (s[k].toNat : Nat), .int .i64 0, .int .i64 0] 29))
  have hz1 := Has.new (w.alloc (.cells #[.int .u8 0, .int .i64 0, .int .i64 0] 29)) 29 #[.int .u8 (s[k].toNat : Nat), .int .i64 0, .int .i64 0]
  rw [World.size_alloc] at hz1
  have HZ1 := hid hz1
  clear hc1 hc2 hz1
  generalize (w.alloc (.cells #[.int .u8 0, .int .i64 0, .int .i64 0] 29)).alloc (.cells #[.int .u8 (s[k].toNat : Nat), .int .i64 0, .int .i64 0] 29) = W0 at *
  have HB1 : Hid (Bw w W0.drew) := hid (HB0.out.drewN 1)
  have HF1 := hid (HF.out.bw HB1.out)
  have p0 : W0.drew.cell? ⟨g, 0, none⟩ = some (.string s) := HF1.out.blk.cell 0
  have p1 : W0.drew.cell? ⟨g, 1, none⟩ = some (.map (some mb)) := HF1.out.blk.cell 1
  have pl := HL.out _ HF1.out.map
  have HZ0' : Hid (Has W0.drew w.heap.size 29 #[.int .u8 0, .int .i64 0, .int .i64 0]) := hid HZ0.out.drew
  have HZ1' : Hid (Has W0.drew (w.heap.size + 1) 29 #[.int .u8 (s[k].toNat : Nat), .int .i64 0, .int .i64 0]) := hid HZ1.out.drew
  go_region_held3 (fun w' => w'.cell? ⟨g, 1, none⟩ = some (.map (some mb)) ∧ (Instr.lookup 84 (.map (some mb)) kv false).run Tryz.prog w' = .ok (plV ps) w') (first | exact ⟨p1, pl⟩ | exact ⟨q1, ql⟩ | exact ⟨by assumption, by assumption⟩)
    (first
      | (go_at_call 72; refine (HK.out _ p0).mono ?_; rintro e w2 ⟨rfl, hb2⟩; have HB2 := hid (HB1.out.trans hb2); have HZ02 := hid (hb2.has HZ0'.out); have HZ12 := hid (hb2.has HZ1'.out); have HF2 := hid (HF1.out.bw hb2); have q1 : w2.cell? ⟨g, 1, none⟩ = some (.map (some mb)) := HF2.out.blk.cell 1; have ql := HL.out _ HF2.out.map; clear hb2))
  clear p0 p1 pl q1 ql
  go_wp2
  go_loopw [34] (fun i wr => ∃ j : Nat, ∃ t : TokR, j ≤ 8 ∧ i = .int .i64 j ∧ Hid (TokAt s k t ∧ bstGo s k (ps.drop j) t = bstGo s k ps ⟨s[k].toNat, 0, 0⟩) ∧ Hid (1 ≤ j → Reach s k (ps.getD 0 0) t) ∧ Has wr w.heap.size 29 #[.int .u8 0, .int .i64 0, .int .i64 0] ∧ Has wr (w.heap.size + 1) 29 #[.int .u8 t.lit, .int .i64 t.len, .int .i64 t.dist] ∧ Bw w wr) (fun i _ => 8 - (intOf i).toNat)
  case atStart => exact ⟨0, ⟨s[k].toNat, 0, 0⟩, Nat.zero_le _, rfl, hid ⟨.inl ⟨s[k], HX.out, rfl⟩, by rw [List.drop_zero]⟩, hid (fun h => absurd h (by omega)), HZ02.out, HZ12.out, HB2.out⟩
  case round =>
    rename World => wr
    obtain ⟨j, t, hj, rfl, HT, HR, h0, h1, hb⟩ := hrel
    obtain ⟨x0, x1, x2⟩ := t
    have H0 := hid h0
    have H1 := hid h1
    have HB := hid hb
    clear h0 h1 hb
    by_cases hlt : j < 8
    · have hj8 : (j : Int) < 8 := by omega
      have hix := index_pl ps HLEN.out j hlt wr
      have hmem : ps.getD j 0 ∈ ps := by
        rw [List.getD_eq_getElem?_getD, List.getElem?_eq_getElem (by rw [HLEN.out]; exact hlt)]
        exact List.getElem_mem _
      have hpo := HPO.out _ hmem
      have HR0 := hid (fun (h : j = 0) => (show ps.getD 0 0 = ps.getD j 0 by rw [h]))
      have HBZ := hid (fun (h : ps.getD j 0 = 0) t => bstGo_zero (s := s) (k := k) HLEN.out hlt h t)
      have HBN := hid (fun (q m : Nat) (h : ps.getD j 0 = ((q : Nat) : Int) + 1) (hm : comN s q k = m) (hd : k - q ≤ 32768) t => bstGo_next (s := s) (k := k) HLEN.out hlt h hm hd t)
      have HBF := hid (fun (q : Nat) (h : ps.getD j 0 = ((q : Nat) : Int) + 1) (hd : 32768 < k - q) t => bstGo_far (s := s) (k := k) HLEN.out hlt h hd t)
      generalize hP : ps.getD j 0 = P at *
      rcases hpo with rfl | ⟨q, rfl, hqk, hq0, hq1, hq2⟩
      · have hRR : Reach s k (ps.getD 0 0) ⟨x0, x1, x2⟩ := by
          by_cases h : 1 ≤ j
          · exact HR.out h
          · rw [HR0.out (by omega)]
            intro q m e
            omega
        have HRR := hid hRR
        have HEQT := hid ((HBZ.out rfl _).symm.trans HT.out.2)
        clear hRR hP hmem HR0
        have HP3 := hid (has_put3 H0.out (.int .u8 x0) (.int .i64 x1) (.int .i64 x2))
        have HB4 := hid (put3_bw HB.out (.int .u8 x0) (.int .i64 x1) (.int .i64 x2))
        have d0 : wr.cell? ⟨w.heap.size + 1, 0, none⟩ = some (.int .u8 x0) := H1.out.cell 0
        have d1 : wr.cell? ⟨w.heap.size + 1, 1, none⟩ = some (.int .i64 x1) := H1.out.cell 1
        have d2 : wr.cell? ⟨w.heap.size + 1, 2, none⟩ = some (.int .i64 x2) := H1.out.cell 2
        have z0 : wr.cell? ⟨w.heap.size, 0, none⟩ = some (.int .u8 0) := H0.out.cell 0
        have z1 : wr.cell? ⟨w.heap.size, 1, none⟩ = some (.int .i64 0) := H0.out.cell 1
        have z2 : wr.cell? ⟨w.heap.size, 2, none⟩ = some (.int .i64 0) := H0.out.cell 2
        have f0 := H0.out.frozen 0
        have f1 := H0.out.frozen 1
        have f2 := H0.out.frozen 2
        go_wp2
        obtain ⟨r0, r1, r2⟩ := HP3.out
        unfold put3 at r0 r1 r2 HB4
        generalize World.setCell (World.setCell (World.setCell wr _ _) _ _) _ _ = W3 at *
        try simp only [Exit.inBlock, Exit.then]
        refine bodyPost_ret (by simp [results, Tryz.results42, go_sem, r0, r1, r2]; try rfl) rfl ?_
        exact ⟨⟨x0, x1, x2⟩, rfl, HT.out.1, HRR.out, HB4.out, HEQT.out⟩
      · by_cases hfar : 32768 < k - q
        · have hRR : Reach s k (ps.getD 0 0) ⟨x0, x1, x2⟩ := by
            by_cases h : 1 ≤ j
            · exact HR.out h
            · rw [HR0.out (by omega)]
              intro q' m e _ hd
              omega
          have HRR := hid hRR
          have HEQT := hid ((HBF.out q rfl hfar _).symm.trans HT.out.2)
          obtain ⟨p, hp⟩ : ∃ p, q + 1 = p := ⟨_, rfl⟩
          have hpe : ((q : Int) + 1) = (p : Nat) := by omega
          rw [hpe] at hix
          obtain ⟨d, hd⟩ : ∃ d, k - q = d := ⟨_, rfl⟩
          have e1 : (k : Int) + 1 - (p : Nat) = (d : Nat) := by omega
          have tp : ((p : Int) == 0) = false := by simp; omega
          have td : (32768 : Int) < d := by omega
          clear hpe hp hd hfar hqk hq0 hq1 hq2 HBZ HBN HBF
          clear hRR hP hmem HR0
          have HP3 := hid (has_put3 H0.out (.int .u8 x0) (.int .i64 x1) (.int .i64 x2))
          have HB4 := hid (put3_bw HB.out (.int .u8 x0) (.int .i64 x1) (.int .i64 x2))
          have d0 : wr.cell? ⟨w.heap.size + 1, 0, none⟩ = some (.int .u8 x0) := H1.out.cell 0
          have d1 : wr.cell? ⟨w.heap.size + 1, 1, none⟩ = some (.int .i64 x1) := H1.out.cell 1
          have d2 : wr.cell? ⟨w.heap.size + 1, 2, none⟩ = some (.int .i64 x2) := H1.out.cell 2
          have z0 : wr.cell? ⟨w.heap.size, 0, none⟩ = some (.int .u8 0) := H0.out.cell 0
          have z1 : wr.cell? ⟨w.heap.size, 1, none⟩ = some (.int .i64 0) := H0.out.cell 1
          have z2 : wr.cell? ⟨w.heap.size, 2, none⟩ = some (.int .i64 0) := H0.out.cell 2
          have f0 := H0.out.frozen 0
          have f1 := H0.out.frozen 1
          have f2 := H0.out.frozen 2
          go_wp2
          obtain ⟨r0, r1, r2⟩ := HP3.out
          unfold put3 at r0 r1 r2 HB4
          generalize World.setCell (World.setCell (World.setCell wr _ _) _ _) _ _ = W3 at *
          try simp only [Exit.inBlock, Exit.then]
          refine bodyPost_ret (by simp [results, Tryz.results42, go_sem, r0, r1, r2]; try rfl) rfl ?_
          exact ⟨⟨x0, x1, x2⟩, rfl, HT.out.1, HRR.out, HB4.out, HEQT.out⟩
        have HDAT := hid (⟨hq0, hq1, hq2⟩ : s.data[q]? = some s[k] ∧ s.data[q + 1]? = some (s[k + 1]'(Nat.lt_of_succ_lt hk)) ∧ s.data[q + 2]? = some (s[k + 2]'hk))
        obtain ⟨p, hp⟩ : ∃ p, q + 1 = p := ⟨_, rfl⟩
        have HBQ := hid (fun (m : Nat) (hm : comN s q k = m) t => HBN.out q m rfl hm (by omega) t)
        have hpe : ((q : Int) + 1) = (p : Nat) := by omega
        rw [hpe] at hix
        obtain ⟨d, hd⟩ : ∃ d, k - q = d := ⟨_, rfl⟩
        have e1 : (k : Int) + 1 - (p : Nat) = (d : Nat) := by omega
        have e2 : ((p : Nat) : Int) - 1 = (q : Nat) := by omega
        have tp : ((p : Int) == 0) = false := by simp; omega
        have td : ¬ (32768 : Int) < d := by omega
        obtain ⟨most, hmost⟩ : ∃ m, m = min (s.size - k) 258 := ⟨_, rfl⟩
        have HC := hid (fun (W : World) (h : W.cell? ⟨g, 0, none⟩ = some (.string s)) => common_any g s (by omega) q k most hqk (by omega) hmost W h)
        have hg0 : wr.cell? ⟨g, 0, none⟩ = some (.string s) := (HF.out.bw HB.out).blk.cell 0
        have HMOST := hid hmost
        have HPP := hid (show k - q = d ∧ 3 ≤ most ∧ most ≤ 258 ∧ k + most ≤ s.size ∧ q < k ∧ d ≤ 32768 from by omega)
        clear hmost hq0 hq1 hq2 hd hp hpe hmem hP HBF hfar
        go_wp2_with fail
        refine (HC.out _ hg0).mono ?_
        rintro e w3 ⟨m, rfl, hmm, hsame, hmax, z, hz⟩
        have hm3 : 3 ≤ m := com3 (HDAT.out.1.trans HKD.out.1.symm) (HDAT.out.2.1.trans HKD.out.2.1.symm) (HDAT.out.2.2.trans HKD.out.2.2.symm) HPP.out.2.1 hmax
        have HB3 : Hid (Bw w w3) := by subst hz; exact hid (HB.out.drewN z)
        have HE3 : Hid (Has w3 w.heap.size 29 #[.int .u8 0, .int .i64 0, .int .i64 0]) := by subst hz; exact hid (H0.out.drewN z)
        have HG3 : Hid (Has w3 (w.heap.size + 1) 29 #[.int .u8 x0, .int .i64 x1, .int .i64 x2]) := by subst hz; exact hid (H1.out.drewN z)
        have HMX := hid hmax
        have HSM := hid hsame
        have HCN := hid (show comN s q k = m from comN_is (by rw [← HMOST.out]; exact hmm) hsame (by rw [← HMOST.out]; exact hmax))
        have HBX := hid (HBQ.out m HCN.out)
        have d0 : w3.cell? ⟨w.heap.size + 1, 0, none⟩ = some (.int .u8 x0) := HG3.out.cell 0
        have d1 : w3.cell? ⟨w.heap.size + 1, 1, none⟩ = some (.int .i64 x1) := HG3.out.cell 1
        have d2 : w3.cell? ⟨w.heap.size + 1, 2, none⟩ = some (.int .i64 x2) := HG3.out.cell 2
        have f0 := HG3.out.frozen 0
        have f1 := HG3.out.frozen 1
        have f2 := HG3.out.frozen 2
        have HEQ := hid e1
        clear hz hsame hmax hg0 hix e1 e2 tp td
        by_cases hgt : x1 < m
        · have HT2 : Hid (TokAt s k ⟨0, m, d⟩ ∧ bstGo s k (ps.drop (j + 1)) ⟨0, m, d⟩ = bstGo s k ps ⟨s[k].toNat, 0, 0⟩) := hid ⟨.inr ⟨m, d, rfl, hm3, by have := HPP.out; omega, by have := HPP.out; omega, by have := HPP.out; omega, by have := HPP.out; omega, by have := HPP.out; omega, by
            have e : k - d = q := by have := HPP.out; omega
            rw [e]; exact HSM.out⟩, by
            have h := HBX.out ⟨x0, x1, x2⟩
            rw [if_pos hgt, HPP.out.1] at h
            exact h.symm.trans HT.out.2⟩
          have HR2 : Hid (1 ≤ j + 1 → Reach s k (ps.getD 0 0) ⟨0, m, d⟩) := hid fun _ => by
            by_cases h : 1 ≤ j
            · intro q' m' a b b' c e
              have := HR.out h q' m' a b b' c e
              show (m' : Int) ≤ (m : Int)
              have h2 : (m' : Int) ≤ x1 := this
              omega
            · rw [HR0.out (by omega)]
              intro q' m' a b b' c e
              have hq : q' = q := by omega
              subst hq
              have := com_max HMX.out (by rw [HMOST.out]; exact c) e
              show (m' : Int) ≤ (m : Int)
              omega
          have HN := hid (has_put3' HG3.out (.int .u8 0) (.int .i64 m) (.int .i64 d))
          have HN0 := hid (put3_far HE3.out (show w.heap.size ≠ w.heap.size + 1 by omega) (.int .u8 0) (.int .i64 m) (.int .i64 d))
          have HNB := hid (put3_bw' HB3.out (show w.heap.size ≤ w.heap.size + 1 by omega) (.int .u8 0) (.int .i64 m) (.int .i64 d))
          clear HR HT
          go_wp2
          exact ⟨⟨j + 1, ⟨0, m, d⟩, by omega, by go_num, HT2, HR2, HN0.out, HN.out, HNB.out⟩, by simp [intOf]; omega⟩
        · have HR2 : Hid (1 ≤ j + 1 → Reach s k (ps.getD 0 0) ⟨x0, x1, x2⟩) := hid fun _ => by
            by_cases h : 1 ≤ j
            · exact HR.out h
            · rw [HR0.out (by omega)]
              intro q' m' a b b' c e
              have hq : q' = q := by omega
              subst hq
              have := com_max HMX.out (by rw [HMOST.out]; exact c) e
              show (m' : Int) ≤ x1
              omega
          have HT2 := hid (⟨HT.out.1, by
            have h := HBX.out ⟨x0, x1, x2⟩
            rw [if_neg hgt] at h
            exact h.symm.trans HT.out.2⟩ : TokAt s k ⟨x0, x1, x2⟩ ∧ bstGo s k (ps.drop (j + 1)) ⟨x0, x1, x2⟩ = bstGo s k ps ⟨s[k].toNat, 0, 0⟩)
          clear HR
          go_wp2
          exact ⟨⟨j + 1, ⟨x0, x1, x2⟩, by omega, by go_num, HT2, HR2, HE3.out, HG3.out, HB3.out⟩, by simp [intOf]; omega⟩
    · obtain rfl : j = 8 := by omega
      have HP3 := hid (has_put3 H0.out (.int .u8 x0) (.int .i64 x1) (.int .i64 x2))
      have HB4 := hid (put3_bw HB.out (.int .u8 x0) (.int .i64 x1) (.int .i64 x2))
      have d0 : wr.cell? ⟨w.heap.size + 1, 0, none⟩ = some (.int .u8 x0) := H1.out.cell 0
      have d1 : wr.cell? ⟨w.heap.size + 1, 1, none⟩ = some (.int .i64 x1) := H1.out.cell 1
      have d2 : wr.cell? ⟨w.heap.size + 1, 2, none⟩ = some (.int .i64 x2) := H1.out.cell 2
      have z0 : wr.cell? ⟨w.heap.size, 0, none⟩ = some (.int .u8 0) := H0.out.cell 0
      have z1 : wr.cell? ⟨w.heap.size, 1, none⟩ = some (.int .i64 0) := H0.out.cell 1
      have z2 : wr.cell? ⟨w.heap.size, 2, none⟩ = some (.int .i64 0) := H0.out.cell 2
      have f0 := H0.out.frozen 0
      have f1 := H0.out.frozen 1
      have f2 := H0.out.frozen 2
      go_wp2
      obtain ⟨r0, r1, r2⟩ := HP3.out
      unfold put3 at r0 r1 r2 HB4
      generalize World.setCell (World.setCell (World.setCell wr _ _) _ _) _ _ = W3 at *
      try simp only [Exit.inBlock, Exit.then]
      refine bodyPost_ret (by simp [results, Tryz.results42, go_sem, r0, r1, r2]; try rfl) rfl ?_
      exact ⟨⟨x0, x1, x2⟩, rfl, HT.out.1, (HR.out (by omega)), HB4.out, by have h := HT.out.2; rw [List.drop_of_length_le (by rw [HLEN.out]; exact Nat.le_refl _)] at h; exact h⟩
end Go.Proofs.YtkmbgkcpohchhaaGreatDoor
