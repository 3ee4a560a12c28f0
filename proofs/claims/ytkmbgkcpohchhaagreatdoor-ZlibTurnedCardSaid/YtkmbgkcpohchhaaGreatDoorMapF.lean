import Derived.Test.YtkmbgkcpohchhaaGreatDoorMapE
/- Find, whole (contract of the function). -/
namespace Go.Proofs.YtkmbgkcpohchhaaGreatDoor
open Go.RowKit
set_option linter.unusedVariables false
set_option maxRecDepth 100000 in
set_option maxHeartbeats 1000000 in
theorem token_end (g : Nat) (s : ByteArray) (hs : s.size ≤ 1000000) (k : Nat) (hk : k < s.size) (he : s.size < k + 3) (w : World) (hc : w.cell? ⟨g, 0, none⟩ = some (.string s)) :
    Calls Tryz.prog 42 #[.pointer (some ⟨g, 0, none⟩), .int .i64 k] w fun e w' => e = .returned (.agg #[.int .u8 (s[k].toNat : Nat), .int .i64 0, .int .i64 0]) ∧ Bw w w' := by
  have hk1 : (k : Int) < s.size := by omega
  have hc1 := cell_al1 hc
  have hc2 := cell_al2 hc
  clear hc
  have h3 : ((s.size : Int) - k) < 3 := by omega
  go_enter Tryz.func42, Tryz.ntmps42
  go_wp2
  refine bodyPost_ret (by simp [results, Tryz.results42, go_sem]; try rfl) rfl ?_
  exact ⟨rfl, ((Bw.refl w).alloc _).alloc _⟩
set_option maxRecDepth 100000 in
theorem keep_end (g : Nat) (s : ByteArray) (hs : s.size ≤ 1000000) (k : Nat) (hk : k < s.size) (he : s.size < k + 3) (w : World) (hc : w.cell? ⟨g, 0, none⟩ = some (.string s)) :
    Calls Tryz.prog 43 #[.pointer (some ⟨g, 0, none⟩), .int .i64 k] w fun e w' => (∃ v, e = .returned v) ∧ w' = w := by
  have hk1 : (k : Int) < s.size := by omega
  have h3 : ((s.size : Int) - k) < 3 := by omega
  go_enter Tryz.func43, Tryz.ntmps43
  go_wp2
  refine bodyPost_ret (results_none rfl _ _ _) rfl ?_
  exact ⟨⟨_, rfl⟩, rfl⟩
/-- A token, whatever is left. -/
theorem token_any (g mb n : Nat) (s : ByteArray) (hs : s.size ≤ 1000000) (F : Pl) (k : Nat) (hk : k < s.size) (w : World) (hf : FinAt w g mb n s F) (hK : KInv s k F) :
    Calls Tryz.prog 42 #[.pointer (some ⟨g, 0, none⟩), .int .i64 k] w fun e w' => ∃ t : TokR, e = .returned (.agg #[.int .u8 t.lit, .int .i64 t.len, .int .i64 t.dist]) ∧ TokAt s k t ∧ (∀ b, AllB s b → 1 ≤ k → k + 2 < s.size → (min (s.size - k) 258 : Nat) ≤ t.len.toNat) ∧ Bw w w' ∧ t = tokF s k := by
  by_cases h : k + 2 < s.size
  · have hx : s.data[k]? = some s[k] := Array.getElem?_eq_getElem hk
    have hy : s.data[k + 1]? = some (s[k + 1]'(by omega)) := Array.getElem?_eq_getElem (show k + 1 < s.size by omega)
    have hz : s.data[k + 2]? = some (s[k + 2]'h) := Array.getElem?_eq_getElem h
    refine (token_long g mb n s hs F k h w hf hK.1).mono ?_
    rintro e w' ⟨t, he, h1, h2, h3, h4⟩
    refine ⟨t, he, h1, reach_all hK h hx hy hz h2 (h1.facts hk).2.2.2.2.1, h3, ?_⟩
    have ex : sB s k = s[k] := by unfold sB; rw [hx]; rfl
    have ey : sB s (k + 1) = s[k + 1]'(by omega) := by unfold sB; rw [hy]; rfl
    have ez : sB s (k + 2) = s[k + 2]'h := by unfold sB; rw [hz]; rfl
    unfold tokF
    rw [if_pos h, ex, ey, ez, ← hK.2.2]
    exact h4
  · refine (token_end g s (by omega) k hk (by omega) w (hf.blk.cell 0)).mono ?_
    rintro e w' ⟨he, h3⟩
    exact ⟨⟨(s[k]'hk).toNat, 0, 0⟩, he, .inl ⟨s[k], Array.getElem?_eq_getElem hk, rfl⟩, fun b _ _ h2 => absurd h2 h, h3, by
      have ex : sB s k = s[k] := by unfold sB; rw [Array.getElem?_eq_getElem hk]; rfl
      unfold tokF
      rw [if_neg h, ex]⟩
theorem grown_refl (w : World) (m : Nat) : w.grownBy w (some m) := ⟨rfl, rfl, rfl, Nat.le_refl _, fun i hi hne => rfl⟩
/-- A place kept, whatever is left. -/
theorem keep_any (g mb : Nat) (s : ByteArray) (hs : s.size ≤ 1000000) (F : Pl) (k : Nat) (hk : k < s.size) (w : World) (hf : FinAt w g mb k s F) (hK : KInv s k F) :
    Calls Tryz.prog 43 #[.pointer (some ⟨g, 0, none⟩), .int .i64 k] w fun e w' => (∃ v, e = .returned v) ∧ ∃ F', FinAt w' g mb (k + 1) s F' ∧ KInv s (k + 1) F' ∧ w.grownBy w' (some mb) := by
  by_cases h : k + 2 < s.size
  · have hx : s.data[k]? = some s[k] := Array.getElem?_eq_getElem hk
    have hy : s.data[k + 1]? = some (s[k + 1]'(by omega)) := Array.getElem?_eq_getElem (show k + 1 < s.size by omega)
    have hz : s.data[k + 2]? = some (s[k + 2]'h) := Array.getElem?_eq_getElem h
    refine (keep_long (fun _ => True) g mb k s hs F k h (by omega) _ _ _ hx hy hz w hf).mono ?_
    rintro e w' ⟨he, h1, h2⟩
    exact ⟨he, _, h1, hK.long h hx hy hz, h2⟩
  · refine (keep_end g s (by omega) k hk (by omega) w (hf.blk.cell 0)).mono ?_
    rintro e w' ⟨he, rfl⟩
    exact ⟨he, F, ⟨hf.blk, hf.map.mono (Nat.le_succ k)⟩, hK.short (by omega), grown_refl _ _⟩
theorem own_ne_map {w : World} {B : Nat} {e : TypeId} {size n : Nat} {v : Value} {xs : List Value} (h : w.ownsRow B e size v n xs) {mb m : Nat} {F : Pl} (hm : MapAt w mb m F) : v.ownBlock ≠ some mb := fun hb => by
  obtain ⟨cur, h1⟩ := own_at h hb
  obtain ⟨D, ⟨es, c, h2, _⟩, _⟩ := hm
  rw [h1] at h2
  cases h2
theorem own_nil_cap {w : World} {B : Nat} {e : TypeId} {size n c : Nat} {a : Option Addr} {xs : List Value} (h : w.ownsRow B e size (.slice a n c) n xs) (ha : a = none) : c = 0 := by
  subst ha
  rcases h.2 with ⟨h1, _⟩ | ⟨g, cap, cur, h1, _⟩
  · injection h1
  · injection h1 with h2; cases h2
def FindPost (s : ByteArray) (w : World) (e : Ending) (w' : World) : Prop := ∃ (l : List TokR) (a : Option Addr) (cap : Nat), e = .returned (.slice a l.length cap) ∧ FindOk s l ∧ ToksAt w' a l ∧ Bw w w' ∧ (a = none → cap = 0) ∧ l = findL s
set_option maxRecDepth 100000 in
set_option maxHeartbeats 4000000 in
theorem find_any (s : ByteArray) (hs : s.size ≤ 1000000) (w : World) :
    Calls Tryz.prog 17 #[.string s] w (FindPost s w) := by
  obtain ⟨i0, hinf, hz0, hz1, hz2⟩ := info_parts tokInfo
  have hmm := @run_makeMap Tryz.prog
  have HB0 := hid (((Bw.refl w).alloc (.map #[] 0)).alloc (.cells #[.string s, .map (some w.heap.size)] 86))
  have hf0 := Has.new (w.alloc (.map #[] 0)) 86 #[.string s, .map (some w.heap.size)]
  rw [World.size_alloc] at hf0
  have HF0 := hid (⟨hf0, (MapAt.made w).bw ((Bw.refl _).alloc (.cells #[.string s, .map (some w.heap.size)] 86))⟩ : FinAt ((w.alloc (.map #[] 0)).alloc (.cells #[.string s, .map (some w.heap.size)] 86)) (w.heap.size + 1) w.heap.size 0 s (fun _ _ _ => zero8))
  clear hf0
  obtain ⟨g, hg⟩ : ∃ g, w.heap.size + 1 = g := ⟨_, rfl⟩
  rw [hg] at HF0
  have hgl : w.heap.size < g := by omega
  have HG := hid hg
  clear hg
  go_enter Tryz.func17, Tryz.ntmps17
  go_wp2
  rw [HG.out]
  go_loopw [4, 5] (fun v i wr => ∃ k m : Nat, ∃ l : List TokR, ∃ F : Pl, k ≤ s.size ∧ i = .int .i64 k ∧ Hid (l.length = m) ∧ m ≤ k ∧ wr.ownsRow w.heap.size 29 3 v m (tokCells l) ∧ Hid (FInv s k l) ∧ Hid (KInv s k F) ∧ FinAt wr g w.heap.size k s F ∧ Bw w wr) (fun _ i _ => s.size - (intOf i).toNat)
  case atStart => exact ⟨0, 0, [], _, Nat.zero_le _, rfl, hid rfl, Nat.le_refl _, World.ownsRow_nil _ _ _ _, hid (FInv.start s), hid (KInv.start s), HF0.out, HB0.out⟩
  case round =>
    rename World => wr
    obtain ⟨k, m, l, F, hk, rfl, HM, hmk, hown, HI, HK, hf, hbw⟩ := hrel
    obtain ⟨vo, vc, rfl⟩ := own_slice hown
    have HOW := hid hown
    have HF := hid hf
    have HBW := hid hbw
    have hzw := hbw.size
    by_cases hlt : k < s.size
    · have hk1 : (k : Int) < s.size := by omega
      have HT := hid (token_any g w.heap.size k s hs F k hlt wr hf HK.out)
      clear hown hf hbw hmm
      go_wp2_with fail
      refine HT.out.mono ?_
      rintro e w2 ⟨⟨x0, x1, x2⟩, rfl, htok, hreach, hw2, htf⟩
      have HFA := hid (htok.facts hlt)
      have HI2 := hid (HI.out.step hlt htok hreach htf)
      clear htf
      obtain ⟨hl4, hl5, hl6, hl7⟩ := HFA.out.2.2.2
      simp only at hl5 hl6 hl7
      obtain ⟨tl, htl⟩ : ∃ tl, tlen ⟨x0, x1, x2⟩ = tl := ⟨_, rfl⟩
      rw [htl] at HI2 hl4
      have hmx : max x1 1 = (tl : Nat) := by
        unfold tlen at htl
        simp only at htl
        omega
      have htl1 : 1 ≤ tl := by omega
      have hz2' := hw2.size
      have HB2 := hid (HBW.out.trans hw2)
      have HT2 := hid (Has.new w2 29 #[.int .u8 x0, .int .i64 x1, .int .i64 x2])
      have HO2 := hid (hw2.own HOW.out)
      have HF2 := hid (HF.out.bw hw2)
      have hm9 : m ≤ 1000000 := by omega
      clear hw2 htok hreach htl hl5 hl6 hl7
      go_wp2_with (at_builtin; refine wpList_append_own_at _ rfl (.tmp 18) (.tmp 20) 22 rfl w.heap.size 29 i0 (.agg #[.int .u8 0, .int .i64 0, .int .i64 0]) 3 24 Tryz.underlying22 hinf hz0 hz1 hz2 rfl (by decide) (.slice vo m vc) m (tokCells l) rfl ((HO2.out.alloc _).alloc _) ⟨w2.heap.size + 1, 0, none⟩ 1 1 [.int .u8 x0, .int .i64 x1, .int .i64 x2] rfl rfl (three_at (by simpa using Has.new (w2.alloc (.cells #[.int .u8 x0, .int .i64 x1, .int .i64 x2] 29)) 29 #[.int .u8 x0, .int .i64 x1, .int .i64 x2])) (by intro u hu; simp at hu; rcases hu with rfl | rfl | rfl <;> rfl) (by unfold maxLen; omega) (by omega) (by simp only [World.size_alloc]; omega) ?_; intro v' w5 hown5 hgrow5 _ _; have HO5 := hid hown5; have HG5 := hid hgrow5; have HT5 := hid (has_grown (HT2.out.alloc (.cells #[.int .u8 x0, .int .i64 x1, .int .i64 x2] 29)) hgrow5 (fun e => absurd (own_lt HO2.out e) (Nat.lt_irrefl _))); have g5 : w5.cell? ⟨w2.heap.size, 1, none⟩ = some (.int .i64 x1) := HT5.out.cell 1; have HF5 := hid (⟨has_grown ((HF2.out.blk.alloc _).alloc _) hgrow5 (own_ne_has HO2.out HF2.out.blk (by decide)), ((HF2.out.map.bw ((Bw.refl _).alloc _)).bw ((Bw.refl _).alloc _)).keep (hgrow5.block _ (by have := HF2.out.map.lt; simp only [World.size_alloc]; omega) (fun e => own_ne_map HO2.out HF2.out.map e.symm))⟩ : FinAt w5 g w.heap.size k s F); obtain ⟨vo5, vc5, rfl⟩ := own_slice hown5; clear hown5 hgrow5)
      have HB5 : Hid (Bw w w5) := hid (Below.trans ((HB2.out.alloc _).alloc _) (own_grown (by simp only [World.size_alloc]; omega) (fun b hb => own_ge HO2.out hb) HG5.out))
      go_loopw [5, 25] (fun i j wi => ∃ p q : Nat, ∃ F' : Pl, p ≤ tl ∧ Hid (k + p = q) ∧ q ≤ s.size ∧ j = .int .i64 p ∧ i = .int .i64 q ∧ wi.ownsRow w.heap.size 29 3 (.slice vo5 (m + 1) vc5) (m + 1) (tokCells l ++ [.int .u8 x0, .int .i64 x1, .int .i64 x2]) ∧ Hid (KInv s q F') ∧ FinAt wi g w.heap.size q s F' ∧ Bw w wi) (fun _ j _ => tl - (intOf j).toNat)
      case atStart => exact ⟨0, k, F, Nat.zero_le _, hid rfl, by omega, rfl, rfl, HO5.out, HK, HF5.out, HB5.out⟩
      case round =>
        rename World => wi
        obtain ⟨p, q, F', hp, HPQ, hqs, rfl, rfl, ho, HK', hf', hb'⟩ := hrel
        have HO' := hid ho
        have HF' := hid hf'
        have HB' := hid hb'
        have hzi := hb'.size
        clear ho hf' hb'
        by_cases hpt : p < tl
        · have hqlt : q < s.size := by have := HPQ.out; omega
          have hp1 : (p : Int) < tl := by omega
          have HKP := hid (keep_any g w.heap.size s hs F' q hqlt wi HF'.out HK'.out)
          go_wp2_with fail
          refine HKP.out.mono ?_
          rintro e w6 ⟨⟨rv, rfl⟩, F6, hf6, hk6, hg6⟩
          have HO6 := hid (own_keep HO'.out (fun b hb => hg6.block b (own_lt HO'.out hb) (fun e => own_ne_map HO'.out HF'.out.map (by rw [hb, e]))))
          have HB6 : Hid (Bw w w6) := hid (Below.trans HB'.out (own_grown hzi (fun b hb => by injection hb with hb; omega) hg6))
          have HF6 := hid hf6
          have HK6 := hid hk6
          clear hf6 hk6 hg6
          go_wp2
          exact ⟨⟨p + 1, q + 1, F6, by omega, hid (by have := HPQ.out; omega), by omega, by go_num, by go_num, HO6.out, HK6, HF6.out, HB6.out⟩, by simp [intOf]; omega⟩
        · obtain rfl : p = tl := by omega
          go_wp2
          refine ⟨⟨q, m + 1, l ++ [⟨x0, x1, x2⟩], F', hqs, rfl, hid (by rw [List.length_append, HM.out]; rfl), by have := HPQ.out; omega, by rw [tokCells_snoc]; exact HO'.out, by rw [← HPQ.out]; exact HI2, HK', HF'.out, HB'.out⟩, by have := HPQ.out; simp [intOf]; omega⟩
    · obtain rfl : k = s.size := by omega
      clear hmm
      go_wp2
      go_returns
      exact ⟨l, vo, vc, by rw [HM.out]; rfl, HI.out.done, toksAt_own (by rw [HM.out]; exact HOW.out) HI.out.lit, HBW.out, own_nil_cap HOW.out, HI.out.fin⟩
end Go.Proofs.YtkmbgkcpohchhaaGreatDoor
