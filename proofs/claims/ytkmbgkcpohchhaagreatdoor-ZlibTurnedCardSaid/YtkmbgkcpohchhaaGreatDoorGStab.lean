import Derived.Test.YtkmbgkcpohchhaaGreatDoorSymG
import Derived.Test.YtkmbgkcpohchhaaGreatDoorGHufZ
import Derived.Laws.AppendOwnNone
namespace Go.Proofs.YtkmbgkcpohchhaaGreatDoor
open Go.RowKit Go.Shelf Go.Lib Go.Sort
set_option linter.unusedVariables false
theorem st_mul (B r A : Nat) (hA : A = 2 * B * r) : B * (2 * r) = A ∧ B * (2 * r + 1) = A + B ∧ B * (2 * r + 2) = A + 2 * B := by
  have e : B * (2 * r) = A := by rw [hA, Nat.mul_comm 2 B, Nat.mul_assoc]
  refine ⟨e, ?_, ?_⟩
  · rw [Nat.mul_add, e, Nat.mul_one]
  · rw [Nat.mul_add, e]; omega
theorem st1 {B q r n A : Nat} (hA : A = 2 * B * r) (h : A + 2 * B ≤ n) (hn : n < B * (q + 1)) : 2 * r + 2 ≤ q := by
  obtain ⟨_, _, e⟩ := st_mul B r A hA
  have : 2 * r + 2 < q + 1 := Nat.lt_of_mul_lt_mul_left (a := B) (by omega)
  omega
theorem st2 {B q r n A : Nat} (hA : A = 2 * B * r) (h1 : A + B < n) (h2 : n < A + 2 * B) (h3 : B * q ≤ n) (hn : n < B * (q + 1)) : q = 2 * r + 1 := by
  obtain ⟨_, e1, e2⟩ := st_mul B r A hA
  have k1 : 2 * r + 1 < q + 1 := Nat.lt_of_mul_lt_mul_left (a := B) (by omega)
  have k2 : q < 2 * r + 2 := Nat.lt_of_mul_lt_mul_left (a := B) (by omega)
  omega
theorem st3 {B q r n A : Nat} (hA : A = 2 * B * r) (hB : 0 < B) (h0 : A ≤ n) (h1 : n ≤ A + B) (h3 : B * q ≤ n) (hn : n < B * (q + 1)) : q = 2 * r ∨ q = 2 * r + 1 ∧ B * q = n := by
  obtain ⟨e0, e1, e2⟩ := st_mul B r A hA
  have k1 : 2 * r < q + 1 := Nat.lt_of_mul_lt_mul_left (a := B) (by omega)
  have k2 : q ≤ 2 * r + 1 := Nat.le_of_mul_le_mul_left (c := B) (by omega) hB
  rcases (show q = 2 * r ∨ q = 2 * r + 1 by omega) with h | h
  · exact .inl h
  · refine .inr ⟨h, ?_⟩
    subst h
    omega
variable {α : Type} [Inhabited α]
omit [Inhabited α] in
theorem ins_len (wt : α → Int) (B q : Nat) (l : List α) (h : B * q ≤ l.length) : (insS wt B q l).length = l.length := by
  rw [insS, List.length_append, preS_len wt B q l h, List.length_drop]; omega
set_option maxHeartbeats 8000000 in
set_option maxRecDepth 100000 in
theorem stable_ok (enc : α → List Value) (k : Nat) (hk : ∀ x, (enc x).length = k) (wt : α → Int) (g : Nat) (lb : Array Value) (sf : Nat) (sb : Array Value) (blk off : Nat) (l : List α) (n : Nat) (hn : Hid (l.length = n)) (W : World)
    (eg : ∀ args w, (callFunc g args).run Tryz.prog w = .ok (.enter g args) w) (hless : LessReadsK Tryz.prog g lb enc k (wLt wt) blk off n W) (hswap : SwapSwapsK Tryz.prog sf sb enc k blk off n)
    (hH : HoldsK enc k W blk off l.toArray) (hblk : blk < W.heap.size) (hbig : n < 144115188075855872) :
    Calls Tryz.prog 150 #[.agg #[.func (.func g) #[] lb, .func (.func sf) #[] sb], .int .i64 n] W fun e w' => e = .returned (.tuple #[]) ∧ SWK enc k W blk off (sortW wt l).toArray w' := by
  have hlz : l.toArray.size = n := by have := hn.out; simpa using this
  have HLS := hid (Has.new W 220 #[.func (.func g) #[] lb, .func (.func sf) #[] sb])
  obtain ⟨W1, hW1⟩ : ∃ w, W.alloc (.cells #[.func (.func g) #[] lb, .func (.func sf) #[] sb] 220) = w := ⟨_, rfl⟩
  have hge : W.heap.size < W1.heap.size := by rw [← hW1]; simp
  have HH1 := hid (show HoldsK enc k W1 blk off l.toArray by rw [← hW1, alloc_eq_grow]; exact holdsK_grow enc k W _ blk off _ hblk hH)
  have HL1 := hid (show LessReadsK Tryz.prog g lb enc k (wLt wt) blk off n W1 by rw [← hW1, alloc_eq_grow]; exact hless.grow hblk _)
  have hbk : blk < W1.heap.size := by omega
  have IS := hid (show ∀ (w2 : World) (Q S Z : List α) (a b : Nat), (Q ++ (S ++ Z)).length = n → Q.length = a → a + S.length = b → SWK enc k W1 blk off (Q ++ (S ++ Z)).toArray w2 →
      Calls Tryz.prog 161 #[.agg #[.func (.func g) #[] lb, .func (.func sf) #[] sb], .int .i64 a, .int .i64 b] w2 fun e w' => e = .returned (.tuple #[]) ∧ SWK enc k W1 blk off (Q ++ (sortW wt S ++ Z)).toArray w' from fun w2 Q S Z a b hl ha hb hw => by
    have hs1 : (Q ++ (S ++ Z)).toArray.size = n := by simpa using hl
    have hs2 : (Q ++ (S ++ Z)).toArray.size = l.toArray.size := by rw [hs1, hlz]
    have hc := Any.insertionSort_func_cells_w laysGg26 enc k hk (wLt wt) g lb sf sb blk off a b (Q ++ (S ++ Z)).toArray w2 eg (by rw [hs1]; exact hw.lessReads HL1.out hbk hs1) (by rw [hs1]; exact hswap) (hw.holds hbk HH1.out hs2) (hw.lt hbk) (by omega) (by simp; omega) (by omega)
    subst ha hb
    rw [sort_at] at hc
    refine Calls.mono hc ?_
    rintro e w' ⟨rfl, n1, os1, rfl⟩
    exact ⟨rfl, hw.on hbk n1 _ os1 (by simp; exact sortW_len wt S)⟩)
  have SM := hid (show ∀ (w2 : World) (X u v Z : List α) (a m b : Nat), (X ++ (u ++ (v ++ Z))).length = n → X.length = a → a + u.length = m → m + v.length = b → a < m → m < b → AscW wt u → AscW wt v → SWK enc k W1 blk off (X ++ (u ++ (v ++ Z))).toArray w2 →
      Calls Tryz.prog 162 #[.agg #[.func (.func g) #[] lb, .func (.func sf) #[] sb], .int .i64 a, .int .i64 m, .int .i64 b] w2 fun e w' => e = .returned (.tuple #[]) ∧ SWK enc k W1 blk off (X ++ (mergeL (wLt wt) u v ++ Z)).toArray w' from fun w2 X u v Z a m b hl ha hm hb h1 h2 au av hw => by
    have hs1 : (X ++ (u ++ (v ++ Z))).toArray.size = n := by simpa using hl
    have hs2 : (X ++ (u ++ (v ++ Z))).toArray.size = l.toArray.size := by rw [hs1, hlz]
    refine (sym_all enc k hk wt g lb sf sb blk off n eg hswap (by omega) (b - a) X u v Z a m b w2 (Nat.le_refl _) ha hm hb h1 h2 hl au av (hw.lessReads HL1.out hbk hs1) (hw.holds hbk HH1.out hs2) (hw.lt hbk)).mono ?_
    rintro e w' ⟨rfl, hs⟩
    exact ⟨rfl, swk_trans hw hbk hs (by simp [merge_len]; omega)⟩)
  have hHl := hid (show SWK enc k W1 blk off (insS wt 20 0 l).toArray W1 by
    rw [show insS wt 20 0 l = l by simp [insS, preS]]
    exact SWK.start HH1.out)
  clear hless hswap hH hlz
  go_enter Tryz.func150, Tryz.ntmps150
  go_wp2
  rw [hW1] at HLS
  have HW1 := hid hW1
  clear hW1
  go_loopw [5, 6] (fun va vb wr => ∃ (q a b : Nat), va = .int .i64 a ∧ vb = .int .i64 b ∧ a = 20 * q ∧ b = 20 * q + 20 ∧ 20 * q ≤ n ∧ SWK enc k W1 blk off (insS wt 20 q l).toArray wr) (fun _ vb _ => n + 20 - (intOf vb).toNat)
  case atStart => exact ⟨0, 0, 20, rfl, rfl, rfl, rfl, Nat.zero_le _, hHl.out⟩
  case round =>
    obtain ⟨q, a, b, rfl, rfl, ha, hb, hqn, hsw⟩ := hrel
    rename World => wr
    have hls := swk_has hsw HLS.out (by omega)
    have c0 := hls.cell 0
    have c1 := hls.cell 1
    have HSW := hid hsw
    have HA := hid ha
    have HB := hid hb
    have hab : a ≤ n := by omega
    have hbb : b ≤ n + 20 := by omega
    have HQN := hid hqn
    clear hls hsw ha hb hqn
    by_cases hlt : b ≤ n
    · have hlti : (b : Int) ≤ n := by omega
      obtain ⟨Q, S, Z, e1, e2, e3, e4⟩ := ins_step wt 20 q l (by have := hn.out; have := HB.out; omega)
      have hs := HSW.out
      rw [e1] at hs
      have hl := ins_len wt 20 q l (by have := hn.out; have := HQN.out; omega)
      rw [e1, hn.out] at hl
      have HC := hid (IS.out wr Q S Z a b hl (by rw [e2, HA.out]) (by rw [HA.out, HB.out, e3]) hs)
      have E4 := hid e4
      clear e1 e2 e3 e4 hs hl
      go_wp2_with fail
      refine HC.out.mono ?_
      rintro e w2 ⟨rfl, hs2⟩
      rw [E4.out] at hs2
      have HS2 := hid hs2
      clear hs2
      go_wp2
      go_roundw
      case rel => exact ⟨q + 1, b, b + 20, rfl, by go_num, by have := HB.out; omega, by have := HB.out; omega, by have := HB.out; omega, HS2.out⟩
      case measure => simp [intOf] <;> omega
    · have hlti : ¬ (b : Int) ≤ n := by omega
      obtain ⟨Q, S, e1, e2, e3, e4⟩ := ins_last wt 20 q l (by have := hn.out; have := HQN.out; omega)
      have hs := HSW.out
      rw [e1] at hs
      have hl := ins_len wt 20 q l (by have := hn.out; have := HQN.out; omega)
      rw [e1, hn.out] at hl
      have HC := hid (IS.out wr Q S [] a n hl (by rw [e2, HA.out]) (by rw [e3, hn.out, HA.out]; have := HQN.out; omega) hs)
      have E4 := hid e4
      have HBN := hid (show 20 * q ≤ n ∧ n < 20 * (q + 1) from ⟨HQN.out, by have := HB.out; omega⟩)
      clear e1 e2 e3 e4 hs hl
      go_wp2_with fail
      refine HC.out.mono ?_
      rintro e w2 ⟨rfl, hs2⟩
      rw [E4.out] at hs2
      have HS2 := hid hs2
      clear hs2 hlt hlti hab hbb HA HB HSW HQN E4 HC c0 c1
      go_wp2
      go_loopw [4] (fun vB wq => ∃ (B q : Nat), vB = .int .i64 B ∧ 0 < B ∧ B ≤ 2 * n + 40 ∧ B * q ≤ n ∧ n < B * (q + 1) ∧ SWK enc k W1 blk off (blkS wt B q l).toArray wq) (fun vB _ => n - (intOf vB).toNat)
      case atStart => exact ⟨20, q, rfl, by omega, by omega, HBN.out.1, HBN.out.2, HS2.out⟩
      case round =>
        obtain ⟨B, q, rfl, hB0, hBn, hq1, hq2, hsw⟩ := hrel
        rename World => wq
        have HSW := hid hsw
        have HQ1 := hid hq1
        have HQ2 := hid hq2
        clear hsw hq1 hq2
        by_cases hlt : B < n
        · have hlti : (B : Int) < n := by omega
          go_wp2_with fail
          go_loopw [5, 6] (fun va vb ws => ∃ (r a b : Nat), va = .int .i64 a ∧ vb = .int .i64 b ∧ Hid (a = 2 * B * r) ∧ Hid (b = a + 2 * B) ∧ a ≤ n ∧ SWK enc k W1 blk off (rowS wt B q r l).toArray ws) (fun _ vb _ => n + 2 * B - (intOf vb).toNat)
          case atStart => exact ⟨0, 0, 2 * B, rfl, by go_num, hid rfl, hid (by omega), Nat.zero_le _, by rw [row_first]; exact HSW.out⟩
          case round =>
            obtain ⟨r, a, b, rfl, rfl, HA, HB, han, hsw⟩ := hrel
            rename World => ws
            have hls := swk_has hsw HLS.out (by omega)
            have c0 := hls.cell 0
            have c1 := hls.cell 1
            have HSR := hid hsw
            have hbb : b ≤ n + 2 * B := by have := HB.out; omega
            clear hls hsw
            by_cases hle : b ≤ n
            · have hlei : (b : Int) ≤ n := by omega
              obtain ⟨X, u, v, Z, e1, e2, e3, e4, e5, e6, e7⟩ := row_step wt B q r l (st1 HA.out (by have := HB.out; omega) HQ2.out) (by rw [hn.out]; exact HQ1.out)
              have hs := HSR.out
              have hz := hs
              rw [e1] at hs
              have hl : (X ++ (u ++ (v ++ Z))).length = n := by
                have h5 : (rowS wt B q r l).length = n := by
                  have h6 := preS_len wt (2 * B) r l (by rw [hn.out, ← HA.out]; exact han)
                  have h7 := preS_len wt B (q - 2 * r) (l.drop (2 * B * r)) (by
                    rw [List.length_drop, hn.out, Nat.mul_sub]
                    have := (st_mul B r a HA.out).1
                    have := HQ1.out
                    rw [← HA.out]; omega)
                  rw [rowS, List.length_append, List.length_append, h6, h7, sortW_len, List.length_drop, hn.out, Nat.mul_sub]
                  have h8 := st1 HA.out (by have := HB.out; omega) HQ2.out
                  have h9 := (st_mul B r a HA.out).1
                  have h10 : B * (2 * r) ≤ B * q := Nat.mul_le_mul_left _ (by omega)
                  have := HQ1.out
                  rw [← HA.out]; omega
                rw [← e1]; exact h5
              have HC := SM.out ws X u v Z a (a + B) b hl (by rw [e2, HA.out]) (by rw [e3]) (by rw [e4]; have := HB.out; omega) (by omega) (by have := HB.out; omega) e5 e6 hs
              rw [show ((a + B : Nat) : Int) = (a : Int) + B by omega] at HC
              have HCC := hid HC
              have E7 := hid e7
              clear e1 e2 e3 e4 e5 e6 e7 hs hl HC hz
              go_wp2_with fail
              refine HCC.out.mono ?_
              rintro e w2 ⟨rfl, hs2⟩
              rw [E7.out] at hs2
              have HS2 := hid hs2
              clear hs2
              go_wp2
              go_roundw
              case rel => exact ⟨r + 1, b, b + 2 * B, rfl, by go_num, hid (by rw [Nat.mul_succ, ← HA.out]; exact HB.out), hid rfl, hle, HS2.out⟩
              case measure => simp [intOf] <;> omega
            · have hlei : ¬ (b : Int) ≤ n := by omega
              by_cases hm : a + B < n
              · have hmi : (a : Int) + B < n := by omega
                have hqr := st2 HA.out hm (by have := HB.out; omega) HQ1.out HQ2.out
                obtain ⟨X, u, v, e1, e2, e3, e4, e5, e6, e7⟩ := row_last wt B q r l hqr (by rw [hn.out]; exact HQ1.out)
                have hs := HSR.out
                rw [e1] at hs
                have h11 := (st_mul B r a HA.out).2.1
                rw [← hqr] at h11
                have hl : (X ++ (u ++ (v ++ []))).length = n := by
                  simp only [List.length_append, List.length_nil, e2, e3, e4, hn.out]
                  have := HA.out
                  omega
                have HC := SM.out ws X u v [] a (a + B) n hl (by rw [e2, HA.out]) (by rw [e3]) (by rw [e4, hn.out]; omega) (by omega) hm e5 e6 hs
                rw [show ((a + B : Nat) : Int) = (a : Int) + B by omega] at HC
                have HCC := hid HC
                have E7 := hid e7
                have HR := hid (show 2 * B * r ≤ n ∧ n < 2 * B * (r + 1) from ⟨by rw [← HA.out]; exact han, by rw [Nat.mul_succ, ← HA.out]; have := HB.out; omega⟩)
                clear e1 e2 e3 e4 e5 e6 e7 hs hl HC h11 hqr
                go_wp2_with fail
                refine HCC.out.mono ?_
                rintro e w2 ⟨rfl, hs2⟩
                rw [E7.out] at hs2
                have HS2 := hid hs2
                clear hs2
                go_wp2
                go_roundw
                case rel => exact ⟨2 * B, r, by go_num, by omega, by omega, HR.out.1, HR.out.2, HS2.out⟩
                case measure => simp [intOf] <;> omega
              · have hmi : ¬ (a : Int) + B < n := by omega
                have h12 := row_none wt B q r l (by have := st3 HA.out hB0 han (by omega) HQ1.out HQ2.out; rw [hn.out]; exact this)
                have HS2 := hid (show SWK enc k W1 blk off (blkS wt (2 * B) r l).toArray ws by rw [← h12]; exact HSR.out)
                have HR := hid (show 2 * B * r ≤ n ∧ n < 2 * B * (r + 1) from ⟨by rw [← HA.out]; exact han, by rw [Nat.mul_succ, ← HA.out]; have := HB.out; omega⟩)
                clear h12
                go_wp2
                go_roundw
                case rel => exact ⟨2 * B, r, by go_num, by omega, by omega, HR.out.1, HR.out.2, HS2.out⟩
                case measure => simp [intOf] <;> omega
        · have hlti : ¬ (B : Int) < n := by omega
          have HE := hid (blk_end wt B q l (by rw [hn.out]; exact HQ1.out) (by rw [hn.out]; omega) (by rw [hn.out]; exact HQ2.out))
          go_wp2
          go_returns
          refine ⟨rfl, swk_back HW1.out hblk ?_⟩
          rw [← HE.out]
          exact HSW.out
end Go.Proofs.YtkmbgkcpohchhaaGreatDoor
namespace Go.Proofs.YtkmbgkcpohchhaaGreatDoor
open Go.RowKit Go.Shelf Go.Lib Go.Sort
set_option linter.unusedVariables false
theorem sliceStableN (rb cap Bs : Nat) (N : List Nd) (h2 : 2 ≤ N.length) (h19 : N.length ≤ 100000) (w : World) (hs : w.cell? ⟨Bs, 0, none⟩ = some (.slice (some ⟨rb, 0, none⟩) N.length cap)) (hB1 : Bs < w.heap.size) (hB2 : Bs ≠ rb) (hrb : rb < w.heap.size)
    (hH : HoldsK ndE 2 w rb 0 N.toArray) :
    Calls Tryz.prog 145 #[.iface 174 (.slice (some ⟨rb, 0, none⟩) N.length cap), .func (.func 146) #[] #[.pointer (some ⟨Bs, 0, none⟩)]] w fun e w' =>
      e = .returned (.tuple #[]) ∧ ∃ n os, w' = grow (putRow id (Sort.ahead w n) rb 0 (flatK ndE 2 (sortL ndLt N).toArray)) os := by
  obtain ⟨i, hi, hd⟩ : ∃ i, Tryz.prog.info? 174 = some i ∧ i.desc = .slice 179 := by
    have := slFacts
    cases h : Tryz.prog.info? 174 with
    | none => rw [h] at this; cases this
    | some i => rw [h] at this; exact ⟨i, rfl, by injection this⟩
  obtain ⟨ie, hie, e1, e2, e3⟩ : ∃ ie, Tryz.prog.info? 179 = some ie ∧ ie.hasPointers = true ∧ ie.bytes = 32 ∧ ie.size = 2 := by
    have := ndFacts
    cases h : Tryz.prog.info? 179 with
    | none => rw [h] at this; cases this
    | some ie =>
      rw [h] at this
      have h4 : (ie.hasPointers, ie.bytes, ie.size) = (true, 32, 2) := by injection this
      exact ⟨ie, rfl, congrArg (·.1) h4, congrArg (·.2.1) h4, congrArg (·.2.2) h4⟩
  have hless : LessReadsK Tryz.prog 146 #[.pointer (some ⟨Bs, 0, none⟩)] ndE 2 ndLt rb 0 N.toArray.size w := by
    intro m os dk hsz i j hi hj
    have e : sortWorldK ndE 2 w rb 0 m dk os = putRowK ndE 2 (grow (Sort.ahead w m) os) rb 0 dk := by
      unfold sortWorldK; rw [putRowK_grow _ _ (Sort.ahead w m) _ rb 0 _ hrb]
    have hHg : HoldsK ndE 2 (grow (Sort.ahead w m) os) rb 0 N.toArray := holdsK_grow _ _ _ _ rb 0 _ hrb (holdsK_ahead _ _ _ _ _ _ _ hH)
    have hsN : N.toArray.size = N.length := by simp
    refine less_nd rb cap Bs N.length _ (fun t => dk[t]!.1) ?_ (fun t ht => ?_) i j (by omega) (by omega) (by omega)
    · rw [e, cell?_putRowK_other _ _ _ rb 0 dk _ (by exact hB2), cell?_grow _ _ _ (by exact hB1)]; exact hs
    · rw [e]
      have := ((holdsK_putRowK _ _ _ rb 0 N.toArray dk hHg hsz).cell (i := t) (c := 0) (by omega) (by omega)).1
      rw [Nat.zero_add, Nat.add_zero] at this
      exact this
  have hK := nd_swapper ie e1 e2 N.length h2
  refine Any.sort_SliceStable_of_stable laysGt8 174 179 i ie hi hd (by kernel_rfl) hie 25 (fun _ => by kernel_rfl) (some ⟨rb, 0, none⟩) N.length cap (by omega) 160 (by rw [hK]; kernel_rfl) (.func 146) #[] #[.pointer (some ⟨Bs, 0, none⟩)] w _ ?_
  have hB : sliceBound Tryz.prog 179 ie 25 (some ⟨rb, 0, none⟩) N.length cap = #[.slice (some ⟨rb, 0, none⟩) N.length cap, typeHandle Tryz.prog 179] := by
    unfold sliceBound; rw [if_neg (by rw [hK]; decide)]
  have hW : ∃ os0, stableWorld Tryz.prog laysGt8_ren 174 (some ⟨rb, 0, none⟩) N.length cap w = grow w os0 := by
    unfold stableWorld; rw [alloc_eq_grow, alloc_eq_grow, grow_grow]; exact ⟨_, rfl⟩
  obtain ⟨os0, hW⟩ := hW
  rw [hB, hW]
  have hsN : N.toArray.size = N.length := by simp
  have hp := stable_ok ndE 2 (fun _ => rfl) (fun x : Nd => x.1) 146 #[.pointer (some ⟨Bs, 0, none⟩)] 160 _ rb 0 N N.length (hid rfl) (grow w os0) (enters_of Tryz.func146 (by kernel_rfl) rfl) (by rw [hsN] at hless; exact hless.grow hrb os0)
    (swapSwapsK_of_literal false 160 (fun args W => run_callFunc_extern Tryz.func160 (by kernel_rfl) (by kernel_rfl) (by kernel_rfl) (e := Extern.ReflectliteSwapper.swap false) (by kernel_rfl) args W) 179 ie hie ndE 2 (fun _ => rfl) e3 (fun _ => by kernel_rfl)
      (fun x v hv => by simp [ndE, ndV] at hv; rcases hv with rfl | rfl <;> rfl) rb 0 N.length cap) (holdsK_grow ndE 2 w _ rb 0 _ hrb hH) (by rw [size_grow]; omega) (by omega)
  refine hp.mono ?_
  rintro e w' ⟨rfl, n, os, rfl⟩
  refine ⟨rfl, n, os0 ++ os, ?_⟩
  unfold sortWorldK
  rw [ahead_grow, putRowK_grow ndE 2 (Sort.ahead w n) _ rb 0 _ hrb, grow_grow]
  rfl
set_option maxRecDepth 100000 in
set_option maxHeartbeats 4000000 in
theorem asc_n (B rb cap n : Nat) (N : List Nd) (hn : Hid (N.length = n)) (h2 : 2 ≤ n) (h19 : n ≤ 100000) (w : World) (hB : B ≤ w.heap.size) (h : w.ownsRow B 179 2 (.slice (some ⟨rb, 0, none⟩) n cap) n (ndCells N)) :
    Calls Tryz.prog 137 #[.slice (some ⟨rb, 0, none⟩) n cap] w fun e w' => e = .returned (.slice (some ⟨rb, 0, none⟩) n cap) ∧ w'.ownsRow B 179 2 (.slice (some ⟨rb, 0, none⟩) n cap) n (ndCells (sortL ndLt N)) ∧ Below B w w' := by
  have hmf : ∀ (fn : Fn) (first cap : Array Value) (w : World), (Instr.makeFunc fn first cap).run Tryz.prog w = .ok (.func fn first cap) w := fun _ _ _ _ => rfl
  have hrb := own_lt h (b := rb) rfl
  have hge := own_ge h (b := rb) rfl
  have HX := hid (Has.new w 174 #[.slice (some ⟨rb, 0, none⟩) n cap])
  have HO := hid (h.alloc (.cells #[.slice (some ⟨rb, 0, none⟩) n cap] 174))
  have cc : (w.alloc (.cells #[.slice (some ⟨rb, 0, none⟩) n cap] 174)).cell? ⟨w.heap.size, 0, none⟩ = some (.slice (some ⟨rb, 0, none⟩) n cap) := HX.out.cell 0
  have HS : Hid (Calls Tryz.prog 145 #[.iface 174 (.slice (some ⟨rb, 0, none⟩) n cap), .func (.func 146) #[] #[.pointer (some ⟨w.heap.size, 0, none⟩)]] (w.alloc (.cells #[.slice (some ⟨rb, 0, none⟩) n cap] 174)) fun e w' =>
      e = .returned (.tuple #[]) ∧ ∃ m os, w' = grow (putRow id (Sort.ahead (w.alloc (.cells #[.slice (some ⟨rb, 0, none⟩) n cap] 174)) m) rb 0 (flatK ndE 2 (sortL ndLt N).toArray)) os) := by
    have hh := HO.out
    have e := hn.out
    subst e
    exact hid (sliceStableN rb cap w.heap.size N h2 h19 _ cc (by simp) (by omega) (by simp; omega) (holds_nd hh))
  have HB := hid (Below.alloc (Below.refl B w) hB (.cells #[.slice (some ⟨rb, 0, none⟩) n cap] 174))
  clear h
  go_enter Tryz.func137, Tryz.ntmps137
  go_wp2_with fail
  refine HS.out.mono ?_
  rintro e w2 ⟨rfl, m, os, hw2⟩
  have hO2 : w2.ownsRow B 179 2 (.slice (some ⟨rb, 0, none⟩) n cap) n (ndCells (sortL ndLt N)) := by
    rw [hw2, ← flat_nd]
    exact own_putRow HO.out _ (by rw [size_flatK]; simp [sortL_len, hn.out])
  have hB2 : Below B w w2 := by
    rw [hw2]
    exact Below.trans HB.out (below_putRow hge (by simp; omega))
  have c2 : w2.cell? ⟨w.heap.size, 0, none⟩ = some (.slice (some ⟨rb, 0, none⟩) n cap) := by
    rw [hw2]
    refine (World.cell?_of_block (grow_other (w := w.alloc (.cells #[.slice (some ⟨rb, 0, none⟩) n cap] 174)) (g := rb) (n := m) (os := os) (F := flatK ndE 2 (sortL ndLt N).toArray) (i := w.heap.size) (by simp) (by omega))).trans cc
  have HO2 := hid hO2
  have HB2 := hid hB2
  clear hw2 hO2 hB2
  go_wp2
  go_ret
  exact ⟨rfl, HO2.out, HB2.out⟩
end Go.Proofs.YtkmbgkcpohchhaaGreatDoor
namespace Go.Proofs.YtkmbgkcpohchhaaGreatDoor
open Go.RowKit Go.Conc
set_option linter.unusedVariables false
set_option maxRecDepth 100000 in
set_option maxHeartbeats 8000000 in
theorem lightest_n (B0 g0 c0 n most : Nat) (N0 : List Nd) (M : List NdM) (hn : Hid (N0.length = n)) (h2 : 2 ≤ n) (h9 : n ≤ 320) (hm1 : 1 ≤ most) (hm15 : most ≤ 15) (hbd : ∀ m ∈ M, Bnd 0 m) (X : Nat → Prop) (w : World) (hX : ∀ g, X g → g < w.heap.size) (h : w.ownsRow B0 179 2 (.slice (some ⟨g0, 0, none⟩) n c0) n (ndCells N0)) (hM : NodesM X w N0 M)
    (hfit : 2 * n - 2 ≤ (lvlM M (most - 1)).length) :
    Calls Tryz.prog 119 #[.slice (some ⟨g0, 0, none⟩) n c0, .int .i64 most] w fun e w' => ∃ (v : Value) (N : List Nd), e = .returned v ∧ w'.ownsRow w.heap.size 179 2 v N.length (ndCells N) ∧ NodesM X w' N ((lvlM M (most - 1)).take (2 * n - 2)) ∧ Bw w w' := by
  have hlM : M.length = n := by rw [← hM.1]; exact hn.out
  have HLM := hid hlM
  have HO := hid h
  have HM := hid hM
  have HBD := hid hbd
  have HCL := hid (clone_nd B0 g0 c0 n (ndCells N0) (by omega) (by omega) (nd_one N0) w h)
  have hcap := ownp_cap h
  have HX := hid hX
  clear h hM hbd hlM hX
  go_enter Tryz.func119, Tryz.ntmps119
  go_wp2_with fail
  refine HCL.out.mono ?_
  rintro e w1 ⟨v, rfl, hv, hb⟩
  obtain ⟨r1, cp1, rfl⟩ := own_some hv (by omega)
  have HV1 := hid hv
  have HB1 := hid hb
  have hb1 := hb.size
  clear hv hb HCL
  go_wp2_with fail
  refine (asc_n w.heap.size r1 cp1 n N0 hn h2 (by omega) _ hb1 HV1.out).mono ?_
  rintro e w2 ⟨rfl, hv, hb⟩
  have HV2 := hid hv
  have HB2 := hid (show Bw w w2 from Below.trans HB1.out hb)
  have hb2 := HB2.out.size
  clear hv hb
  have HM2 := hid ((HM.out.bw HB2.out).sort)
  have HSL := hid (sortL_len ndLt N0)
  go_wp2_with fail
  go_loopw [5, 11] (fun v i wr => ∃ (k m rb cp : Nat) (N : List Nd), k ≤ most - 1 ∧ i = .int .i64 k ∧ v = .slice (some ⟨rb, 0, none⟩) m cp ∧ N.length = m ∧ n ≤ m ∧ m ≤ 2 * n ∧ wr.ownsRow w.heap.size 179 2 v m (ndCells N) ∧ NodesM X wr N (lvlM M k) ∧ Bw w wr) (fun _ i _ => most - (intOf i).toNat)
  case atStart => exact ⟨0, n, r1, cp1, sortL ndLt N0, Nat.zero_le _, rfl, rfl, by rw [HSL.out, hn.out], Nat.le_refl _, by omega, HV2.out, HM2.out, HB2.out⟩
  case round =>
    clear HV2 HB2 HM2 HB1 HV1
    obtain ⟨k, m, rb, cp, N, hk, rfl, rfl, hNm, hm1', hm2, hown, hMk, hbw⟩ := hrel
    have HV := hid hown
    have HMK := hid hMk
    have HBW := hid hbw
    have HNM := hid hNm
    have hbz := hbw.size
    have hcp := ownp_cap hown
    clear hown hMk hbw hNm
    by_cases hlt : k < most - 1
    · have hlti : (k : Int) < (most : Int) - 1 := by omega
      have hbk := lvlM_bnd M HBD.out k
      have hp15 : 2 ^ k ≤ 2 ^ 15 := Nat.pow_le_pow_right (by decide) (by omega)
      have HP := hid (pairs_any w.heap.size rb cp m N (lvlM M k) HNM (by omega) (fun x hx => by have := (hbk x hx).1; have h3 : 1099511627776 * 2 ^ k ≤ 1099511627776 * 2 ^ 15 := Nat.mul_le_mul_left _ hp15; omega) (fun x hx => by have := (hbk x hx).2; omega) X wr (fun g hg => Nat.lt_of_lt_of_le (HX.out g hg) hbz) hbz HV.out HMK.out)
      clear hbk hp15
      go_wp2_with fail
      refine HP.out.mono ?_
      rintro e w3 ⟨v3, N3, rfl, hv3, hM3, hb3⟩
      have hN3 : N3.length = m / 2 := by rw [hM3.1, prM_len, ← HMK.out.1, HNM.out]
      obtain ⟨m3, hm3⟩ : ∃ m3, N3.length = m3 := ⟨_, rfl⟩
      rw [hm3] at hv3 hN3
      have h31 : 1 ≤ m3 := by omega
      have h32 : m3 ≤ n := by omega
      clear hN3
      obtain ⟨r3, cp3, rfl⟩ := own_some hv3 (by omega)
      have HM3E := hid hm3
      have HV3 := hid hv3
      have HM3 := hid hM3
      have HB3 := hid (HBW.out.trans hb3)
      clear hv3 hM3 hb3 hm3 HP
      go_wp2_with fail
      have HA := hid (Has.new w3 174 #[.slice (some ⟨g0, 0, none⟩) n c0, .slice (some ⟨r3, 0, none⟩) m3 cp3])
      have HBA := hid (((Bw.refl w3).alloc (.cells #[.slice (some ⟨g0, 0, none⟩) n c0, .slice (some ⟨r3, 0, none⟩) m3 cp3] 174)))
      have hl0 : N0.length = n := hn.out
      refine (concat_nd w3.heap.size B0 g0 c0 n wr.heap.size r3 cp3 m3 (ndCells N0) (ndCells N3) (by omega) (by omega) (by omega) (nd_one N0) (nd_one N3) _ HA.out (HBA.out.own (HB3.out.own HO.out)) (HBA.out.own HV3.out)).mono ?_
      rintro e w4 ⟨v4, rfl, hv4, hb4⟩
      obtain ⟨r4, cp4, rfl⟩ := own_some hv4 (by omega)
      rw [← ndCells_append, World.size_alloc] at hv4
      have HV4 := hid hv4
      have HB4 := hid (HBA.out.trans hb4)
      have hb4z := hb4.size
      rw [World.size_alloc] at hb4z
      clear hv4 hb4 hl0
      have HN4 := hid (show (N0 ++ N3).length = n + m3 by rw [List.length_append, hn.out, HM3E.out])
      go_wp2_with fail
      have ha := asc_n (w3.heap.size + 1) r4 cp4 (n + m3) (N0 ++ N3) HN4 (by omega) (by omega) w4 hb4z HV4.out
      refine ha.mono ?_
      clear ha
      rintro e w5 ⟨rfl, hv5, hb5⟩
      have HV5 := hid hv5
      have HB5 := hid (show Bw w3 w5 from Below.trans HB4.out (Below.mono hb5 (by omega)))
      clear hv5 hb5
      have HM5 := hid ((((HM.out.bw HB3.out).bw HB5.out).append (HM3.out.bw HB5.out)).sort)
      have HS5 := hid (sortL_len ndLt (N0 ++ N3))
      have hw3 := HB3.out.size
      go_wp2
      go_roundw
      case rel => exact ⟨k + 1, n + m3, r4, cp4, sortL ndLt (N0 ++ N3), by omega, by go_num, rfl, by rw [HS5.out, HN4.out], by omega, by omega, own_base HV5.out (by omega), HM5.out, HB3.out.trans HB5.out⟩
      case measure => simp [intOf]; omega
    · have hke : k = most - 1 := by omega
      have hki : ¬ (k : Int) < (most : Int) - 1 := by omega
      have HKE := hid hke
      have hmk : m = (lvlM M k).length := by rw [← HMK.out.1]; exact HNM.out.symm
      have hf2 : 2 * n - 2 ≤ m := by rw [hmk, hke]; exact hfit
      have HT := hid (own_take HV.out hf2)
      have HNT := hid (HMK.out.take (2 * n - 2))
      have hl2 : (N.take (2 * n - 2)).length = 2 * n - 2 := by rw [List.length_take, HNM.out]; omega
      have HL2 := hid hl2
      have hcx : ((2 * n - 2 : Nat) : Int) = 2 * (n : Int) - 2 := by omega
      have hi1 : 2 * (n : Int) - 2 ≤ cp := by omega
      have hi2 : (0 : Int) ≤ 2 * (n : Int) - 2 := by omega
      have hi3 : (2 * (n : Int) - 2).toNat = 2 * n - 2 := by omega
      clear hke hmk hl2 hcx
      go_wp2
      go_ret
      refine ⟨_, rfl, N.take (2 * n - 2), ?_, ?_, HBW.out⟩
      · rw [HL2.out, ← ndCells_take]
        exact HT.out
      · rw [← HKE.out]; exact HNT.out
end Go.Proofs.YtkmbgkcpohchhaaGreatDoor
namespace Go.Proofs.YtkmbgkcpohchhaaGreatDoor
open Go.RowKit Go.Conc
set_option linter.unusedVariables false
theorem big_cntN {c f m j y k n : Nat} (h1 : c ≤ f + m) (h2 : m ≤ j) (h3 : f ≤ k * 16384) (h4 : j < y) (h5 : y ≤ 16384) (h6 : k ≤ n) (h7 : n ≤ 638) : c < 4611686018427387904 := by omega
set_option maxRecDepth 100000 in
set_option maxHeartbeats 8000000 in
theorem lengths_n (a : Option Addr) (len cap most n : Nat) (l : List Int) (hll : Hid (l.length = len)) (h320 : len ≤ 320) (hok : ∀ x ∈ l, oftB x = true) (hm1 : 1 ≤ most) (hm15 : most ≤ 15) (hn : (lvM l len).length = n) (h2 : 2 ≤ n) (h9 : n ≤ 320) (hpow : n ≤ 2 ^ most)
    (hfit : 2 * n - 2 ≤ (lvlM (lvM l len) (most - 1)).length) (w : World) (hst : ZsAt w a l) :
    Calls Tryz.prog 93 #[.slice a len cap, .int .i64 most] w fun e w' => ∃ rb : Nat, e = .returned (.tuple #[.slice (some ⟨rb, 0, none⟩) len len, .int .i64 0]) ∧ w.heap.size ≤ rb ∧ Has w' rb 3 (lenArr (flatS (chosen (lvM l len) most)) len) ∧ Bw w w' := by
  have HL := hid (leaves_ok a len cap l hll h320 hok w hst)
  have HN := hid hn
  have HF := hid hfit
  have hbd := lvM_bnd l hok len (by rw [hll.out]; exact Nat.le_refl _)
  have HBD := hid hbd
  have HSY := hid (lvlM_sym (lvM_sym l len) (most - 1))
  have hpi : (n : Int) ≤ 2 ^ most := by
    have : ((2 ^ most : Nat) : Int) = (2 : Int) ^ most := by simp
    omega
  have hwp : wrap64 ((2 : Int) ^ most) = 2 ^ most := by
    have h1 : ((2 ^ most : Nat) : Int) = (2 : Int) ^ most := by simp
    have h3 : 2 ^ most ≤ 2 ^ 15 := Nat.pow_le_pow_right (by decide) hm15
    have h4 := Nat.two_pow_pos most
    unfold wrap64; omega
  have hpj : (n : Int) ≤ wrap64 ((2 : Int) ^ most) := by rw [hwp]; exact hpi
  have hlni : (len : Int) ≤ 320 := by omega
  have d1 : decide ((most : Int) < 1) = false := decide_eq_false (by omega)
  have d2 : decide (15 < (most : Int)) = false := decide_eq_false (by omega)
  have d3 : decide (320 < (len : Int)) = false := decide_eq_false (by omega)
  have d4 : decide (wrap64 ((2 : Int) ^ most) < (n : Int)) = false := decide_eq_false (by omega)
  clear hwp
  have hmk := fun W => make_ints l len h320 W
  clear hok hst hfit hbd hn
  go_enter Tryz.func93, Tryz.ntmps93
  go_wp2_with fail
  refine HL.out.mono ?_
  rintro e w1 ⟨v, N, rfl, hv, hM, hb⟩
  obtain ⟨nn, hnn⟩ : ∃ nn, N.length = nn := ⟨_, rfl⟩
  have hne : nn = n := by rw [← hnn, hM.1]; exact HN.out
  rw [hnn, hne] at hv
  obtain ⟨g0, c0, rfl⟩ := own_some hv (by omega)
  have HV := hid hv
  have HB1 := hid hb
  have HNN := hid (hnn.trans hne)
  have HM := hid hM
  clear hv hb hM hnn hne HL
  go_wp2_with fail
  have HLB := hid (Has.new w1 3 (cArr l len 0))
  have HBA := hid ((Bw.refl w1).alloc (.cells (cArr l len 0) 3))
  have hML : (lvM l len).length = n := HN.out
  have HX := hid (fun g (h : g = w1.heap.size) => Nat.le_of_eq h.symm)
  refine (lightest_n w.heap.size g0 c0 n most N (lvM l len) HNN h2 h9 hm1 hm15 HBD.out (· = w1.heap.size) _ (fun g hg => by rw [hg]; simp) (HV.out.alloc _) ((HM.out.fresh HX.out).bw HBA.out) HF.out).mono ?_
  rintro e w2 ⟨v2, N2, rfl, hv2, hM2, hb2⟩
  rw [World.size_alloc] at hv2
  obtain ⟨v2a, v2c, rfl⟩ := own_slice hv2
  have hC : ((lvlM (lvM l len) (most - 1)).take (2 * n - 2)) = chosen (lvM l len) most := by unfold chosen; rw [hML]
  rw [hC] at hM2
  have HSC := hid (fun m (hm : m ∈ chosen (lvM l len) most) => HSY.out m (List.mem_of_mem_take hm))
  have HBC := hid (fun m (hm : m ∈ chosen (lvM l len) most) => Nat.le_trans (lvlM_bnd _ HBD.out (most - 1) m (List.mem_of_mem_take hm)).2 (Nat.pow_le_pow_right (show 0 < 2 by decide) (show most - 1 ≤ 14 by omega)))
  have hCn : (chosen (lvM l len) most).length ≤ 2 * n - 2 := by unfold chosen; rw [hML]; exact List.length_take_le _ _
  have HV2 := hid hv2
  have HM2 := hid hM2
  have HB2 := hid hb2
  have HLB2 := hid (hb2.has HLB.out)
  rw [lenArr_zero] at HLB2
  obtain ⟨n2, hn2⟩ : ∃ n2, N2.length = n2 := ⟨_, rfl⟩
  have hCl : (chosen (lvM l len) most).length = n2 := by rw [← hM2.1]; exact hn2
  have HCL := hid hCl
  have hn18 : n2 ≤ 638 := by rw [hCl] at hCn; omega
  have HN2 := hid hn2
  rw [hn2] at HV2 ⊢
  have hb2z := hb2.size
  rw [World.size_alloc] at hb2z
  clear hCn hv2 hM2 hb2 hC hML hCl hn2 HSY HF HM HV HBD
  obtain ⟨lb, hlb⟩ : ∃ lb, w1.heap.size = lb := ⟨_, rfl⟩
  have hw1b := HB1.out.size
  rw [hlb] at hb2z HV2 HLB2 HM2 hw1b ⊢
  have HLBE := hid hlb
  have HBW := hid (show Bw w w2 from HB1.out.trans (HBA.out.trans HB2.out))
  clear hlb HLB HBA HB2
  generalize hCe : chosen (lvM l len) most = C at *
  have HCE := hid hCe
  clear hCe
  have hw2z : lb < w2.heap.size := by omega
  go_wp2_with fail
  go_loopw [45] (fun i wr => ∃ (k : Nat), k ≤ n2 ∧ i = .int .i64 k ∧ Has wr lb 3 (lenArr (flatS (C.take k)) len) ∧ Keeps (· = lb) w2 wr) (fun i _ => n2 - (intOf i).toNat)
  case atStart => exact ⟨0, Nat.zero_le _, rfl, HLB2.out, Keeps.refl _ _⟩
  case round =>
    obtain ⟨k, hk, rfl, hlb, hkp⟩ := hrel
    have HLBK := hid hlb
    have HKP := hid hkp
    have hkz := hkp.size
    clear hlb
    by_cases hlt : k < n2
    · have hlti : (k : Int) < n2 := by omega
      obtain ⟨rb2, cp2, hv2⟩ := own_some HV2.out (by omega)
      obtain ⟨rfl, rfl⟩ : v2a = some ⟨rb2, 0, none⟩ ∧ v2c = cp2 := by simpa using hv2
      have hkN : k < N2.length := by rw [HN2.out]; exact hlt
      have hkC : k < C.length := by rw [HCL.out]; exact hlt
      have hr2 := own_ge HV2.out (b := rb2) rfl
      have hrl := own_lt HV2.out (b := rb2) rfl
      obtain ⟨hwt, g, cp, hsy, hsp, hsr, hsx⟩ := HM2.out.2 k hkN hkC
      have hnc := flat2_get ndE (fun _ => rfl) N2 k
      have x0 := (World.cell?_of_block (hkp.block rb2 hrl (show ¬ rb2 = lb by omega))).trans (ownp_cell HV2.out (hnc 0 hkN (by omega)))
      have x1 := (World.cell?_of_block (hkp.block rb2 hrl (show ¬ rb2 = lb by omega))).trans (ownp_cell HV2.out (hnc 1 hkN (by omega)))
      have HFS := hid (flatS_snoc C k hkC)
      have hyl : (C[k]).2.length ≤ 16384 := HBC.out C[k] (List.getElem_mem hkC)
      have hFl : (flatS (C.take k)).length ≤ k * 16384 := by
        have h1 := flatS_len 16384 (C.take k) (fun m hm => HBC.out m (List.mem_of_mem_take hm))
        rw [List.length_take] at h1
        have : min k C.length ≤ k := Nat.min_le_left _ _
        have h3 : min k C.length * 16384 ≤ k * 16384 := Nat.mul_le_mul_right _ this
        omega
      have hsl := HSC.out C[k] (List.getElem_mem hkC)
      generalize N2[k] = x at *
      generalize C[k] = y at *
      obtain ⟨xw, xs⟩ := x
      obtain ⟨yw, ys⟩ := y
      simp only at hwt hsy hsp hsr hsl HFS hyl
      subst hwt hsy
      have y0 : wr.cell? ⟨rb2, k * 2, none⟩ = some (.int .i64 (yw : Nat)) := by rw [Nat.mul_comm]; exact x0
      have y1 : wr.cell? ⟨rb2, k * 2 + 1, none⟩ = some (.slice (some ⟨g, 0, none⟩) ys.length cp) := by rw [Nat.mul_comm]; exact x1
      clear x0 x1
      have HSL := hid hsl
      have HSR := hid hsr
      have hgl := own_lt hsr (b := g) rfl
      have hsx2 : ¬ g = lb := hsx
      clear hnc hsl hsr hkN hkC hkp hsx hv2
      go_wp2_with fail
      have HL4 := hid (HLBK.out.alloc (.cells #[.int .i64 (yw : Nat), .slice (some ⟨g, 0, none⟩) ys.length cp] 179))
      have HK4 := hid (HKP.out.alloc (.cells #[.int .i64 (yw : Nat), .slice (some ⟨g, 0, none⟩) ys.length cp] 179))
      generalize flatS (C.take k) = F at *
      go_loopw [52] (fun i wq => ∃ (j : Nat), j ≤ ys.length ∧ i = .int .i64 j ∧ Has wq lb 3 (lenArr (F ++ ys.take j) len) ∧ Keeps (· = lb) w2 wq) (fun i _ => ys.length - (intOf i).toNat)
      case atStart => exact ⟨0, Nat.zero_le _, rfl, by rw [List.take_zero, List.append_nil]; exact HL4.out, HK4.out⟩
      case round =>
        obtain ⟨j, hj, rfl, hlb, hkp⟩ := hrel
        rename World => wq
        have HLBJ := hid hlb
        have HKJ := hid hkp
        by_cases hjl : j < ys.length
        · have hjli : (j : Int) < ys.length := by omega
          have z0 : (symCells ys)[j]? = some (.int .i64 (ys[j] : Nat)) := by simp [symCells, hjl]
          have y2 := (World.cell?_of_block (hkp.block g hgl hsx2)).trans (ownp_cell HSR.out z0)
          have hs := HSL.out ys[j] (List.getElem_mem hjl)
          have hts : ys.take (j + 1) = ys.take j ++ [ys[j]] := List.take_succ_eq_append_getElem hjl
          have HTS := hid hts
          clear z0 hts
          generalize ys[j] = sy at *
          have hsi : (sy : Int) < len := by omega
          have cl := (hlb.cell sy).trans (lenArr_get (F ++ ys.take j) len sy hs)
          have fl := hlb.frozen sy
          have hcb : (F ++ ys.take j).count sy ≤ (F ++ ys.take j).length := List.count_le_length
          rw [List.length_append, List.length_take] at hcb
          have hmin : min j ys.length ≤ j := Nat.min_le_left _ _
          have HP := hid (hlb.put sy (.int .i64 ((F ++ ys.take j).count sy + 1 : Nat)))
          rw [lenArr_put (F ++ ys.take j) len sy hs, List.append_assoc, ← HTS.out] at HP
          have HPK := hid (hkp.setCell (p := ⟨lb, sy, none⟩) (.inl rfl) (.int .i64 ((F ++ ys.take j).count sy + 1 : Nat)))
          have hbig : (F ++ ys.take j).count sy < 4611686018427387904 := big_cntN hcb hmin hFl hjl hyl hk hn18
          clear hcb hlb hkp hmin
          generalize (F ++ ys.take j).count sy = cn at *
          go_wp2
          refine ⟨⟨j + 1, by omega, by go_num, by simpa using HP.out, by simpa using HPK.out⟩, by simp [intOf]; omega⟩
        · obtain rfl : j = ys.length := by omega
          rw [List.take_length, ← HFS.out] at HLBJ
          go_wp2
          go_roundw
          case rel => exact ⟨k + 1, by omega, by go_num, HLBJ.out, HKJ.out⟩
          case measure => simp [intOf]; omega
    · obtain rfl : k = n2 := by omega
      have hT : C.take k = C := List.take_of_length_le (by rw [HCL.out]; exact Nat.le_refl _)
      rw [hT] at HLBK
      clear hT hkp
      go_wp2
      go_returns
      exact ⟨lb, rfl, hw1b, by rw [HCE.out]; exact HLBK.out, Below.trans HBW.out (HKP.out.below (by have := HBW.out.size; omega) (fun i hi => by omega))⟩
end Go.Proofs.YtkmbgkcpohchhaaGreatDoor
namespace Go.Proofs.YtkmbgkcpohchhaaGreatDoor
open Go.RowKit Go.Shelf Go.Lib Go.Sort
set_option linter.unusedVariables false
theorem sliceStableT (p : Option Addr) (n cap : Nat) (h1 : n ≤ 1) (lf : Fn) (la lb : Array Value) (w : World) :
    Calls Tryz.prog 145 #[.iface 174 (.slice p n cap), .func lf la lb] w fun e w' => e = .returned (.tuple #[]) ∧ ∃ os, w' = grow w os := by
  obtain ⟨i, hi, hd⟩ : ∃ i, Tryz.prog.info? 174 = some i ∧ i.desc = .slice 179 := by
    have := slFacts
    cases h : Tryz.prog.info? 174 with
    | none => rw [h] at this; cases this
    | some i => rw [h] at this; exact ⟨i, rfl, by injection this⟩
  obtain ⟨ie, hie, e1, e2, e3⟩ : ∃ ie, Tryz.prog.info? 179 = some ie ∧ ie.hasPointers = true ∧ ie.bytes = 32 ∧ ie.size = 2 := by
    have := ndFacts
    cases h : Tryz.prog.info? 179 with
    | none => rw [h] at this; cases this
    | some ie =>
      rw [h] at this
      have h4 : (ie.hasPointers, ie.bytes, ie.size) = (true, 32, 2) := by injection this
      exact ⟨ie, rfl, congrArg (·.1) h4, congrArg (·.2.1) h4, congrArg (·.2.2) h4⟩
  have hK : swapperK n ie 25 = n + 1 := by
    rcases (show n = 0 ∨ n = 1 by omega) with rfl | rfl <;> rfl
  rcases (show n = 0 ∨ n = 1 by omega) with rfl | rfl
  · exact Any.sort_SliceStable_tiny laysGt8 174 179 i ie hi hd (by kernel_rfl) hie 25 (fun _ => by kernel_rfl) p 0 cap h1 152 (by rw [hK]; kernel_rfl) lf la lb w
  · exact Any.sort_SliceStable_tiny laysGt8 174 179 i ie hi hd (by kernel_rfl) hie 25 (fun _ => by kernel_rfl) p 1 cap h1 153 (by rw [hK]; kernel_rfl) lf la lb w
theorem bw_grow (w : World) (os : Array Obj) : Bw w (grow w os) := ⟨rfl, rfl, rfl, by
    show w.heap.size ≤ (w.heap ++ os).size
    simp, fun i hi => by
    show (w.heap ++ os)[i]? = _
    rw [Array.getElem?_append_left hi]⟩
set_option maxRecDepth 100000 in
set_option maxHeartbeats 4000000 in
theorem asc_t (p : Option Addr) (n cap : Nat) (h1 : n ≤ 1) (w : World) :
    Calls Tryz.prog 137 #[.slice p n cap] w fun e w' => e = .returned (.slice p n cap) ∧ Bw w w' := by
  have hmf : ∀ (fn : Fn) (first cap : Array Value) (w : World), (Instr.makeFunc fn first cap).run Tryz.prog w = .ok (.func fn first cap) w := fun _ _ _ _ => rfl
  have HX := hid (Has.new w 174 #[.slice p n cap])
  have HB := hid ((Bw.refl w).alloc (.cells #[.slice p n cap] 174))
  have HS := hid (fun la w => sliceStableT p n cap h1 (.func 146) #[] la w)
  have cc : (w.alloc (.cells #[.slice p n cap] 174)).cell? ⟨w.heap.size, 0, none⟩ = some (.slice p n cap) := HX.out.cell 0
  go_enter Tryz.func137, Tryz.ntmps137
  go_wp2_with fail
  refine (HS.out _ _).mono ?_
  rintro e w2 ⟨rfl, os, rfl⟩
  have hb2 := bw_grow (w.alloc (.cells #[.slice p n cap] 174)) os
  have HB2 := hid (HB.out.trans hb2)
  have c2 := (hb2.has HX.out).cell 0
  clear hb2
  generalize grow (w.alloc (.cells #[.slice p n cap] 174)) os = w3 at *
  go_wp2
  go_ret
  exact ⟨rfl, HB2.out⟩
set_option maxRecDepth 100000 in
set_option maxHeartbeats 4000000 in
theorem pairs_t (p : Option Addr) (n cap : Nat) (h1 : n ≤ 1) (w : World) :
    Calls Tryz.prog 140 #[.slice p n cap] w fun e w' => e = .returned (.slice none 0 0) ∧ Bw w w' := by
  have hni : ¬ (1 : Int) < n := by omega
  go_enter Tryz.func140, Tryz.ntmps140
  go_wp2
  refine wp_loop_rounds 1 ?_
  rw [rounds_succ]
  go_wp2
  go_returns
  exact ⟨rfl, by unfold Bw; go_grown⟩
set_option maxRecDepth 100000 in
set_option maxHeartbeats 4000000 in
theorem clone_nil (w : World) :
    Calls Tryz.prog 138 #[.slice none 0 0] w fun e w' => e = .returned (.slice none 0 0) ∧ Bw w w' := by
  have heq := run_eql_slice_nil (P := Tryz.prog) w 174 179 none 0 0 Tryz.underlying174
  go_enter Tryz.func138, Tryz.ntmps138
  go_wp2
  go_returns
  exact ⟨rfl, by unfold Bw; go_grown⟩
set_option maxRecDepth 100000 in
set_option maxHeartbeats 4000000 in
theorem grow_none (w : World) :
    Calls Tryz.prog 147 #[.slice none 0 0, .int .i64 0] w fun e w' => e = .returned (.slice none 0 0) ∧ Bw w w' := by
  go_enter Tryz.func147, Tryz.ntmps147
  go_wp2
  go_returns
  exact ⟨rfl, by unfold Bw; go_grown⟩
set_option maxRecDepth 100000 in
set_option maxHeartbeats 4000000 in
theorem clone_nd0 (B g cap n : Nat) (xs : List Value) (hn : n ≤ 1000000) (hone : ∀ u ∈ xs, u.oneCell' = true) (w : World) (h : w.ownsRow B 179 2 (.slice (some ⟨g, 0, none⟩) n cap) n xs) :
    Calls Tryz.prog 138 #[.slice (some ⟨g, 0, none⟩) n cap] w fun e w' => ∃ v, e = .returned v ∧ w'.ownsRow w.heap.size 179 2 v n xs ∧ Bw w w' := by
  obtain ⟨i0, hinf, hz0, hz1, hz2⟩ := info_parts infond
  have HO := hid h
  have hl := h.1
  have heq := run_eql_slice_nil (P := Tryz.prog) w 174 179 (some ⟨g, 0, none⟩) n cap Tryz.underlying174
  clear h
  go_enter Tryz.func138, Tryz.ntmps138
  have HE : Hid ((w.alloc (.cells #[] 179)).ownsRow w.heap.size 179 2 (.slice (some ⟨w.heap.size, 0, none⟩) 0 0) 0 []) := hid ⟨rfl, .inr ⟨w.heap.size, 0, #[], rfl, Nat.le_refl _, Has.new w 179 #[], Nat.le_refl _, Nat.zero_le _, rfl, rfl⟩⟩
  have HN := hid (fun (j : Nat) (u : Value) (hj : xs[j]? = some u) => (HO.out.alloc (.cells #[] 179)).cells (g := g) rfl j u hj)
  go_wp2_with (at_builtin; refine wpList_append_own_at _ rfl (.tmp 5) (.tmp 6) 174 rfl w.heap.size 179 i0 (.agg #[.int .i64 0, .slice none 0 0]) 2 32 Tryz.underlying174 hinf hz0 hz1 hz2 rfl (by decide) (.slice (some ⟨w.heap.size, 0, none⟩) 0 0) 0 [] rfl HE.out ⟨g, 0, none⟩ n cap xs rfl hl HN.out hone (by unfold maxLen; omega) (by omega) (by simp only [World.size_alloc]; omega) ?_; intro v' w5 hown5 hgrow5 _ _; have HO5 := hid hown5; have HG5 := hid hgrow5; clear hown5 hgrow5)
  go_ret
  exact ⟨v', rfl, by simpa using HO5.out, Below.trans (Bw.alloc (Bw.refl w) _) (own_grownJ HE.out HG5.out (by simp only [World.size_alloc]; omega))⟩
set_option maxRecDepth 100000 in
set_option maxHeartbeats 4000000 in
theorem concat_1 (ab B1 g1 c1 : Nat) (xs1 : List Value) (hone1 : ∀ u ∈ xs1, u.oneCell' = true) (w : World) (ha : Has w ab 174 #[.slice (some ⟨g1, 0, none⟩) 1 c1, .slice none 0 0])
    (h1 : w.ownsRow B1 179 2 (.slice (some ⟨g1, 0, none⟩) 1 c1) 1 xs1) :
    Calls Tryz.prog 139 #[.slice (some ⟨ab, 0, none⟩) 2 2] w fun e w' => ∃ v, e = .returned v ∧ w'.ownsRow w.heap.size 179 2 v 1 xs1 ∧ Bw w w' := by
  obtain ⟨i0, hinf, hz0, hz1, hz2⟩ := info_parts infond
  have c0 := ha.cell 0
  have c1x := ha.cell 1
  have HO1 := hid h1
  have HA := hid ha
  have hl1 := h1.1
  have HG := hid (fun W => grow_nd 1 (by omega) (by omega) W)
  clear h1 ha
  go_enter Tryz.func139, Tryz.ntmps139
  go_wp2
  refine wp_loop_rounds 3 ?_
  rw [rounds_succ]
  go_wp2
  rw [rounds_succ]
  go_wp2
  rw [rounds_succ]
  go_wp2_with (go_at_call 147; refine (HG.out _).mono ?_; rintro e w2 ⟨v, rfl, hv, hb⟩)
  have HV := hid hv
  have HB := hid hb
  have d0 := (HB.out.has HA.out).cell 0
  have d1 := (HB.out.has HA.out).cell 1
  have HP1 := hid (HB.out.own HO1.out)
  have hb2 := hb.size
  clear hv hb c0 c1x HG
  go_wp2
  refine wp_loop_rounds 3 ?_
  rw [rounds_succ]
  have HN1 := hid (fun (j : Nat) (u : Value) (hj : xs1[j]? = some u) => HP1.out.cells (g := g1) rfl j u hj)
  go_wp2_with (at_builtin; refine wpList_append_own_at _ rfl (.tmp 31) (.tmp 32) 174 rfl w.heap.size 179 i0 (.agg #[.int .i64 0, .slice none 0 0]) 2 32 Tryz.underlying174 hinf hz0 hz1 hz2 rfl (by decide) v 0 [] rfl HV.out ⟨g1, 0, none⟩ 1 c1 xs1 rfl hl1 HN1.out hone1 (by unfold maxLen; omega) (by omega) hb2 ?_; intro v3 w3 hown3 hgrow3 _ _; have HO3 := hid hown3; have HG3 := hid hgrow3; clear hown3 hgrow3)
  have HB3 := hid (show Bw w w3 from Below.trans HB.out (own_grownJ HV.out HG3.out hb2))
  have hb3 := HB3.out.size
  have e0 := (HB3.out.has HA.out).cell 0
  have e1 := (HB3.out.has HA.out).cell 1
  clear d0 d1
  go_wp2_with fail
  rw [rounds_succ]
  go_wp2_with (at_builtin; refine wpList_append_own_none rfl (.tmp 31) (.tmp 32) 174 rfl w.heap.size 179 i0 2 Tryz.underlying174 hinf v3 (0 + 1) ([] ++ xs1) rfl HO3.out rfl ?_)
  go_wp2_with fail
  rw [rounds_succ]
  go_wp2
  go_ret
  exact ⟨v3, rfl, by simpa using HO3.out, HB3.out⟩
set_option maxRecDepth 100000 in
set_option maxHeartbeats 4000000 in
theorem concat_0n (ab : Nat) (w : World) (ha : Has w ab 174 #[.slice none 0 0, .slice none 0 0]) :
    Calls Tryz.prog 139 #[.slice (some ⟨ab, 0, none⟩) 2 2] w fun e w' => e = .returned (.slice none 0 0) ∧ Bw w w' := by
  obtain ⟨i0, hinf, hz0, hz1, hz2⟩ := info_parts infond
  have c0 := ha.cell 0
  have c1x := ha.cell 1
  have HA := hid ha
  have HG := hid (fun W => grow_none W)
  clear ha
  go_enter Tryz.func139, Tryz.ntmps139
  go_wp2
  refine wp_loop_rounds 3 ?_
  rw [rounds_succ]
  go_wp2
  rw [rounds_succ]
  go_wp2
  rw [rounds_succ]
  go_wp2_with (go_at_call 147; refine (HG.out _).mono ?_; rintro e w2 ⟨rfl, hb⟩)
  have HB := hid hb
  have d0 := (HB.out.has HA.out).cell 0
  have d1 := (HB.out.has HA.out).cell 1
  have hb2 := hb.size
  clear hb c0 c1x HG
  go_wp2
  refine wp_loop_rounds 3 ?_
  rw [rounds_succ]
  go_wp2_with (at_builtin; refine wpList_append_own_none rfl (.tmp 31) (.tmp 32) 174 rfl w.heap.size 179 i0 2 Tryz.underlying174 hinf (.slice none 0 0) 0 [] rfl (World.ownsRow_nil _ _ _ _) rfl ?_)
  go_wp2_with fail
  rw [rounds_succ]
  go_wp2_with (at_builtin; refine wpList_append_own_none rfl (.tmp 31) (.tmp 32) 174 rfl w.heap.size 179 i0 2 Tryz.underlying174 hinf (.slice none 0 0) 0 [] rfl (World.ownsRow_nil _ _ _ _) rfl ?_)
  go_wp2_with fail
  rw [rounds_succ]
  go_wp2
  go_ret
  exact ⟨rfl, HB.out⟩
set_option maxRecDepth 100000 in
set_option maxHeartbeats 4000000 in
theorem concat_0s (ab g1 c1 : Nat) (w : World) (ha : Has w ab 174 #[.slice (some ⟨g1, 0, none⟩) 0 c1, .slice none 0 0]) :
    Calls Tryz.prog 139 #[.slice (some ⟨ab, 0, none⟩) 2 2] w fun e w' => e = .returned (.slice none 0 0) ∧ Bw w w' := by
  obtain ⟨i0, hinf, hz0, hz1, hz2⟩ := info_parts infond
  have c0 := ha.cell 0
  have c1x := ha.cell 1
  have HA := hid ha
  have HG := hid (fun W => grow_none W)
  clear ha
  go_enter Tryz.func139, Tryz.ntmps139
  go_wp2
  refine wp_loop_rounds 3 ?_
  rw [rounds_succ]
  go_wp2
  rw [rounds_succ]
  go_wp2
  rw [rounds_succ]
  go_wp2_with (go_at_call 147; refine (HG.out _).mono ?_; rintro e w2 ⟨rfl, hb⟩)
  have HB := hid hb
  have d0 := (HB.out.has HA.out).cell 0
  have d1 := (HB.out.has HA.out).cell 1
  have hb2 := hb.size
  clear hb c0 c1x HG
  go_wp2
  refine wp_loop_rounds 3 ?_
  rw [rounds_succ]
  go_wp2_with (at_builtin; refine wpList_append_own_at _ rfl (.tmp 31) (.tmp 32) 174 rfl w.heap.size 179 i0 (.agg #[.int .i64 0, .slice none 0 0]) 2 32 Tryz.underlying174 hinf hz0 hz1 hz2 rfl (by decide) (.slice none 0 0) 0 [] rfl (World.ownsRow_nil _ _ _ _) ⟨g1, 0, none⟩ 0 c1 [] rfl rfl (fun j u h => by simp at h) (fun u h => by simp at h) (by unfold maxLen; omega) (by omega) hb2 ?_; intro v3 w3 hown3 hgrow3 hiff _; obtain rfl := hiff.2 ⟨rfl, rfl⟩; have HG3 := hid hgrow3; clear hown3 hgrow3 hiff)
  have HB3 := hid (show Bw w w3 from Below.trans HB.out (own_grownJ (World.ownsRow_nil w2 w.heap.size 179 2) HG3.out hb2))
  have e0 := (HB3.out.has HA.out).cell 0
  have e1 := (HB3.out.has HA.out).cell 1
  clear d0 d1
  go_wp2_with fail
  rw [rounds_succ]
  go_wp2_with (at_builtin; refine wpList_append_own_none rfl (.tmp 31) (.tmp 32) 174 rfl w.heap.size 179 i0 2 Tryz.underlying174 hinf (.slice none 0 0) 0 [] rfl (World.ownsRow_nil _ _ _ _) rfl ?_)
  go_wp2_with fail
  rw [rounds_succ]
  go_wp2
  go_ret
  exact ⟨rfl, HB3.out⟩
end Go.Proofs.YtkmbgkcpohchhaaGreatDoor
namespace Go.Proofs.YtkmbgkcpohchhaaGreatDoor
open Go.RowKit Go.Conc
set_option linter.unusedVariables false
theorem clone_t (B : Nat) (v1 : Value) (n : Nat) (hn : n ≤ 1) (xs : List Value) (hone : ∀ u ∈ xs, u.oneCell' = true) (w : World) (h : w.ownsRow B 179 2 v1 n xs) :
    Calls Tryz.prog 138 #[v1] w fun e w' => ∃ v, e = .returned v ∧ w'.ownsRow w.heap.size 179 2 v n xs ∧ Bw w w' := by
  have hl := h.1
  rcases h.2 with ⟨rfl, rfl⟩ | ⟨g, cap, cur, rfl, _⟩
  · obtain rfl : xs = [] := List.length_eq_zero_iff.1 (by simpa using hl)
    refine (clone_nil w).mono ?_
    rintro e w' ⟨rfl, hb⟩
    exact ⟨_, rfl, World.ownsRow_nil _ _ _ _, hb⟩
  · exact clone_nd0 B g cap n xs (by omega) hone w h
theorem concat_t (ab B1 : Nat) (v1 : Value) (n : Nat) (hn : n ≤ 1) (xs : List Value) (hone : ∀ u ∈ xs, u.oneCell' = true) (w : World) (ha : Has w ab 174 #[v1, .slice none 0 0]) (h : w.ownsRow B1 179 2 v1 n xs) :
    Calls Tryz.prog 139 #[.slice (some ⟨ab, 0, none⟩) 2 2] w fun e w' => ∃ v, e = .returned v ∧ w'.ownsRow w.heap.size 179 2 v n xs ∧ Bw w w' := by
  have hl := h.1
  have h2 := h.2
  rcases (show n = 0 ∨ n = 1 by omega) with rfl | rfl
  · obtain rfl : xs = [] := List.length_eq_zero_iff.1 (by simpa using hl)
    rcases h2 with ⟨rfl, _⟩ | ⟨g, cap, cur, rfl, _⟩
    · refine (concat_0n ab w ha).mono ?_
      rintro e w' ⟨rfl, hb⟩
      exact ⟨_, rfl, World.ownsRow_nil _ _ _ _, hb⟩
    · refine (concat_0s ab g cap w ha).mono ?_
      rintro e w' ⟨rfl, hb⟩
      exact ⟨_, rfl, World.ownsRow_nil _ _ _ _, hb⟩
  · rcases h2 with ⟨_, h3⟩ | ⟨g, cap, cur, rfl, _⟩
    · cases h3
    · exact concat_1 ab B1 g cap xs hone w ha h
set_option maxRecDepth 100000 in
set_option maxHeartbeats 8000000 in
theorem lightest_t (B0 c0 n most : Nat) (p0 : Option Addr) (N0 : List Nd) (M : List NdM) (hn : Hid (N0.length = n)) (h1 : n ≤ 1) (hm1 : 1 ≤ most) (hm15 : most ≤ 15) (X : Nat → Prop) (w : World) (h : w.ownsRow B0 179 2 (.slice p0 n c0) n (ndCells N0)) (hM : NodesM X w N0 M) :
    Calls Tryz.prog 119 #[.slice p0 n c0, .int .i64 most] w fun e w' => ∃ (v : Value) (N : List Nd), e = .returned v ∧ w'.ownsRow w.heap.size 179 2 v N.length (ndCells N) ∧ NodesM X w' N M ∧ Bw w w' := by
  have HO := hid h
  have HM := hid hM
  have HCL := hid (clone_t B0 _ n h1 (ndCells N0) (nd_one N0) w h)
  have hni : (n : Int) < 2 := by omega
  clear h hM
  go_enter Tryz.func119, Tryz.ntmps119
  go_wp2_with fail
  refine HCL.out.mono ?_
  rintro e w1 ⟨v, rfl, hv, hb⟩
  obtain ⟨r1, cp1, rfl⟩ := own_slice hv
  have HV1 := hid hv
  have HB1 := hid hb
  clear hv hb HCL
  go_wp2_with fail
  refine (asc_t r1 n cp1 h1 _).mono ?_
  rintro e w2 ⟨rfl, hb⟩
  have HV2 := hid (hb.own HV1.out)
  have HB2 := hid (HB1.out.trans hb)
  clear hb
  go_wp2_with fail
  go_loopw [5, 11] (fun v i wr => ∃ (k cp : Nat) (q : Option Addr), k ≤ most - 1 ∧ i = .int .i64 k ∧ v = .slice q n cp ∧ wr.ownsRow w.heap.size 179 2 v n (ndCells N0) ∧ Bw w wr) (fun _ i _ => most - (intOf i).toNat)
  case atStart => exact ⟨0, cp1, r1, Nat.zero_le _, rfl, rfl, HV2.out, HB2.out⟩
  case round =>
    clear HV2 HB2 HB1 HV1
    obtain ⟨k, cp, q, hk, rfl, rfl, hown, hbw⟩ := hrel
    have HV := hid hown
    have HBW := hid hbw
    clear hown hbw
    by_cases hlt : k < most - 1
    · have hlti : (k : Int) < (most : Int) - 1 := by omega
      go_wp2_with fail
      refine (pairs_t q n cp h1 _).mono ?_
      rintro e w3 ⟨rfl, hb3⟩
      have HB3 := hid (HBW.out.trans hb3)
      clear hb3
      go_wp2_with fail
      have HA := hid (Has.new w3 174 #[.slice p0 n c0, .slice none 0 0])
      have HBA := hid (((Bw.refl w3).alloc (.cells #[.slice p0 n c0, .slice none 0 0] 174)))
      refine (concat_t w3.heap.size B0 _ n h1 (ndCells N0) (nd_one N0) _ HA.out (HBA.out.own (HB3.out.own HO.out))).mono ?_
      rintro e w4 ⟨v4, rfl, hv4, hb4⟩
      obtain ⟨r4, cp4, rfl⟩ := own_slice hv4
      have HB4 := hid (HB3.out.trans (HBA.out.trans hb4))
      have HV4 := hid (own_base hv4 (show w.heap.size ≤ _ by have := HB3.out.size; rw [World.size_alloc]; omega))
      clear hv4 hb4
      go_wp2_with fail
      refine (asc_t r4 n cp4 h1 _).mono ?_
      rintro e w5 ⟨rfl, hb5⟩
      have HV5 := hid (hb5.own HV4.out)
      have HB5 := hid (HB4.out.trans hb5)
      clear hb5
      go_wp2
      go_roundw
      case rel => exact ⟨k + 1, cp4, r4, by omega, by go_num, rfl, HV5.out, HB5.out⟩
      case measure => simp [intOf]; omega
    · have hki : ¬ (k : Int) < (most : Int) - 1 := by omega
      go_wp2
      go_ret
      exact ⟨_, rfl, N0, by rw [hn.out]; exact HV.out, HM.out.bw HBW.out, HBW.out⟩
end Go.Proofs.YtkmbgkcpohchhaaGreatDoor
