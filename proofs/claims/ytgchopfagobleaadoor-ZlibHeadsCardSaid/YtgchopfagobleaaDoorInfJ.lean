/- The sequence of lengths (contract of the method). -/
import Derived.Test.YtgchopfagobleaaDoorInfC
import Derived.Test.YtgchopfagobleaaDoorInfG
import Derived.Test.YtgchopfagobleaaDoorInfI
import Derived.Deep.CutRange
import Derived.Deep.CutBlock
import Derived.RegionDies
import Derived.Deep.RegionHeld3
namespace Go.Proofs.YtgchopfagobleaaDoor
open Go.RowKit Go.Conc
set_option linter.unusedVariables false
def icl (l : List Int) : List Value := l.map fun x => .int .i64 x
theorem icl_snoc (l : List Int) (x : Int) : icl (l ++ [x]) = icl l ++ [.int .i64 x] := by simp [icl]
theorem icl_get (l : List Int) (i : Nat) (h : i < l.length) : (icl l)[i]? = some (.int .i64 l[i]) := by simp [icl, h]
theorem intInfo2 : (Tryd.prog.info? 3).map (fun i => (i.zero, i.size, i.bytes)) = some (some (.int .i64 0), 1, 8) := by kernel_rfl
theorem KT.later {T : List TypeId} {B : Nat} {a b c : World} (h : KT T B a b) (k : Below a.heap.size b c) : KT T B a c :=
  ⟨k.os.trans h.os, k.tape.trans h.tape, k.output.trans h.output, Nat.le_trans h.size k.size, fun i hi hn => (k.block i hi).trans (h.block i hi hn)⟩
/-- What sequence leaves. -/
def SeqC (B : Nat) (w : World) (fb g : Nat) (s : ByteArray) (lim : Nat) (last : Bool) (n d : Nat) (t : List Int) (k : Nat) (out : List UInt8) (pl pd : Option Addr) (e : Ending) (w' : World) : Prop :=
  KT TI B w w' ∧ ((∃ er, Leads s lim (.go ⟨.seq last n d t [], k, out⟩) (.bad er) ∧ e = pan er) ∨
    (∃ (l : List Int) (k' ab cap : Nat) (v : Value), Leads s lim (.go ⟨.seq last n d t [], k, out⟩) (.go ⟨.seq last n d t l, k', out⟩) ∧ l.length = n + d ∧ (∀ x ∈ l, 0 ≤ x ∧ x ≤ 15) ∧
      e = .returned (.slice (some ⟨ab, 0, none⟩) (n + d) cap) ∧ n + d ≤ cap ∧ w'.ownsRow w.heap.size 3 1 (.slice (some ⟨ab, 0, none⟩) (n + d : Nat) cap) (n + d) (icl l) ∧ Inf B w' fb g s k' out lim v pl pd))
/-- How a round stands. -/
def SeqIn (B : Nat) (w : World) (fb g : Nat) (s : ByteArray) (lim : Nat) (last : Bool) (n d : Nat) (t : List Int) (k : Nat) (out : List UInt8) (pl pd : Option Addr) (y : Value) (wr : World) : Prop :=
  ∃ (l : List Int) (n1 k1 : Nat) (v1 : Value), l.length = n1 ∧ n1 ≤ n + d ∧ (∀ x ∈ l, 0 ≤ x ∧ x ≤ 15) ∧ wr.ownsRow w.heap.size 3 1 y n1 (icl l) ∧ Inf B wr fb g s k1 out lim v1 pl pd ∧ KT TI B w wr ∧
    Leads s lim (.go ⟨.seq last n d t [], k, out⟩) (.go ⟨.seq last n d t l, k1, out⟩)
/-- How it stands in front of the copies. -/
def SeqMid (B : Nat) (w w1 : World) (fb g : Nat) (s : ByteArray) (lim : Nat) (last : Bool) (n d : Nat) (t l : List Int) (k1 : Nat) (out : List UInt8) (pl pd : Option Addr) (a b : Value) (wx : World) : Prop :=
  ∃ (vv : Int) (tm k3 : Nat) (v3 : Value), a = .int .i64 vv ∧ b = .int .i64 tm ∧ 0 ≤ vv ∧ vv ≤ 15 ∧ 1 ≤ tm ∧ tm ≤ 200 ∧ Inf B wx fb g s k3 out lim v3 pl pd ∧ KT TI B w1 wx ∧
    step s lim ⟨.seq last n d t l, k1, out⟩ = stPut last n d t l vv tm k3 out
theorem seq_eq (s : ByteArray) (lim : Nat) (last : Bool) (n d : Nat) (t l : List Int) (k : Nat) (out : List UInt8) (h : l.length < n + d) : step s lim ⟨.seq last n d t l, k, out⟩ =
    sym1 s t k fun x k1 =>
      if x = 16 then (if l = [] then .bad 3 else num s k1 2 fun v k2 => stPut last n d t l (l.getD (l.length - 1) 0) (3 + v) k2 out)
      else if x = 17 then num s k1 3 fun v k2 => stPut last n d t l 0 (3 + v) k2 out
      else if x = 18 then num s k1 7 fun v k2 => stPut last n d t l 0 (11 + v) k2 out
      else stPut last n d t l x 1 k1 out := by
  rw [step_seq]; unfold stSeq; rw [if_pos h]
section
variable {B : Nat} {w : World} {fb g : Nat} {s : ByteArray} {k : Nat} {out : List UInt8} {lim : Nat} {v : Value} {pl pd : Option Addr}
set_option maxRecDepth 100000 in
set_option maxHeartbeats 4000000 in
theorem sequence_any (hs : s.size ≤ 281474976710656) (last : Bool) (t : List Int) (D tb : Nat) (hc : IsCode t) (ht19 : t.length = 19) (hT : TabOf w D tb t) (n d nd : Nat) (hnd : Hid (n + d = nd)) (hnd1 : 1 ≤ nd) (hnd9 : nd ≤ 400) (h : Inf B w fb g s k out lim v pl pd) :
    Calls Tryd.prog 62 #[.pointer (some ⟨fb, 0, none⟩), .pointer (some ⟨tb, 0, none⟩), .int .i64 nd] w (SeqC B w fb g s lim last n d t k out pl pd) := by
  obtain ⟨i0, hinf, hz0, hz1, hz2⟩ := info_parts intInfo2
  have HI := hid h
  have HT := hid hT
  clear h hT
  go_enter Tryd.func62, Tryd.ntmps62
  go_wp2_with fail
  go_loopw [7, 8, 9] (fun y a b wr => SeqIn B w fb g s lim last n d t k out pl pd y wr) (fun y _ _ _ => nd - (match y with | .slice _ m _ => m | _ => 0))
  case atStart => exact ⟨[], 0, k, v, rfl, by omega, (fun x hx => by simp at hx), World.ownsRow_nil _ _ _ _, HI.out, KT.refl _, Leads.refl _⟩
  case round =>
    rename World => wr
    obtain ⟨l1, n1, k1, v1, hl1, hn1, hr1, ho1, hi1, hk1, hL⟩ := hrel
    obtain ⟨vo, vc, rfl⟩ := own_slice ho1
    have HL1 := hid hl1
    have HR1 := hid hr1
    have HO1 := hid ho1
    have HI1 := hid hi1
    have HK1 := hid hk1
    have HL := hid hL
    clear hl1 hr1 ho1 hi1 hk1 hL
    rw [hnd.out] at hn1
    by_cases hlt : n1 < nd
    · have hlt1 : (n1 : Int) < nd := by omega
      have HX := hid (seq_eq s lim last n d t l1 k1 out (by rw [HL1.out, hnd.out]; exact hlt))
      go_wp2_with fail
      by_cases h1 : nextE t s k1 = 0
      · have HX := hid (HX.out.trans (sym1_ok h1))
        have hx9 := nextV_lt h1
        rw [ht19] at hx9
        refine (symbol_ok hs D tb t hc (HK1.out.tab HT.out (by decide) (by decide)) h1 HI1.out).mono ?_
        rintro e w2 ⟨rfl, hi2, hk2⟩
        have HI2 := hid hi2
        have HK2 := hid (HK1.out.trans hk2)
        have HO2 := hid (hk2.own HO1.out (by decide))
        clear hi2 hk2 h1
        generalize nextV t s k1 = x at *
        generalize nextK t s k1 = k2 at *
        go_upto_block 2 with fail
        go_cut [8, 9] from 10 to 57 (fun a b wx => SeqMid B w w2 fb g s lim last n d t l1 k1 out pl pd a b wx)
        case first =>
          by_cases h16 : x = 16
          · have HX := hid (HX.out.trans (if_pos h16))
            have t16 : ((x : Int) == 16) = true := by simp; omega
            by_cases h0 : n1 = 0
            · have HX := hid (HX.out.trans (if_pos (List.length_eq_zero_iff.1 (HL1.out.trans h0))))
              have t0 : decide (0 < n1) = false := decide_eq_false (by omega)
              have t1 : decide ((0 : Int) < n1) = false := decide_eq_false (by omega)
              go_wp2_with fail
              refine (demand_bad _).mono ?_
              rintro e w3 ⟨rfl, rfl⟩
              exact ⟨rfl, HK2.out, .inl ⟨_, HL.out.then HX.out, rfl⟩⟩
            · have HX := hid (HX.out.trans (if_neg (fun e => h0 (by rw [← HL1.out, e]; rfl))))
              have t0 : decide (0 < n1) = true := decide_eq_true (by omega)
              have t1 : decide ((0 : Int) < n1) = true := decide_eq_true (by omega)
              obtain ⟨ab, cap, hv⟩ := own_some HO2.out (by omega)
              obtain ⟨rfl, rfl⟩ : vo = some ⟨ab, 0, none⟩ ∧ vc = cap := by simpa using hv
              obtain ⟨q, hq⟩ : ∃ q, n1 - 1 = q := ⟨_, rfl⟩
              have hq1 : q < l1.length := by rw [HL1.out]; omega
              have hlq := HR1.out l1[q] (List.getElem_mem hq1)
              have hgd : l1.getD (l1.length - 1) 0 = l1[q] := by rw [HL1.out, hq]; simp [List.getD, hq1]
              rw [hgd] at HX
              have c0 := ownp_cell HO2.out (icl_get l1 q hq1)
              have HS := hid (fun (W : World) (h : KT TI B w2 W) => ownp_cell (h.own HO2.out (by decide)) (icl_get l1 q hq1))
              generalize l1[q] = vv at *
              have HVV := hid hlq
              have e1 : (n1 : Int) - 1 = (q : Nat) := by omega
              have b1 : (0 : Int) ≤ q := by omega
              have b2 : (q : Int) < n1 := by omega
              have b3 : (q : Int).toNat = q := rfl
              have b4 : IntKind.i64.wrap (q : Int) = (q : Int) := IntWalk.i64_in _ (by omega)
              clear hgd hv h16 hlq
              go_wp2_with fail
              refine (demand_ok _).mono ?_
              rintro e w3 ⟨rfl, rfl⟩
              go_wp2_with fail
              have p0 : w3.drew.cell? ⟨ab, q, none⟩ = some (.int .i64 vv) := c0
              have HID := hid (HI2.out.bw ((Bw.refl w3).drewN 1))
              have HKD := hid (show KT TI B w3 w3.drew from KT.of_bw ((Bw.refl w3).drewN 1))
              clear c0
              by_cases h2 : k2 + 2 ≤ 8 * s.size
              · have HX := hid (HX.out.trans (num_ok h2))
                have hbv : bv s k2 2 < 4 := bv_lt s k2 2
                have b5 : IntKind.i64.wrap (3 + ((bv s k2 2 : Nat) : Int)) = 3 + ((bv s k2 2 : Nat) : Int) := IntWalk.i64_in _ (by omega)
                go_region_held3 (fun W => W.cell? ⟨ab, q, none⟩ = some (.int .i64 vv)) (first | exact p0 | exact q0)
                  (first | (go_at_call 36; refine (number_ok hs 2 (by omega) h2 HID.out).mono ?_; rintro e w4 ⟨rfl, hi3, hk3⟩; have q0 := HS.out _ (HKD.out.trans hk3); have HI4 := hid hi3; have HK4 := hid (HKD.out.trans hk3); clear hi3 hk3))
                go_wp2_with fail
                go_meet
                case rel => exact ⟨vv, 3 + bv s k2 2, k2 + 2, v1, rfl, by simp, HVV.out.1, HVV.out.2, by omega, by omega, HI4.out, HK4.out, HX.out⟩
              · have HX := hid (HX.out.trans (num_bad h2))
                go_region_dies
                all_goals (refine (number_bad hs 2 (by omega) h2 HID.out).mono ?_; rintro e w4 ⟨rfl, hk4⟩; exact ⟨rfl, HK2.out.trans (HKD.out.trans hk4), .inl ⟨_, HL.out.then HX.out, rfl⟩⟩)
          · have HX := hid (HX.out.trans (if_neg h16))
            have t16 : ((x : Int) == 16) = false := by simp; omega
            by_cases h17 : x = 17
            · have HX := hid (HX.out.trans (if_pos h17))
              have t17 : ((x : Int) == 17) = true := by simp; omega
              go_wp2_with fail
              by_cases h2 : k2 + 3 ≤ 8 * s.size
              · have HX := hid (HX.out.trans (num_ok h2))
                have hbv : bv s k2 3 < 8 := bv_lt s k2 3
                refine (number_ok hs 3 (by omega) h2 HI2.out).mono ?_
                rintro e w3 ⟨rfl, hi3, hk3⟩
                have HI3 := hid hi3
                have HK3 := hid hk3
                clear hi3 hk3 h17
                go_wp2_with fail
                go_meet
                case rel => exact ⟨0, 3 + bv s k2 3, k2 + 3, v1, rfl, by simp, by omega, by omega, by omega, by omega, HI3.out, HK3.out, HX.out⟩
              · have HX := hid (HX.out.trans (num_bad h2))
                refine (number_bad hs 3 (by omega) h2 HI2.out).mono ?_
                rintro e w3 ⟨rfl, hk3⟩
                exact ⟨rfl, HK2.out.trans hk3, .inl ⟨_, HL.out.then HX.out, rfl⟩⟩
            · have HX := hid (HX.out.trans (if_neg h17))
              have t17 : ((x : Int) == 17) = false := by simp; omega
              by_cases h18 : x = 18
              · have HX := hid (HX.out.trans (if_pos h18))
                have t18 : ((x : Int) == 18) = true := by simp; omega
                go_wp2_with fail
                by_cases h2 : k2 + 7 ≤ 8 * s.size
                · have HX := hid (HX.out.trans (num_ok h2))
                  have hbv : bv s k2 7 < 128 := bv_lt s k2 7
                  refine (number_ok hs 7 (by omega) h2 HI2.out).mono ?_
                  rintro e w3 ⟨rfl, hi3, hk3⟩
                  have HI3 := hid hi3
                  have HK3 := hid hk3
                  clear hi3 hk3 h18
                  go_wp2_with fail
                  go_meet
                  case rel => exact ⟨0, 11 + bv s k2 7, k2 + 7, v1, rfl, by simp, by omega, by omega, by omega, by omega, HI3.out, HK3.out, HX.out⟩
                · have HX := hid (HX.out.trans (num_bad h2))
                  refine (number_bad hs 7 (by omega) h2 HI2.out).mono ?_
                  rintro e w3 ⟨rfl, hk3⟩
                  exact ⟨rfl, HK2.out.trans hk3, .inl ⟨_, HL.out.then HX.out, rfl⟩⟩
              · have HX := hid (HX.out.trans (if_neg h18))
                have t18 : ((x : Int) == 18) = false := by simp; omega
                go_wp2_with fail
                go_meet
                case rel => exact ⟨x, 1, k2, v1, rfl, rfl, by omega, by omega, by omega, by omega, HI2.out, KT.refl _, HX.out⟩
        case rest =>
          obtain ⟨vv, tm, k3, v3, rfl, rfl, hv0, hv15, htm1, htm2, hi3, hk3, hX⟩ := hcut
          have HI3 := hid hi3
          have HK3 := hid (HK2.out.trans hk3)
          have HO3 := hid (hk3.own HO2.out (by decide))
          have HX := hid hX
          clear hi3 hk3 hX
          by_cases hr : tm ≤ nd - n1
          · have HX := hid (HX.out.trans (show stPut last n d t l1 vv tm k3 out = _ from if_pos (by rw [HL1.out, hnd.out]; exact hr)))
            have t0 : decide ((tm : Int) ≤ (nd : Int) - n1) = true := decide_eq_true (by omega)
            go_wp2_with fail
            refine (demand_ok _).mono ?_
            rintro e w4 ⟨rfl, rfl⟩
            clear t0
            go_wp2_with fail
            go_loopw [7, 51] (fun y i wi => ∃ (j : Nat), j ≤ tm ∧ i = .int .i64 j ∧ wi.ownsRow w.heap.size 3 1 y (n1 + j) (icl (l1 ++ List.replicate j vv)) ∧ Inf B wi fb g s k3 out lim v3 pl pd ∧ KT TI B w wi) (fun _ i _ => tm - (intOf i).toNat)
            case atStart => exact ⟨0, Nat.zero_le _, rfl, by simpa using HO3.out, HI3.out, HK3.out⟩
            case round =>
              rename World => wi
              obtain ⟨j, hj, rfl, ho, hi, hk⟩ := hrel
              have HOI := hid ho
              have HII := hid hi
              have HKI := hid hk
              obtain ⟨uo, uc, rfl⟩ := own_slice ho
              clear ho hi hk
              by_cases hjt : j < tm
              · have hj1 : (j : Int) < tm := by omega
                obtain ⟨m, hm⟩ : ∃ m, n1 + j = m := ⟨_, rfl⟩
                have hm9 : m ≤ 400 := by omega
                have HO4 := hid (show wi.ownsRow w.heap.size 3 1 (.slice uo m uc) m (icl (l1 ++ List.replicate j vv)) by rw [← hm]; exact HOI.out)
                have HM := hid hm
                have hwz : w.heap.size ≤ wi.heap.size := HKI.out.size
                have HWZ := hid hwz
                rw [hm]
                clear hm hwz
                go_wp2_with (at_builtin; refine wpList_append_own_at _ rfl (.tmp 53) (.tmp 55) 65 rfl w.heap.size 3 i0 (.int .i64 0) 1 8 Tryd.underlying65 hinf hz0 hz1 hz2 rfl (by decide) (.slice uo m uc) m (icl (l1 ++ List.replicate j vv)) rfl (((Bw.refl wi).alloc _).own HO4.out) ⟨wi.heap.size, 0, none⟩ 1 1 [.int .i64 vv] rfl rfl (cell_one_new _ _ _) (by intro u hu; simp at hu; rw [hu]; rfl) (by unfold maxLen; omega) (by omega) (by have := HWZ.out; simp only [World.size_alloc]; omega) ?_; intro v' w5 hown5 hgrow5 _ _; obtain ⟨vo5, vc5, rfl⟩ := own_slice hown5; have HG5 := hid hgrow5; have HO5 := hid hown5; clear hown5 hgrow5)
                have HWA := hid (show Bw wi (wi.alloc (.cells #[.int .i64 vv] 3)) from (Bw.refl wi).alloc _)
                have HKA := hid (KT.of_grown (T := [3]) (B := B) (HWA.out.own HO4.out) (by have h1 := HI.out.gb; have h2 := Has.lt HI.out.rd; omega) HG5.out (by decide))
                have HI5 := hid ((HII.out.bw HWA.out).other HKA.out (by decide) (by decide) (by decide) (by decide) (by decide))
                have HK5 := hid ((HKI.out.trans (KT.of_bw HWA.out)).later (own_grownJ (HWA.out.own HO4.out) HG5.out (by have := HWZ.out; simp only [World.size_alloc]; omega)))
                refine ⟨⟨j + 1, by omega, by go_num, ?_, HI5.out, HK5.out⟩, by simp [intOf]; omega⟩
                rw [List.replicate_succ', ← List.append_assoc, icl_snoc, ← Nat.add_assoc, HM.out]
                exact HO5.out
              · obtain rfl : j = tm := by omega
                have HRR := hid (show ∀ x ∈ l1 ++ List.replicate j vv, 0 ≤ x ∧ x ≤ 15 from fun x hx => by
                  rcases List.mem_append.1 hx with h | h
                  · exact HR1.out x h
                  · rw [List.eq_of_mem_replicate h]; exact ⟨hv0, hv15⟩)
                have HLL := hid (show (l1 ++ List.replicate j vv).length = n1 + j by rw [List.length_append, List.length_replicate, HL1.out])
                have HNN := hid (show n1 + j ≤ n + d by rw [hnd.out]; omega)
                have hmeas : nd - (n1 + j) < nd - n1 := by omega
                have HME := hid hmeas
                clear hmeas
                go_wp2
                go_roundw
                case rel => exact ⟨_, _, _, _, HLL.out, HNN.out, HRR.out, HOI.out, HII.out, HKI.out, HL.out.then HX.out⟩
                case measure => exact HME.out
          · have HX := hid (HX.out.trans (show stPut last n d t l1 vv tm k3 out = _ from if_neg (by rw [HL1.out, hnd.out]; exact hr)))
            have t0 : decide ((tm : Int) ≤ (nd : Int) - n1) = false := decide_eq_false (by omega)
            go_wp2_with fail
            refine (demand_bad _).mono ?_
            rintro e w4 ⟨rfl, rfl⟩
            exact ⟨rfl, HK3.out, .inl ⟨_, HL.out.then HX.out, rfl⟩⟩
      · have HX := hid (HX.out.trans (sym1_bad h1))
        refine (symbol_bad hs D tb t hc (HK1.out.tab HT.out (by decide) (by decide)) h1 HI1.out).mono ?_
        rintro e w2 ⟨rfl, hk2⟩
        exact ⟨rfl, HK1.out.trans hk2, .inl ⟨_, HL.out.then HX.out, rfl⟩⟩
    · have hlt1 : ¬ (n1 : Int) < nd := by omega
      obtain rfl : n1 = nd := by omega
      obtain ⟨ab, cap, hv⟩ := own_some HO1.out (by omega)
      obtain ⟨rfl, rfl⟩ : vo = some ⟨ab, 0, none⟩ ∧ vc = cap := by simpa using hv
      have hcap := ownp_cap HO1.out
      clear hv
      go_wp2
      go_returns
      exact ⟨HK1.out, .inr ⟨l1, k1, ab, vc, v1, HL.out, by rw [HL1.out, hnd.out], HR1.out, by rw [hnd.out]; rfl, by rw [hnd.out]; exact hcap, by rw [hnd.out]; exact HO1.out, HI1.out⟩⟩
end
end Go.Proofs.YtgchopfagobleaaDoor
