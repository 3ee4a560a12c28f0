import Derived.Test.YtkmbgkcpohchhaaGreatDoorGMatH
import Derived.Test.YtkmbgkcpohchhaaGreatDoorGInfI
import Derived.Test.YtkmbgkcpohchhaaGreatDoorGRefG
import Derived.Test.YtkmbgkcpohchhaaGreatDoorGInfK
namespace Go.Proofs.YtkmbgkcpohchhaaGreatDoor
open Go.RowKit Go.Conc
set_option linter.unusedVariables false
def RowR (B : Nat) (w : World) (fb g : Nat) (s : ByteArray) (lim : Nat) (last : Bool) (n d : Nat) (t : List Int) (k : Nat) (out : List UInt8) (e : Ending) (w' : World) : Prop :=
  KT TJ B w w' ∧ ((∃ er, Leads s lim (.go ⟨.seq last n d t [], k, out⟩) (.bad er) ∧ er ≠ 0 ∧ e = .returned (.tuple #[.slice none 0 0, .int .i64 er])) ∨
    (∃ (l : List Int) (k' ab cap : Nat) (v : Value), Leads s lim (.go ⟨.seq last n d t [], k, out⟩) (.go ⟨.seq last n d t l, k', out⟩) ∧ l.length = n + d ∧ (∀ x ∈ l, 0 ≤ x ∧ x ≤ 15) ∧
      e = .returned (.tuple #[.slice (some ⟨ab, 0, none⟩) (n + d) cap, .int .i64 0]) ∧ n + d ≤ cap ∧ w'.ownsRow w.heap.size 3 1 (.slice (some ⟨ab, 0, none⟩) (n + d : Nat) cap) (n + d) (icl l) ∧ Ref B w' fb g s k' out lim v))
def RowIn (B : Nat) (w : World) (fb g lb : Nat) (s : ByteArray) (lim : Nat) (last : Bool) (n d : Nat) (t : List Int) (c1 c2 : Value) (k : Nat) (out : List UInt8) (y : Value) (wr : World) : Prop :=
  ∃ (l : List Int) (n1 k1 : Nat) (v1 : Value), l.length = n1 ∧ n1 ≤ n + d ∧ (∀ x ∈ l, 0 ≤ x ∧ x ≤ 15) ∧ wr.ownsRow w.heap.size 3 1 y n1 (icl l) ∧ Has wr lb 129 #[c1, c2] ∧ Ref B wr fb g s k1 out lim v1 ∧ KT TJ B w wr ∧
    Leads s lim (.go ⟨.seq last n d t [], k, out⟩) (.go ⟨.seq last n d t l, k1, out⟩)
def RowMid (B : Nat) (w1 : World) (fb g : Nat) (s : ByteArray) (lim : Nat) (last : Bool) (n d : Nat) (t l : List Int) (k1 : Nat) (out : List UInt8) (a b c : Value) (wx : World) : Prop :=
  ∃ (er vv : Int) (tm k3 : Nat) (v3 : Value), a = .int .i64 er ∧ b = .int .i64 vv ∧ c = .int .i64 tm ∧ 0 ≤ vv ∧ vv ≤ 15 ∧ 1 ≤ tm ∧ tm ≤ 200 ∧ Ref B wx fb g s k3 out lim v3 ∧ KT TJ B w1 wx ∧
    ((er = 0 ∧ step s lim ⟨.seq last n d t l, k1, out⟩ = stPut last n d t l vv tm k3 out) ∨ (er = 2 ∧ step s lim ⟨.seq last n d t l, k1, out⟩ = .bad 2))
section
variable {B : Nat} {w : World} {fb g : Nat} {s : ByteArray} {k : Nat} {out : List UInt8} {lim : Nat} {v : Value}
set_option maxRecDepth 100000 in
set_option maxHeartbeats 4000000 in
theorem rrow_any (hs : s.size ≤ 281474976710656) (last : Bool) (t : List Int) (c : Value) (hc : CodeR w c t) (ht19 : t.length = 19) (n d nd : Nat) (hnd : Hid (n + d = nd)) (hnd1 : 1 ≤ nd) (hnd9 : nd ≤ 400) (h : Ref B w fb g s k out lim v) :
    Calls Tryz.prog 104 #[.pointer (some ⟨fb, 0, none⟩), .int .i64 nd, c] w (RowR B w fb g s lim last n d t k out) := by
  obtain ⟨i0, hinf, hz0, hz1, hz2⟩ := info_parts intInfo2
  have HI := hid h
  have HLC := hid hc.code
  obtain ⟨cb, coff, clen, ccap, crb, rfl, hcl, hci, hch⟩ := hc.ex
  have HLL := hid hcl
  have HLI := hid hci
  have HLH := hid hch
  have HW1 := hid (show Bw w (w.alloc (.cells #[.slice (some ⟨cb, coff, none⟩) clen ccap, .slice (some ⟨crb, 0, none⟩) clen clen] 129)) from (Bw.refl w).alloc _)
  have HN1 := hid (Has.new w 129 #[.slice (some ⟨cb, coff, none⟩) clen ccap, .slice (some ⟨crb, 0, none⟩) clen clen])
  clear h hc hcl hci hch
  go_enter Tryz.func104, Tryz.ntmps104
  go_wp2_with fail
  have HI0 := hid (HI.out.bw HW1.out)
  obtain ⟨lb, hlb⟩ : ∃ lb, w.heap.size = lb := ⟨_, rfl⟩
  rw [hlb] at HN1 ⊢
  have HLB := hid hlb
  clear hlb
  generalize w.alloc (.cells #[.slice (some ⟨cb, coff, none⟩) clen ccap, .slice (some ⟨crb, 0, none⟩) clen clen] 129) = W at *
  go_loopw [8, 9, 10, 11, 12, 13] (fun y _ _ _ _ _ wr => RowIn B w fb g lb s lim last n d t (.slice (some ⟨cb, coff, none⟩) clen ccap) (.slice (some ⟨crb, 0, none⟩) clen clen) k out y wr) (fun y _ _ _ _ _ _ => nd - (match y with | .slice _ m _ => m | _ => 0))
  case atStart => exact ⟨[], 0, k, v, rfl, by omega, (fun x hx => by simp at hx), World.ownsRow_nil _ _ _ _, HN1.out, HI0.out, KT.of_bw HW1.out, Leads.refl _⟩
  case round =>
    rename World => wr
    obtain ⟨l1, n1, k1, v1, hl1, hn1, hr1, ho1, hna, hi1, hk1, hL⟩ := hrel
    obtain ⟨vo, vc, rfl⟩ := own_slice ho1
    have HL1 := hid hl1
    have HR1 := hid hr1
    have HO1 := hid ho1
    have HNA := hid hna
    have HI1 := hid hi1
    have HK1 := hid hk1
    have HL := hid hL
    rw [hnd.out] at hn1
    by_cases hlt : n1 < nd
    · have hlt1 : (n1 : Int) < nd := by omega
      have HX := hid (seq_eq s lim last n d t l1 k1 out (by rw [HL1.out, hnd.out]; exact hlt))
      have b0 : wr.cell? ⟨lb, 0, none⟩ = some (.slice (some ⟨cb, coff, none⟩) clen ccap) := hna.cell 0
      have b1 : wr.cell? ⟨lb, 1, none⟩ = some (.slice (some ⟨crb, 0, none⟩) clen clen) := hna.cell 1
      have b2 : wr.cell? ⟨fb, 0, none⟩ = some (.pointer (some ⟨g, 0, none⟩)) := hi1.has.cell 0
      have HD := hid (show Bw wr wr.drew from (Bw.refl wr).drewN 1)
      have HIE := hid (HI1.out.bw HD.out)
      have HSY := hid (rsym_any hs cb coff clen ccap crb t HLC.out HLL.out ((HLI.out.kt HK1.out (by decide)).bw HD.out) (HD.out.has (HK1.out.has HLH.out (by decide))) HIE.out)
      have HNA3 := hid (HD.out.has HNA.out)
      have HK3 := hid (HK1.out.trans (KT.of_bw HD.out))
      have HO3 := hid (HD.out.own HO1.out)
      clear hl1 hr1 ho1 hna hi1 hk1 hL
      go_wp2_with fail
      go_region_held3 (fun W => W.cell? ⟨lb, 0, none⟩ = some (.slice (some ⟨cb, coff, none⟩) clen ccap) ∧ W.cell? ⟨lb, 1, none⟩ = some (.slice (some ⟨crb, 0, none⟩) clen clen) ∧ W.cell? ⟨fb, 0, none⟩ = some (.pointer (some ⟨g, 0, none⟩)))
        (first | exact ⟨b0, b1, b2⟩ | exact ⟨s0, s1, s2⟩ | exact ⟨by assumption, by assumption, by assumption⟩)
        (first | (go_at_call 101; refine HSY.out.mono ?_; rintro e w2 ⟨rfl, hi2, hk2⟩; have HI2 := hid hi2; have HK2 := hid (HK3.out.trans hk2); have hn4 := hk2.has HNA3.out (by decide); have HNA2 := hid hn4; have HO2 := hid (hk2.own HO3.out (by decide)); have s0 := hn4.cell 0; have s1 := hn4.cell 1; have s2 := hi2.has.cell 0; clear hi2 hk2 hn4))
      clear b0 b1 b2
      by_cases h1 : nextE t s k1 = 0
      · have HX := hid (HX.out.trans (sym1_ok h1))
        have hx9 := nextV_lt h1
        rw [ht19] at hx9
        rw [h1]
        clear h1
        generalize nextV t s k1 = x at *
        generalize nextK t s k1 = k2 at *
        by_cases h16 : x < 16
        · have t16 : decide ((x : Int) < 16) = true := decide_eq_true (by omega)
          have t17 : decide (x < 16) = true := decide_eq_true (by omega)
          have HX := hid (((HX.out.trans (if_neg (by omega))).trans (if_neg (by omega))).trans (if_neg (by omega)))
          have HX := hid (HX.out.trans (show stPut last n d t l1 x 1 k2 out = _ from if_pos (by rw [HL1.out, hnd.out]; omega)))
          have HWZ := hid (show w.heap.size ≤ w2.heap.size from HK2.out.size)
          go_wp2_with (at_builtin; refine wpList_append_own_at _ rfl (.tmp 35) (.tmp 37) 44 rfl w.heap.size 3 i0 (.int .i64 0) 1 8 Tryz.underlying44 hinf hz0 hz1 hz2 rfl (by decide) (.slice vo n1 vc) n1 (icl l1) rfl (((Bw.refl w2).alloc _).own HO2.out) ⟨w2.heap.size, 0, none⟩ 1 1 [.int .i64 x] rfl rfl (cell_one_new _ _ _) (by intro u hu; simp at hu; rw [hu]; rfl) (by unfold maxLen; omega) (by omega) (by have := HWZ.out; simp only [World.size_alloc]; omega) ?_; intro v' w5 hown5 hgrow5 _ _; obtain ⟨vo5, vc5, rfl⟩ := own_slice hown5; have HG5 := hid hgrow5; have HO5 := hid hown5; clear hown5 hgrow5)
          have HWA := hid (show Bw w2 (w2.alloc (.cells #[.int .i64 x] 3)) from (Bw.refl w2).alloc _)
          have HKA := hid (KT.of_grown (T := [3]) (B := B) (HWA.out.own HO2.out) (by have h1 := HI.out.gb; have h2 := Has.lt HI.out.rd; omega) HG5.out (by decide))
          have HI5 := hid ((HI2.out.bw HWA.out).other HKA.out (by decide) (by decide) (by decide))
          have HN5 := hid (HKA.out.has (HWA.out.has HNA2.out) (by decide))
          have HK5 := hid ((HK2.out.trans (KT.of_bw HWA.out)).later (own_grownJ (HWA.out.own HO2.out) HG5.out (by have := HWZ.out; simp only [World.size_alloc]; omega)))
          have hL1 : (l1 ++ List.replicate 1 (x : Int)).length = n1 + 1 := by rw [List.length_append, List.length_replicate, HL1.out]
          refine ⟨⟨_, n1 + 1, _, _, hL1, by rw [hnd.out]; omega, fun z hz => ?_, ?_, HN5.out, HI5.out, HK5.out, HL.out.then HX.out⟩, by simp; omega⟩
          · rcases List.mem_append.1 hz with h | h
            · exact HR1.out z h
            · rw [List.eq_of_mem_replicate h]; omega
          · rw [List.replicate_one, icl_snoc]; exact HO5.out
        · have t16 : decide ((x : Int) < 16) = false := decide_eq_false (by omega)
          have t17 : decide (x < 16) = false := decide_eq_false (by omega)
          go_upto_block 2 with fail
          go_cut [10, 11, 12] from 40 to 67 (fun a b c wx => RowMid B w2 fb g s lim last n d t l1 k1 out a b c wx)
          case first =>
            by_cases h16 : x = 16
            · have HX := hid (HX.out.trans (if_pos h16))
              have t18 : ((x : Int) == 16) = true := by simp; omega
              by_cases h0 : n1 = 0
              · have HX := hid (HX.out.trans (if_pos (List.length_eq_zero_iff.1 (HL1.out.trans h0))))
                have t0 : ((n1 : Int) == 0) = true := by simp; omega
                go_wp2
                go_returns
                exact ⟨HK2.out, .inl ⟨_, HL.out.then HX.out, by decide, rfl⟩⟩
              · have HX := hid (HX.out.trans (if_neg (fun e => h0 (by rw [← HL1.out, e]; rfl))))
                have t0 : ((n1 : Int) == 0) = false := by simp; omega
                obtain ⟨ab, cap, hv⟩ := own_some HO2.out (by omega)
                obtain ⟨rfl, rfl⟩ : vo = some ⟨ab, 0, none⟩ ∧ vc = cap := by simpa using hv
                obtain ⟨q, hq⟩ : ∃ q, n1 - 1 = q := ⟨_, rfl⟩
                have hq1 : q < l1.length := by rw [HL1.out]; omega
                have hlq := HR1.out l1[q] (List.getElem_mem hq1)
                have hgd : l1.getD (l1.length - 1) 0 = l1[q] := by rw [HL1.out, hq]; simp [List.getD, hq1]
                rw [hgd] at HX
                have c0 := ownp_cell HO2.out (icl_get l1 q hq1)
                generalize l1[q] = vv at *
                have HVV := hid hlq
                have e1 : (n1 : Int) - 1 = (q : Nat) := by omega
                have b1 : (0 : Int) ≤ q := by omega
                have b2 : (q : Int) < n1 := by omega
                have b3 : (q : Int).toNat = q := rfl
                have b4 : IntKind.i64.wrap (q : Int) = (q : Int) := IntWalk.i64_in _ (by omega)
                clear hgd hv h16 hlq
                go_wp2_with fail
                by_cases h2 : k2 + 2 ≤ 8 * s.size
                · have HX := hid (HX.out.trans (num_ok h2))
                  have hbv : bv s k2 2 < 4 := bv_lt s k2 2
                  refine (rbits_ok hs 2 (by omega) 3 (by omega) h2 HI2.out).mono ?_
                  rintro e w3 ⟨rfl, hi3, hk3⟩
                  have HI3 := hid hi3
                  have HK3 := hid hk3
                  clear hi3 hk3
                  go_wp2_with fail
                  go_meet
                  case rel => exact ⟨0, vv, 3 + bv s k2 2, k2 + 2, v1, rfl, rfl, rfl, HVV.out.1, HVV.out.2, by omega, by omega, HI3.out, HK3.out, .inl ⟨rfl, HX.out⟩⟩
                · have HX := hid (HX.out.trans (num_bad h2))
                  refine (rbits_bad hs 2 (by omega) 3 (by omega) h2 HI2.out).mono ?_
                  rintro e w3 ⟨rfl, hi3, hk3⟩
                  have HI3 := hid hi3
                  have HK3 := hid hk3
                  clear hi3 hk3
                  go_wp2_with fail
                  go_meet
                  case rel => exact ⟨2, vv, 3, k2, v1, rfl, rfl, rfl, HVV.out.1, HVV.out.2, by omega, by omega, HI3.out, HK3.out, .inr ⟨rfl, HX.out⟩⟩
            · have HX := hid (HX.out.trans (if_neg h16))
              have t18 : ((x : Int) == 16) = false := by simp; omega
              by_cases h17 : x = 17
              · have HX := hid (HX.out.trans (if_pos h17))
                have t19 : ((x : Int) == 17) = true := by simp; omega
                clear h17
                go_wp2_with fail
                by_cases h2 : k2 + 3 ≤ 8 * s.size
                · have HX := hid (HX.out.trans (num_ok h2))
                  have hbv : bv s k2 3 < 8 := bv_lt s k2 3
                  refine (rbits_ok hs 3 (by omega) 3 (by omega) h2 HI2.out).mono ?_
                  rintro e w3 ⟨rfl, hi3, hk3⟩
                  have HI3 := hid hi3
                  have HK3 := hid hk3
                  clear hi3 hk3
                  go_wp2_with fail
                  go_meet
                  case rel => exact ⟨0, 0, 3 + bv s k2 3, k2 + 3, v1, rfl, rfl, rfl, by omega, by omega, by omega, by omega, HI3.out, HK3.out, .inl ⟨rfl, HX.out⟩⟩
                · have HX := hid (HX.out.trans (num_bad h2))
                  refine (rbits_bad hs 3 (by omega) 3 (by omega) h2 HI2.out).mono ?_
                  rintro e w3 ⟨rfl, hi3, hk3⟩
                  have HI3 := hid hi3
                  have HK3 := hid hk3
                  clear hi3 hk3
                  go_wp2_with fail
                  go_meet
                  case rel => exact ⟨2, 0, 3, k2, v1, rfl, rfl, rfl, by omega, by omega, by omega, by omega, HI3.out, HK3.out, .inr ⟨rfl, HX.out⟩⟩
              · have HX := hid (HX.out.trans (if_neg h17))
                have HX := hid (HX.out.trans (if_pos (show x = 18 by omega)))
                have t19 : ((x : Int) == 17) = false := by simp; omega
                go_wp2_with fail
                by_cases h2 : k2 + 7 ≤ 8 * s.size
                · have HX := hid (HX.out.trans (num_ok h2))
                  have hbv : bv s k2 7 < 128 := bv_lt s k2 7
                  refine (rbits_ok hs 7 (by omega) 11 (by omega) h2 HI2.out).mono ?_
                  rintro e w3 ⟨rfl, hi3, hk3⟩
                  have HI3 := hid hi3
                  have HK3 := hid hk3
                  clear hi3 hk3
                  go_wp2_with fail
                  go_meet
                  case rel => exact ⟨0, 0, 11 + bv s k2 7, k2 + 7, v1, rfl, rfl, rfl, by omega, by omega, by omega, by omega, HI3.out, HK3.out, .inl ⟨rfl, HX.out⟩⟩
                · have HX := hid (HX.out.trans (num_bad h2))
                  refine (rbits_bad hs 7 (by omega) 11 (by omega) h2 HI2.out).mono ?_
                  rintro e w3 ⟨rfl, hi3, hk3⟩
                  have HI3 := hid hi3
                  have HK3 := hid hk3
                  clear hi3 hk3
                  go_wp2_with fail
                  go_meet
                  case rel => exact ⟨2, 0, 11, k2, v1, rfl, rfl, rfl, by omega, by omega, by omega, by omega, HI3.out, HK3.out, .inr ⟨rfl, HX.out⟩⟩
          case rest =>
            obtain ⟨er, vv, tm, k3, v3, rfl, rfl, rfl, hv0, hv15, htm1, htm2, hi3, hk3, hX⟩ := hcut
            have HI3 := hid hi3
            have HK3 := hid (HK2.out.trans hk3)
            have HN3 := hid (hk3.has HNA2.out (by decide))
            have HO3 := hid (hk3.own HO2.out (by decide))
            clear hi3 hk3
            rcases hX with ⟨rfl, hX⟩ | ⟨rfl, hX⟩
            · have HX := hid hX
              clear hX
              by_cases hr : tm ≤ nd - n1
              · have HX := hid (HX.out.trans (show stPut last n d t l1 vv tm k3 out = _ from if_pos (by rw [HL1.out, hnd.out]; exact hr)))
                have t0 : decide ((nd : Int) - n1 < tm) = false := decide_eq_false (by omega)
                go_wp2_with fail
                go_loopw [8, 13] (fun y i wi => ∃ (j : Nat), j ≤ tm ∧ i = .int .i64 j ∧ wi.ownsRow w.heap.size 3 1 y (n1 + j) (icl (l1 ++ List.replicate j vv)) ∧ Has wi lb 129 #[.slice (some ⟨cb, coff, none⟩) clen ccap, .slice (some ⟨crb, 0, none⟩) clen clen] ∧ Ref B wi fb g s k3 out lim v3 ∧ KT TJ B w wi) (fun _ i _ => tm - (intOf i).toNat)
                case atStart => exact ⟨0, Nat.zero_le _, rfl, by simpa using HO3.out, HN3.out, HI3.out, HK3.out⟩
                case round =>
                  rename World => wi
                  obtain ⟨j, hj, rfl, ho, hn, hi, hk⟩ := hrel
                  have HOI := hid ho
                  have HNI := hid hn
                  have HII := hid hi
                  have HKI := hid hk
                  obtain ⟨uo, uc, rfl⟩ := own_slice ho
                  clear ho hn hi hk
                  by_cases hjt : j < tm
                  · have hj1 : (j : Int) < tm := by omega
                    obtain ⟨m, hm⟩ : ∃ m, n1 + j = m := ⟨_, rfl⟩
                    have hm9 : m ≤ 400 := by omega
                    have HO4 := hid (show wi.ownsRow w.heap.size 3 1 (.slice uo m uc) m (icl (l1 ++ List.replicate j vv)) by rw [← hm]; exact HOI.out)
                    have HM := hid hm
                    have hwz : w.heap.size ≤ wi.heap.size := HKI.out.size
                    have HWZ := hid hwz
                    rw [hm]
                    clear hm hwz
                    go_wp2_with (at_builtin; refine wpList_append_own_at _ rfl (.tmp 82) (.tmp 84) 44 rfl w.heap.size 3 i0 (.int .i64 0) 1 8 Tryz.underlying44 hinf hz0 hz1 hz2 rfl (by decide) (.slice uo m uc) m (icl (l1 ++ List.replicate j vv)) rfl (((Bw.refl wi).alloc _).own HO4.out) ⟨wi.heap.size, 0, none⟩ 1 1 [.int .i64 vv] rfl rfl (cell_one_new _ _ _) (by intro u hu; simp at hu; rw [hu]; rfl) (by unfold maxLen; omega) (by omega) (by have := HWZ.out; simp only [World.size_alloc]; omega) ?_; intro v' w5 hown5 hgrow5 _ _; obtain ⟨vo5, vc5, rfl⟩ := own_slice hown5; have HG5 := hid hgrow5; have HO5 := hid hown5; clear hown5 hgrow5)
                    have HWA := hid (show Bw wi (wi.alloc (.cells #[.int .i64 vv] 3)) from (Bw.refl wi).alloc _)
                    have HKA := hid (KT.of_grown (T := [3]) (B := B) (HWA.out.own HO4.out) (by have h1 := HI.out.gb; have h2 := Has.lt HI.out.rd; omega) HG5.out (by decide))
                    have HI5 := hid ((HII.out.bw HWA.out).other HKA.out (by decide) (by decide) (by decide))
                    have HN5 := hid (HKA.out.has (HWA.out.has HNI.out) (by decide))
                    have HK5 := hid ((HKI.out.trans (KT.of_bw HWA.out)).later (own_grownJ (HWA.out.own HO4.out) HG5.out (by have := HWZ.out; simp only [World.size_alloc]; omega)))
                    refine ⟨⟨j + 1, by omega, by go_num, ?_, HN5.out, HI5.out, HK5.out⟩, by simp [intOf]; omega⟩
                    rw [List.replicate_succ', ← List.append_assoc, icl_snoc, ← Nat.add_assoc, HM.out]
                    exact HO5.out
                  · obtain rfl : j = tm := by omega
                    have HRR := hid (show ∀ x ∈ l1 ++ List.replicate j vv, 0 ≤ x ∧ x ≤ 15 from fun x hx => by
                      rcases List.mem_append.1 hx with h | h
                      · exact HR1.out x h
                      · rw [List.eq_of_mem_replicate h]; exact ⟨hv0, hv15⟩)
                    have HLL2 := hid (show (l1 ++ List.replicate j vv).length = n1 + j by rw [List.length_append, List.length_replicate, HL1.out])
                    have HNN := hid (show n1 + j ≤ n + d by rw [hnd.out]; omega)
                    have hmeas : nd - (n1 + j) < nd - n1 := by omega
                    have HME := hid hmeas
                    clear hmeas
                    go_wp2
                    go_roundw
                    case rel => exact ⟨_, _, _, _, HLL2.out, HNN.out, HRR.out, HOI.out, HNI.out, HII.out, HKI.out, HL.out.then HX.out⟩
                    case measure => exact HME.out
              · have HX := hid (HX.out.trans (show stPut last n d t l1 vv tm k3 out = _ from if_neg (by rw [HL1.out, hnd.out]; exact hr)))
                have t0 : decide ((nd : Int) - n1 < tm) = true := decide_eq_true (by omega)
                go_wp2
                go_returns
                exact ⟨HK3.out, .inl ⟨_, HL.out.then HX.out, by decide, rfl⟩⟩
            · have HX := hid hX
              clear hX
              go_wp2
              go_returns
              exact ⟨HK3.out, .inl ⟨_, HL.out.then HX.out, by decide, rfl⟩⟩
      · have HX := hid (HX.out.trans (sym1_bad h1))
        have t9 : ((nextE t s k1) != 0) = true := by simp [h1]
        go_wp2
        go_returns
        exact ⟨HK2.out, .inl ⟨_, HL.out.then HX.out, h1, rfl⟩⟩
    · have hlt1 : ¬ (n1 : Int) < nd := by omega
      obtain rfl : n1 = nd := by omega
      obtain ⟨ab, cap, hv⟩ := own_some HO1.out (by omega)
      obtain ⟨rfl, rfl⟩ : vo = some ⟨ab, 0, none⟩ ∧ vc = cap := by simpa using hv
      have hcap := ownp_cap HO1.out
      clear hv hl1 hr1 ho1 hna hi1 hk1 hL
      go_wp2
      go_returns
      exact ⟨HK1.out, .inr ⟨l1, k1, ab, vc, v1, HL.out, by rw [HL1.out, hnd.out], HR1.out, by rw [hnd.out]; rfl, by rw [hnd.out]; exact hcap, by rw [hnd.out]; exact HO1.out, HI1.out⟩⟩
end
end Go.Proofs.YtkmbgkcpohchhaaGreatDoor
namespace Go.Proofs.YtkmbgkcpohchhaaGreatDoor
open Go.RowKit Go.Conc
set_option linter.unusedVariables false
theorem own_ints {w : World} {B ab n cap : Nat} {l : List Int} (h : w.ownsRow B 3 1 (.slice (some ⟨ab, 0, none⟩) n cap) n (icl l)) (hl : l.length = n) (hn : 0 < n) (from_ m : Nat) (hm : from_ + m ≤ n) : IntsAt w ab from_ ((l.drop from_).take m) := by
  obtain ⟨cur, hg, _, _, _, _, ht⟩ := ownp_row h
  refine ⟨cur, hg, fun i hi => ?_⟩
  have hi2 : i < m ∧ from_ + i < l.length := by rw [List.length_take, List.length_drop] at hi; omega
  have h1 := icl_get l (from_ + i) hi2.2
  rw [← ht, List.getElem?_take, if_pos (by omega)] at h1
  rw [← Array.getElem?_toList, h1]
  simp [List.getElem_take, List.getElem_drop]
theorem KT.wide {T : List TypeId} {B : Nat} {w w' : World} (h : KT [] B w w') : KT T B w w' := ⟨h.os, h.tape, h.output, h.size, fun i hi _ => h.block i hi (.inr fun ⟨_, _, _, h⟩ => by cases h)⟩
theorem end_bad {lv : Int} {lt dt : List Int} {x : IOut} (h1 : lt.length ≤ 320) (h2 : dt.length ≤ 320) (r1 : ∀ x ∈ lt, 0 ≤ x ∧ x ≤ 15) (r2 : ∀ x ∈ dt, 0 ≤ x ∧ x ≤ 15) (h : lv = 0 ∨ checkE lt ≠ 0 ∨ checkE dt ≠ 0) :
    (if lv = 0 then .bad 3 else if checkE lt = 0 then (if checkE dt = 0 then x else .bad (checkE dt)) else .bad (checkE lt)) = IOut.bad 3 := by
  by_cases h0 : lv = 0
  · rw [if_pos h0]
  · rw [if_neg h0]
    by_cases h3 : checkE lt = 0
    · rw [if_pos h3]
      by_cases h4 : checkE dt = 0
      · exact absurd h (by simp [h0, h3, h4])
      · rw [if_neg h4, check_three h2 r2 h4]
    · rw [if_neg h3, check_three h1 r1 h3]
section
variable {B : Nat} {w : World} {fb g : Nat} {s : ByteArray} {k : Nat} {out : List UInt8} {lim : Nat} {v : Value}
set_option maxRecDepth 100000 in
set_option maxHeartbeats 4000000 in
theorem rdynamic_any (hs : s.size ≤ 281474976710656) (hl : lim ≤ 1073741824) (last : Bool) (h : Ref B w fb g s k out lim v) :
    Calls Tryz.prog 70 #[.pointer (some ⟨fb, 0, none⟩)] w (RanR B fb g s lim last (stHead s last k out) w) := by
  have HI := hid h
  have HHD := hid (rhead_any hs last h)
  clear h
  go_enter Tryz.func70, Tryz.ntmps70
  go_wp2_with fail
  refine HHD.out.mono ?_
  rintro e w1 ⟨hk1, hx⟩
  rcases hx with ⟨er, hL, her, rfl⟩ | ⟨n, d, t, k1, c, v1, hL, hn1, hn2, hd1, hd2, ht, hc, rfl, hi1⟩
  · have t0 : (er != 0) = true := by simp [her]
    have HK1 := hid (hk1.trans (KT.of_bw ((Bw.refl w1).alloc (.cells #[.slice none 0 0, .slice none 0 0] 129))))
    have HL := hid hL
    clear hk1 hL
    go_wp2
    go_returns
    exact RanR.bad HL.out her HK1.out
  · obtain ⟨cb, coff, clen, ccap, crb, rfl, _, _, _⟩ := hc.ex
    have HW := hid (show Bw w1 (w1.alloc (.cells #[.slice (some ⟨cb, coff, none⟩) clen ccap, .slice (some ⟨crb, 0, none⟩) clen clen] 129)) from (Bw.refl w1).alloc _)
    have HI1 := hid (hi1.bw HW.out)
    have HK1 := hid (hk1.trans (KT.of_bw HW.out))
    have HC1 := hid (hc.bw HW.out)
    have HL := hid hL
    clear hk1 hL hi1 hc
    obtain ⟨nd, hnd⟩ : ∃ nd, n + d = nd := ⟨_, rfl⟩
    have hndi : (n : Int) + d = (nd : Nat) := by omega
    have HND := hid hnd
    have hnd9 : 258 ≤ nd ∧ nd ≤ 316 := by omega
    clear hnd
    go_wp2_with fail
    generalize w1.alloc (.cells #[.slice (some ⟨cb, coff, none⟩) clen ccap, .slice (some ⟨crb, 0, none⟩) clen clen] 129) = w2 at *
    refine (rrow_any hs last t _ HC1.out ht n d nd HND (by omega) (by omega) HI1.out).mono ?_
    rintro e w3 ⟨hk3, hx⟩
    rcases hx with ⟨er, hL3, her, rfl⟩ | ⟨l, k3, ab, cap, v3, hL3, hll, hr, he, hcap, hown, hi3⟩
    · have t0 : (er != 0) = true := by simp [her]
      have HK3 := hid (HK1.out.trans hk3)
      have HL3 := hid (HL.out.trans hL3)
      clear hk3 hL3
      go_wp2
      go_returns
      exact RanR.bad HL3.out her HK3.out
    · rw [HND.out] at hll he hcap hown
      subst he
      have HI3 := hid hi3
      have HK3 := hid (HK1.out.trans hk3)
      have HL3 := hid (HL.out.trans hL3)
      have HO3 := hid hown
      have HX := hid (seq_end s lim last n d t l k3 out (by rw [hll, HND.out]))
      have h256 : 256 < l.length := by omega
      have HC := hid (fun (W : World) (hk : KT [] B w3 W) => ownp_cell (hk.own HO3.out (by decide)) (icl_get l 256 h256))
      have hgd : l.getD 256 0 = l[256] := by simp [List.getD, h256]
      have HR1 := hid (show ∀ x ∈ l.take n, 0 ≤ x ∧ x ≤ 15 from fun x hx => hr x (List.mem_of_mem_take hx))
      have HR2 := hid (show ∀ x ∈ l.drop n, 0 ≤ x ∧ x ≤ 15 from fun x hx => hr x (List.mem_of_mem_drop hx))
      have HA := hid (show IntsAt w3 ab 0 (l.take n) by have := own_ints hown hll (by omega) 0 n (by omega); rw [List.drop_zero] at this; exact this)
      have HB := hid (show IntsAt w3 ab n (l.drop n) by have := own_ints hown hll (by omega) n (nd - n) (by omega); rw [List.take_of_length_le (by rw [List.length_drop, hll]; exact Nat.le_refl _)] at this; exact this)
      have HZ1 := hid (show (l.take n).length = n by rw [List.length_take, hll]; omega)
      have HZ2 := hid (show (l.drop n).length = nd - n by rw [List.length_drop, hll])
      rw [hgd] at HX
      generalize l[256] = lv at *
      generalize l.take n = lt at *
      generalize l.drop n = dt at *
      have i1 : (0 : Int) ≤ n := by omega
      have i2 : (n : Int) ≤ nd := by omega
      have i3 : (n : Int) ≤ cap := by omega
      have i4 : (n : Int).toNat = n := rfl
      have i5 : ¬ cap = n := by omega
      have i6 : (nd : Int) ≤ cap := by omega
      clear hi3 hk3 hL3 hown hll hgd h256 hr
      have HXB := hid (fun hh : lv = 0 ∨ checkE lt ≠ 0 ∨ checkE dt ≠ 0 => HX.out.trans (end_bad (by rw [HZ1.out]; omega) (by rw [HZ2.out]; omega) HR1.out HR2.out hh))
      have HXG := hid (fun (h0 : lv ≠ 0) (h1 : checkE lt = 0) (h2 : checkE dt = 0) => ((HX.out.trans (if_neg h0)).trans (if_pos h1)).trans (if_pos h2))
      clear HX HR1 HR2
      go_wp2_with fail
      by_cases h1 : checkE lt = 0
      · refine (rcoded_ok (B := B) ab 0 n cap lt HZ1.out h1 HA.out).mono ?_
        rintro e w4 ⟨c1, rfl, hc4, hk4⟩
        have HC4 := hid hc4
        obtain ⟨b1, o1, n1, p1, r1, rfl, _, _, _⟩ := hc4.ex
        have HW := hid (show Bw w4 (w4.alloc (.cells #[.slice (some ⟨b1, o1, none⟩) n1 p1, .slice (some ⟨r1, 0, none⟩) n1 n1] 129)) from (Bw.refl w4).alloc _)
        have HT4 := hid ((hk4 []).trans (KT.of_bw HW.out))
        have HN4 := hid (Has.new w4 129 #[.slice (some ⟨b1, o1, none⟩) n1 p1, .slice (some ⟨r1, 0, none⟩) n1 n1])
        have HC4 := hid (HC4.out.bw HW.out)
        have HB4 := hid (HB.out.kt HT4.out (by decide))
        have H1 := hid h1
        clear hc4 hk4 h1
        go_wp2_with fail
        generalize w4.alloc (.cells #[.slice (some ⟨b1, o1, none⟩) n1 p1, .slice (some ⟨r1, 0, none⟩) n1 n1] 129) = w5 at *
        by_cases h2 : checkE dt = 0
        · refine (rcoded_ok (B := B) ab n (nd - n) (cap - n) dt HZ2.out h2 HB4.out).mono ?_
          rintro e w6 ⟨c2, rfl, hc6, hk6⟩
          have HC6 := hid hc6
          obtain ⟨b2, o2, n2, p2, r2, rfl, _, _, _⟩ := hc6.ex
          have HW6 := hid (show Bw w6 (w6.alloc (.cells #[.slice (some ⟨b2, o2, none⟩) n2 p2, .slice (some ⟨r2, 0, none⟩) n2 n2] 129)) from (Bw.refl w6).alloc _)
          have HT6 := hid ((hk6 []).trans (KT.of_bw HW6.out))
          have HN6 := hid (Has.new w6 129 #[.slice (some ⟨b2, o2, none⟩) n2 p2, .slice (some ⟨r2, 0, none⟩) n2 n2])
          have HC6 := hid (HC6.out.bw HW6.out)
          have HN7 := hid (HT6.out.has HN4.out (by decide))
          have HC7 := hid (HC4.out.kt HT6.out (by decide))
          have HT7 := hid (HT4.out.trans HT6.out)
          have c256 := HC.out _ HT7.out
          have HI7 := hid (HI3.out.other HT7.out (by decide) (by decide) (by decide))
          have HK7 := hid (HK3.out.trans HT7.out.wide)
          have H2 := hid h2
          clear hc6 hk6 h2
          have d0 : (w6.alloc (.cells #[.slice (some ⟨b2, o2, none⟩) n2 p2, .slice (some ⟨r2, 0, none⟩) n2 n2] 129)).cell? ⟨w4.heap.size, 0, none⟩ = some (.slice (some ⟨b1, o1, none⟩) n1 p1) := HN7.out.cell 0
          have d1 : (w6.alloc (.cells #[.slice (some ⟨b2, o2, none⟩) n2 p2, .slice (some ⟨r2, 0, none⟩) n2 n2] 129)).cell? ⟨w4.heap.size, 1, none⟩ = some (.slice (some ⟨r1, 0, none⟩) n1 n1) := HN7.out.cell 1
          have d2 : (w6.alloc (.cells #[.slice (some ⟨b2, o2, none⟩) n2 p2, .slice (some ⟨r2, 0, none⟩) n2 n2] 129)).cell? ⟨w6.heap.size, 0, none⟩ = some (.slice (some ⟨b2, o2, none⟩) n2 p2) := HN6.out.cell 0
          have d3 : (w6.alloc (.cells #[.slice (some ⟨b2, o2, none⟩) n2 p2, .slice (some ⟨r2, 0, none⟩) n2 n2] 129)).cell? ⟨w6.heap.size, 1, none⟩ = some (.slice (some ⟨r2, 0, none⟩) n2 n2) := HN6.out.cell 1
          by_cases h0 : lv = 0
          · have HX := hid (HXB.out (.inl h0))
            subst h0
            go_wp2
            go_returns
            exact RanR.bad (HL3.out.then HX.out) (by decide) HK7.out
          · have HX := hid (HXG.out h0 H1.out H2.out)
            have t0 : (lv == 0) = false := by simpa using h0
            clear h0
            go_wp2_with fail
            refine (rsymbols_any hs hl last lt dt _ _ HC7.out HC6.out HI7.out).mono ?_
            rintro e w8 ⟨hk8, hx⟩
            rcases hx with ⟨er, hLe, her, rfl⟩ | ⟨k8, o8, v8, hLe, rfl, hi8⟩
            · have HF := hid (RanR.bad (fb := fb) (g := g) (last := last) ((HL3.out.then HX.out).trans hLe) her (HK7.out.trans hk8))
              clear hLe her hk8
              go_wp2
              go_returns
              exact HF.out
            · have HF := hid (RanR.ok (last := last) ((HL3.out.then HX.out).trans hLe) (HK7.out.trans hk8) hi8)
              clear hLe hk8 hi8
              go_wp2
              go_returns
              exact HF.out
        · have HX := hid (HXB.out (.inr (.inr h2)))
          refine (rcoded_bad (B := B) ab n (nd - n) (cap - n) dt HZ2.out h2 HB4.out).mono ?_
          rintro e w6 ⟨rfl, hk6⟩
          have HW6 := hid (show Bw w6 (w6.alloc (.cells #[.slice (some ⟨ab, n, none⟩) (nd - n) (cap - n), .slice none 0 0] 129)) from (Bw.refl w6).alloc _)
          have HK7 := hid (HK3.out.trans (HT4.out.trans ((hk6 []).trans (KT.of_bw HW6.out))).wide)
          clear hk6 h2
          go_wp2
          go_returns
          exact RanR.bad (HL3.out.then HX.out) (by decide) HK7.out
      · have HX := hid (HXB.out (.inr (.inl h1)))
        refine (rcoded_bad (B := B) ab 0 n cap lt HZ1.out h1 HA.out).mono ?_
        rintro e w4 ⟨rfl, hk4⟩
        have HW := hid (show Bw w4 (w4.alloc (.cells #[.slice (some ⟨ab, 0, none⟩) n cap, .slice none 0 0] 129)) from (Bw.refl w4).alloc _)
        have HT4 := hid ((hk4 []).trans (KT.of_bw HW.out))
        have HB4 := hid (HB.out.kt HT4.out (by decide))
        clear hk4 h1
        go_wp2_with fail
        generalize w4.alloc (.cells #[.slice (some ⟨ab, 0, none⟩) n cap, .slice none 0 0] 129) = w5 at *
        by_cases h2 : checkE dt = 0
        · refine (rcoded_ok (B := B) ab n (nd - n) (cap - n) dt HZ2.out h2 HB4.out).mono ?_
          rintro e w6 ⟨c2, rfl, hc6, hk6⟩
          obtain ⟨b2, o2, n2, p2, r2, rfl, _, _, _⟩ := hc6.ex
          have HW6 := hid (show Bw w6 (w6.alloc (.cells #[.slice (some ⟨b2, o2, none⟩) n2 p2, .slice (some ⟨r2, 0, none⟩) n2 n2] 129)) from (Bw.refl w6).alloc _)
          have HK7 := hid (HK3.out.trans (HT4.out.trans ((hk6 []).trans (KT.of_bw HW6.out))).wide)
          clear hk6 h2 hc6
          go_wp2
          go_returns
          exact RanR.bad (HL3.out.then HX.out) (by decide) HK7.out
        · refine (rcoded_bad (B := B) ab n (nd - n) (cap - n) dt HZ2.out h2 HB4.out).mono ?_
          rintro e w6 ⟨rfl, hk6⟩
          have HW6 := hid (show Bw w6 (w6.alloc (.cells #[.slice (some ⟨ab, n, none⟩) (nd - n) (cap - n), .slice none 0 0] 129)) from (Bw.refl w6).alloc _)
          have HK7 := hid (HK3.out.trans (HT4.out.trans ((hk6 []).trans (KT.of_bw HW6.out))).wide)
          clear hk6 h2
          go_wp2
          go_returns
          exact RanR.bad (HL3.out.then HX.out) (by decide) HK7.out
end
end Go.Proofs.YtkmbgkcpohchhaaGreatDoor
namespace Go.Proofs.YtkmbgkcpohchhaaGreatDoor
open Go.RowKit Go.Conc
set_option linter.unusedVariables false
def BlkR (B : Nat) (fb g : Nat) (s : ByteArray) (lim k : Nat) (out : List UInt8) (w : World) (e : Ending) (w' : World) : Prop :=
  KT TJ B w w' ∧ ((∃ er b, Leads s lim (.go ⟨.top, k, out⟩) (.bad er) ∧ er ≠ 0 ∧ e = .returned (.tuple #[.bool b, .int .i64 er])) ∨ (∃ lb k' out' v, Leads s lim (.go ⟨.top, k, out⟩) (aft lb k' out') ∧ e = .returned (.tuple #[.bool lb, .int .i64 0]) ∧ Ref B w' fb g s k' out' lim v ∧ k < k'))
theorem didR_aft {B fb g : Nat} {s : ByteArray} {lim : Nat} {x : IOut} {w w' : World} {e : Ending} {last : Bool} {k : Nat} {out : List UInt8} (h : DidR B fb g s lim x w e w') (hx : x = aft last k out) : KT TJ B w w' ∧ e = .returned (.int .i64 0) ∧ ∃ v, Ref B w' fb g s k out lim v := by
  subst hx
  cases last <;> exact h
theorem didR_bad {B fb g : Nat} {s : ByteArray} {lim : Nat} {x : IOut} {w w' : World} {e : Ending} {er : Int} (h : DidR B fb g s lim x w e w') (hx : x = .bad er) : KT TJ B w w' ∧ e = .returned (.int .i64 er) := by
  subst hx; exact h
theorem head_aft {s : ByteArray} {lim : Nat} {last lb : Bool} {k : Nat} {out : List UInt8} {k' : Nat} {out' : List UInt8} (h : Leads s lim (stHead s last k out) (aft lb k' out')) : k ≤ k' := by
  obtain ⟨n, h⟩ := h
  have := itr_fwd s lim k n _ (head_fwd (last := last) (out := out) (Nat.le_refl k))
  rw [h] at this
  rcases this with ⟨e', h1, h2⟩ | ⟨h1, _, _⟩
  · exact absurd h1 (aft_not_bad _ _ _ _)
  · rwa [aft_pos_eq] at h1
section
variable {B : Nat} {w : World} {fb g : Nat} {s : ByteArray} {k : Nat} {out : List UInt8} {lim : Nat} {v : Value}
set_option maxRecDepth 100000 in
set_option maxHeartbeats 4000000 in
theorem rblock_any (hs : s.size ≤ 281474976710656) (hl : lim ≤ 1073741824) (h : Ref B w fb g s k out lim v) :
    Calls Tryz.prog 32 #[.pointer (some ⟨fb, 0, none⟩)] w (BlkR B fb g s lim k out w) := by
  have HI := hid h
  have HK8 := hid h.k8
  have HX := hid (top_eq s lim k out)
  clear h
  go_enter Tryz.func32, Tryz.ntmps32
  go_wp2_with fail
  by_cases h1 : k + 1 ≤ 8 * s.size
  · have HX := hid (HX.out.trans (num_ok h1))
    have ha : bv s k 1 < 2 := bv_lt s k 1
    refine (rbits_ok hs 1 (by omega) 0 (by omega) h1 HI.out).mono ?_
    rintro e w2 ⟨rfl, hi2, hk2⟩
    have HI2 := hid hi2
    have HK2 := hid hk2
    clear hi2 hk2
    rw [Nat.zero_add]
    obtain ⟨lb, hlb⟩ : ∃ lb : Bool, (bv s k 1 == 1) = lb := ⟨_, rfl⟩
    have tlb : (((bv s k 1 : Nat) : Int) == 1) = lb := by
      rw [← hlb]; exact beq_cast_one _
    have HY : Hid (step s lim ⟨.top, k, out⟩ = num s (k + 1) 2 fun kind k2 => if kind = 0 then stStored s lim lb k2 out else if kind = 1 then .go ⟨.sym lb fixL fixD, k2, out⟩ else if kind = 2 then stHead s lb k2 out else .bad 3) := hid (by rw [HX.out, ← hlb])
    clear hlb HX h1
    generalize bv s k 1 = bb at *
    have HX := HY
    clear HY
    go_wp2_with fail
    by_cases h2 : k + 1 + 2 ≤ 8 * s.size
    · have HX := hid (HX.out.trans (num_ok h2))
      have hkd : bv s (k + 1) 2 < 4 := bv_lt s (k + 1) 2
      refine (rbits_ok hs 2 (by omega) 0 (by omega) h2 HI2.out).mono ?_
      rintro e w3 ⟨rfl, hi3, hk3⟩
      have HI3 := hid hi3
      have HK3 := hid (HK2.out.trans hk3)
      rw [Nat.zero_add]
      clear hi3 hk3 h2
      generalize bv s (k + 1) 2 = kd at *
      obtain ⟨k3, hk3⟩ : ∃ k3, k + 1 + 2 = k3 := ⟨_, rfl⟩
      rw [hk3] at HX HI3
      have hk13 : k < k3 := by omega
      clear hk3
      by_cases e0 : kd = 0
      · have HX := hid (HX.out.trans (if_pos e0))
        have t0 : ((kd : Int) == 0) = true := by simp; omega
        go_wp2_with fail
        refine (rstored_any hs hl lb HI3.out).mono ?_
        intro e w4 hd
        rcases stored_cases s lim lb k3 out with ⟨er, he⟩ | ⟨k4, o4, he, hk4⟩
        · obtain ⟨hk5, rfl⟩ := didR_bad hd he
          have hle : Leads s lim (.go ⟨.top, k, out⟩) (.bad er) := leads_one (HX.out.trans he)
          have HF := hid (show BlkR B fb g s lim k out w (.returned (.tuple #[.bool lb, .int .i64 er])) w4 from ⟨HK3.out.trans hk5, .inl ⟨er, lb, hle, leads_bad HK8.out hle, rfl⟩⟩)
          clear hd he hk5 hle
          go_wp2
          go_returns
          exact HF.out
        · obtain ⟨hk5, rfl, v5, hi5⟩ := didR_aft hd he
          have HF := hid (show BlkR B fb g s lim k out w (.returned (.tuple #[.bool lb, .int .i64 0])) w4 from ⟨HK3.out.trans hk5, .inr ⟨lb, k4, o4, v5, leads_one (HX.out.trans he), rfl, hi5, by omega⟩⟩)
          clear hd he hk5 hi5
          go_wp2
          go_returns
          exact HF.out
      · have HX := hid (HX.out.trans (if_neg e0))
        have t0 : ((kd : Int) == 0) = false := by simp; omega
        by_cases e1 : kd = 1
        · have HX := hid (HX.out.trans (if_pos e1))
          have t1 : ((kd : Int) == 1) = true := by simp; omega
          go_wp2_with fail
          refine (rfixed_any w3).mono ?_
          rintro e w4 ⟨g1, g2, rfl, h4a, h4b, hb4⟩
          have HI4 := hid (HI3.out.bw hb4)
          have HK4 := hid (HK3.out.trans (KT.of_bw hb4))
          have HA := hid h4a
          have HB := hid h4b
          clear h4a h4b hb4 e0 e1
          go_wp2_with fail
          refine (rcoded_ok (B := B) g1 0 288 288 fixL fixL_len fixL_code HA.out).mono ?_
          rintro e w5 ⟨c1, rfl, hc5, hk5⟩
          have HC5 := hid hc5
          obtain ⟨b1, o1, n1, p1, r1, rfl, _, _, _⟩ := hc5.ex
          have HW5 := hid (show Bw w5 (w5.alloc (.cells #[.slice (some ⟨b1, o1, none⟩) n1 p1, .slice (some ⟨r1, 0, none⟩) n1 n1] 129)) from (Bw.refl w5).alloc _)
          have HT5 := hid ((hk5 []).trans (KT.of_bw HW5.out))
          have HN5 := hid (Has.new w5 129 #[.slice (some ⟨b1, o1, none⟩) n1 p1, .slice (some ⟨r1, 0, none⟩) n1 n1])
          have HC5 := hid (HC5.out.bw HW5.out)
          have HB5 := hid (HB.out.kt HT5.out (by decide))
          clear hc5 hk5
          go_wp2_with fail
          generalize w5.alloc (.cells #[.slice (some ⟨b1, o1, none⟩) n1 p1, .slice (some ⟨r1, 0, none⟩) n1 n1] 129) = w6 at *
          refine (rcoded_ok (B := B) g2 0 32 32 fixD fixD_len fixD_code HB5.out).mono ?_
          rintro e w7 ⟨c2, rfl, hc7, hk7⟩
          have HC7 := hid hc7
          obtain ⟨b2, o2, n2, p2, r2, rfl, _, _, _⟩ := hc7.ex
          have HW7 := hid (show Bw w7 (w7.alloc (.cells #[.slice (some ⟨b2, o2, none⟩) n2 p2, .slice (some ⟨r2, 0, none⟩) n2 n2] 129)) from (Bw.refl w7).alloc _)
          have HT7 := hid ((hk7 []).trans (KT.of_bw HW7.out))
          have HN7 := hid (Has.new w7 129 #[.slice (some ⟨b2, o2, none⟩) n2 p2, .slice (some ⟨r2, 0, none⟩) n2 n2])
          have HN6 := hid (HT7.out.has HN5.out (by decide))
          have HC6 := hid (HC5.out.kt HT7.out (by decide))
          have HC7 := hid (HC7.out.bw HW7.out)
          have HI7 := hid ((HI4.out.other HT5.out (by decide) (by decide) (by decide)).other HT7.out (by decide) (by decide) (by decide))
          have HK7 := hid (HK4.out.trans (HT5.out.trans HT7.out).wide)
          have d0 : (w7.alloc (.cells #[.slice (some ⟨b2, o2, none⟩) n2 p2, .slice (some ⟨r2, 0, none⟩) n2 n2] 129)).cell? ⟨w5.heap.size, 0, none⟩ = some (.slice (some ⟨b1, o1, none⟩) n1 p1) := HN6.out.cell 0
          have d1 : (w7.alloc (.cells #[.slice (some ⟨b2, o2, none⟩) n2 p2, .slice (some ⟨r2, 0, none⟩) n2 n2] 129)).cell? ⟨w5.heap.size, 1, none⟩ = some (.slice (some ⟨r1, 0, none⟩) n1 n1) := HN6.out.cell 1
          have d2 : (w7.alloc (.cells #[.slice (some ⟨b2, o2, none⟩) n2 p2, .slice (some ⟨r2, 0, none⟩) n2 n2] 129)).cell? ⟨w7.heap.size, 0, none⟩ = some (.slice (some ⟨b2, o2, none⟩) n2 p2) := HN7.out.cell 0
          have d3 : (w7.alloc (.cells #[.slice (some ⟨b2, o2, none⟩) n2 p2, .slice (some ⟨r2, 0, none⟩) n2 n2] 129)).cell? ⟨w7.heap.size, 1, none⟩ = some (.slice (some ⟨r2, 0, none⟩) n2 n2) := HN7.out.cell 1
          clear hc7 hk7
          go_wp2_with fail
          refine (rsymbols_any hs hl lb fixL fixD _ _ HC6.out HC7.out HI7.out).mono ?_
          rintro e w8 ⟨hk8, hx⟩
          rcases hx with ⟨er, hLe, her, rfl⟩ | ⟨k8, o8, v8, hLe, rfl, hi8⟩
          · have HF := hid (show BlkR B fb g s lim k out w (.returned (.tuple #[.bool lb, .int .i64 er])) w8 from ⟨HK7.out.trans hk8, .inl ⟨er, lb, (leads_one HX.out).trans hLe, her, rfl⟩⟩)
            clear hLe her hk8
            go_wp2
            go_returns
            exact HF.out
          · have HF := hid (show BlkR B fb g s lim k out w (.returned (.tuple #[.bool lb, .int .i64 0])) w8 from ⟨HK7.out.trans hk8, .inr ⟨lb, k8, o8, v8, (leads_one HX.out).trans hLe, rfl, hi8, Nat.lt_of_lt_of_le hk13 (leads_aft HI3.out.k8 hLe)⟩⟩)
            clear hLe hk8 hi8
            go_wp2
            go_returns
            exact HF.out
        · have HX := hid (HX.out.trans (if_neg e1))
          have t1 : ((kd : Int) == 1) = false := by simp; omega
          by_cases e2 : kd = 2
          · have HX := hid (HX.out.trans (if_pos e2))
            have t2 : ((kd : Int) == 2) = true := by simp; omega
            go_wp2_with fail
            refine (rdynamic_any hs hl lb HI3.out).mono ?_
            rintro e w8 ⟨hk8, hx⟩
            rcases hx with ⟨er, hLe, her, rfl⟩ | ⟨k8, o8, v8, hLe, rfl, hi8⟩
            · have HF := hid (show BlkR B fb g s lim k out w (.returned (.tuple #[.bool lb, .int .i64 er])) w8 from ⟨HK3.out.trans hk8, .inl ⟨er, lb, ((leads_one HX.out).trans hLe), her, rfl⟩⟩)
              clear hLe her hk8
              go_wp2
              go_returns
              exact HF.out
            · have HF := hid (show BlkR B fb g s lim k out w (.returned (.tuple #[.bool lb, .int .i64 0])) w8 from ⟨HK3.out.trans hk8, .inr ⟨lb, k8, o8, v8, ((leads_one HX.out).trans hLe), rfl, hi8, Nat.lt_of_lt_of_le hk13 (head_aft hLe)⟩⟩)
              clear hLe hk8 hi8
              go_wp2
              go_returns
              exact HF.out
          · have HX := hid (HX.out.trans (if_neg e2))
            have t2 : ((kd : Int) == 2) = false := by simp; omega
            go_wp2
            go_returns
            exact ⟨HK3.out, .inl ⟨_, _, leads_one HX.out, by decide, rfl⟩⟩
    · have HX := hid (HX.out.trans (num_bad h2))
      refine (rbits_bad hs 2 (by omega) 0 (by omega) h2 HI2.out).mono ?_
      rintro e w3 ⟨rfl, hi3, hk3⟩
      have HK3 := hid (HK2.out.trans hk3)
      clear hi3 hk3
      go_wp2
      go_returns
      exact ⟨HK3.out, .inl ⟨_, _, leads_one HX.out, by decide, rfl⟩⟩
  · have HX := hid (HX.out.trans (num_bad h1))
    refine (rbits_bad hs 1 (by omega) 0 (by omega) h1 HI.out).mono ?_
    rintro e w2 ⟨rfl, hi2, hk2⟩
    have HK2 := hid hk2
    clear hi2 hk2
    go_wp2
    go_returns
    exact ⟨HK2.out, .inl ⟨_, _, leads_one HX.out, by decide, rfl⟩⟩
end
end Go.Proofs.YtkmbgkcpohchhaaGreatDoor
namespace Go.Proofs.YtkmbgkcpohchhaaGreatDoor
open Go.RowKit Go.Conc
set_option linter.unusedVariables false
set_option maxRecDepth 100000 in
set_option maxHeartbeats 4000000 in
theorem rinflate_out (s : ByteArray) (lim : Int) (h : lim < 0 ∨ 1073741824 < lim) (w : World) :
    Calls Tryz.prog 13 #[.string s, .int .i64 lim] w (InfPost s lim w) := by
  have HP := hid (show InfPost s lim w (.returned (.tuple #[.string ⟨#[]⟩, .int .i64 0, .int .i64 1])) w from ⟨_, _, _, rfl, .inl ⟨h, rfl, rfl, rfl⟩, Bw.refl w⟩)
  by_cases h0 : lim < 0
  · clear h
    go_enter Tryz.func13, Tryz.ntmps13
    go_wp2
    go_returns
    exact HP.out
  · have h1 : 1073741824 < lim := by omega
    have h2 : 0 ≤ lim := by omega
    clear h
    go_enter Tryz.func13, Tryz.ntmps13
    go_wp2
    go_returns
    exact HP.out
def RunIR (B : Nat) (w : World) (fb g : Nat) (s : ByteArray) (lim : Nat) (wr : World) : Prop :=
  ∃ k1 out1 v1, Ref B wr fb g s k1 out1 lim v1 ∧ KT TJ B w wr ∧ Leads s lim start (.go ⟨.top, k1, out1⟩)
set_option maxRecDepth 100000 in
set_option maxHeartbeats 4000000 in
theorem rinflate_in (s : ByteArray) (hs : s.size ≤ 281474976710656) (L : Nat) (hL : L ≤ 1073741824) (w : World) :
    Calls Tryz.prog 13 #[.string s, .int .i64 (L : Nat)] w (InfPost s L w) := by
  have hl0 : (0 : Int) ≤ (L : Nat) := by omega
  have hl1 : ((L : Nat) : Int) ≤ 1073741824 := by omega
  go_enter Tryz.func13, Tryz.ntmps13
  go_wp2_with fail
  have HW1 := hid (show Bw w (w.alloc (.cells #[.string s, .int .i64 0] 65)) from (Bw.refl w).alloc _)
  have HN1 := hid (Has.new w 65 #[.string s, .int .i64 0])
  have HZ1 := hid (show (w.alloc (.cells #[.string s, .int .i64 0] 65)).heap.size = w.heap.size + 1 by simp)
  generalize w.alloc (.cells #[.string s, .int .i64 0] 65) = w1 at *
  have HW := hid (show Bw w1 (w1.alloc (.cells #[.pointer (some ⟨w.heap.size, 0, none⟩), .slice none 0 0, .int .i64 (L : Nat)] 67)) from (Bw.refl w1).alloc _)
  have HN := hid (Has.new w1 67 #[.pointer (some ⟨w.heap.size, 0, none⟩), .slice none 0 0, .int .i64 (L : Nat)])
  have HBW := hid (HW1.out.trans HW.out)
  have HI := hid (show Ref w.heap.size (w1.alloc (.cells #[.pointer (some ⟨w.heap.size, 0, none⟩), .slice none 0 0, .int .i64 (L : Nat)] 67)) w1.heap.size w.heap.size s 0 [] L (.slice none 0 0) from
    ⟨HN.out, HW.out.has HN1.out, World.ownsRow_nil _ _ _ _, by rw [HZ1.out]; exact Nat.le_succ _, Nat.le_refl _, Nat.zero_le _, Nat.zero_le _⟩)
  generalize w1.alloc (.cells #[.pointer (some ⟨w.heap.size, 0, none⟩), .slice none 0 0, .int .i64 (L : Nat)] 67) = W2 at *
  rw [HZ1.out] at HI HN
  obtain ⟨fb, hfb⟩ : ∃ fb, w.heap.size + 1 = fb := ⟨_, rfl⟩
  rw [hfb] at HI HN ⊢
  clear hfb HZ1
  go_loopw [8, 9] (fun _ _ wr => RunIR w.heap.size W2 fb w.heap.size s L wr) (fun _ _ wr => 8 * s.size - posX wr w.heap.size)
  case atStart => exact ⟨0, [], _, HI.out, KT.refl _, Leads.refl _⟩
  case round =>
    rename World => wr
    obtain ⟨k1, out1, v1, hi1, hk1, hL⟩ := hrel
    have HI1 := hid hi1
    have HK1 := hid hk1
    have HL1 := hid hL
    have HP1 := hid (posX_rx hi1.rd)
    clear hi1 hk1 hL
    go_wp2_with fail
    refine (rblock_any hs hL HI1.out).mono ?_
    rintro e w3 ⟨hk3, hx⟩
    have HK3 := hid (HK1.out.trans hk3)
    have HB3 := hid (show Bw w w3 from Below.trans HBW.out ((HK1.out.trans hk3).below (Nat.le_refl _) HBW.out.size))
    clear hk3
    rcases hx with ⟨er, b, hLe, hne, rfl⟩ | ⟨lb, k', out', v', hLe, rfl, hi, hlt⟩
    · have t0 : (er != 0) = true := by simpa using hne
      have HP := hid (show InfPost s L w (.returned (.tuple #[.string ⟨#[]⟩, .int .i64 0, .int .i64 er])) w3 from ⟨_, _, _, rfl, .inr ⟨L, rfl, hL, .inr ⟨HL1.out.trans hLe, rfl, rfl, hne⟩⟩, HB3.out⟩)
      clear hLe hne
      go_wp2
      go_returns
      exact HP.out
    · cases lb with
      | false =>
        have HI3 := hid hi
        have HL3 := hid (show Leads s L start (.go ⟨.top, k', out'⟩) from HL1.out.trans hLe)
        clear hi hLe
        go_wp2
        refine ⟨⟨k', out', v', HI3.out, HK3.out, HL3.out⟩, ?_⟩
        rw [HP1.out, posX_rx HI3.out.rd]; have := HI3.out.k8; omega
      | true =>
        have HI3 := hid (hi.bw ((Bw.refl w3).drewN 1))
        have HL := hid (show Leads s L start (.fin k' out') from HL1.out.trans hLe)
        have hk8 := hi.k8
        obtain ⟨ol, hol⟩ : ∃ ol, out'.length = ol := ⟨_, rfl⟩
        have hown := HI3.out.own
        rw [hol] at hown
        have hcv := conv_bytes (w := w3.drewN 1) hol hown
        obtain ⟨vo, vc, rfl⟩ := own_slice hown
        have c1 : w3.drew.cell? ⟨fb, 1, none⟩ = some (.slice vo ol vc) := HI3.out.has.cell 1
        have c0 : w3.drew.cell? ⟨fb, 0, none⟩ = some (.pointer (some ⟨w.heap.size, 0, none⟩)) := HI3.out.has.cell 0
        have c2 : w3.drew.cell? ⟨w.heap.size, 1, none⟩ = some (.int .i64 k') := Has.cell (show Has _ _ _ _ from HI3.out.rd) 1
        have hcv2 : (convert 41 9 (.slice vo ol vc)).run Tryz.prog w3.drew = .ok (.string ⟨out'.toArray⟩) w3.drew := hcv
        have HD := hid (show InfPost s L w (.returned (.tuple #[.string ⟨out'.toArray⟩, .int .i64 (((k' + 7) / 8 : Nat) : Int), .int .i64 0])) w3.drew from ⟨_, _, _, rfl, .inr ⟨L, rfl, hL, .inl ⟨k', out', HL.out, rfl, rfl, rfl⟩⟩, HB3.out.drewN 1⟩)
        have hq8 : ((k' : Int) + 7) / 8 = (((k' + 7) / 8 : Nat) : Int) := by omega
        have HD2 := hid (show InfPost s L w (.returned (.tuple #[.string ⟨out'.toArray⟩, .int .i64 (((k' : Int) + 7) / 8), .int .i64 0])) w3.drew by rw [hq8]; exact HD.out)
        clear hq8 hi hLe hown hcv hol
        have h7 : IntKind.i64.wrap ((k' : Int) + 7) = (k' : Int) + 7 := IntWalk.i64_in _ (by omega)
        go_wp2_with fail
        go_region
        all_goals go_wp2
        all_goals go_returns
        all_goals exact HD2.out
theorem rinflate_any (s : ByteArray) (hs : s.size ≤ 281474976710656) (lim : Int) (w : World) :
    Calls Tryz.prog 13 #[.string s, .int .i64 lim] w (InfPost s lim w) := by
  by_cases h : lim < 0 ∨ 1073741824 < lim
  · exact rinflate_out s lim h w
  · obtain ⟨L, rfl⟩ := Int.eq_ofNat_of_zero_le (show 0 ≤ lim by omega)
    exact rinflate_in s hs L (by omega) w
end Go.Proofs.YtkmbgkcpohchhaaGreatDoor
