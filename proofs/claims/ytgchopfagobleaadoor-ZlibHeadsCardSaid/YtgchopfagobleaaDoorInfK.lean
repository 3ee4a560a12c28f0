/- The codes of a block's own (contract of the method). -/
import Derived.Test.YtgchopfagobleaaDoorInfJ
import Derived.RegionDies
import Derived.Deep.RegionHeld3
import Derived.IntWalk
import Derived.Deep.RegionWith
namespace Go.Proofs.YtgchopfagobleaaDoor
open Go.RowKit Go.Conc
set_option linter.unusedVariables false
theorem icl_len (l : List Int) : (icl l).length = l.length := by simp [icl]
theorem icl_set (l : List Int) (i : Nat) (v : Int) : (icl l).toArray.setIfInBounds i (.int .i64 v) = (icl (l.set i v)).toArray := by
  simp [icl, List.map_set]
theorem icl_cell {w : World} {b : Nat} {t : TypeId} {l : List Int} (h : Has w b t (icl l).toArray) (i : Nat) (hi : i < l.length) : w.cell? ⟨b, i, none⟩ = some (.int .i64 l[i]) := by
  rw [h.cell i, List.getElem?_toArray]; exact icl_get l i hi
theorem icl_zs {w : World} {b : Nat} {t : TypeId} {l : List Int} (h : Has w b t (icl l).toArray) : ZsAt w (some ⟨b, 0, none⟩) l := fun i hi => ⟨b, 0, rfl, h.lt, by rw [Nat.zero_add]; exact icl_cell h i hi⟩
theorem zero19 : (#[.int .i64 0, .int .i64 0, .int .i64 0, .int .i64 0, .int .i64 0, .int .i64 0, .int .i64 0, .int .i64 0, .int .i64 0, .int .i64 0, .int .i64 0, .int .i64 0, .int .i64 0, .int .i64 0, .int .i64 0, .int .i64 0, .int .i64 0, .int .i64 0, .int .i64 0] : Array Value) = (icl (List.replicate 19 0)).toArray := by kernel_rfl
theorem own_zsAt {w : World} {D b n cap : Nat} {l : List Int} (h : w.ownsRow D 3 1 (.slice (some ⟨b, 0, none⟩) n cap) n (icl l)) (hl : l.length = n) (o m : Nat) : ZsAt w (some ⟨b, o, none⟩) ((l.drop o).take m) := fun i hi => by
  have hi2 : i < m ∧ o + i < l.length := by rw [List.length_take, List.length_drop] at hi; omega
  refine ⟨b, o, rfl, own_lt h rfl, ?_⟩
  have := ownp_cell h (icl_get l (o + i) hi2.2)
  rw [this]
  simp [List.getElem_take, List.getElem_drop]
theorem ordL_lt (i : Nat) (h : i < 19) : ordL.getD i 0 < 19 := by
  have : (List.range 19).all (fun i => decide (ordL.getD i 0 < 19)) = true := by decide
  exact of_decide_eq_true (List.all_eq_true.1 this i (List.mem_range.2 h))
theorem newCodes_ok (a1 : Option Addr) (n1 c1 : Nat) (l1 : List Int) (hl1 : Hid (l1.length = n1)) (a2 : Option Addr) (n2 c2 : Nat) (l2 : List Int) (hl2 : Hid (l2.length = n2)) (w : World) (h1 : ZsAt w a1 l1) (h2 : ZsAt w a2 l2) (e1 : checkE l1 = 0) (e2 : checkE l2 = 0) :
    Calls Tryd.prog 60 #[.slice a1 n1 c1, .slice a2 n2 c2] w fun e w' => ∃ tl td : Nat, e = .returned (.agg #[.pointer (some ⟨tl, 0, none⟩), .pointer (some ⟨td, 0, none⟩)]) ∧ TabOf w' w.heap.size tl l1 ∧ TabOf w' w.heap.size td l2 ∧ Bw w w' := by
  refine (newCodes_any a1 n1 c1 l1 hl1 a2 n2 c2 l2 hl2 w h1 h2).mono ?_
  rintro e w' ⟨hb, hx⟩
  obtain ⟨tl, td, he, hT1, hT2⟩ := newC_fix hx e1 e2
  exact ⟨tl, td, he, hT1, hT2, hb⟩
theorem newCodes_bad (a1 : Option Addr) (n1 c1 : Nat) (l1 : List Int) (hl1 : Hid (l1.length = n1)) (a2 : Option Addr) (n2 c2 : Nat) (l2 : List Int) (hl2 : Hid (l2.length = n2)) (w : World) (h1 : ZsAt w a1 l1) (h2 : ZsAt w a2 l2) (er : Int) (he : (checkE l1 ≠ 0 ∧ er = checkE l1) ∨ (checkE l1 = 0 ∧ checkE l2 ≠ 0 ∧ er = checkE l2)) :
    Calls Tryd.prog 60 #[.slice a1 n1 c1, .slice a2 n2 c2] w fun e w' => e = pan er ∧ Bw w w' := by
  refine (newCodes_any a1 n1 c1 l1 hl1 a2 n2 c2 l2 hl2 w h1 h2).mono ?_
  rintro e w' ⟨hb, hx⟩
  refine ⟨?_, hb⟩
  rcases hx with ⟨h, rfl⟩ | ⟨h, h', rfl⟩ | ⟨h, h', _⟩
  · rcases he with ⟨_, rfl⟩ | ⟨a, _⟩
    · rfl
    · exact absurd a h
  · rcases he with ⟨a, _⟩ | ⟨_, _, rfl⟩
    · exact absurd h a
    · rfl
  · rcases he with ⟨a, _⟩ | ⟨_, a, _⟩
    · exact absurd h a
    · exact absurd h' a
/-- What ownCodes leaves. -/
def OwnC (B : Nat) (w : World) (fb g : Nat) (s : ByteArray) (lim : Nat) (last : Bool) (k : Nat) (out : List UInt8) (pl pd : Option Addr) (e : Ending) (w' : World) : Prop :=
  KT TI B w w' ∧ ((∃ er, Leads s lim (stHead s last k out) (.bad er) ∧ e = pan er) ∨
    (∃ (lt dt : List Int) (k' tl td : Nat) (v : Value), Leads s lim (stHead s last k out) (.go ⟨.sym last lt dt, k', out⟩) ∧ e = .returned (.agg #[.pointer (some ⟨tl, 0, none⟩), .pointer (some ⟨td, 0, none⟩)]) ∧
      checkE lt = 0 ∧ checkE dt = 0 ∧ TabOf w' B tl lt ∧ TabOf w' B td dt ∧ Inf B w' fb g s k' out lim v pl pd))
/-- How a round stands. -/
def HdrIn (B : Nat) (w : World) (fb g nb ab : Nat) (s : ByteArray) (lim : Nat) (last : Bool) (n d gv : Nat) (k : Nat) (out : List UInt8) (pl pd : Option Addr) (j : Nat) (wr : World) : Prop :=
  ∃ (l : List Int) (k1 : Nat) (v1 : Value), l.length = 19 ∧ Has wr ab 102 (icl l).toArray ∧ Has wr nb 35 #[.pointer none, .pointer none] ∧ Inf B wr fb g s k1 out lim v1 pl pd ∧ KT TI B w wr ∧
    Leads s lim (stHead s last k out) (.go ⟨.hdr last n d gv j l, k1, out⟩)
theorem head_eq (s : ByteArray) (last : Bool) (k : Nat) (out : List UInt8) : stHead s last k out =
  num s k 5 fun a k3 => num s k3 5 fun b k4 => num s k4 4 fun c k5 =>
    if a + 257 ≤ 286 ∧ b + 1 ≤ 30 then .go ⟨.hdr last (a + 257) (b + 1) (c + 4) 0 (List.replicate 19 0), k5, out⟩ else .bad 3 := rfl
theorem hdr_eq (s : ByteArray) (lim : Nat) (last : Bool) (n d g i : Nat) (l : List Int) (k : Nat) (out : List UInt8) : step s lim ⟨.hdr last n d g i l, k, out⟩ =
  if i < g then num s k 3 fun v k1 => .go ⟨.hdr last n d g (i + 1) (l.set (ordL.getD i 0) v), k1, out⟩
  else if checkE l = 0 then .go ⟨.seq last n d l [], k, out⟩ else .bad (checkE l) := rfl
theorem seq_end (s : ByteArray) (lim : Nat) (last : Bool) (n d : Nat) (t l : List Int) (k : Nat) (out : List UInt8) (h : l.length = n + d) : step s lim ⟨.seq last n d t l, k, out⟩ =
    if l.getD 256 0 = 0 then .bad 3
    else if checkE (l.take n) = 0 then (if checkE (l.drop n) = 0 then .go ⟨.sym last (l.take n) (l.drop n), k, out⟩ else .bad (checkE (l.drop n)))
    else .bad (checkE (l.take n)) := by
  rw [step_seq]; unfold stSeq; rw [if_neg (by omega)]
section
variable {B : Nat} {w : World} {fb g : Nat} {s : ByteArray} {k : Nat} {out : List UInt8} {lim : Nat} {v : Value} {pl pd : Option Addr}
set_option maxRecDepth 100000 in
set_option maxHeartbeats 4000000 in
theorem ownCodes_any (hs : s.size ≤ 281474976710656) (last : Bool) (h : Inf B w fb g s k out lim v pl pd) :
    Calls Tryd.prog 40 #[.pointer (some ⟨fb, 0, none⟩)] w (OwnC B w fb g s lim last k out pl pd) := by
  have HI := hid h
  have HX := hid (head_eq s last k out)
  have HW := hid (show Bw w (w.alloc (.cells #[.pointer none, .pointer none] 35)) from (Bw.refl w).alloc _)
  have HN := hid (Has.new w 35 #[.pointer none, .pointer none])
  clear h
  go_enter Tryd.func40, Tryd.ntmps40
  go_wp2_with fail
  obtain ⟨nb, hnb⟩ : ∃ nb, w.heap.size = nb := ⟨_, rfl⟩
  have HI1 := hid (HI.out.bw HW.out)
  rw [hnb] at HN ⊢
  have HNB := hid hnb
  generalize w.alloc (.cells #[.pointer none, .pointer none] 35) = W1 at *
  clear hnb
  by_cases h1 : k + 5 ≤ 8 * s.size
  · have HX := hid (HX.out.trans (num_ok h1))
    have ha : bv s k 5 < 32 := bv_lt s k 5
    refine (number_ok hs 5 (by omega) h1 HI1.out).mono ?_
    rintro e w2 ⟨rfl, hi2, hk2⟩
    have HI2 := hid hi2
    have HK2 := hid ((KT.of_bw HW.out).trans hk2)
    have HN2 := hid (hk2.has HN.out (by decide))
    clear hi2 hk2
    obtain ⟨n, hn⟩ : ∃ n, bv s k 5 + 257 = n := ⟨_, rfl⟩
    have hni : ((bv s k 5 : Nat) : Int) + 257 = (n : Nat) := by omega
    have HX : Hid (stHead s last k out = num s (k + 5) 5 fun b k4 => num s k4 4 fun c k5 => if n ≤ 286 ∧ b + 1 ≤ 30 then .go ⟨.hdr last n (b + 1) (c + 4) 0 (List.replicate 19 0), k5, out⟩ else .bad 3) := hid (by rw [HX.out, ← hn])
    have hn1 : 257 ≤ n ∧ n ≤ 289 := by omega
    clear hn
    go_wp2_with fail
    clear ha hni h1
    generalize k + 5 = k2 at *
    by_cases h2 : k2 + 5 ≤ 8 * s.size
    · have HX := hid (HX.out.trans (num_ok h2))
      have hb : bv s k2 5 < 32 := bv_lt s k2 5
      refine (number_ok hs 5 (by omega) h2 HI2.out).mono ?_
      rintro e w3 ⟨rfl, hi3, hk3⟩
      have HI3 := hid hi3
      have HK3 := hid (HK2.out.trans hk3)
      have HN3 := hid (hk3.has HN2.out (by decide))
      clear hi3 hk3
      obtain ⟨d, hd⟩ : ∃ d, bv s k2 5 + 1 = d := ⟨_, rfl⟩
      have hdi : ((bv s k2 5 : Nat) : Int) + 1 = (d : Nat) := by omega
      have HX : Hid (stHead s last k out = num s (k2 + 5) 4 fun c k5 => if n ≤ 286 ∧ d ≤ 30 then .go ⟨.hdr last n d (c + 4) 0 (List.replicate 19 0), k5, out⟩ else .bad 3) := hid (by rw [HX.out, ← hd])
      have hd1 : 1 ≤ d ∧ d ≤ 32 := by omega
      clear hd
      go_wp2_with fail
      clear hb hdi h2
      generalize k2 + 5 = k3 at *
      by_cases h3 : k3 + 4 ≤ 8 * s.size
      · have HX := hid (HX.out.trans (num_ok h3))
        have hc : bv s k3 4 < 16 := bv_lt s k3 4
        refine (number_ok hs 4 (by omega) h3 HI3.out).mono ?_
        rintro e w4 ⟨rfl, hi4, hk4⟩
        have HI4 := hid hi4
        have HK4 := hid (HK3.out.trans hk4)
        have HN4 := hid (hk4.has HN3.out (by decide))
        clear hi4 hk4
        obtain ⟨gv, hg⟩ : ∃ gv, bv s k3 4 + 4 = gv := ⟨_, rfl⟩
        have hgi : ((bv s k3 4 : Nat) : Int) + 4 = (gv : Nat) := by omega
        have HX : Hid (stHead s last k out = if n ≤ 286 ∧ d ≤ 30 then .go ⟨.hdr last n d gv 0 (List.replicate 19 0), k3 + 4, out⟩ else .bad 3) := hid (by rw [HX.out, ← hg])
        have hg1 : gv ≤ 19 := by omega
        clear hg
        by_cases h4 : n ≤ 286 ∧ d ≤ 30
        · have HX := hid (HX.out.trans (if_pos h4))
          obtain ⟨h41, h42⟩ := h4
          have t1 : decide ((n : Int) ≤ 286) = true := decide_eq_true (by omega)
          have t2 : decide ((d : Int) ≤ 30) = true := decide_eq_true (by omega)
          go_wp2_with fail
          refine (demand_ok _).mono ?_
          rintro e w5 ⟨rfl, rfl⟩
          clear hgi hc h3 t1 t2
          generalize k3 + 4 = k4 at *
          have HW5 := hid (show Bw w5 (w5.alloc (.cells #[.int .i64 0, .int .i64 0, .int .i64 0, .int .i64 0, .int .i64 0, .int .i64 0, .int .i64 0, .int .i64 0, .int .i64 0, .int .i64 0, .int .i64 0, .int .i64 0, .int .i64 0, .int .i64 0, .int .i64 0, .int .i64 0, .int .i64 0, .int .i64 0, .int .i64 0] 102)) from (Bw.refl w5).alloc _)
          have HA5 := hid (show Has (w5.alloc (.cells #[.int .i64 0, .int .i64 0, .int .i64 0, .int .i64 0, .int .i64 0, .int .i64 0, .int .i64 0, .int .i64 0, .int .i64 0, .int .i64 0, .int .i64 0, .int .i64 0, .int .i64 0, .int .i64 0, .int .i64 0, .int .i64 0, .int .i64 0, .int .i64 0, .int .i64 0] 102)) w5.heap.size 102 (icl (List.replicate 19 0)).toArray from (Has.new w5 _ _).eq zero19)
          go_wp2_with fail
          obtain ⟨ab, hab⟩ : ∃ ab, w5.heap.size = ab := ⟨_, rfl⟩
          have HN6 := hid (HW5.out.has HN4.out)
          have HI6 := hid (HI4.out.bw HW5.out)
          have HK6 := hid (HK4.out.trans (KT.of_bw HW5.out))
          rw [hab] at HA5 ⊢
          have HAB := hid hab
          have hwa : w.heap.size ≤ ab := by have := HK4.out.size; omega
          have hBa : B ≤ ab := by have h1 := HI.out.gb; have h2 := Has.lt HI.out.rd; omega
          generalize w5.alloc (.cells #[.int .i64 0, .int .i64 0, .int .i64 0, .int .i64 0, .int .i64 0, .int .i64 0, .int .i64 0, .int .i64 0, .int .i64 0, .int .i64 0, .int .i64 0, .int .i64 0, .int .i64 0, .int .i64 0, .int .i64 0, .int .i64 0, .int .i64 0, .int .i64 0, .int .i64 0] 102) = W6 at *
          clear hab
          go_loopw [7, 28] (fun a i wr => ∃ j : Nat, j ≤ gv ∧ i = .int .i64 j ∧ HdrIn B w fb g nb ab s lim last n d gv k out pl pd j wr) (fun _ i _ => gv - (intOf i).toNat)
          case atStart => exact ⟨0, Nat.zero_le _, rfl, _, _, _, by simp, HA5.out, HN6.out, HI6.out, HK6.out, HX.out ▸ Leads.refl _⟩
          case round =>
            rename World => wi
            obtain ⟨j, hj, rfl, l1, k1, v1, hl1, ha1, hn1', hi1, hk1, hL⟩ := hrel
            have HL1 := hid hl1
            have HA := hid ha1
            have HNI := hid hn1'
            have HII := hid hi1
            have HKI := hid hk1
            have HL := hid hL
            have HX := hid (hdr_eq s lim last n d gv j l1 k1 out)
            clear hl1 ha1 hn1' hi1 hk1 hL
            by_cases hlt : j < gv
            · have HX := hid (HX.out.trans (if_pos hlt))
              have hj1 : (j : Int) < gv := by omega
              have hj19 : (j : Int) < 19 := by omega
              have hj0 : (0 : Int) ≤ j := by omega
              have c0 := HII.out.tabs.ord.cell j (by omega)
              unfold ordC at c0
              have ho := ordL_lt j (by omega)
              generalize ordL.getD j 0 = o at *
              have p0 : wi.drew.cell? ⟨0, j, none⟩ = some (.int .i64 (o : Nat)) := c0
              have hgl := HII.out.tabs.ord.lt
              have HS := hid (fun (W : World) (h : KT TI B wi W) => (World.cell?_of_block (h.block 0 (cell_lt c0) (.inl hgl))).trans c0)
              have HID := hid (HII.out.bw ((Bw.refl wi).drewN 1))
              have HKD := hid (show KT TI B wi wi.drew from KT.of_bw ((Bw.refl wi).drewN 1))
              have b1 : (0 : Int) ≤ o := by omega
              have b2 : (o : Int) < 19 := by omega
              have b3 : (o : Int).toNat = o := rfl
              have b4 : IntKind.i64.wrap (o : Int) = (o : Int) := IntWalk.i64_in _ (by omega)
              have hgab : 0 ≠ ab := by omega
              have HGA := hid hgab
              clear c0 hgl hgab
              go_wp2_with fail
              by_cases h5 : k1 + 3 ≤ 8 * s.size
              · have HX := hid (HX.out.trans (num_ok h5))
                go_region_held3 (fun W => W.cell? ⟨0, j, none⟩ = some (.int .i64 (o : Nat))) (first | exact p0 | exact q0 | exact q1)
                  (first | (go_at_call 36; refine (number_ok hs 3 (by omega) h5 HID.out).mono ?_; rintro e w8 ⟨rfl, hi8, hk8⟩; have q0 := HS.out _ (HKD.out.trans hk8); have HI8 := hid hi8; have HK8 := hid (HKD.out.trans hk8); have HA8 := hid ((HKD.out.trans hk8).has HA.out (by decide)); have g0 : w8.cell? ⟨ab, o, none⟩ = some (.int .i64 (l1[o]'(by rw [HL1.out]; omega))) := icl_cell HA8.out o (by rw [HL1.out]; omega); have f0 := HA8.out.frozen o; have q1 : (w8.setCell ⟨ab, o, none⟩ (.int .i64 (bv s k1 3 : Nat))).cell? ⟨0, j, none⟩ = some (.int .i64 (o : Nat)) := (World.cell?_of_block (Below.heap_setCell w8 ⟨ab, o, none⟩ _ 0 HGA.out)).trans q0; clear hi8 hk8))
                have HA9 := hid (HA8.out.put o (.int .i64 (bv s k1 3 : Nat)))
                rw [icl_set] at HA9
                have HN8 := hid ((HK8.out.has HNI.out (by decide)).far (p := ⟨ab, o, none⟩) (show nb ≠ ab from fun e => by have h1 := HAB.out; have h2 := HN4.out.lt; omega) (.int .i64 (bv s k1 3 : Nat)))
                have HK9 := hid ((KT.refl (T := [102]) (B := B) w8).setCell (p := ⟨ab, o, none⟩) hBa (HA8.out.hot (by decide)) (.int .i64 (bv s k1 3 : Nat)))
                have HI9 := hid (HI8.out.other HK9.out (by decide) (by decide) (by decide) (by decide) (by decide))
                have HK10 := hid ((HKI.out.trans HK8.out).later (Below.setCell (p := ⟨ab, o, none⟩) (Below.refl _ _) hwa (.int .i64 (bv s k1 3 : Nat))))
                clear q0 q1 p0 b1 b2 b3 b4
                go_wp2
                go_roundw
                case rel => exact ⟨j + 1, by omega, by go_num, _, _, _, by rw [List.length_set]; exact HL1.out, HA9.out, HN8.out, HI9.out, HK10.out, HL.out.then HX.out⟩
                case measure => simp [intOf]; omega
              · have HX := hid (HX.out.trans (num_bad h5))
                go_region_dies
                all_goals (refine (number_bad hs 3 (by omega) h5 HID.out).mono ?_; rintro e w4 ⟨rfl, hk4⟩; exact ⟨rfl, HKI.out.trans (HKD.out.trans hk4), .inl ⟨_, HL.out.then HX.out, rfl⟩⟩)
            · have HX := hid (HX.out.trans (if_neg hlt))
              have hj1 : ¬ (j : Int) < gv := by omega
              have HZS := hid (icl_zs HA.out)
              go_wp2_with fail
              by_cases hcl : checkE l1 = 0
              · have HX := hid (HX.out.trans (if_pos hcl))
                refine (new_ok (some ⟨ab, 0, none⟩) 19 19 l1 HL1 hcl wi HZS.out).mono ?_
                rintro e w8 ⟨tb, rfl, htb, hT8, hb8⟩
                have HT8 := hid hT8
                have HI8 := hid (HII.out.bw hb8)
                have HK8 := hid (HKI.out.trans (KT.of_bw hb8))
                have HN8 := hid (hb8.has HNI.out)
                have HIC := hid (IsCode.of_check hcl)
                have HL2 := hid (HL.out.then HX.out)
                clear hT8 hb8 htb hcl
                go_wp2_with fail
                refine (icheck_ok _).mono ?_
                rintro e w9 ⟨rfl, rfl⟩
                obtain ⟨nd, hnd⟩ : ∃ nd, n + d = nd := ⟨_, rfl⟩
                have hndi : (n : Int) + d = (nd : Nat) := by omega
                have hnd2 : 258 ≤ nd ∧ nd ≤ 316 := by omega
                obtain ⟨hnd3, hnd4⟩ := hnd2
                have hnnd : n < nd := by omega
                have HND := hid hnd
                clear hnd
                go_wp2_with fail
                refine (sequence_any hs last l1 wi.heap.size tb HIC.out HL1.out HT8.out n d nd HND (by omega) (by omega) HI8.out).mono ?_
                rintro e w10 ⟨hk10, hx⟩
                rcases hx with ⟨er, hLe, rfl⟩ | ⟨l, k5, rb, cap, v5, hLe, hll, hr, he, hcap, hown, hi⟩
                · exact ⟨rfl, HK8.out.trans hk10, .inl ⟨er, HL2.out.trans hLe, rfl⟩⟩
                rw [HND.out] at hll he hcap hown
                subst he
                have HI10 := hid hi
                have HK10 := hid (HK8.out.trans hk10)
                have HN10 := hid (hk10.has HN8.out (by decide))
                have HO10 := hid hown
                have HLL := hid hll
                have HL3 := hid (HL2.out.trans hLe)
                have h256 : 256 < l.length := by omega
                have c256 := ownp_cell hown (icl_get l 256 h256)
                have hgd : l.getD 256 0 = l[256] := by simp [List.getD, h256]
                have HX := hid (seq_end s lim last n d l1 l k5 out (by rw [hll, HND.out]))
                rw [hgd] at HX
                generalize l[256] = lv at *
                clear hgd h256 hi hk10 hown hll hLe hr hndi
                have hi256 : (256 : Int) < nd := by omega
                by_cases hz : lv = 0
                · have HX := hid (HX.out.trans (if_pos hz))
                  have t0 : (lv != 0) = false := by simpa using hz
                  subst hz
                  go_wp2_with fail
                  refine (demand_bad _).mono ?_
                  rintro e w11 ⟨rfl, rfl⟩
                  exact ⟨rfl, HK10.out, .inl ⟨_, HL3.out.then HX.out, rfl⟩⟩
                have HX := hid (HX.out.trans (if_neg hz))
                have t0 : (lv != 0) = true := by simpa using hz
                clear hz
                go_wp2_with fail
                refine (demand_ok _).mono ?_
                rintro e w11 ⟨rfl, rfl⟩
                clear t0 c256
                go_wp2_with fail
                have HZ1 := hid (show ZsAt w11.drew (some ⟨rb, 0, none⟩) (l.take n) from by have := own_zsAt HO10.out HLL.out 0 n; rw [List.drop_zero] at this; exact this.bw ((Bw.refl w11).drewN 1))
                have HZ2 := hid (show ZsAt w11.drew (some ⟨rb, n, none⟩) (l.drop n) from by have := own_zsAt HO10.out HLL.out n (nd - n); rw [List.take_of_length_le (by rw [List.length_drop, HLL.out]; exact Nat.le_refl _)] at this; exact this.bw ((Bw.refl w11).drewN 1))
                have HZ3 := hid (show (l.take n).length = n by rw [List.length_take, HLL.out]; omega)
                have HZ4 := hid (show (l.drop n).length = nd - n by rw [List.length_drop, HLL.out])
                have HD := hid (show Bw w11 w11.drew from (Bw.refl w11).drewN 1)
                have i1 : (0 : Int) ≤ n := by omega
                have i2 : (n : Int) ≤ nd := by omega
                have i3 : (n : Int) ≤ cap := by omega
                have i4 : (n : Int).toNat = n := rfl
                have i5 : ¬ cap = n := by omega
                have i6 : (nd : Int) ≤ cap := by omega
                generalize l.take n = lt at *
                generalize l.drop n = dt at *
                by_cases hc1 : checkE lt = 0
                · have HX := hid (HX.out.trans (if_pos hc1))
                  by_cases hc2 : checkE dt = 0
                  · have HX := hid (HX.out.trans (if_pos hc2))
                    have HC1 := hid hc1
                    have HC2 := hid hc2
                    clear hc1 hc2
                    go_region_with (first | (go_at_call 60; refine (newCodes_ok (some ⟨rb, 0, none⟩) n cap lt HZ3 (some ⟨rb, n, none⟩) (nd - n) (cap - n) dt HZ4 w11.drew HZ1.out HZ2.out HC1.out HC2.out).mono ?_; rintro e w12 ⟨tl, td, rfl, hT1, hT2, hb12⟩; have HT1 := hid hT1; have HT2 := hid hT2; have HB12 := hid (HD.out.trans hb12); have HN12 := hid ((HD.out.trans hb12).has HN10.out); have f0 : w12.frozen? ⟨nb, 0, none⟩ = false := HN12.out.frozen 0; have f1 : w12.frozen? ⟨nb, 1, none⟩ = false := HN12.out.frozen 1; have g0 : w12.cell? ⟨nb, 0, none⟩ = some (.pointer none) := HN12.out.cell 0; have g1 : w12.cell? ⟨nb, 1, none⟩ = some (.pointer none) := HN12.out.cell 1; clear hT1 hT2 hb12))
                    have hBn : B ≤ nb := by have h1 := HI.out.gb; have h2 := Has.lt HI.out.rd; have h3 := HNB.out; omega
                    have hB11 : B ≤ w11.drew.heap.size := by have h1 := HI10.out.gb; have h2 := Has.lt HI10.out.rd; have h4 : w11.drew.heap.size = w11.heap.size := rfl; omega
                    have HP := hid (has_two HN12.out (.pointer (some ⟨tl, 0, none⟩)) (.pointer (some ⟨td, 0, none⟩)))
                    have HK12 := hid (((KT.refl (T := [35]) (B := B) w12).setCell (p := ⟨nb, 0, none⟩) hBn (HN12.out.hot (by decide)) (.pointer (some ⟨tl, 0, none⟩))).setCell (p := ⟨nb, 1, none⟩) hBn ((HN12.out.put 0 (.pointer (some ⟨tl, 0, none⟩))).hot (by decide)) (.pointer (some ⟨td, 0, none⟩)))
                    have HI12 := hid ((HI10.out.bw HB12.out).other HK12.out (by decide) (by decide) (by decide) (by decide) (by decide))
                    have HKX := hid ((HK10.out.trans (KT.of_bw HB12.out)).fresh (show w.heap.size ≤ nb by have := HNB.out; omega) (.pointer (some ⟨tl, 0, none⟩)) (.pointer (some ⟨td, 0, none⟩)))
                    have HTA := hid (HK12.out.tab (HT1.out.base hB11) (by decide) (by decide))
                    have HTB := hid (HK12.out.tab (HT2.out.base hB11) (by decide) (by decide))
                    clear hBn hB11 f0 f1 g0 g1
                    go_wp2
                    generalize World.setCell (World.setCell w12 _ _) _ _ = W9 at *
                    have p0 : W9.cell? ⟨nb, 0, none⟩ = some (.pointer (some ⟨tl, 0, none⟩)) := HP.out.cell 0
                    have p1 : W9.cell? ⟨nb, 1, none⟩ = some (.pointer (some ⟨td, 0, none⟩)) := HP.out.cell 1
                    try simp only [Exit.inBlock, Exit.then]
                    refine bodyPost_ret (by simp [results, Tryd.results40, go_sem, p0, p1]; try rfl) rfl ?_
                    exact ⟨HKX.out, .inr ⟨lt, dt, k5, tl, td, v5, HL3.out.then HX.out, rfl, HC1.out, HC2.out, HTA.out, HTB.out, HI12.out⟩⟩
                  · have HX := hid (HX.out.trans (if_neg hc2))
                    go_region_dies
                    all_goals (refine (newCodes_bad (some ⟨rb, 0, none⟩) n cap lt HZ3 (some ⟨rb, n, none⟩) (nd - n) (cap - n) dt HZ4 w11.drew HZ1.out HZ2.out (checkE dt) (.inr ⟨hc1, hc2, rfl⟩)).mono ?_; rintro e w12 ⟨rfl, hb12⟩; exact ⟨rfl, HK10.out.trans (KT.of_bw (HD.out.trans hb12)), .inl ⟨_, HL3.out.then HX.out, rfl⟩⟩)
                · have HX := hid (HX.out.trans (if_neg hc1))
                  go_region_dies
                  all_goals (refine (newCodes_bad (some ⟨rb, 0, none⟩) n cap lt HZ3 (some ⟨rb, n, none⟩) (nd - n) (cap - n) dt HZ4 w11.drew HZ1.out HZ2.out (checkE lt) (.inl ⟨hc1, rfl⟩)).mono ?_; rintro e w12 ⟨rfl, hb12⟩; exact ⟨rfl, HK10.out.trans (KT.of_bw (HD.out.trans hb12)), .inl ⟨_, HL3.out.then HX.out, rfl⟩⟩)
              · have HX := hid (HX.out.trans (if_neg hcl))
                refine (new_bad (some ⟨ab, 0, none⟩) 19 19 l1 HL1 hcl wi HZS.out).mono ?_
                rintro e w8 ⟨rfl, hb8⟩
                have HCL := hid hcl
                have HE := hid (show OwnC B w fb g s lim last k out pl pd (pan (checkE l1)) w8 from ⟨HKI.out.trans (KT.of_bw hb8), .inl ⟨_, HL.out.then HX.out, rfl⟩⟩)
                clear hb8 hcl
                generalize checkE l1 = ce at *
                go_wp2_with fail
                refine (icheck_bad ce HCL.out _).mono ?_
                rintro e w9 ⟨rfl, rfl⟩
                exact ⟨rfl, HE.out⟩
        · have HX := hid (HX.out.trans (if_neg h4))
          by_cases h41 : n ≤ 286
          · have t1 : decide ((n : Int) ≤ 286) = true := decide_eq_true (by omega)
            have t2 : decide ((d : Int) ≤ 30) = false := decide_eq_false (by omega)
            clear h4
            go_wp2_with fail
            refine (demand_bad _).mono ?_
            rintro e w5 ⟨rfl, rfl⟩
            exact ⟨rfl, HK4.out, .inl ⟨_, (Leads.refl _ : Leads s lim _ _).trans (HX.out ▸ Leads.refl _), rfl⟩⟩
          · have t1 : decide ((n : Int) ≤ 286) = false := decide_eq_false (by omega)
            clear h4
            go_wp2_with fail
            refine (demand_bad _).mono ?_
            rintro e w5 ⟨rfl, rfl⟩
            exact ⟨rfl, HK4.out, .inl ⟨_, (Leads.refl _ : Leads s lim _ _).trans (HX.out ▸ Leads.refl _), rfl⟩⟩
      · have HX := hid (HX.out.trans (num_bad h3))
        refine (number_bad hs 4 (by omega) h3 HI3.out).mono ?_
        rintro e w4 ⟨rfl, hk4⟩
        exact ⟨rfl, HK3.out.trans hk4, .inl ⟨_, HX.out ▸ Leads.refl _, rfl⟩⟩
    · have HX := hid (HX.out.trans (num_bad h2))
      refine (number_bad hs 5 (by omega) h2 HI2.out).mono ?_
      rintro e w3 ⟨rfl, hk3⟩
      exact ⟨rfl, HK2.out.trans hk3, .inl ⟨_, HX.out ▸ Leads.refl _, rfl⟩⟩
  · have HX := hid (HX.out.trans (num_bad h1))
    refine (number_bad hs 5 (by omega) h1 HI1.out).mono ?_
    rintro e w2 ⟨rfl, hk2⟩
    exact ⟨rfl, (KT.of_bw HW.out).trans hk2, .inl ⟨_, HX.out ▸ Leads.refl _, rfl⟩⟩
end
end Go.Proofs.YtgchopfagobleaaDoor
