import Derived.Test.YtkmbgkcpohchhaaGreatDoorGInfI
import Derived.RegionDies
import Derived.Deep.RegionHeld3
import Derived.IntWalk
import Derived.Deep.RegionWith
import Derived.Test.YtkmbgkcpohchhaaGreatDoorGInfD
import Derived.Tactics
import Derived.Tactics2
import Derived.Defers
import Derived.Recover
import Derived.Laws.Pointers
import Derived.Deep.QuietTactic
import Derived.BigQuiet
namespace Go.Proofs.YtkmbgkcpohchhaaGreatDoor
open Go.RowKit Go.Conc
set_option linter.unusedVariables false
theorem icl_set (l : List Int) (i : Nat) (v : Int) : (icl l).toArray.setIfInBounds i (.int .i64 v) = (icl (l.set i v)).toArray := by
  simp [icl, List.map_set]
theorem icl_cell {w : World} {b : Nat} {t : TypeId} {l : List Int} (h : Has w b t (icl l).toArray) (i : Nat) (hi : i < l.length) : w.cell? ⟨b, i, none⟩ = some (.int .i64 l[i]) := by
  rw [h.cell i, List.getElem?_toArray]; exact icl_get l i hi
theorem icl_zs {w : World} {b : Nat} {t : TypeId} {l : List Int} (h : Has w b t (icl l).toArray) : ZsAt w (some ⟨b, 0, none⟩) l := fun i hi => ⟨b, 0, rfl, h.lt, by rw [Nat.zero_add]; exact icl_cell h i hi⟩
theorem zero19_i : (#[.int .i64 0, .int .i64 0, .int .i64 0, .int .i64 0, .int .i64 0, .int .i64 0, .int .i64 0, .int .i64 0, .int .i64 0, .int .i64 0, .int .i64 0, .int .i64 0, .int .i64 0, .int .i64 0, .int .i64 0, .int .i64 0, .int .i64 0, .int .i64 0, .int .i64 0] : Array Value) = (icl (List.replicate 19 0)).toArray := by kernel_rfl
theorem own_zsAt {w : World} {D b n cap : Nat} {l : List Int} (h : w.ownsRow D 3 1 (.slice (some ⟨b, 0, none⟩) n cap) n (icl l)) (hl : l.length = n) (o m : Nat) : ZsAt w (some ⟨b, o, none⟩) ((l.drop o).take m) := fun i hi => by
  have hi2 : i < m ∧ o + i < l.length := by rw [List.length_take, List.length_drop] at hi; omega
  refine ⟨b, o, rfl, own_lt h rfl, ?_⟩
  have := ownp_cell h (icl_get l (o + i) hi2.2)
  rw [this]
  simp [List.getElem_take, List.getElem_drop]
theorem ordL_lt (i : Nat) (h : i < 19) : ordL.getD i 0 < 19 := by
  have : (List.range 19).all (fun i => decide (ordL.getD i 0 < 19)) = true := by decide
  exact of_decide_eq_true (List.all_eq_true.1 this i (List.mem_range.2 h))
theorem newCodes_ok (a1 : Option Addr) (n1 c1 : Nat) (l1 : List Int) (hl1 : Hid (l1.length = n1)) (a2 : Option Addr) (n2 c2 : Nat) (l2 : List Int) (hl2 : Hid (l2.length = n2)) (w : World) (h1 : ZsAt w a1 l1) (h2 : ZsAt w a2 l2) (e1 : checkE l1 = 0) (e2 : checkE l2 = 0) :
    Calls Tryz.prog 131 #[.slice a1 n1 c1, .slice a2 n2 c2] w fun e w' => ∃ tl td : Nat, e = .returned (.agg #[.pointer (some ⟨tl, 0, none⟩), .pointer (some ⟨td, 0, none⟩)]) ∧ TabOf w' w.heap.size tl l1 ∧ TabOf w' w.heap.size td l2 ∧ Bw w w' := by
  refine (newCodes_any a1 n1 c1 l1 hl1 a2 n2 c2 l2 hl2 w h1 h2).mono ?_
  rintro e w' ⟨hb, hx⟩
  obtain ⟨tl, td, he, hT1, hT2⟩ := newC_fix hx e1 e2
  exact ⟨tl, td, he, hT1, hT2, hb⟩
theorem newCodes_bad (a1 : Option Addr) (n1 c1 : Nat) (l1 : List Int) (hl1 : Hid (l1.length = n1)) (a2 : Option Addr) (n2 c2 : Nat) (l2 : List Int) (hl2 : Hid (l2.length = n2)) (w : World) (h1 : ZsAt w a1 l1) (h2 : ZsAt w a2 l2) (er : Int) (he : (checkE l1 ≠ 0 ∧ er = checkE l1) ∨ (checkE l1 = 0 ∧ checkE l2 ≠ 0 ∧ er = checkE l2)) :
    Calls Tryz.prog 131 #[.slice a1 n1 c1, .slice a2 n2 c2] w fun e w' => e = pan er ∧ Bw w w' := by
  refine (newCodes_any a1 n1 c1 l1 hl1 a2 n2 c2 l2 hl2 w h1 h2).mono ?_
  rintro e w' ⟨hb, hx⟩
  refine ⟨?_, hb⟩
  rcases hx with ⟨h, rfl⟩ | ⟨h, h', rfl⟩ | ⟨h, h', _⟩
  · rcases he with ⟨_, rfl⟩ | ⟨a, _⟩
    · rfl
    · exact absurd a h
  · rcases he with ⟨a, _⟩ | ⟨_, _, rfl⟩
    · exact absurd h a
    · rfl
  · rcases he with ⟨a, _⟩ | ⟨_, a, _⟩
    · exact absurd h a
    · exact absurd h' a
def OwnC (B : Nat) (w : World) (fb g : Nat) (s : ByteArray) (lim : Nat) (last : Bool) (k : Nat) (out : List UInt8) (pl pd : Option Addr) (e : Ending) (w' : World) : Prop :=
  KT TI B w w' ∧ ((∃ er, Leads s lim (stHead s last k out) (.bad er) ∧ e = pan er) ∨
    (∃ (lt dt : List Int) (k' tl td : Nat) (v : Value), Leads s lim (stHead s last k out) (.go ⟨.sym last lt dt, k', out⟩) ∧ e = .returned (.agg #[.pointer (some ⟨tl, 0, none⟩), .pointer (some ⟨td, 0, none⟩)]) ∧
      checkE lt = 0 ∧ checkE dt = 0 ∧ TabOf w' B tl lt ∧ TabOf w' B td dt ∧ Inf B w' fb g s k' out lim v pl pd))
def HdrIn (B : Nat) (w : World) (fb g nb ab : Nat) (s : ByteArray) (lim : Nat) (last : Bool) (n d gv : Nat) (k : Nat) (out : List UInt8) (pl pd : Option Addr) (j : Nat) (wr : World) : Prop :=
  ∃ (l : List Int) (k1 : Nat) (v1 : Value), l.length = 19 ∧ Has wr ab 124 (icl l).toArray ∧ Has wr nb 94 #[.pointer none, .pointer none] ∧ Inf B wr fb g s k1 out lim v1 pl pd ∧ KT TI B w wr ∧
    Leads s lim (stHead s last k out) (.go ⟨.hdr last n d gv j l, k1, out⟩)
theorem head_eq (s : ByteArray) (last : Bool) (k : Nat) (out : List UInt8) : stHead s last k out =
  num s k 5 fun a k3 => num s k3 5 fun b k4 => num s k4 4 fun c k5 =>
    if a + 257 ≤ 286 ∧ b + 1 ≤ 30 then .go ⟨.hdr last (a + 257) (b + 1) (c + 4) 0 (List.replicate 19 0), k5, out⟩ else .bad 3 := rfl
theorem hdr_eq (s : ByteArray) (lim : Nat) (last : Bool) (n d g i : Nat) (l : List Int) (k : Nat) (out : List UInt8) : step s lim ⟨.hdr last n d g i l, k, out⟩ =
  if i < g then num s k 3 fun v k1 => .go ⟨.hdr last n d g (i + 1) (l.set (ordL.getD i 0) v), k1, out⟩
  else if checkE l = 0 then .go ⟨.seq last n d l [], k, out⟩ else .bad (checkE l) := rfl
theorem seq_end (s : ByteArray) (lim : Nat) (last : Bool) (n d : Nat) (t l : List Int) (k : Nat) (out : List UInt8) (h : l.length = n + d) : step s lim ⟨.seq last n d t l, k, out⟩ =
    if l.getD 256 0 = 0 then .bad 3
    else if checkE (l.take n) = 0 then (if checkE (l.drop n) = 0 then .go ⟨.sym last (l.take n) (l.drop n), k, out⟩ else .bad (checkE (l.drop n)))
    else .bad (checkE (l.take n)) := by
  rw [step_seq]; unfold stSeq; rw [if_neg (by omega)]
section
variable {B : Nat} {w : World} {fb g : Nat} {s : ByteArray} {k : Nat} {out : List UInt8} {lim : Nat} {v : Value} {pl pd : Option Addr}
set_option maxRecDepth 100000 in
set_option maxHeartbeats 4000000 in
theorem ownCodes_any_i (hs : s.size ≤ 281474976710656) (last : Bool) (h : Inf B w fb g s k out lim v pl pd) :
    Calls Tryz.prog 109 #[.pointer (some ⟨fb, 0, none⟩)] w (OwnC B w fb g s lim last k out pl pd) := by
  have HI := hid h
  have HX := hid (head_eq s last k out)
  have HW := hid (show Bw w (w.alloc (.cells #[.pointer none, .pointer none] 94)) from (Bw.refl w).alloc _)
  have HN := hid (Has.new w 94 #[.pointer none, .pointer none])
  clear h
  go_enter Tryz.func109, Tryz.ntmps109
  go_wp2_with fail
  obtain ⟨nb, hnb⟩ : ∃ nb, w.heap.size = nb := ⟨_, rfl⟩
  have HI1 := hid (HI.out.bw HW.out)
  rw [hnb] at HN ⊢
  have HNB := hid hnb
  generalize w.alloc (.cells #[.pointer none, .pointer none] 94) = W1 at *
  clear hnb
  by_cases h1 : k + 5 ≤ 8 * s.size
  · have HX := hid (HX.out.trans (num_ok h1))
    have ha : bv s k 5 < 32 := bv_lt s k 5
    refine (number_ok hs 5 (by omega) h1 HI1.out).mono ?_
    rintro e w2 ⟨rfl, hi2, hk2⟩
    have HI2 := hid hi2
    have HK2 := hid ((KT.of_bw HW.out).trans hk2)
    have HN2 := hid (hk2.has HN.out (by decide))
    clear hi2 hk2
    obtain ⟨n, hn⟩ : ∃ n, bv s k 5 + 257 = n := ⟨_, rfl⟩
    have hni : ((bv s k 5 : Nat) : Int) + 257 = (n : Nat) := by omega
    have HX : Hid (stHead s last k out = num s (k + 5) 5 fun b k4 => num s k4 4 fun c k5 => if n ≤ 286 ∧ b + 1 ≤ 30 then .go ⟨.hdr last n (b + 1) (c + 4) 0 (List.replicate 19 0), k5, out⟩ else .bad 3) := hid (by rw [HX.out, ← hn])
    have hn1 : 257 ≤ n ∧ n ≤ 289 := by omega
    clear hn
    go_wp2_with fail
    clear ha hni h1
    generalize k + 5 = k2 at *
    by_cases h2 : k2 + 5 ≤ 8 * s.size
    · have HX := hid (HX.out.trans (num_ok h2))
      have hb : bv s k2 5 < 32 := bv_lt s k2 5
      refine (number_ok hs 5 (by omega) h2 HI2.out).mono ?_
      rintro e w3 ⟨rfl, hi3, hk3⟩
      have HI3 := hid hi3
      have HK3 := hid (HK2.out.trans hk3)
      have HN3 := hid (hk3.has HN2.out (by decide))
      clear hi3 hk3
      obtain ⟨d, hd⟩ : ∃ d, bv s k2 5 + 1 = d := ⟨_, rfl⟩
      have hdi : ((bv s k2 5 : Nat) : Int) + 1 = (d : Nat) := by omega
      have HX : Hid (stHead s last k out = num s (k2 + 5) 4 fun c k5 => if n ≤ 286 ∧ d ≤ 30 then .go ⟨.hdr last n d (c + 4) 0 (List.replicate 19 0), k5, out⟩ else .bad 3) := hid (by rw [HX.out, ← hd])
      have hd1 : 1 ≤ d ∧ d ≤ 32 := by omega
      clear hd
      go_wp2_with fail
      clear hb hdi h2
      generalize k2 + 5 = k3 at *
      by_cases h3 : k3 + 4 ≤ 8 * s.size
      · have HX := hid (HX.out.trans (num_ok h3))
        have hc : bv s k3 4 < 16 := bv_lt s k3 4
        refine (number_ok hs 4 (by omega) h3 HI3.out).mono ?_
        rintro e w4 ⟨rfl, hi4, hk4⟩
        have HI4 := hid hi4
        have HK4 := hid (HK3.out.trans hk4)
        have HN4 := hid (hk4.has HN3.out (by decide))
        clear hi4 hk4
        obtain ⟨gv, hg⟩ : ∃ gv, bv s k3 4 + 4 = gv := ⟨_, rfl⟩
        have hgi : ((bv s k3 4 : Nat) : Int) + 4 = (gv : Nat) := by omega
        have HX : Hid (stHead s last k out = if n ≤ 286 ∧ d ≤ 30 then .go ⟨.hdr last n d gv 0 (List.replicate 19 0), k3 + 4, out⟩ else .bad 3) := hid (by rw [HX.out, ← hg])
        have hg1 : gv ≤ 19 := by omega
        clear hg
        by_cases h4 : n ≤ 286 ∧ d ≤ 30
        · have HX := hid (HX.out.trans (if_pos h4))
          obtain ⟨h41, h42⟩ := h4
          have t1 : decide ((n : Int) ≤ 286) = true := decide_eq_true (by omega)
          have t2 : decide ((d : Int) ≤ 30) = true := decide_eq_true (by omega)
          go_wp2_with fail
          refine (demand_ok _).mono ?_
          rintro e w5 ⟨rfl, rfl⟩
          clear hgi hc h3 t1 t2
          generalize k3 + 4 = k4 at *
          have HW5 := hid (show Bw w5 (w5.alloc (.cells #[.int .i64 0, .int .i64 0, .int .i64 0, .int .i64 0, .int .i64 0, .int .i64 0, .int .i64 0, .int .i64 0, .int .i64 0, .int .i64 0, .int .i64 0, .int .i64 0, .int .i64 0, .int .i64 0, .int .i64 0, .int .i64 0, .int .i64 0, .int .i64 0, .int .i64 0] 124)) from (Bw.refl w5).alloc _)
          have HA5 := hid (show Has (w5.alloc (.cells #[.int .i64 0, .int .i64 0, .int .i64 0, .int .i64 0, .int .i64 0, .int .i64 0, .int .i64 0, .int .i64 0, .int .i64 0, .int .i64 0, .int .i64 0, .int .i64 0, .int .i64 0, .int .i64 0, .int .i64 0, .int .i64 0, .int .i64 0, .int .i64 0, .int .i64 0] 124)) w5.heap.size 124 (icl (List.replicate 19 0)).toArray from (Has.new w5 _ _).eq zero19_i)
          go_wp2_with fail
          obtain ⟨ab, hab⟩ : ∃ ab, w5.heap.size = ab := ⟨_, rfl⟩
          have HN6 := hid (HW5.out.has HN4.out)
          have HI6 := hid (HI4.out.bw HW5.out)
          have HK6 := hid (HK4.out.trans (KT.of_bw HW5.out))
          rw [hab] at HA5 ⊢
          have HAB := hid hab
          have hwa : w.heap.size ≤ ab := by have := HK4.out.size; omega
          have hBa : B ≤ ab := by have h1 := HI.out.gb; have h2 := Has.lt HI.out.rd; omega
          generalize w5.alloc (.cells #[.int .i64 0, .int .i64 0, .int .i64 0, .int .i64 0, .int .i64 0, .int .i64 0, .int .i64 0, .int .i64 0, .int .i64 0, .int .i64 0, .int .i64 0, .int .i64 0, .int .i64 0, .int .i64 0, .int .i64 0, .int .i64 0, .int .i64 0, .int .i64 0, .int .i64 0] 124) = W6 at *
          clear hab
          go_loopw [7, 28] (fun a i wr => ∃ j : Nat, j ≤ gv ∧ i = .int .i64 j ∧ HdrIn B w fb g nb ab s lim last n d gv k out pl pd j wr) (fun _ i _ => gv - (intOf i).toNat)
          case atStart => exact ⟨0, Nat.zero_le _, rfl, _, _, _, by simp, HA5.out, HN6.out, HI6.out, HK6.out, HX.out ▸ Leads.refl _⟩
          case round =>
            rename World => wi
            obtain ⟨j, hj, rfl, l1, k1, v1, hl1, ha1, hn1', hi1, hk1, hL⟩ := hrel
            have HL1 := hid hl1
            have HA := hid ha1
            have HNI := hid hn1'
            have HII := hid hi1
            have HKI := hid hk1
            have HL := hid hL
            have HX := hid (hdr_eq s lim last n d gv j l1 k1 out)
            clear hl1 ha1 hn1' hi1 hk1 hL
            by_cases hlt : j < gv
            · have HX := hid (HX.out.trans (if_pos hlt))
              have hj1 : (j : Int) < gv := by omega
              have hj19 : (j : Int) < 19 := by omega
              have hj0 : (0 : Int) ≤ j := by omega
              have c0 := HII.out.tabs.ord.cell j (by omega)
              unfold ordC at c0
              have ho := ordL_lt j (by omega)
              generalize ordL.getD j 0 = o at *
              have p0 : wi.drew.cell? ⟨1, j, none⟩ = some (.int .i64 (o : Nat)) := c0
              have hgl := HII.out.tabs.ord.lt
              have HS := hid (fun (W : World) (h : KT TI B wi W) => (World.cell?_of_block (h.block 1 (cell_lt c0) (.inl hgl))).trans c0)
              have HID := hid (HII.out.bw ((Bw.refl wi).drewN 1))
              have HKD := hid (show KT TI B wi wi.drew from KT.of_bw ((Bw.refl wi).drewN 1))
              have b1 : (0 : Int) ≤ o := by omega
              have b2 : (o : Int) < 19 := by omega
              have b3 : (o : Int).toNat = o := rfl
              have b4 : IntKind.i64.wrap (o : Int) = (o : Int) := IntWalk.i64_in _ (by omega)
              have hgab : 1 ≠ ab := by omega
              have HGA := hid hgab
              clear c0 hgl hgab
              go_wp2_with fail
              by_cases h5 : k1 + 3 ≤ 8 * s.size
              · have HX := hid (HX.out.trans (num_ok h5))
                go_region_held3 (fun W => W.cell? ⟨1, j, none⟩ = some (.int .i64 (o : Nat))) (first | exact p0 | exact q0 | exact q1)
                  (first | (go_at_call 105; refine (number_ok hs 3 (by omega) h5 HID.out).mono ?_; rintro e w8 ⟨rfl, hi8, hk8⟩; have q0 := HS.out _ (HKD.out.trans hk8); have HI8 := hid hi8; have HK8 := hid (HKD.out.trans hk8); have HA8 := hid ((HKD.out.trans hk8).has HA.out (by decide)); have g0 : w8.cell? ⟨ab, o, none⟩ = some (.int .i64 (l1[o]'(by rw [HL1.out]; omega))) := icl_cell HA8.out o (by rw [HL1.out]; omega); have f0 := HA8.out.frozen o; have q1 : (w8.setCell ⟨ab, o, none⟩ (.int .i64 (bv s k1 3 : Nat))).cell? ⟨1, j, none⟩ = some (.int .i64 (o : Nat)) := (World.cell?_of_block (Below.heap_setCell w8 ⟨ab, o, none⟩ _ 1 HGA.out)).trans q0; clear hi8 hk8))
                have HA9 := hid (HA8.out.put o (.int .i64 (bv s k1 3 : Nat)))
                rw [icl_set] at HA9
                have HN8 := hid ((HK8.out.has HNI.out (by decide)).far (p := ⟨ab, o, none⟩) (show nb ≠ ab from fun e => by have h1 := HAB.out; have h2 := HN4.out.lt; omega) (.int .i64 (bv s k1 3 : Nat)))
                have HK9 := hid ((KT.refl (T := [124]) (B := B) w8).setCell (p := ⟨ab, o, none⟩) hBa (HA8.out.hot (by decide)) (.int .i64 (bv s k1 3 : Nat)))
                have HI9 := hid (HI8.out.other HK9.out (by decide) (by decide) (by decide) (by decide) (by decide))
                have HK10 := hid ((HKI.out.trans HK8.out).later (Below.setCell (p := ⟨ab, o, none⟩) (Below.refl _ _) hwa (.int .i64 (bv s k1 3 : Nat))))
                clear q0 q1 p0 b1 b2 b3 b4
                go_wp2
                go_roundw
                case rel => exact ⟨j + 1, by omega, by go_num, _, _, _, by rw [List.length_set]; exact HL1.out, HA9.out, HN8.out, HI9.out, HK10.out, HL.out.then HX.out⟩
                case measure => simp [intOf]; omega
              · have HX := hid (HX.out.trans (num_bad h5))
                go_region_dies
                all_goals (refine (number_bad hs 3 (by omega) h5 HID.out).mono ?_; rintro e w4 ⟨rfl, hk4⟩; exact ⟨rfl, HKI.out.trans (HKD.out.trans hk4), .inl ⟨_, HL.out.then HX.out, rfl⟩⟩)
            · have HX := hid (HX.out.trans (if_neg hlt))
              have hj1 : ¬ (j : Int) < gv := by omega
              have HZS := hid (icl_zs HA.out)
              go_wp2_with fail
              by_cases hcl : checkE l1 = 0
              · have HX := hid (HX.out.trans (if_pos hcl))
                refine (new_ok (some ⟨ab, 0, none⟩) 19 19 l1 HL1 hcl wi HZS.out).mono ?_
                rintro e w8 ⟨tb, rfl, htb, hT8, hb8⟩
                have HT8 := hid hT8
                have HI8 := hid (HII.out.bw hb8)
                have HK8 := hid (HKI.out.trans (KT.of_bw hb8))
                have HN8 := hid (hb8.has HNI.out)
                have HIC := hid (IsCode.of_check hcl)
                have HL2 := hid (HL.out.then HX.out)
                clear hT8 hb8 htb hcl
                go_wp2_with fail
                refine (icheck_ok _).mono ?_
                rintro e w9 ⟨rfl, rfl⟩
                obtain ⟨nd, hnd⟩ : ∃ nd, n + d = nd := ⟨_, rfl⟩
                have hndi : (n : Int) + d = (nd : Nat) := by omega
                have hnd2 : 258 ≤ nd ∧ nd ≤ 316 := by omega
                obtain ⟨hnd3, hnd4⟩ := hnd2
                have hnnd : n < nd := by omega
                have HND := hid hnd
                clear hnd
                go_wp2_with fail
                refine (sequence_any hs last l1 wi.heap.size tb HIC.out HL1.out HT8.out n d nd HND (by omega) (by omega) HI8.out).mono ?_
                rintro e w10 ⟨hk10, hx⟩
                rcases hx with ⟨er, hLe, rfl⟩ | ⟨l, k5, rb, cap, v5, hLe, hll, hr, he, hcap, hown, hi⟩
                · exact ⟨rfl, HK8.out.trans hk10, .inl ⟨er, HL2.out.trans hLe, rfl⟩⟩
                rw [HND.out] at hll he hcap hown
                subst he
                have HI10 := hid hi
                have HK10 := hid (HK8.out.trans hk10)
                have HN10 := hid (hk10.has HN8.out (by decide))
                have HO10 := hid hown
                have HLL := hid hll
                have HL3 := hid (HL2.out.trans hLe)
                have h256 : 256 < l.length := by omega
                have c256 := ownp_cell hown (icl_get l 256 h256)
                have hgd : l.getD 256 0 = l[256] := by simp [List.getD, h256]
                have HX := hid (seq_end s lim last n d l1 l k5 out (by rw [hll, HND.out]))
                rw [hgd] at HX
                generalize l[256] = lv at *
                clear hgd h256 hi hk10 hown hll hLe hr hndi
                have hi256 : (256 : Int) < nd := by omega
                by_cases hz : lv = 0
                · have HX := hid (HX.out.trans (if_pos hz))
                  have t0 : (lv != 0) = false := by simpa using hz
                  subst hz
                  go_wp2_with fail
                  refine (demand_bad _).mono ?_
                  rintro e w11 ⟨rfl, rfl⟩
                  exact ⟨rfl, HK10.out, .inl ⟨_, HL3.out.then HX.out, rfl⟩⟩
                have HX := hid (HX.out.trans (if_neg hz))
                have t0 : (lv != 0) = true := by simpa using hz
                clear hz
                go_wp2_with fail
                refine (demand_ok _).mono ?_
                rintro e w11 ⟨rfl, rfl⟩
                clear t0 c256
                go_wp2_with fail
                have HZ1 := hid (show ZsAt w11.drew (some ⟨rb, 0, none⟩) (l.take n) from by have := own_zsAt HO10.out HLL.out 0 n; rw [List.drop_zero] at this; exact this.bw ((Bw.refl w11).drewN 1))
                have HZ2 := hid (show ZsAt w11.drew (some ⟨rb, n, none⟩) (l.drop n) from by have := own_zsAt HO10.out HLL.out n (nd - n); rw [List.take_of_length_le (by rw [List.length_drop, HLL.out]; exact Nat.le_refl _)] at this; exact this.bw ((Bw.refl w11).drewN 1))
                have HZ3 := hid (show (l.take n).length = n by rw [List.length_take, HLL.out]; omega)
                have HZ4 := hid (show (l.drop n).length = nd - n by rw [List.length_drop, HLL.out])
                have HD := hid (show Bw w11 w11.drew from (Bw.refl w11).drewN 1)
                have i1 : (0 : Int) ≤ n := by omega
                have i2 : (n : Int) ≤ nd := by omega
                have i3 : (n : Int) ≤ cap := by omega
                have i4 : (n : Int).toNat = n := rfl
                have i5 : ¬ cap = n := by omega
                have i6 : (nd : Int) ≤ cap := by omega
                generalize l.take n = lt at *
                generalize l.drop n = dt at *
                by_cases hc1 : checkE lt = 0
                · have HX := hid (HX.out.trans (if_pos hc1))
                  by_cases hc2 : checkE dt = 0
                  · have HX := hid (HX.out.trans (if_pos hc2))
                    have HC1 := hid hc1
                    have HC2 := hid hc2
                    clear hc1 hc2
                    go_region_with (first | (go_at_call 131; refine (newCodes_ok (some ⟨rb, 0, none⟩) n cap lt HZ3 (some ⟨rb, n, none⟩) (nd - n) (cap - n) dt HZ4 w11.drew HZ1.out HZ2.out HC1.out HC2.out).mono ?_; rintro e w12 ⟨tl, td, rfl, hT1, hT2, hb12⟩; have HT1 := hid hT1; have HT2 := hid hT2; have HB12 := hid (HD.out.trans hb12); have HN12 := hid ((HD.out.trans hb12).has HN10.out); have f0 : w12.frozen? ⟨nb, 0, none⟩ = false := HN12.out.frozen 0; have f1 : w12.frozen? ⟨nb, 1, none⟩ = false := HN12.out.frozen 1; have g0 : w12.cell? ⟨nb, 0, none⟩ = some (.pointer none) := HN12.out.cell 0; have g1 : w12.cell? ⟨nb, 1, none⟩ = some (.pointer none) := HN12.out.cell 1; clear hT1 hT2 hb12))
                    have hBn : B ≤ nb := by have h1 := HI.out.gb; have h2 := Has.lt HI.out.rd; have h3 := HNB.out; omega
                    have hB11 : B ≤ w11.drew.heap.size := by have h1 := HI10.out.gb; have h2 := Has.lt HI10.out.rd; have h4 : w11.drew.heap.size = w11.heap.size := rfl; omega
                    have HP := hid (has_two HN12.out (.pointer (some ⟨tl, 0, none⟩)) (.pointer (some ⟨td, 0, none⟩)))
                    have HK12 := hid (((KT.refl (T := [94]) (B := B) w12).setCell (p := ⟨nb, 0, none⟩) hBn (HN12.out.hot (by decide)) (.pointer (some ⟨tl, 0, none⟩))).setCell (p := ⟨nb, 1, none⟩) hBn ((HN12.out.put 0 (.pointer (some ⟨tl, 0, none⟩))).hot (by decide)) (.pointer (some ⟨td, 0, none⟩)))
                    have HI12 := hid ((HI10.out.bw HB12.out).other HK12.out (by decide) (by decide) (by decide) (by decide) (by decide))
                    have HKX := hid ((HK10.out.trans (KT.of_bw HB12.out)).fresh (show w.heap.size ≤ nb by have := HNB.out; omega) (.pointer (some ⟨tl, 0, none⟩)) (.pointer (some ⟨td, 0, none⟩)))
                    have HTA := hid (HK12.out.tab (HT1.out.base hB11) (by decide) (by decide))
                    have HTB := hid (HK12.out.tab (HT2.out.base hB11) (by decide) (by decide))
                    clear hBn hB11 f0 f1 g0 g1
                    go_wp2
                    generalize World.setCell (World.setCell w12 _ _) _ _ = W9 at *
                    have p0 : W9.cell? ⟨nb, 0, none⟩ = some (.pointer (some ⟨tl, 0, none⟩)) := HP.out.cell 0
                    have p1 : W9.cell? ⟨nb, 1, none⟩ = some (.pointer (some ⟨td, 0, none⟩)) := HP.out.cell 1
                    try simp only [Exit.inBlock, Exit.then]
                    refine bodyPost_ret (by simp [results, Tryz.results109, go_sem, p0, p1]; try rfl) rfl ?_
                    exact ⟨HKX.out, .inr ⟨lt, dt, k5, tl, td, v5, HL3.out.then HX.out, rfl, HC1.out, HC2.out, HTA.out, HTB.out, HI12.out⟩⟩
                  · have HX := hid (HX.out.trans (if_neg hc2))
                    go_region_dies
                    all_goals (refine (newCodes_bad (some ⟨rb, 0, none⟩) n cap lt HZ3 (some ⟨rb, n, none⟩) (nd - n) (cap - n) dt HZ4 w11.drew HZ1.out HZ2.out (checkE dt) (.inr ⟨hc1, hc2, rfl⟩)).mono ?_; rintro e w12 ⟨rfl, hb12⟩; exact ⟨rfl, HK10.out.trans (KT.of_bw (HD.out.trans hb12)), .inl ⟨_, HL3.out.then HX.out, rfl⟩⟩)
                · have HX := hid (HX.out.trans (if_neg hc1))
                  go_region_dies
                  all_goals (refine (newCodes_bad (some ⟨rb, 0, none⟩) n cap lt HZ3 (some ⟨rb, n, none⟩) (nd - n) (cap - n) dt HZ4 w11.drew HZ1.out HZ2.out (checkE lt) (.inl ⟨hc1, rfl⟩)).mono ?_; rintro e w12 ⟨rfl, hb12⟩; exact ⟨rfl, HK10.out.trans (KT.of_bw (HD.out.trans hb12)), .inl ⟨_, HL3.out.then HX.out, rfl⟩⟩)
              · have HX := hid (HX.out.trans (if_neg hcl))
                refine (new_bad (some ⟨ab, 0, none⟩) 19 19 l1 HL1 hcl wi HZS.out).mono ?_
                rintro e w8 ⟨rfl, hb8⟩
                have HCL := hid hcl
                have HE := hid (show OwnC B w fb g s lim last k out pl pd (pan (checkE l1)) w8 from ⟨HKI.out.trans (KT.of_bw hb8), .inl ⟨_, HL.out.then HX.out, rfl⟩⟩)
                clear hb8 hcl
                generalize checkE l1 = ce at *
                go_wp2_with fail
                refine (icheck_bad ce HCL.out _).mono ?_
                rintro e w9 ⟨rfl, rfl⟩
                exact ⟨rfl, HE.out⟩
        · have HX := hid (HX.out.trans (if_neg h4))
          by_cases h41 : n ≤ 286
          · have t1 : decide ((n : Int) ≤ 286) = true := decide_eq_true (by omega)
            have t2 : decide ((d : Int) ≤ 30) = false := decide_eq_false (by omega)
            clear h4
            go_wp2_with fail
            refine (demand_bad _).mono ?_
            rintro e w5 ⟨rfl, rfl⟩
            exact ⟨rfl, HK4.out, .inl ⟨_, (Leads.refl _ : Leads s lim _ _).trans (HX.out ▸ Leads.refl _), rfl⟩⟩
          · have t1 : decide ((n : Int) ≤ 286) = false := decide_eq_false (by omega)
            clear h4
            go_wp2_with fail
            refine (demand_bad _).mono ?_
            rintro e w5 ⟨rfl, rfl⟩
            exact ⟨rfl, HK4.out, .inl ⟨_, (Leads.refl _ : Leads s lim _ _).trans (HX.out ▸ Leads.refl _), rfl⟩⟩
      · have HX := hid (HX.out.trans (num_bad h3))
        refine (number_bad hs 4 (by omega) h3 HI3.out).mono ?_
        rintro e w4 ⟨rfl, hk4⟩
        exact ⟨rfl, HK3.out.trans hk4, .inl ⟨_, HX.out ▸ Leads.refl _, rfl⟩⟩
    · have HX := hid (HX.out.trans (num_bad h2))
      refine (number_bad hs 5 (by omega) h2 HI2.out).mono ?_
      rintro e w3 ⟨rfl, hk3⟩
      exact ⟨rfl, HK2.out.trans hk3, .inl ⟨_, HX.out ▸ Leads.refl _, rfl⟩⟩
  · have HX := hid (HX.out.trans (num_bad h1))
    refine (number_bad hs 5 (by omega) h1 HI1.out).mono ?_
    rintro e w2 ⟨rfl, hk2⟩
    exact ⟨rfl, (KT.of_bw HW.out).trans hk2, .inl ⟨_, HX.out ▸ Leads.refl _, rfl⟩⟩
end
end Go.Proofs.YtkmbgkcpohchhaaGreatDoor
namespace Go.Proofs.YtkmbgkcpohchhaaGreatDoor
set_option linter.unusedVariables false
def Fwd (s : ByteArray) (n0 : Nat) (x : IOut) : Prop := (∃ e, x = .bad e ∧ e ≠ 0) ∨ (n0 ≤ x.pos ∧ x.pos ≤ 8 * s.size ∧ ∀ e, x ≠ .bad e)
theorem Fwd.bad {s : ByteArray} {n0 : Nat} {e : Int} (h : e ≠ 0) : Fwd s n0 (.bad e) := .inl ⟨e, rfl, h⟩
theorem Fwd.st {s : ByteArray} {n0 : Nat} {m : IMode} {k : Nat} {out : List UInt8} (h : n0 ≤ k) (h8 : k ≤ 8 * s.size) : Fwd s n0 (.go ⟨m, k, out⟩) := .inr ⟨h, h8, fun e h => by cases h⟩
theorem Fwd.aft {s : ByteArray} {n0 : Nat} {last : Bool} {k : Nat} {out : List UInt8} (h : n0 ≤ k) (h8 : k ≤ 8 * s.size) : Fwd s n0 (aft last k out) := by
  cases last
  · exact .st h h8
  · exact .inr ⟨h, h8, fun e h => by cases h⟩
theorem num_fwd {s : ByteArray} {n0 k n : Nat} {f : Nat → Nat → IOut} (hk : n0 ≤ k) (hf : ∀ v k', k' = k + n → n0 ≤ k' → k' ≤ 8 * s.size → Fwd s n0 (f v k')) : Fwd s n0 (num s k n f) := by
  by_cases h : k + n ≤ 8 * s.size
  · rw [num_ok h]; exact hf _ _ rfl (by omega) h
  · rw [num_bad h]; exact .bad (by decide)
theorem sym1_fwd {s : ByteArray} {l : List Int} {n0 k : Nat} {f : Nat → Nat → IOut} (hk : n0 ≤ k) (h8 : k ≤ 8 * s.size) (hf : ∀ v k', n0 ≤ k' → k' ≤ 8 * s.size → Fwd s n0 (f v k')) : Fwd s n0 (sym1 s l k f) := by
  by_cases h0 : nextE l s k = 0
  · rw [sym1_ok h0]
    have := next_more h0 h8
    exact hf _ _ (by omega) this.2
  · rw [sym1_bad h0]; exact .bad h0
theorem ite_fwd {s : ByteArray} {n0 : Nat} {c : Prop} [Decidable c] {x y : IOut} (h : c → Fwd s n0 x) (k : ¬ c → Fwd s n0 y) : Fwd s n0 (if c then x else y) := by
  by_cases hc : c
  · rw [if_pos hc]; exact h hc
  · rw [if_neg hc]; exact k hc
theorem stored_fwd {s : ByteArray} {lim : Nat} {last : Bool} {k n0 : Nat} {out : List UInt8} (hk : n0 ≤ k) : Fwd s n0 (stStored s lim last k out) := by
  have h3 : (3 : Int) ≠ 0 := by decide
  have hu : k ≤ upK k := by unfold upK; omega
  have hu8 := upK_8 k
  unfold stStored
  refine num_fwd (by omega) fun n k3 e3 _ h3' => num_fwd (by omega) fun m k4 e4 h4 h4' => ite_fwd (fun _ => ite_fwd (fun hq => ite_fwd (fun _ => .bad (by decide)) fun _ => .aft (by omega) (by omega)) fun _ => .bad (by decide)) fun _ => .bad h3
theorem step_fwd (s : ByteArray) (lim : Nat) (st : ISt) (h8 : st.k ≤ 8 * s.size) : Fwd s st.k (step s lim st) := by
  obtain ⟨m, k, out⟩ := st
  have h8 : k ≤ 8 * s.size := h8
  show Fwd s k _
  have hr := Nat.le_refl k
  have h3 : (3 : Int) ≠ 0 := by decide
  cases m with
  | top =>
    rw [step_top]
    unfold stTop
    refine num_fwd hr fun b k1 _ h1 _ => num_fwd h1 fun kind k2 _ h2 h2' => ite_fwd (fun _ => stored_fwd h2) fun _ => ite_fwd (fun _ => .st h2 h2') fun _ => ite_fwd (fun _ => ?_) fun _ => .bad h3
    unfold stHead
    exact num_fwd h2 fun a k3 _ h3' _ => num_fwd h3' fun b k4 _ h4 _ => num_fwd h4 fun c k5 _ h5 h5' => ite_fwd (fun _ => .st h5 h5') fun _ => .bad h3
  | hdr last n d g i l =>
    rw [step_hdr]
    unfold stHdr
    exact ite_fwd (fun _ => num_fwd hr fun _ _ _ h h' => .st h h') fun _ => ite_fwd (fun _ => .st hr h8) fun h => .bad h
  | seq last n d t l =>
    rw [step_seq]
    unfold stSeq stPut
    refine ite_fwd (fun _ => sym1_fwd hr h8 fun x k1 h1 h1' => ite_fwd (fun _ => ite_fwd (fun _ => .bad h3) fun _ => ?_) fun _ => ite_fwd (fun _ => ?_) fun _ => ite_fwd (fun _ => ?_) fun _ => ?_) fun _ => ite_fwd (fun _ => .bad h3) fun _ => ite_fwd (fun _ => ite_fwd (fun _ => .st hr h8) fun h => .bad h) fun h => .bad h
    · exact num_fwd h1 fun _ _ _ h h' => ite_fwd (fun _ => .st h h') fun _ => .bad h3
    · exact num_fwd h1 fun _ _ _ h h' => ite_fwd (fun _ => .st h h') fun _ => .bad h3
    · exact num_fwd h1 fun _ _ _ h h' => ite_fwd (fun _ => .st h h') fun _ => .bad h3
    · exact ite_fwd (fun _ => .st h1 h1') fun _ => .bad h3
  | sym last lt dt =>
    rw [step_sym]
    unfold stSym stMatch
    exact sym1_fwd hr h8 fun x k1 h1 h1' => ite_fwd (fun _ => .aft h1 h1') fun _ => ite_fwd (fun _ => ite_fwd (fun _ => .bad (by decide)) fun _ => .st h1 h1') fun _ => ite_fwd (fun _ => .bad h3) fun _ => num_fwd h1 fun v k2 _ h2 h2' => sym1_fwd h2 h2' fun y k3 h3' h3'' => ite_fwd (fun _ => .bad h3) fun _ => num_fwd h3' fun u k4 _ h4 h4' => ite_fwd (fun _ => .bad h3) fun _ => ite_fwd (fun _ => .bad (by decide)) fun _ => .st h4 h4'
theorem itr_fwd (s : ByteArray) (lim n0 : Nat) : ∀ (n : Nat) (x : IOut), Fwd s n0 x → Fwd s n0 (itr s lim n x)
  | 0, x, h => h
  | n + 1, x, h => by
    rcases h with ⟨e, rfl, he⟩ | ⟨h1, h2, h3⟩
    · rw [itr_bad]; exact .bad he
    · refine itr_fwd s lim n0 n _ ?_
      cases x with
      | go st =>
        rcases step_fwd s lim st h2 with h | ⟨a, b, c⟩
        · exact .inl h
        · exact .inr ⟨Nat.le_trans h1 a, b, c⟩
      | fin k o => exact .inr ⟨h1, h2, h3⟩
      | bad e => exact absurd rfl (h3 e)
theorem leads_fwd {s : ByteArray} {lim : Nat} {m : IMode} {k : Nat} {out : List UInt8} (h8 : k ≤ 8 * s.size) {y : IOut} (h : Leads s lim (.go ⟨m, k, out⟩) y) : Fwd s k y := by
  obtain ⟨n, rfl⟩ := h
  exact itr_fwd s lim k n _ (.st (Nat.le_refl _) h8)
theorem leads_bad {s : ByteArray} {lim : Nat} {m : IMode} {k : Nat} {out : List UInt8} (h8 : k ≤ 8 * s.size) {e : Int} (h : Leads s lim (.go ⟨m, k, out⟩) (.bad e)) : e ≠ 0 := by
  rcases leads_fwd h8 h with ⟨e', h1, h2⟩ | ⟨_, _, h3⟩
  · injection h1 with h1; rw [h1]; exact h2
  · exact absurd rfl (h3 e)
theorem aft_pos_eq (last : Bool) (k : Nat) (out : List UInt8) : (aft last k out).pos = k := by cases last <;> rfl
theorem aft_not_bad (last : Bool) (k : Nat) (out : List UInt8) (e : Int) : aft last k out ≠ .bad e := by cases last <;> (intro h; cases h)
theorem leads_aft {s : ByteArray} {lim : Nat} {m : IMode} {k : Nat} {out : List UInt8} (h8 : k ≤ 8 * s.size) {last : Bool} {k' : Nat} {out' : List UInt8} (h : Leads s lim (.go ⟨m, k, out⟩) (aft last k' out')) : k ≤ k' := by
  rcases leads_fwd h8 h with ⟨e', h1, h2⟩ | ⟨h1, _, _⟩
  · exact absurd h1 (aft_not_bad _ _ _ _)
  · rwa [aft_pos_eq] at h1
theorem stored_cases (s : ByteArray) (lim : Nat) (last : Bool) (k : Nat) (out : List UInt8) : (∃ e, stStored s lim last k out = .bad e) ∨ ∃ k' out', stStored s lim last k out = aft last k' out' ∧ k ≤ k' := by
  obtain ⟨q, hq⟩ : ∃ q, upK k = 8 * q := ⟨upK k / 8, upK_8 k⟩
  have hu : k ≤ upK k := by unfold upK; omega
  unfold stStored
  by_cases h1 : upK k + 16 ≤ 8 * s.size
  · rw [num_ok h1]
    by_cases h2 : upK k + 16 + 16 ≤ 8 * s.size
    · rw [num_ok h2]
      split
      · split
        · split
          · exact .inl ⟨_, rfl⟩
          · exact .inr ⟨_, _, rfl, by omega⟩
        · exact .inl ⟨_, rfl⟩
      · exact .inl ⟨_, rfl⟩
    · rw [num_bad h2]; exact .inl ⟨_, rfl⟩
  · rw [num_bad h1]; exact .inl ⟨_, rfl⟩
end Go.Proofs.YtkmbgkcpohchhaaGreatDoor
namespace Go.Proofs.YtkmbgkcpohchhaaGreatDoor
open Go.RowKit Go.Conc
set_option linter.unusedVariables false
def RunC (B : Nat) (w : World) (fb g : Nat) (s : ByteArray) (lim : Nat) (k : Nat) (out : List UInt8) (e : Ending) (w' : World) : Prop :=
  KT TI B w w' ∧ ((∃ er, Leads s lim (.go ⟨.top, k, out⟩) (.bad er) ∧ e = pan er) ∨ (∃ k' out' v pl pd, Leads s lim (.go ⟨.top, k, out⟩) (.fin k' out') ∧ e = .returned (.tuple #[]) ∧ Inf B w' fb g s k' out' lim v pl pd))
def BlkIn (B : Nat) (w : World) (fb g : Nat) (s : ByteArray) (lim : Nat) (k : Nat) (out : List UInt8) (lb : Bool) (wr : World) : Prop :=
  ∃ k1 out1 v1 pl pd, Inf B wr fb g s k1 out1 lim v1 pl pd ∧ KT TI B w wr ∧ Leads s lim (.go ⟨.top, k, out⟩) (aft lb k1 out1)
theorem top_eq (s : ByteArray) (lim k : Nat) (out : List UInt8) : step s lim ⟨.top, k, out⟩ =
  num s k 1 fun b k1 => num s k1 2 fun kind k2 =>
    if kind = 0 then stStored s lim (b == 1) k2 out
    else if kind = 1 then .go ⟨.sym (b == 1) fixL fixD, k2, out⟩
    else if kind = 2 then stHead s (b == 1) k2 out
    else .bad 3 := rfl
theorem did_aft_inv {B fb g : Nat} {s : ByteArray} {lim : Nat} {pl pd : Option Addr} {x : IOut} {w w' : World} {e : Ending} {last : Bool} {k : Nat} {out : List UInt8} (h : Did B fb g s lim pl pd x w e w') (hx : x = aft last k out) : KT TI B w w' ∧ e = .returned (.tuple #[]) ∧ ∃ v, Inf B w' fb g s k out lim v pl pd := by
  subst hx
  cases last <;> exact h
theorem did_bad_inv {B fb g : Nat} {s : ByteArray} {lim : Nat} {pl pd : Option Addr} {x : IOut} {w w' : World} {e : Ending} {er : Int} (h : Did B fb g s lim pl pd x w e w') (hx : x = .bad er) : KT TI B w w' ∧ e = pan er := by
  subst hx; exact h
theorem beq_cast_one (x : Nat) : (((x : Nat) : Int) == 1) = (x == 1) := by
  by_cases h : x = 1
  · subst h; rfl
  · have h2 : ¬ (x : Int) = 1 := by omega
    rw [beq_eq_false_iff_ne.2 h2, beq_eq_false_iff_ne.2 h]
theorem leads_one {s : ByteArray} {lim : Nat} {st : ISt} {y : IOut} (h : step s lim st = y) : Leads s lim (.go st) y := h ▸ Leads.one st
theorem head_fwd {s : ByteArray} {last : Bool} {k n0 : Nat} {out : List UInt8} (hk : n0 ≤ k) : Fwd s n0 (stHead s last k out) := by
  unfold stHead
  exact num_fwd hk fun a k3 _ h3' _ => num_fwd h3' fun b k4 _ h4 _ => num_fwd h4 fun c k5 _ h5 h5' => ite_fwd (fun _ => .st h5 h5') fun _ => .bad (by decide)
theorem head_leads {s : ByteArray} {lim : Nat} {last : Bool} {k : Nat} {out : List UInt8} {m : IMode} {k' : Nat} {out' : List UInt8} (h : Leads s lim (stHead s last k out) (.go ⟨m, k', out'⟩)) : k ≤ k' := by
  obtain ⟨n, h⟩ := h
  have := itr_fwd s lim k n _ (head_fwd (last := last) (out := out) (Nat.le_refl k))
  rw [h] at this
  rcases this with ⟨e, h, _⟩ | ⟨h, _⟩
  · cases h
  · exact h
theorem FixAt.tabs {w : World} {B tl td : Nat} (h : FixAt w B (some ⟨tl, 0, none⟩) (some ⟨td, 0, none⟩)) : TabOf w B tl fixL ∧ TabOf w B td fixD := by
  rcases h with ⟨h, _⟩ | ⟨a, b, h1, h2, h3, h4⟩
  · cases h
  · injection h1 with h1
    injection h1 with h1
    injection h2 with h2
    injection h2 with h2
    subst h1 h2
    exact ⟨h3, h4⟩
section
variable {B : Nat} {w : World} {fb g : Nat} {s : ByteArray} {k : Nat} {out : List UInt8} {lim : Nat} {v : Value} {pl pd : Option Addr}
theorem fixed_any (h : Inf B w fb g s k out lim v pl pd) :
    Calls Tryz.prog 108 #[.pointer (some ⟨fb, 0, none⟩)] w (FixC B w fb g s k out lim v) := by
  rcases h.fix with ⟨rfl, rfl⟩ | ⟨tl, td, rfl, rfl, _⟩
  · exact fixed_new h
  · exact fixed_old tl td h
set_option maxRecDepth 100000 in
set_option maxHeartbeats 4000000 in
theorem blocks_any (hs : s.size ≤ 281474976710656) (hl : lim ≤ 1073741824) (h : Inf B w fb g s k out lim v pl pd) :
    Calls Tryz.prog 76 #[.pointer (some ⟨fb, 0, none⟩)] w (RunC B w fb g s lim k out) := by
  have HI := hid h
  have HK8 := hid h.k8
  clear h
  go_enter Tryz.func76, Tryz.ntmps76
  go_wp2_with fail
  go_loopw [2] (fun b wr => ∃ lb : Bool, b = .bool lb ∧ BlkIn B w fb g s lim k out lb wr) (fun _ wr => 8 * s.size - posOf wr g)
  case atStart => exact ⟨false, rfl, k, out, v, pl, pd, HI.out, KT.refl _, Leads.refl _⟩
  case round =>
    rename World => wr
    obtain ⟨lb0, rfl, k1, out1, v1, pl1, pd1, hi1, hk1, hL⟩ := hrel
    have HI1 := hid hi1
    have HK1 := hid hk1
    have HL := hid hL
    have HP1 := hid (posOf_rd hi1.rd)
    clear hi1 hk1 hL
    cases lb0 with
    | true =>
      go_wp2
      go_end0
      exact ⟨HK1.out, .inr ⟨_, _, _, _, _, HL.out, rfl, HI1.out⟩⟩
    | false =>
      have HX := hid (top_eq s lim k1 out1)
      have HL : Hid (Leads s lim (.go ⟨.top, k, out⟩) (.go ⟨.top, k1, out1⟩)) := HL
      go_wp2_with fail
      by_cases h1 : k1 + 1 ≤ 8 * s.size
      · have HX := hid (HX.out.trans (num_ok h1))
        refine (number_ok hs 1 (by omega) h1 HI1.out).mono ?_
        rintro e w2 ⟨rfl, hi2, hk2⟩
        have HI2 := hid hi2
        have HK2 := hid (HK1.out.trans hk2)
        clear hi2 hk2
        obtain ⟨lb, hlb⟩ : ∃ lb : Bool, (bv s k1 1 == 1) = lb := ⟨_, rfl⟩
        have tlb : (((bv s k1 1 : Nat) : Int) == 1) = lb := by
          rw [← hlb]; exact beq_cast_one _
        have HY : Hid (step s lim ⟨.top, k1, out1⟩ = num s (k1 + 1) 2 fun kind k2 => if kind = 0 then stStored s lim lb k2 out1 else if kind = 1 then .go ⟨.sym lb fixL fixD, k2, out1⟩ else if kind = 2 then stHead s lb k2 out1 else .bad 3) := hid (by rw [HX.out, ← hlb])
        clear hlb HX
        generalize bv s k1 1 = bb at *
        have HX := HY
        clear HY
        go_wp2_with fail
        clear tlb
        by_cases h2 : k1 + 1 + 2 ≤ 8 * s.size
        · have HX := hid (HX.out.trans (num_ok h2))
          have hkd : bv s (k1 + 1) 2 < 4 := bv_lt s (k1 + 1) 2
          refine (number_ok hs 2 (by omega) h2 HI2.out).mono ?_
          rintro e w3 ⟨rfl, hi3, hk3⟩
          have HI3 := hid hi3
          have HK3 := hid (HK2.out.trans hk3)
          clear hi3 hk3 h2
          generalize bv s (k1 + 1) 2 = kd at *
          obtain ⟨k3, hk3⟩ : ∃ k3, k1 + 1 + 2 = k3 := ⟨_, rfl⟩
          rw [hk3] at HX HI3
          have hk13 : k1 < k3 := by omega
          clear hk3
          by_cases e0 : kd = 0
          · have HX := hid (HX.out.trans (if_pos e0))
            have t0 : ((kd : Int) == 0) = true := by simp; omega
            go_wp2_with fail
            refine (stored_any_i hs hl lb HI3.out).mono ?_
            intro e w4 hd
            rcases stored_cases s lim lb k3 out1 with ⟨er, he⟩ | ⟨k4, o4, he, hk4⟩
            · obtain ⟨hk5, rfl⟩ := did_bad_inv hd he
              exact ⟨rfl, HK3.out.trans hk5, .inl ⟨er, HL.out.then (HX.out.trans he), rfl⟩⟩
            · obtain ⟨hk5, rfl, v5, hi5⟩ := did_aft_inv hd he
              have HI5 := hid hi5
              have HK5 := hid (HK3.out.trans hk5)
              have HE := hid he
              clear hd he hi5 hk5
              go_wp2
              refine ⟨⟨lb, rfl, k4, o4, v5, _, _, HI5.out, HK5.out, HL.out.then (HX.out.trans HE.out)⟩, ?_⟩
              rw [HP1.out, posOf_rd HI5.out.rd]; have := HI5.out.k8; omega
          · have HX := hid (HX.out.trans (if_neg e0))
            have t0 : ((kd : Int) == 0) = false := by simp; omega
            by_cases e1 : kd = 1
            · have HX := hid (HX.out.trans (if_pos e1))
              have t1 : ((kd : Int) == 1) = true := by simp; omega
              go_wp2_with fail
              refine (fixed_any HI3.out).mono ?_
              rintro e w4 ⟨tl, td, rfl, hi4, hk4⟩
              have HI4 := hid hi4
              have HK4 := hid (HK3.out.trans hk4)
              clear hi4 hk4 e0 e1
              go_wp2_with fail
              refine (symbols_any hs hl lb fixL fixD B tl B td (IsCode.of_check fixL_code) (IsCode.of_check fixD_code) HI4.out.fix.tabs.1 HI4.out.fix.tabs.2 HI4.out).mono ?_
              rintro e w5 ⟨hk5, hx⟩
              rcases hx with ⟨er, hLe, rfl⟩ | ⟨k5, o5, v5, hLe, rfl, hi5⟩
              · exact ⟨rfl, HK4.out.trans hk5, .inl ⟨er, (HL.out.then HX.out).trans hLe, rfl⟩⟩
              · have HI5 := hid hi5
                have HK5 := hid (HK4.out.trans hk5)
                have HLE := hid hLe
                have hfw := leads_aft HI4.out.k8 hLe
                clear hi5 hk5 hLe
                go_wp2
                refine ⟨⟨lb, rfl, k5, o5, v5, _, _, HI5.out, HK5.out, (HL.out.then HX.out).trans HLE.out⟩, ?_⟩
                rw [HP1.out, posOf_rd HI5.out.rd]; have := HI5.out.k8; omega
            · have HX := hid (HX.out.trans (if_neg e1))
              have t1 : ((kd : Int) == 1) = false := by simp; omega
              by_cases e2 : kd = 2
              · have HX := hid (HX.out.trans (if_pos e2))
                have t2 : ((kd : Int) == 2) = true := by simp; omega
                go_wp2_with fail
                refine (ownCodes_any_i (lim := lim) hs lb HI3.out).mono ?_
                rintro e w4 ⟨hk4, hx⟩
                rcases hx with ⟨er, hLe, rfl⟩ | ⟨lt, dt, k4, tl, td, v4, hLe, rfl, hc1, hc2, hT1, hT2, hi4⟩
                · exact ⟨rfl, HK3.out.trans hk4, .inl ⟨er, HL.out.trans ((leads_one HX.out).trans hLe), rfl⟩⟩
                have HI4 := hid hi4
                have HK4 := hid (HK3.out.trans hk4)
                have HT1 := hid hT1
                have HT2 := hid hT2
                have HC1 := hid hc1
                have HC2 := hid hc2
                have HL2 := hid (HL.out.trans ((leads_one HX.out).trans hLe))
                have hfw0 : k1 < k4 := Nat.lt_of_lt_of_le hk13 (head_leads hLe)
                clear hi4 hk4 hT1 hT2 hc1 hc2 hLe e0 e1 e2
                go_wp2_with fail
                refine (symbols_any hs hl lb lt dt B tl B td (IsCode.of_check HC1.out) (IsCode.of_check HC2.out) HT1.out HT2.out HI4.out).mono ?_
                rintro e w5 ⟨hk5, hx⟩
                rcases hx with ⟨er, hLe, rfl⟩ | ⟨k5, o5, v5, hLe, rfl, hi5⟩
                · exact ⟨rfl, HK4.out.trans hk5, .inl ⟨er, HL2.out.trans hLe, rfl⟩⟩
                · have HI5 := hid hi5
                  have HK5 := hid (HK4.out.trans hk5)
                  have HLE := hid hLe
                  have hfw := leads_aft HI4.out.k8 hLe
                  clear hi5 hk5 hLe
                  go_wp2
                  refine ⟨⟨lb, rfl, k5, o5, v5, _, _, HI5.out, HK5.out, HL2.out.trans HLE.out⟩, ?_⟩
                  rw [HP1.out, posOf_rd HI5.out.rd]; have := HI5.out.k8; omega
              · have HX := hid (HX.out.trans (if_neg e2))
                have t2 : ((kd : Int) == 2) = false := by simp; omega
                go_wp2
                exact ⟨rfl, HK3.out, .inl ⟨_, HL.out.then HX.out, rfl⟩⟩
        · have HX := hid (HX.out.trans (num_bad h2))
          refine (number_bad hs 2 (by omega) h2 HI2.out).mono ?_
          rintro e w3 ⟨rfl, hk3⟩
          exact ⟨rfl, HK2.out.trans hk3, .inl ⟨_, HL.out.then HX.out, rfl⟩⟩
      · have HX := hid (HX.out.trans (num_bad h1))
        refine (number_bad hs 1 (by omega) h1 HI1.out).mono ?_
        rintro e w2 ⟨rfl, hk2⟩
        exact ⟨rfl, HK1.out.trans hk2, .inl ⟨_, HL.out.then HX.out, rfl⟩⟩
end
end Go.Proofs.YtkmbgkcpohchhaaGreatDoor
namespace Go.Proofs.YtkmbgkcpohchhaaGreatDoor
open Go.RowKit Go.Conc
set_option linter.unusedVariables false
theorem run_assert_int {P : Program} {w : World} (t xT : TypeId) (k : IntKind) (v : Value) (h : P.underlying t = some (.int k)) : (Instr.typeAssert (.iface t v) xT t false).run P w = .ok v w := by
  simp [Instr.typeAssert, run_underlying h, go_sem, Result.andThen]
theorem catch_panicking (p : Addr) (x er : Int) (older : List PanicEntry) (w : World) (hc : w.cell? p = some (.int .i64 x)) (hz : w.frozen? p = false) :
    CallsD Tryz.prog 75 #[.pointer (some p)] (.panicking ({ v := .iface 24 (.int .i64 er), recovered := false } :: older)) w fun e u' w' =>
      e = .returned (.tuple #[]) ∧ u' = .panicking ({ v := .iface 24 (.int .i64 er), recovered := true } :: older) ∧ w' = w.setCell p (.int .i64 er) := by
  refine callsD_of_wpS Tryz.func75 rfl fun c₀ cs hu => ?_
  apply wpS_seq
  apply wpS_region
  simp [wpOpsS, go_sem, recoverD, hu, Tryz.ntmps75, Exit.thenS]
  apply wpS_seq
  apply wpS_region
  simp [wpOpsS, go_sem, Exit.thenS]
  refine wpS_cond (t := true) (by simp [Act.eval, Array.replicate]) ?_
  simp only [if_true]
  have hta := run_assert_int (P := Tryz.prog) (w := w) 24 20 .i64 (.int .i64 er) Tryz.underlying24
  apply wpS_region
  simp [wpOpsS, go_sem, hc, hz, hta, bodyPostS, results, Tryz.results75]
theorem catch_idle (p : Addr) (w : World) :
    CallsD Tryz.prog 75 #[.pointer (some p)] .returning w fun e u' w' => e = .returned (.tuple #[]) ∧ u' = .returning ∧ w' = w := by
  refine callsD_of_wpS Tryz.func75 rfl fun c₀ cs hu => ?_
  apply wpS_seq
  apply wpS_region
  simp [wpOpsS, go_sem, recoverD, hu, Tryz.ntmps75, Exit.thenS]
  apply wpS_seq
  apply wpS_region
  simp [wpOpsS, go_sem, Exit.thenS]
  refine wpS_cond (t := false) (by simp [Act.eval, Array.replicate]) ?_
  simp only [Bool.false_eq_true, if_false]
  refine wpS_of_wp (wp_skip ?_)
  cases c₀
  simp_all [bodyPostS, results, Tryz.results75]
def RunD (B : Nat) (w : World) (fb g : Nat) (s : ByteArray) (lim : Nat) (k : Nat) (out : List UInt8) (e : Ending) (w' : World) : Prop :=
  KT TI B w w' ∧ ((∃ er, Leads s lim (.go ⟨.top, k, out⟩) (.bad er) ∧ e = .returned (.int .i64 er)) ∨ (∃ k' out' v pl pd, Leads s lim (.go ⟨.top, k, out⟩) (.fin k' out') ∧ e = .returned (.int .i64 0) ∧ Inf B w' fb g s k' out' lim v pl pd))
theorem KT.fresh1 {T : List TypeId} {B nb : Nat} {a b : World} (h : KT T B a b) (hs : a.heap.size ≤ nb) (x : Value) : KT T B a (b.setCell ⟨nb, 0, none⟩ x) :=
  ⟨h.os, h.tape, h.output, by simpa [World.setCell] using h.size, fun i hi hn => (Below.heap_setCell b ⟨nb, 0, none⟩ x i (by show i ≠ nb; omega)).trans (h.block i hi hn)⟩
section
variable {B : Nat} {w : World} {fb g : Nat} {s : ByteArray} {k : Nat} {out : List UInt8} {lim : Nat} {v : Value} {pl pd : Option Addr}
set_option maxRecDepth 100000 in
set_option maxHeartbeats 4000000 in
theorem run_any (hs : s.size ≤ 281474976710656) (hl : lim ≤ 1073741824) (h : Inf B w fb g s k out lim v pl pd) :
    Calls Tryz.prog 45 #[.pointer (some ⟨fb, 0, none⟩)] w (RunD B w fb g s lim k out) := by
  have HI := hid h
  have hmf : ∀ (fn : Fn) (first cap : Array Value) (w : World), (Instr.makeFunc fn first cap).run Tryz.prog w = .ok (.func fn first cap) w := fun _ _ _ _ => rfl
  have HW := hid (show Bw w (w.alloc (.cells #[.int .i64 0] 24)) from (Bw.refl w).alloc _)
  have HN := hid (Has.new w 24 #[.int .i64 0])
  clear h
  go_enter_defers Tryz.func45, Tryz.ntmps45
  go_wp2_with fail
  have HI1 := hid (HI.out.bw HW.out)
  obtain ⟨nb, hnb⟩ : ∃ nb, w.heap.size = nb := ⟨_, rfl⟩
  rw [hnb] at HN ⊢
  have HNB := hid hnb
  generalize w.alloc (.cells #[.int .i64 0] 24) = W1 at *
  clear hnb
  refine (blocks_any hs hl HI1.out).mono ?_
  rintro e w2 ⟨hk2, hx⟩
  have HK2 := hid ((KT.of_bw HW.out : KT TI B w W1).trans hk2)
  have HN2 := hid (hk2.has HN.out (by decide))
  have g0 : w2.cell? ⟨nb, 0, none⟩ = some (.int .i64 0) := HN2.out.cell 0
  have f0 : w2.frozen? ⟨nb, 0, none⟩ = false := HN2.out.frozen 0
  clear hk2
  rcases hx with ⟨er, hLe, rfl⟩ | ⟨k', out', v', pl', pd', hLe, rfl, hi⟩
  · refine leaves_cons (f := 75) (args := #[.pointer (some ⟨nb, 0, none⟩)]) (by simp) (by simp [go_sem]) ?_
    refine (catch_panicking ⟨nb, 0, none⟩ 0 er [] _ g0 f0).mono ?_
    rintro e u' w'' ⟨rfl, rfl, rfl⟩
    have h1 : (w2.setCell ⟨nb, 0, none⟩ (.int .i64 er)).cell? ⟨nb, 0, none⟩ = some (.int .i64 er) := (HN2.out.put 0 (.int .i64 er)).cell 0
    have HP := hid (show RunD B w fb g s lim k out (.returned (.int .i64 er)) (w2.setCell ⟨nb, 0, none⟩ (.int .i64 er)) from ⟨HK2.out.fresh1 (by have := HNB.out; omega) _, .inl ⟨er, hLe, rfl⟩⟩)
    generalize w2.setCell ⟨nb, 0, none⟩ (.int .i64 er) = W3 at *
    simp [Leaves, settle, results, Tryz.results45, go_sem, h1]
    exact HP.out
  · have HI2 := hid hi
    have HL := hid hLe
    have h1 : (w2.setCell ⟨nb, 0, none⟩ (.int .i64 0)).cell? ⟨nb, 0, none⟩ = some (.int .i64 0) := (HN2.out.put 0 (.int .i64 0)).cell 0
    have hBn : B ≤ nb := by have h1 := HI.out.gb; have h2 := Has.lt HI.out.rd; have h3 := HNB.out; omega
    have HIX := hid (HI2.out.other ((KT.refl (T := [24]) (B := B) w2).setCell (p := ⟨nb, 0, none⟩) hBn (HN2.out.hot (by decide)) (.int .i64 0)) (by decide) (by decide) (by decide) (by decide) (by decide))
    have HP := hid (show RunD B w fb g s lim k out (.returned (.int .i64 0)) (w2.setCell ⟨nb, 0, none⟩ (.int .i64 0)) from ⟨HK2.out.fresh1 (by have := HNB.out; omega) _, .inr ⟨k', out', v', pl', pd', HL.out, rfl, HIX.out⟩⟩)
    clear hi hLe hBn
    go_wp2
    refine leaves_cons (f := 75) (args := #[.pointer (some ⟨nb, 0, none⟩)]) (by simp) (by simp [go_sem]) ?_
    refine (catch_idle ⟨nb, 0, none⟩ _).mono ?_
    rintro e u' w'' ⟨rfl, rfl, rfl⟩
    generalize w2.setCell ⟨nb, 0, none⟩ (.int .i64 0) = W3 at *
    simp [Leaves, settle, results, Tryz.results45, go_sem, h1]
    exact HP.out
end
end Go.Proofs.YtkmbgkcpohchhaaGreatDoor
namespace Go.Proofs.YtkmbgkcpohchhaaGreatDoor
open Go.RowKit Go.Conc
set_option linter.unusedVariables false
def start : IOut := .go ⟨.top, 0, []⟩
def InfR (s : ByteArray) (lim : Int) (a : ByteArray) (n er : Int) : Prop :=
  ((lim < 0 ∨ 1073741824 < lim) ∧ a = ⟨#[]⟩ ∧ n = 0 ∧ er = 1) ∨
  ∃ L : Nat, lim = L ∧ L ≤ 1073741824 ∧ ((∃ k out, Leads s L start (.fin k out) ∧ a = ⟨out.toArray⟩ ∧ n = ((k + 7) / 8 : Nat) ∧ er = 0) ∨ (Leads s L start (.bad er) ∧ a = ⟨#[]⟩ ∧ n = 0 ∧ er ≠ 0))
def InfPost (s : ByteArray) (lim : Int) (w : World) (e : Ending) (w' : World) : Prop :=
  ∃ a n er, e = .returned (.tuple #[.string a, .int .i64 n, .int .i64 er]) ∧ InfR s lim a n er ∧ Bw w w'
set_option maxRecDepth 100000 in
set_option maxHeartbeats 4000000 in
theorem inflate_out (s : ByteArray) (lim : Int) (h : lim < 0 ∨ 1073741824 < lim) (w : World) :
    Calls Tryz.prog 18 #[.string s, .int .i64 lim] w (InfPost s lim w) := by
  have HP := hid (show InfPost s lim w (.returned (.tuple #[.string ⟨#[]⟩, .int .i64 0, .int .i64 1])) w from ⟨_, _, _, rfl, .inl ⟨h, rfl, rfl, rfl⟩, Bw.refl w⟩)
  by_cases h0 : lim < 0
  · clear h
    go_enter Tryz.func18, Tryz.ntmps18
    go_wp2
    go_returns
    exact HP.out
  · have h1 : 1073741824 < lim := by omega
    have h2 : 0 ≤ lim := by omega
    clear h
    go_enter Tryz.func18, Tryz.ntmps18
    go_wp2
    go_returns
    exact HP.out
set_option maxRecDepth 100000 in
set_option maxHeartbeats 4000000 in
theorem inflate_in (s : ByteArray) (hs : s.size ≤ 281474976710656) (L : Nat) (hL : L ≤ 1073741824) (w : World) (ht : Tabs w.heap.size w) :
    Calls Tryz.prog 18 #[.string s, .int .i64 (L : Nat)] w (InfPost s L w) := by
  have HT := hid ht
  have HR := hid (newR_any s w)
  have hl0 : (0 : Int) ≤ (L : Nat) := by omega
  have hl1 : ((L : Nat) : Int) ≤ 1073741824 := by omega
  clear ht
  go_enter Tryz.func18, Tryz.ntmps18
  go_wp2_with fail
  refine HR.out.mono ?_
  rintro e w1 ⟨rfl, hr1, hb1, hz1⟩
  have HR1 := hid hr1
  have HB1 := hid hb1
  have HZ1 := hid hz1
  clear hr1 hb1 hz1
  go_wp2_with fail
  have HW := hid (show Bw w1 (w1.alloc (.cells #[.pointer (some ⟨w.heap.size, 0, none⟩), .slice none 0 0, .int .i64 (L : Nat), .pointer none, .pointer none] 96)) from (Bw.refl w1).alloc _)
  have HN := hid (Has.new w1 96 #[.pointer (some ⟨w.heap.size, 0, none⟩), .slice none 0 0, .int .i64 (L : Nat), .pointer none, .pointer none])
  have HBW := hid (HB1.out.trans HW.out)
  have HI := hid (show Inf w.heap.size (w1.alloc (.cells #[.pointer (some ⟨w.heap.size, 0, none⟩), .slice none 0 0, .int .i64 (L : Nat), .pointer none, .pointer none] 96)) w1.heap.size w.heap.size s 0 [] L (.slice none 0 0) none none from
    ⟨HN.out, HW.out.has HR1.out, World.ownsRow_nil _ _ _ _, .inl ⟨rfl, rfl⟩, Nat.le_of_lt HZ1.out, Nat.le_refl _, Nat.zero_le _, Nat.zero_le _, HT.out.kt (T := []) (D := w.heap.size) (KT.of_bw HBW.out) (Nat.le_refl _)⟩)
  generalize w1.alloc (.cells #[.pointer (some ⟨w.heap.size, 0, none⟩), .slice none 0 0, .int .i64 (L : Nat), .pointer none, .pointer none] 96) = W2 at *
  generalize w1.heap.size = fb at *
  refine (run_any hs hL HI.out).mono ?_
  rintro e w3 ⟨hk3, hx⟩
  have HK3 := hid hk3
  have HB3 := hid (show Bw w w3 from Below.trans HBW.out (hk3.below (Nat.le_refl _) (by have := HBW.out.size; exact this)))
  clear hk3
  rcases hx with ⟨er, hLe, rfl⟩ | ⟨k', out', v', pl', pd', hLe, rfl, hi⟩
  · have hne := leads_bad (Nat.zero_le _) hLe
    have t0 : (er != 0) = true := by simpa using hne
    have HP := hid (show InfPost s L w (.returned (.tuple #[.string ⟨#[]⟩, .int .i64 0, .int .i64 er])) w3 from ⟨_, _, _, rfl, .inr ⟨L, rfl, hL, .inr ⟨hLe, rfl, rfl, hne⟩⟩, HB3.out⟩)
    clear hLe hne
    go_wp2
    go_returns
    exact HP.out
  · have HI3 := hid (hi.bw ((Bw.refl w3).drewN 1))
    have HL := hid hLe
    have hk8 := hi.k8
    obtain ⟨ol, hol⟩ : ∃ ol, out'.length = ol := ⟨_, rfl⟩
    have hown := HI3.out.own
    rw [hol] at hown
    have hcv := conv_bytes (w := w3.drewN 1) hol hown
    obtain ⟨vo, vc, rfl⟩ := own_slice hown
    have c1 : w3.drew.cell? ⟨fb, 1, none⟩ = some (.slice vo ol vc) := HI3.out.has.cell 1
    have c0 : w3.drew.cell? ⟨fb, 0, none⟩ = some (.pointer (some ⟨w.heap.size, 0, none⟩)) := HI3.out.has.cell 0
    have hcv2 : (convert 41 9 (.slice vo ol vc)).run Tryz.prog w3.drew = .ok (.string ⟨out'.toArray⟩) w3.drew := hcv
    have HD := hid (show InfPost s L w (.returned (.tuple #[.string ⟨out'.toArray⟩, .int .i64 (((k' + 7) / 8 : Nat) : Int), .int .i64 0])) w3.drew from ⟨_, _, _, rfl, .inr ⟨L, rfl, hL, .inl ⟨k', out', HL.out, rfl, rfl, rfl⟩⟩, HB3.out.drewN 1⟩)
    have hq8 : IntKind.i64.wrap (((k' : Int) + 7).tdiv 8) = (((k' + 7) / 8 : Nat) : Int) := by
      rw [Int.tdiv_eq_ediv_of_nonneg (by omega), IntWalk.i64_in _ (by omega)]; omega
    have HD2 := hid (show InfPost s L w (.returned (.tuple #[.string ⟨out'.toArray⟩, .int .i64 (IntKind.i64.wrap (((k' : Int) + 7).tdiv 8)), .int .i64 0])) w3.drew by rw [hq8]; exact HD.out)
    clear hq8
    have HAT := hid (at_any w.heap.size s k' w3.drew HI3.out.rd)
    clear hi hLe hown hcv hol
    have h7 : IntKind.i64.wrap ((k' : Int) + 7) = (k' : Int) + 7 := IntWalk.i64_in _ (by omega)
    go_wp2_with fail
    go_region_with (first | (go_at_call 46; refine HAT.out.mono ?_; rintro e w4 ⟨rfl, rfl⟩))
    all_goals go_wp2
    all_goals go_returns
    all_goals exact HD2.out
theorem inflate_any (s : ByteArray) (hs : s.size ≤ 281474976710656) (lim : Int) (w : World) (ht : Tabs w.heap.size w) :
    Calls Tryz.prog 18 #[.string s, .int .i64 lim] w (InfPost s lim w) := by
  by_cases h : lim < 0 ∨ 1073741824 < lim
  · exact inflate_out s lim h w
  · obtain ⟨L, rfl⟩ := Int.eq_ofNat_of_zero_le (show 0 ≤ lim by omega)
    exact inflate_in s hs L (by omega) w ht
theorem InfR.unique {s : ByteArray} {lim : Int} {a b : ByteArray} {n m er fr : Int} (h : InfR s lim a n er) (k : InfR s lim b m fr) : a = b ∧ n = m ∧ er = fr := by
  rcases h with ⟨h0, rfl, rfl, rfl⟩ | ⟨L, rfl, hL, h⟩
  · rcases k with ⟨_, rfl, rfl, rfl⟩ | ⟨L, rfl, hL, _⟩
    · exact ⟨rfl, rfl, rfl⟩
    · omega
  · rcases k with ⟨h0, _⟩ | ⟨L', e, _, k⟩
    · omega
    · obtain rfl : L = L' := by omega
      rcases h with ⟨k1, o1, l1, rfl, rfl, rfl⟩ | ⟨l1, rfl, rfl, _⟩ <;> rcases k with ⟨k2, o2, l2, rfl, rfl, rfl⟩ | ⟨l2, rfl, rfl, _⟩
      · have := l1.unique l2 rfl rfl
        injection this with e1 e2
        subst e1 e2
        exact ⟨rfl, rfl, rfl⟩
      · have := l1.unique l2 rfl rfl
        cases this
      · have := l1.unique l2 rfl rfl
        cases this
      · have := l1.unique l2 rfl rfl
        injection this with e1
        exact ⟨rfl, rfl, e1⟩
end Go.Proofs.YtkmbgkcpohchhaaGreatDoor
