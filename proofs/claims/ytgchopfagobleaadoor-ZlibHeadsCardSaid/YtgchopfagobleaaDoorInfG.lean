/- The symbols of a block (contract of the method). -/
import Derived.Test.YtgchopfagobleaaDoorInfE
namespace Go.Proofs.YtgchopfagobleaaDoor
open Go.RowKit Go.Conc
set_option linter.unusedVariables false
/-- What a method that reads on to a block's end leaves. -/
def Ran (B : Nat) (fb g : Nat) (s : ByteArray) (lim : Nat) (pl pd : Option Addr) (last : Bool) (x : IOut) (w : World) (e : Ending) (w' : World) : Prop :=
  KT TI B w w' ∧ ((∃ er, Leads s lim x (.bad er) ∧ e = pan er) ∨ (∃ k' out' v, Leads s lim x (aft last k' out') ∧ e = .returned (.tuple #[]) ∧ Inf B w' fb g s k' out' lim v pl pd))
theorem Ran.bad {B fb g : Nat} {s : ByteArray} {lim : Nat} {pl pd : Option Addr} {last : Bool} {x : IOut} {w w' : World} {er : Int} (h : Leads s lim x (.bad er)) (hk : KT TI B w w') : Ran B fb g s lim pl pd last x w (pan er) w' := ⟨hk, .inl ⟨er, h, rfl⟩⟩
theorem Ran.ok {B fb g : Nat} {s : ByteArray} {lim : Nat} {pl pd : Option Addr} {last : Bool} {x : IOut} {w w' : World} {k : Nat} {out : List UInt8} {v : Value} (h : Leads s lim x (aft last k out)) (hk : KT TI B w w') (hi : Inf B w' fb g s k out lim v pl pd) : Ran B fb g s lim pl pd last x w (.returned (.tuple #[])) w' := ⟨hk, .inr ⟨k, out, v, h, rfl, hi⟩⟩
/-- How the round stands. -/
def SymIn (B : Nat) (w : World) (fb g nb tl td : Nat) (s : ByteArray) (k : Nat) (out : List UInt8) (lim : Nat) (pl pd : Option Addr) (last : Bool) (lt dt : List Int) (wr : World) : Prop :=
  ∃ k1 out1 v1, Inf B wr fb g s k1 out1 lim v1 pl pd ∧ KT TI B w wr ∧ Has wr nb 35 #[.pointer (some ⟨tl, 0, none⟩), .pointer (some ⟨td, 0, none⟩)] ∧ Leads s lim (.go ⟨.sym last lt dt, k, out⟩) (.go ⟨.sym last lt dt, k1, out1⟩)
theorem sym_eq (s : ByteArray) (lim : Nat) (last : Bool) (lt dt : List Int) (k : Nat) (out : List UInt8) : step s lim ⟨.sym last lt dt, k, out⟩ =
  sym1 s lt k fun x k1 =>
    if x = 256 then aft last k1 out
    else if x < 256 then (if lim < out.length + 1 then .bad 11 else .go ⟨.sym last lt dt, k1, out ++ [UInt8.ofNat x]⟩)
    else stMatch s lim last lt dt x k1 out := rfl
theorem match_go {s : ByteArray} {lim : Nat} {last : Bool} {lt dt : List Int} {x k : Nat} {out : List UInt8} : (∃ e, stMatch s lim last lt dt x k out = .bad e) ∨ ∃ k' out', stMatch s lim last lt dt x k out = .go ⟨.sym last lt dt, k', out'⟩ ∧ (k ≤ 8 * s.size → k ≤ k') := by
  rw [match_eq]
  split
  · exact .inl ⟨_, rfl⟩
  · by_cases h1 : k + (lenR (x - 257)).2 ≤ 8 * s.size
    · rw [num_ok h1]
      by_cases h2 : nextE dt s (k + (lenR (x - 257)).2) = 0
      · rw [sym1_ok h2]
        split
        · exact .inl ⟨_, rfl⟩
        · by_cases h3 : nextK dt s (k + (lenR (x - 257)).2) + (distR (nextV dt s (k + (lenR (x - 257)).2))).2 ≤ 8 * s.size
          · rw [num_ok h3]
            split
            · exact .inl ⟨_, rfl⟩
            · split
              · exact .inl ⟨_, rfl⟩
              · refine .inr ⟨_, _, rfl, fun hk => ?_⟩
                have := (next_more h2 h1).1
                omega
          · rw [num_bad h3]; exact .inl ⟨_, rfl⟩
      · rw [sym1_bad h2]; exact .inl ⟨_, rfl⟩
    · rw [num_bad h1]; exact .inl ⟨_, rfl⟩
section
variable {B : Nat} {w : World} {fb g : Nat} {s : ByteArray} {k : Nat} {out : List UInt8} {lim : Nat} {v : Value} {pl pd : Option Addr}
set_option maxRecDepth 100000 in
set_option maxHeartbeats 4000000 in
theorem symbols_any (hs : s.size ≤ 281474976710656) (hl : lim ≤ 1073741824) (last : Bool) (lt dt : List Int) (D1 tl D2 td : Nat) (hlc : IsCode lt) (hdc : IsCode dt) (hT1 : TabOf w D1 tl lt) (hT2 : TabOf w D2 td dt) (h : Inf B w fb g s k out lim v pl pd) :
    Calls Tryd.prog 38 #[.pointer (some ⟨fb, 0, none⟩), .agg #[.pointer (some ⟨tl, 0, none⟩), .pointer (some ⟨td, 0, none⟩)]] w (Ran B fb g s lim pl pd last (.go ⟨.sym last lt dt, k, out⟩) w) := by
  obtain ⟨i0, hinf, hz0, hz1, hz2⟩ := info_parts byteInfo
  have HI := hid h
  have HT1 := hid hT1
  have HT2 := hid hT2
  have HN := hid (Has.new w 35 #[.pointer (some ⟨tl, 0, none⟩), .pointer (some ⟨td, 0, none⟩)])
  have HW := hid (show Bw w (w.alloc (.cells #[.pointer (some ⟨tl, 0, none⟩), .pointer (some ⟨td, 0, none⟩)] 35)) from (Bw.refl w).alloc _)
  clear h hT1 hT2
  go_enter Tryd.func38, Tryd.ntmps38
  go_wp2_with fail
  have HI0 := hid (HI.out.bw HW.out)
  generalize w.alloc (.cells #[.pointer (some ⟨tl, 0, none⟩), .pointer (some ⟨td, 0, none⟩)] 35) = W at *
  generalize w.heap.size = nb at *
  go_loopw [4] (fun a wr => SymIn B w fb g nb tl td s k out lim pl pd last lt dt wr) (fun _ wr => 8 * s.size - posOf wr g)
  case atStart => exact ⟨k, out, v, HI0.out, KT.of_bw HW.out, HN.out, Leads.refl _⟩
  case round =>
    rename World => wr
    obtain ⟨k1, out1, v1, hi1, hk1, hn1, hL⟩ := hrel
    have HI1 := hid hi1
    have HK1 := hid hk1
    have HN1 := hid hn1
    have HL := hid hL
    have HP1 := hid (posOf_rd hi1.rd)
    have b0 : wr.cell? ⟨nb, 0, none⟩ = some (.pointer (some ⟨tl, 0, none⟩)) := hn1.cell 0
    have HX := hid (sym_eq s lim last lt dt k1 out1)
    clear hi1 hk1 hn1 hL
    go_wp2_with fail
    by_cases h1 : nextE lt s k1 = 0
    · have HX := hid (HX.out.trans (sym1_ok h1))
      have hmore := next_more h1 HI1.out.k8
      have hx9 := nextV_lt h1
      have hfew := hlc.few
      refine (symbol_ok hs D1 tl lt hlc (HK1.out.tab HT1.out (by decide) (by decide)) h1 HI1.out).mono ?_
      rintro e w2 ⟨rfl, hi2, hk2⟩
      have HI2 := hid hi2
      have HK2 := hid (HK1.out.trans hk2)
      have HN2 := hid (hk2.has HN1.out (by decide))
      clear hi2 hk2 b0 h1
      generalize nextV lt s k1 = x at *
      generalize nextK lt s k1 = k2 at *
      by_cases h2 : x = 256
      · have HX := hid (HX.out.trans (if_pos h2))
        subst h2
        go_wp2
        go_returns
        exact Ran.ok (HL.out.then HX.out) HK2.out HI2.out
      · have HX := hid (HX.out.trans (if_neg h2))
        have t0 : ((x : Int) == 256) = false := by simp; omega
        by_cases h3 : x < 256
        · have HX := hid (HX.out.trans (if_pos h3))
          have t1 : decide ((x : Int) < 256) = true := decide_eq_true (by omega)
          have hx256 : (x : Int) < 256 := by omega
          go_wp2_with fail
          by_cases h4 : lim < out1.length + 1
          · have HX := hid (HX.out.trans (if_pos h4))
            refine (room_bad 1 (by omega) hl h4 HI2.out).mono ?_
            rintro e w3 ⟨rfl, hb3⟩
            exact ⟨rfl, Ran.bad (HL.out.then HX.out) (HK2.out.trans (KT.of_bw hb3))⟩
          · have HX := hid (HX.out.trans (if_neg h4))
            refine (room_ok 1 (by omega) hl h4 HI2.out).mono ?_
            rintro e w3 ⟨rfl, hb3⟩
            have HI3 := hid (HI2.out.bw hb3)
            have HK3 := hid (HK2.out.trans (KT.of_bw hb3))
            have HN3 := hid (hb3.has HN2.out)
            clear hb3
            obtain ⟨ol, hol⟩ : ∃ ol, out1.length = ol := ⟨_, rfl⟩
            have hown := HI3.out.own
            have hhas := HI3.out.has
            rw [hol] at hown h4
            obtain ⟨vo, vc, rfl⟩ := own_slice hown
            have c1 : w3.cell? ⟨fb, 1, none⟩ = some (.slice vo ol vc) := hhas.cell 1
            have HOW := hid hown
            have HOL := hid hol
            have hBz : B ≤ w3.heap.size := by have h1 := HI3.out.gb; have h2 := Has.lt HI3.out.rd; omega
            have HU := hid (show ((UInt8.ofNat x).toNat : Nat) = x by simp [Nat.mod_eq_of_lt h3])
            have HWA := hid (show Bw w3 (w3.alloc (.cells #[.int .u8 x] 5)) from (Bw.refl w3).alloc _)
            have d1 := HWA.out.cell c1
            have HWF := hid (show ∀ w5, (w3.alloc (.cells #[.int .u8 x] 5)).grownBy w5 (Value.slice vo ol vc).ownBlock → w5.frozen? ⟨fb, 1, none⟩ = false from fun w5 hg => (((HI3.out.bw HWA.out).grown hg).1).frozen 1)
            have HWC := hid (show ∀ w5, (w3.alloc (.cells #[.int .u8 x] 5)).grownBy w5 (Value.slice vo ol vc).ownBlock → w5.cell? ⟨fb, 1, none⟩ = some (.slice vo ol vc) from fun w5 hg => (((HI3.out.bw HWA.out).grown hg).1).cell 1)
            have hol9 : ol ≤ 1073741824 := by omega
            clear hown hol hhas h2 t0
            go_wp2_with (at_builtin; refine wpList_append_own_at _ rfl (.tmp 19) (.tmp 22) 27 rfl B 5 i0 (.int .u8 0) 1 1 Tryd.underlying27 hinf hz0 hz1 hz2 rfl (by decide) (.slice vo ol vc) ol (bcs out1) rfl (HWA.out.own HOW.out) ⟨w3.heap.size, 0, none⟩ 1 1 [.int .u8 x] rfl rfl (cell_one_new _ _ _) (by intro u hu; simp at hu; rw [hu]; rfl) (by unfold maxLen; omega) (by omega) (by simp only [World.size_alloc]; omega) ?_; intro v' w5 hown5 hgrow5 _ _; obtain ⟨vo5, vc5, rfl⟩ := own_slice hown5; have HG5 := hid hgrow5; have HO5 := hid hown5; have z5 := HWF.out _ hgrow5; have y5 := HWC.out _ hgrow5; clear hown5 hgrow5)
            have hl1 : (out1 ++ [UInt8.ofNat x]).length = ol + 1 := by rw [List.length_append, HOL.out]; rfl
            have hap := (HI3.out.bw HWA.out).app HG5.out (out' := out1 ++ [UInt8.ofNat x]) (v' := .slice vo5 (ol + 1) vc5) (by rw [hl1, bcs_snoc, HU.out]; exact HO5.out) (by rw [hl1]; omega)
            refine ⟨⟨_, _, _, hap.1, HK3.out.trans ((KT.of_bw HWA.out).trans hap.2), ?_, HL.out.then HX.out⟩, ?_⟩
            · exact ((KT.of_bw HWA.out).trans hap.2 : KT TI B _ _).has HN3.out (by decide)
            · rw [HP1.out, posOf_rd hap.1.rd]; have := hmore; omega
        · have HX := hid (HX.out.trans (if_neg h3))
          have t1 : decide ((x : Int) < 256) = false := decide_eq_false (by omega)
          have b1 : w2.cell? ⟨nb, 1, none⟩ = some (.pointer (some ⟨td, 0, none⟩)) := HN2.out.cell 1
          go_wp2_with fail
          refine (repeat_any hs hl last lt dt x (by omega) (by omega) D2 td hdc (HK2.out.tab HT2.out (by decide) (by decide)) HI2.out).mono ?_
          rintro e w3 ⟨hk3, hm⟩
          have HK3 := hid (HK2.out.trans hk3)
          have HN3 := hid (hk3.has HN2.out (by decide))
          clear hk3
          rcases match_go (s := s) (lim := lim) (last := last) (lt := lt) (dt := dt) (x := x) (k := k2) (out := out1) with ⟨er, he⟩ | ⟨k3, o3, he, hk3⟩
          · rw [he] at hm
            have hm : e = pan er := hm
            subst hm
            exact ⟨rfl, Ran.bad (HL.out.then (HX.out.trans he)) HK3.out⟩
          · rw [he] at hm
            obtain ⟨rfl, v3, hi3⟩ := hm
            have hi3 : Inf B w3 fb g s k3 o3 lim v3 pl pd := hi3
            have HI3 := hid hi3
            have HE := hid he
            have HKK := hid hk3
            clear hi3 he hk3
            go_wp2
            refine ⟨⟨_, _, _, HI3.out, HK3.out, HN3.out, HL.out.then (HX.out.trans HE.out)⟩, ?_⟩
            rw [HP1.out, posOf_rd HI3.out.rd]; have := hmore; have h5 := HKK.out HI2.out.k8; have := HI3.out.k8; omega
    · have HX := hid (HX.out.trans (sym1_bad h1))
      refine (symbol_bad hs D1 tl lt hlc (HK1.out.tab HT1.out (by decide) (by decide)) h1 HI1.out).mono ?_
      rintro e w2 ⟨rfl, hk2⟩
      exact ⟨rfl, Ran.bad (HL.out.then HX.out) (HK1.out.trans hk2)⟩
end
end Go.Proofs.YtgchopfagobleaaDoor
