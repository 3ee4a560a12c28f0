/- All blocks (contract of the method). -/
import Derived.Test.YtaihojjocmdgbaaDoorInfK
import Derived.Test.YtaihojjocmdgbaaDoorInfS
namespace Go.Proofs.YtaihojjocmdgbaaDoor
open Go.RowKit Go.Conc
set_option linter.unusedVariables false
/-- What blocks leaves. -/
def RunC (B : Nat) (w : World) (fb g : Nat) (s : ByteArray) (lim : Nat) (k : Nat) (out : List UInt8) (e : Ending) (w' : World) : Prop :=
  KT TI B w w' ∧ ((∃ er, Leads s lim (.go ⟨.top, k, out⟩) (.bad er) ∧ e = pan er) ∨ (∃ k' out' v pl pd, Leads s lim (.go ⟨.top, k, out⟩) (.fin k' out') ∧ e = .returned (.tuple #[]) ∧ Inf B w' fb g s k' out' lim v pl pd))
/-- How a round stands. -/
def BlkIn (B : Nat) (w : World) (fb g : Nat) (s : ByteArray) (lim : Nat) (k : Nat) (out : List UInt8) (lb : Bool) (wr : World) : Prop :=
  ∃ k1 out1 v1 pl pd, Inf B wr fb g s k1 out1 lim v1 pl pd ∧ KT TI B w wr ∧ Leads s lim (.go ⟨.top, k, out⟩) (aft lb k1 out1)
theorem top_eq (s : ByteArray) (lim k : Nat) (out : List UInt8) : step s lim ⟨.top, k, out⟩ =
  num s k 1 fun b k1 => num s k1 2 fun kind k2 =>
    if kind = 0 then stStored s lim (b == 1) k2 out
    else if kind = 1 then .go ⟨.sym (b == 1) fixL fixD, k2, out⟩
    else if kind = 2 then stHead s (b == 1) k2 out
    else .bad 3 := rfl
theorem did_aft_inv {B fb g : Nat} {s : ByteArray} {lim : Nat} {pl pd : Option Addr} {x : IOut} {w w' : World} {e : Ending} {last : Bool} {k : Nat} {out : List UInt8} (h : Did B fb g s lim pl pd x w e w') (hx : x = aft last k out) : KT TI B w w' ∧ e = .returned (.tuple #[]) ∧ ∃ v, Inf B w' fb g s k out lim v pl pd := by
  subst hx
  cases last <;> exact h
theorem did_bad_inv {B fb g : Nat} {s : ByteArray} {lim : Nat} {pl pd : Option Addr} {x : IOut} {w w' : World} {e : Ending} {er : Int} (h : Did B fb g s lim pl pd x w e w') (hx : x = .bad er) : KT TI B w w' ∧ e = pan er := by
  subst hx; exact h
theorem beq_cast_one (x : Nat) : (((x : Nat) : Int) == 1) = (x == 1) := by
  by_cases h : x = 1
  · subst h; rfl
  · have h2 : ¬ (x : Int) = 1 := by omega
    rw [beq_eq_false_iff_ne.2 h2, beq_eq_false_iff_ne.2 h]
theorem leads_one {s : ByteArray} {lim : Nat} {st : ISt} {y : IOut} (h : step s lim st = y) : Leads s lim (.go st) y := h ▸ Leads.one st
theorem head_fwd {s : ByteArray} {last : Bool} {k n0 : Nat} {out : List UInt8} (hk : n0 ≤ k) : Fwd s n0 (stHead s last k out) := by
  unfold stHead
  exact num_fwd hk fun a k3 _ h3' _ => num_fwd h3' fun b k4 _ h4 _ => num_fwd h4 fun c k5 _ h5 h5' => ite_fwd (fun _ => .st h5 h5') fun _ => .bad (by decide)
theorem head_leads {s : ByteArray} {lim : Nat} {last : Bool} {k : Nat} {out : List UInt8} {m : IMode} {k' : Nat} {out' : List UInt8} (h : Leads s lim (stHead s last k out) (.go ⟨m, k', out'⟩)) : k ≤ k' := by
  obtain ⟨n, h⟩ := h
  have := itr_fwd s lim k n _ (head_fwd (last := last) (out := out) (Nat.le_refl k))
  rw [h] at this
  rcases this with ⟨e, h, _⟩ | ⟨h, _⟩
  · cases h
  · exact h
theorem FixAt.tabs {w : World} {B tl td : Nat} (h : FixAt w B (some ⟨tl, 0, none⟩) (some ⟨td, 0, none⟩)) : TabOf w B tl fixL ∧ TabOf w B td fixD := by
  rcases h with ⟨h, _⟩ | ⟨a, b, h1, h2, h3, h4⟩
  · cases h
  · injection h1 with h1
    injection h1 with h1
    injection h2 with h2
    injection h2 with h2
    subst h1 h2
    exact ⟨h3, h4⟩
section
variable {B : Nat} {w : World} {fb g : Nat} {s : ByteArray} {k : Nat} {out : List UInt8} {lim : Nat} {v : Value} {pl pd : Option Addr}
theorem fixed_any (h : Inf B w fb g s k out lim v pl pd) :
    Calls Tryd.prog 31 #[.pointer (some ⟨fb, 0, none⟩)] w (FixC B w fb g s k out lim v) := by
  rcases h.fix with ⟨rfl, rfl⟩ | ⟨tl, td, rfl, rfl, _⟩
  · exact fixed_new h
  · exact fixed_old tl td h
set_option maxRecDepth 100000 in
set_option maxHeartbeats 4000000 in
theorem blocks_any (hs : s.size ≤ 281474976710656) (hl : lim ≤ 1073741824) (h : Inf B w fb g s k out lim v pl pd) :
    Calls Tryd.prog 21 #[.pointer (some ⟨fb, 0, none⟩)] w (RunC B w fb g s lim k out) := by
  have HI := hid h
  have HK8 := hid h.k8
  clear h
  go_enter Tryd.func21, Tryd.ntmps21
  go_wp2_with fail
  go_loopw [2] (fun b wr => ∃ lb : Bool, b = .bool lb ∧ BlkIn B w fb g s lim k out lb wr) (fun _ wr => 8 * s.size - posOf wr g)
  case atStart => exact ⟨false, rfl, k, out, v, pl, pd, HI.out, KT.refl _, Leads.refl _⟩
  case round =>
    rename World => wr
    obtain ⟨lb0, rfl, k1, out1, v1, pl1, pd1, hi1, hk1, hL⟩ := hrel
    have HI1 := hid hi1
    have HK1 := hid hk1
    have HL := hid hL
    have HP1 := hid (posOf_rd hi1.rd)
    clear hi1 hk1 hL
    cases lb0 with
    | true =>
      go_wp2
      go_end0
      exact ⟨HK1.out, .inr ⟨_, _, _, _, _, HL.out, rfl, HI1.out⟩⟩
    | false =>
      have HX := hid (top_eq s lim k1 out1)
      have HL : Hid (Leads s lim (.go ⟨.top, k, out⟩) (.go ⟨.top, k1, out1⟩)) := HL
      go_wp2_with fail
      by_cases h1 : k1 + 1 ≤ 8 * s.size
      · have HX := hid (HX.out.trans (num_ok h1))
        refine (number_ok hs 1 (by omega) h1 HI1.out).mono ?_
        rintro e w2 ⟨rfl, hi2, hk2⟩
        have HI2 := hid hi2
        have HK2 := hid (HK1.out.trans hk2)
        clear hi2 hk2
        obtain ⟨lb, hlb⟩ : ∃ lb : Bool, (bv s k1 1 == 1) = lb := ⟨_, rfl⟩
        have tlb : (((bv s k1 1 : Nat) : Int) == 1) = lb := by
          rw [← hlb]; exact beq_cast_one _
        have HY : Hid (step s lim ⟨.top, k1, out1⟩ = num s (k1 + 1) 2 fun kind k2 => if kind = 0 then stStored s lim lb k2 out1 else if kind = 1 then .go ⟨.sym lb fixL fixD, k2, out1⟩ else if kind = 2 then stHead s lb k2 out1 else .bad 3) := hid (by rw [HX.out, ← hlb])
        clear hlb HX
        generalize bv s k1 1 = bb at *
        have HX := HY
        clear HY
        go_wp2_with fail
        clear tlb
        by_cases h2 : k1 + 1 + 2 ≤ 8 * s.size
        · have HX := hid (HX.out.trans (num_ok h2))
          have hkd : bv s (k1 + 1) 2 < 4 := bv_lt s (k1 + 1) 2
          refine (number_ok hs 2 (by omega) h2 HI2.out).mono ?_
          rintro e w3 ⟨rfl, hi3, hk3⟩
          have HI3 := hid hi3
          have HK3 := hid (HK2.out.trans hk3)
          clear hi3 hk3 h2
          generalize bv s (k1 + 1) 2 = kd at *
          obtain ⟨k3, hk3⟩ : ∃ k3, k1 + 1 + 2 = k3 := ⟨_, rfl⟩
          rw [hk3] at HX HI3
          have hk13 : k1 < k3 := by omega
          clear hk3
          by_cases e0 : kd = 0
          · have HX := hid (HX.out.trans (if_pos e0))
            have t0 : ((kd : Int) == 0) = true := by simp; omega
            go_wp2_with fail
            refine (stored_any hs hl lb HI3.out).mono ?_
            intro e w4 hd
            rcases stored_cases s lim lb k3 out1 with ⟨er, he⟩ | ⟨k4, o4, he, hk4⟩
            · obtain ⟨hk5, rfl⟩ := did_bad_inv hd he
              exact ⟨rfl, HK3.out.trans hk5, .inl ⟨er, HL.out.then (HX.out.trans he), rfl⟩⟩
            · obtain ⟨hk5, rfl, v5, hi5⟩ := did_aft_inv hd he
              have HI5 := hid hi5
              have HK5 := hid (HK3.out.trans hk5)
              have HE := hid he
              clear hd he hi5 hk5
              go_wp2
              refine ⟨⟨lb, rfl, k4, o4, v5, _, _, HI5.out, HK5.out, HL.out.then (HX.out.trans HE.out)⟩, ?_⟩
              rw [HP1.out, posOf_rd HI5.out.rd]; have := HI5.out.k8; omega
          · have HX := hid (HX.out.trans (if_neg e0))
            have t0 : ((kd : Int) == 0) = false := by simp; omega
            by_cases e1 : kd = 1
            · have HX := hid (HX.out.trans (if_pos e1))
              have t1 : ((kd : Int) == 1) = true := by simp; omega
              go_wp2_with fail
              refine (fixed_any HI3.out).mono ?_
              rintro e w4 ⟨tl, td, rfl, hi4, hk4⟩
              have HI4 := hid hi4
              have HK4 := hid (HK3.out.trans hk4)
              clear hi4 hk4 e0 e1
              go_wp2_with fail
              refine (symbols_any hs hl lb fixL fixD B tl B td (IsCode.of_check fixL_code) (IsCode.of_check fixD_code) HI4.out.fix.tabs.1 HI4.out.fix.tabs.2 HI4.out).mono ?_
              rintro e w5 ⟨hk5, hx⟩
              rcases hx with ⟨er, hLe, rfl⟩ | ⟨k5, o5, v5, hLe, rfl, hi5⟩
              · exact ⟨rfl, HK4.out.trans hk5, .inl ⟨er, (HL.out.then HX.out).trans hLe, rfl⟩⟩
              · have HI5 := hid hi5
                have HK5 := hid (HK4.out.trans hk5)
                have HLE := hid hLe
                have hfw := leads_aft HI4.out.k8 hLe
                clear hi5 hk5 hLe
                go_wp2
                refine ⟨⟨lb, rfl, k5, o5, v5, _, _, HI5.out, HK5.out, (HL.out.then HX.out).trans HLE.out⟩, ?_⟩
                rw [HP1.out, posOf_rd HI5.out.rd]; have := HI5.out.k8; omega
            · have HX := hid (HX.out.trans (if_neg e1))
              have t1 : ((kd : Int) == 1) = false := by simp; omega
              by_cases e2 : kd = 2
              · have HX := hid (HX.out.trans (if_pos e2))
                have t2 : ((kd : Int) == 2) = true := by simp; omega
                go_wp2_with fail
                refine (ownCodes_any (lim := lim) hs lb HI3.out).mono ?_
                rintro e w4 ⟨hk4, hx⟩
                rcases hx with ⟨er, hLe, rfl⟩ | ⟨lt, dt, k4, tl, td, v4, hLe, rfl, hc1, hc2, hT1, hT2, hi4⟩
                · exact ⟨rfl, HK3.out.trans hk4, .inl ⟨er, HL.out.trans ((leads_one HX.out).trans hLe), rfl⟩⟩
                have HI4 := hid hi4
                have HK4 := hid (HK3.out.trans hk4)
                have HT1 := hid hT1
                have HT2 := hid hT2
                have HC1 := hid hc1
                have HC2 := hid hc2
                have HL2 := hid (HL.out.trans ((leads_one HX.out).trans hLe))
                have hfw0 : k1 < k4 := Nat.lt_of_lt_of_le hk13 (head_leads hLe)
                clear hi4 hk4 hT1 hT2 hc1 hc2 hLe e0 e1 e2
                go_wp2_with fail
                refine (symbols_any hs hl lb lt dt B tl B td (IsCode.of_check HC1.out) (IsCode.of_check HC2.out) HT1.out HT2.out HI4.out).mono ?_
                rintro e w5 ⟨hk5, hx⟩
                rcases hx with ⟨er, hLe, rfl⟩ | ⟨k5, o5, v5, hLe, rfl, hi5⟩
                · exact ⟨rfl, HK4.out.trans hk5, .inl ⟨er, HL2.out.trans hLe, rfl⟩⟩
                · have HI5 := hid hi5
                  have HK5 := hid (HK4.out.trans hk5)
                  have HLE := hid hLe
                  have hfw := leads_aft HI4.out.k8 hLe
                  clear hi5 hk5 hLe
                  go_wp2
                  refine ⟨⟨lb, rfl, k5, o5, v5, _, _, HI5.out, HK5.out, HL2.out.trans HLE.out⟩, ?_⟩
                  rw [HP1.out, posOf_rd HI5.out.rd]; have := HI5.out.k8; omega
              · have HX := hid (HX.out.trans (if_neg e2))
                have t2 : ((kd : Int) == 2) = false := by simp; omega
                go_wp2
                exact ⟨rfl, HK3.out, .inl ⟨_, HL.out.then HX.out, rfl⟩⟩
        · have HX := hid (HX.out.trans (num_bad h2))
          refine (number_bad hs 2 (by omega) h2 HI2.out).mono ?_
          rintro e w3 ⟨rfl, hk3⟩
          exact ⟨rfl, HK2.out.trans hk3, .inl ⟨_, HL.out.then HX.out, rfl⟩⟩
      · have HX := hid (HX.out.trans (num_bad h1))
        refine (number_bad hs 1 (by omega) h1 HI1.out).mono ?_
        rintro e w2 ⟨rfl, hk2⟩
        exact ⟨rfl, HK1.out.trans hk2, .inl ⟨_, HL.out.then HX.out, rfl⟩⟩
end
end Go.Proofs.YtaihojjocmdgbaaDoor
