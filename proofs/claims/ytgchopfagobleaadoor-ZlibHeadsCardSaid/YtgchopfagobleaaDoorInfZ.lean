import Derived.Test.YtgchopfagobleaaDoorInfR
import Derived.Test.YtgchopfagobleaaDoorInfK
import Derived.Tactics
import Derived.Tactics2
import Derived.Defers
import Derived.Recover
import Derived.Laws.Pointers
import Derived.Deep.QuietTactic
import Derived.BigQuiet
import Derived.Deep.RegionWith
import Derived.Test.YtgchopfagobleaaDoorInfA
import Derived.Test.YtgchopfagobleaaDoorRows
import Derived.Test.YtgchopfagobleaaDoorTie
import Derived.Test.YtgchopfagobleaaDoorCards
import Derived.ProofKit
import Derived.LaidMore
import Derived.OpenShut
import Derived.ChangeSame
import Derived.Stop.Joined
import Derived.SevenTiedAt
/- Inflate, plain: the machine goes on; what its errors are. No program in it. -/
namespace Go.Proofs.YtgchopfagobleaaDoor
set_option linter.unusedVariables false
def Fwd (s : ByteArray) (n0 : Nat) (x : IOut) : Prop := (∃ e, x = .bad e ∧ e ≠ 0) ∨ (n0 ≤ x.pos ∧ x.pos ≤ 8 * s.size ∧ ∀ e, x ≠ .bad e)
theorem Fwd.bad {s : ByteArray} {n0 : Nat} {e : Int} (h : e ≠ 0) : Fwd s n0 (.bad e) := .inl ⟨e, rfl, h⟩
theorem Fwd.st {s : ByteArray} {n0 : Nat} {m : IMode} {k : Nat} {out : List UInt8} (h : n0 ≤ k) (h8 : k ≤ 8 * s.size) : Fwd s n0 (.go ⟨m, k, out⟩) := .inr ⟨h, h8, fun e h => by cases h⟩
theorem Fwd.aft {s : ByteArray} {n0 : Nat} {last : Bool} {k : Nat} {out : List UInt8} (h : n0 ≤ k) (h8 : k ≤ 8 * s.size) : Fwd s n0 (aft last k out) := by
  cases last
  · exact .st h h8
  · exact .inr ⟨h, h8, fun e h => by cases h⟩
theorem num_fwd {s : ByteArray} {n0 k n : Nat} {f : Nat → Nat → IOut} (hk : n0 ≤ k) (hf : ∀ v k', k' = k + n → n0 ≤ k' → k' ≤ 8 * s.size → Fwd s n0 (f v k')) : Fwd s n0 (num s k n f) := by
  by_cases h : k + n ≤ 8 * s.size
  · rw [num_ok h]; exact hf _ _ rfl (by omega) h
  · rw [num_bad h]; exact .bad (by decide)
theorem sym1_fwd {s : ByteArray} {l : List Int} {n0 k : Nat} {f : Nat → Nat → IOut} (hk : n0 ≤ k) (h8 : k ≤ 8 * s.size) (hf : ∀ v k', n0 ≤ k' → k' ≤ 8 * s.size → Fwd s n0 (f v k')) : Fwd s n0 (sym1 s l k f) := by
  by_cases h0 : nextE l s k = 0
  · rw [sym1_ok h0]
    have := next_more h0 h8
    exact hf _ _ (by omega) this.2
  · rw [sym1_bad h0]; exact .bad h0
theorem ite_fwd {s : ByteArray} {n0 : Nat} {c : Prop} [Decidable c] {x y : IOut} (h : c → Fwd s n0 x) (k : ¬ c → Fwd s n0 y) : Fwd s n0 (if c then x else y) := by
  by_cases hc : c
  · rw [if_pos hc]; exact h hc
  · rw [if_neg hc]; exact k hc
theorem stored_fwd {s : ByteArray} {lim : Nat} {last : Bool} {k n0 : Nat} {out : List UInt8} (hk : n0 ≤ k) : Fwd s n0 (stStored s lim last k out) := by
  have h3 : (3 : Int) ≠ 0 := by decide
  have hu : k ≤ upK k := by unfold upK; omega
  have hu8 := upK_8 k
  unfold stStored
  refine num_fwd (by omega) fun n k3 e3 _ h3' => num_fwd (by omega) fun m k4 e4 h4 h4' => ite_fwd (fun _ => ite_fwd (fun hq => ite_fwd (fun _ => .bad (by decide)) fun _ => .aft (by omega) (by omega)) fun _ => .bad (by decide)) fun _ => .bad h3
theorem step_fwd (s : ByteArray) (lim : Nat) (st : ISt) (h8 : st.k ≤ 8 * s.size) : Fwd s st.k (step s lim st) := by
  obtain ⟨m, k, out⟩ := st
  have h8 : k ≤ 8 * s.size := h8
  show Fwd s k _
  have hr := Nat.le_refl k
  have h3 : (3 : Int) ≠ 0 := by decide
  cases m with
  | top =>
    rw [step_top]
    unfold stTop
    refine num_fwd hr fun b k1 _ h1 _ => num_fwd h1 fun kind k2 _ h2 h2' => ite_fwd (fun _ => stored_fwd h2) fun _ => ite_fwd (fun _ => .st h2 h2') fun _ => ite_fwd (fun _ => ?_) fun _ => .bad h3
    unfold stHead
    exact num_fwd h2 fun a k3 _ h3' _ => num_fwd h3' fun b k4 _ h4 _ => num_fwd h4 fun c k5 _ h5 h5' => ite_fwd (fun _ => .st h5 h5') fun _ => .bad h3
  | hdr last n d g i l =>
    rw [step_hdr]
    unfold stHdr
    exact ite_fwd (fun _ => num_fwd hr fun _ _ _ h h' => .st h h') fun _ => ite_fwd (fun _ => .st hr h8) fun h => .bad h
  | seq last n d t l =>
    rw [step_seq]
    unfold stSeq stPut
    refine ite_fwd (fun _ => sym1_fwd hr h8 fun x k1 h1 h1' => ite_fwd (fun _ => ite_fwd (fun _ => .bad h3) fun _ => ?_) fun _ => ite_fwd (fun _ => ?_) fun _ => ite_fwd (fun _ => ?_) fun _ => ?_) fun _ => ite_fwd (fun _ => .bad h3) fun _ => ite_fwd (fun _ => ite_fwd (fun _ => .st hr h8) fun h => .bad h) fun h => .bad h
    · exact num_fwd h1 fun _ _ _ h h' => ite_fwd (fun _ => .st h h') fun _ => .bad h3
    · exact num_fwd h1 fun _ _ _ h h' => ite_fwd (fun _ => .st h h') fun _ => .bad h3
    · exact num_fwd h1 fun _ _ _ h h' => ite_fwd (fun _ => .st h h') fun _ => .bad h3
    · exact ite_fwd (fun _ => .st h1 h1') fun _ => .bad h3
  | sym last lt dt =>
    rw [step_sym]
    unfold stSym stMatch
    exact sym1_fwd hr h8 fun x k1 h1 h1' => ite_fwd (fun _ => .aft h1 h1') fun _ => ite_fwd (fun _ => ite_fwd (fun _ => .bad (by decide)) fun _ => .st h1 h1') fun _ => ite_fwd (fun _ => .bad h3) fun _ => num_fwd h1 fun v k2 _ h2 h2' => sym1_fwd h2 h2' fun y k3 h3' h3'' => ite_fwd (fun _ => .bad h3) fun _ => num_fwd h3' fun u k4 _ h4 h4' => ite_fwd (fun _ => .bad h3) fun _ => ite_fwd (fun _ => .bad (by decide)) fun _ => .st h4 h4'
theorem itr_fwd (s : ByteArray) (lim n0 : Nat) : ∀ (n : Nat) (x : IOut), Fwd s n0 x → Fwd s n0 (itr s lim n x)
  | 0, x, h => h
  | n + 1, x, h => by
    rcases h with ⟨e, rfl, he⟩ | ⟨h1, h2, h3⟩
    · rw [itr_bad]; exact .bad he
    · refine itr_fwd s lim n0 n _ ?_
      cases x with
      | go st =>
        rcases step_fwd s lim st h2 with h | ⟨a, b, c⟩
        · exact .inl h
        · exact .inr ⟨Nat.le_trans h1 a, b, c⟩
      | fin k o => exact .inr ⟨h1, h2, h3⟩
      | bad e => exact absurd rfl (h3 e)
theorem leads_fwd {s : ByteArray} {lim : Nat} {m : IMode} {k : Nat} {out : List UInt8} (h8 : k ≤ 8 * s.size) {y : IOut} (h : Leads s lim (.go ⟨m, k, out⟩) y) : Fwd s k y := by
  obtain ⟨n, rfl⟩ := h
  exact itr_fwd s lim k n _ (.st (Nat.le_refl _) h8)
theorem leads_bad {s : ByteArray} {lim : Nat} {m : IMode} {k : Nat} {out : List UInt8} (h8 : k ≤ 8 * s.size) {e : Int} (h : Leads s lim (.go ⟨m, k, out⟩) (.bad e)) : e ≠ 0 := by
  rcases leads_fwd h8 h with ⟨e', h1, h2⟩ | ⟨_, _, h3⟩
  · injection h1 with h1; rw [h1]; exact h2
  · exact absurd rfl (h3 e)
theorem aft_pos_eq (last : Bool) (k : Nat) (out : List UInt8) : (aft last k out).pos = k := by cases last <;> rfl
theorem aft_not_bad (last : Bool) (k : Nat) (out : List UInt8) (e : Int) : aft last k out ≠ .bad e := by cases last <;> (intro h; cases h)
theorem leads_aft {s : ByteArray} {lim : Nat} {m : IMode} {k : Nat} {out : List UInt8} (h8 : k ≤ 8 * s.size) {last : Bool} {k' : Nat} {out' : List UInt8} (h : Leads s lim (.go ⟨m, k, out⟩) (aft last k' out')) : k ≤ k' := by
  rcases leads_fwd h8 h with ⟨e', h1, h2⟩ | ⟨h1, _, _⟩
  · exact absurd h1 (aft_not_bad _ _ _ _)
  · rwa [aft_pos_eq] at h1
/-- A stored block ends behind itself, or is none. -/
theorem stored_cases (s : ByteArray) (lim : Nat) (last : Bool) (k : Nat) (out : List UInt8) : (∃ e, stStored s lim last k out = .bad e) ∨ ∃ k' out', stStored s lim last k out = aft last k' out' ∧ k ≤ k' := by
  obtain ⟨q, hq⟩ : ∃ q, upK k = 8 * q := ⟨upK k / 8, upK_8 k⟩
  have hu : k ≤ upK k := by unfold upK; omega
  unfold stStored
  by_cases h1 : upK k + 16 ≤ 8 * s.size
  · rw [num_ok h1]
    by_cases h2 : upK k + 16 + 16 ≤ 8 * s.size
    · rw [num_ok h2]
      split
      · split
        · split
          · exact .inl ⟨_, rfl⟩
          · exact .inr ⟨_, _, rfl, by omega⟩
        · exact .inl ⟨_, rfl⟩
      · exact .inl ⟨_, rfl⟩
    · rw [num_bad h2]; exact .inl ⟨_, rfl⟩
  · rw [num_bad h1]; exact .inl ⟨_, rfl⟩
end Go.Proofs.YtgchopfagobleaaDoor
/- All blocks (contract of the method). -/
namespace Go.Proofs.YtgchopfagobleaaDoor
open Go.RowKit Go.Conc
set_option linter.unusedVariables false
/-- What blocks leaves. -/
def RunC (B : Nat) (w : World) (fb g : Nat) (s : ByteArray) (lim : Nat) (k : Nat) (out : List UInt8) (e : Ending) (w' : World) : Prop :=
  KT TI B w w' ∧ ((∃ er, Leads s lim (.go ⟨.top, k, out⟩) (.bad er) ∧ e = pan er) ∨ (∃ k' out' v pl pd, Leads s lim (.go ⟨.top, k, out⟩) (.fin k' out') ∧ e = .returned (.tuple #[]) ∧ Inf B w' fb g s k' out' lim v pl pd))
/-- How a round stands. -/
def BlkIn (B : Nat) (w : World) (fb g : Nat) (s : ByteArray) (lim : Nat) (k : Nat) (out : List UInt8) (lb : Bool) (wr : World) : Prop :=
  ∃ k1 out1 v1 pl pd, Inf B wr fb g s k1 out1 lim v1 pl pd ∧ KT TI B w wr ∧ Leads s lim (.go ⟨.top, k, out⟩) (aft lb k1 out1)
theorem top_eq (s : ByteArray) (lim k : Nat) (out : List UInt8) : step s lim ⟨.top, k, out⟩ =
  num s k 1 fun b k1 => num s k1 2 fun kind k2 =>
    if kind = 0 then stStored s lim (b == 1) k2 out
    else if kind = 1 then .go ⟨.sym (b == 1) fixL fixD, k2, out⟩
    else if kind = 2 then stHead s (b == 1) k2 out
    else .bad 3 := rfl
theorem did_aft_inv {B fb g : Nat} {s : ByteArray} {lim : Nat} {pl pd : Option Addr} {x : IOut} {w w' : World} {e : Ending} {last : Bool} {k : Nat} {out : List UInt8} (h : Did B fb g s lim pl pd x w e w') (hx : x = aft last k out) : KT TI B w w' ∧ e = .returned (.tuple #[]) ∧ ∃ v, Inf B w' fb g s k out lim v pl pd := by
  subst hx
  cases last <;> exact h
theorem did_bad_inv {B fb g : Nat} {s : ByteArray} {lim : Nat} {pl pd : Option Addr} {x : IOut} {w w' : World} {e : Ending} {er : Int} (h : Did B fb g s lim pl pd x w e w') (hx : x = .bad er) : KT TI B w w' ∧ e = pan er := by
  subst hx; exact h
theorem beq_cast_one (x : Nat) : (((x : Nat) : Int) == 1) = (x == 1) := by
  by_cases h : x = 1
  · subst h; rfl
  · have h2 : ¬ (x : Int) = 1 := by omega
    rw [beq_eq_false_iff_ne.2 h2, beq_eq_false_iff_ne.2 h]
theorem leads_one {s : ByteArray} {lim : Nat} {st : ISt} {y : IOut} (h : step s lim st = y) : Leads s lim (.go st) y := h ▸ Leads.one st
theorem head_fwd {s : ByteArray} {last : Bool} {k n0 : Nat} {out : List UInt8} (hk : n0 ≤ k) : Fwd s n0 (stHead s last k out) := by
  unfold stHead
  exact num_fwd hk fun a k3 _ h3' _ => num_fwd h3' fun b k4 _ h4 _ => num_fwd h4 fun c k5 _ h5 h5' => ite_fwd (fun _ => .st h5 h5') fun _ => .bad (by decide)
theorem head_leads {s : ByteArray} {lim : Nat} {last : Bool} {k : Nat} {out : List UInt8} {m : IMode} {k' : Nat} {out' : List UInt8} (h : Leads s lim (stHead s last k out) (.go ⟨m, k', out'⟩)) : k ≤ k' := by
  obtain ⟨n, h⟩ := h
  have := itr_fwd s lim k n _ (head_fwd (last := last) (out := out) (Nat.le_refl k))
  rw [h] at this
  rcases this with ⟨e, h, _⟩ | ⟨h, _⟩
  · cases h
  · exact h
theorem FixAt.tabs {w : World} {B tl td : Nat} (h : FixAt w B (some ⟨tl, 0, none⟩) (some ⟨td, 0, none⟩)) : TabOf w B tl fixL ∧ TabOf w B td fixD := by
  rcases h with ⟨h, _⟩ | ⟨a, b, h1, h2, h3, h4⟩
  · cases h
  · injection h1 with h1
    injection h1 with h1
    injection h2 with h2
    injection h2 with h2
    subst h1 h2
    exact ⟨h3, h4⟩
section
variable {B : Nat} {w : World} {fb g : Nat} {s : ByteArray} {k : Nat} {out : List UInt8} {lim : Nat} {v : Value} {pl pd : Option Addr}
theorem fixed_any (h : Inf B w fb g s k out lim v pl pd) :
    Calls Tryd.prog 39 #[.pointer (some ⟨fb, 0, none⟩)] w (FixC B w fb g s k out lim v) := by
  rcases h.fix with ⟨rfl, rfl⟩ | ⟨tl, td, rfl, rfl, _⟩
  · exact fixed_new h
  · exact fixed_old tl td h
set_option maxRecDepth 100000 in
set_option maxHeartbeats 4000000 in
theorem blocks_any (hs : s.size ≤ 281474976710656) (hl : lim ≤ 1073741824) (h : Inf B w fb g s k out lim v pl pd) :
    Calls Tryd.prog 23 #[.pointer (some ⟨fb, 0, none⟩)] w (RunC B w fb g s lim k out) := by
  have HI := hid h
  have HK8 := hid h.k8
  clear h
  go_enter Tryd.func23, Tryd.ntmps23
  go_wp2_with fail
  go_loopw [2] (fun b wr => ∃ lb : Bool, b = .bool lb ∧ BlkIn B w fb g s lim k out lb wr) (fun _ wr => 8 * s.size - posOf wr g)
  case atStart => exact ⟨false, rfl, k, out, v, pl, pd, HI.out, KT.refl _, Leads.refl _⟩
  case round =>
    rename World => wr
    obtain ⟨lb0, rfl, k1, out1, v1, pl1, pd1, hi1, hk1, hL⟩ := hrel
    have HI1 := hid hi1
    have HK1 := hid hk1
    have HL := hid hL
    have HP1 := hid (posOf_rd hi1.rd)
    clear hi1 hk1 hL
    cases lb0 with
    | true =>
      go_wp2
      go_end0
      exact ⟨HK1.out, .inr ⟨_, _, _, _, _, HL.out, rfl, HI1.out⟩⟩
    | false =>
      have HX := hid (top_eq s lim k1 out1)
      have HL : Hid (Leads s lim (.go ⟨.top, k, out⟩) (.go ⟨.top, k1, out1⟩)) := HL
      go_wp2_with fail
      by_cases h1 : k1 + 1 ≤ 8 * s.size
      · have HX := hid (HX.out.trans (num_ok h1))
        refine (number_ok hs 1 (by omega) h1 HI1.out).mono ?_
        rintro e w2 ⟨rfl, hi2, hk2⟩
        have HI2 := hid hi2
        have HK2 := hid (HK1.out.trans hk2)
        clear hi2 hk2
        obtain ⟨lb, hlb⟩ : ∃ lb : Bool, (bv s k1 1 == 1) = lb := ⟨_, rfl⟩
        have tlb : (((bv s k1 1 : Nat) : Int) == 1) = lb := by
          rw [← hlb]; exact beq_cast_one _
        have HY : Hid (step s lim ⟨.top, k1, out1⟩ = num s (k1 + 1) 2 fun kind k2 => if kind = 0 then stStored s lim lb k2 out1 else if kind = 1 then .go ⟨.sym lb fixL fixD, k2, out1⟩ else if kind = 2 then stHead s lb k2 out1 else .bad 3) := hid (by rw [HX.out, ← hlb])
        clear hlb HX
        generalize bv s k1 1 = bb at *
        have HX := HY
        clear HY
        go_wp2_with fail
        clear tlb
        by_cases h2 : k1 + 1 + 2 ≤ 8 * s.size
        · have HX := hid (HX.out.trans (num_ok h2))
          have hkd : bv s (k1 + 1) 2 < 4 := bv_lt s (k1 + 1) 2
          refine (number_ok hs 2 (by omega) h2 HI2.out).mono ?_
          rintro e w3 ⟨rfl, hi3, hk3⟩
          have HI3 := hid hi3
          have HK3 := hid (HK2.out.trans hk3)
          clear hi3 hk3 h2
          generalize bv s (k1 + 1) 2 = kd at *
          obtain ⟨k3, hk3⟩ : ∃ k3, k1 + 1 + 2 = k3 := ⟨_, rfl⟩
          rw [hk3] at HX HI3
          have hk13 : k1 < k3 := by omega
          clear hk3
          by_cases e0 : kd = 0
          · have HX := hid (HX.out.trans (if_pos e0))
            have t0 : ((kd : Int) == 0) = true := by simp; omega
            go_wp2_with fail
            refine (stored_any hs hl lb HI3.out).mono ?_
            intro e w4 hd
            rcases stored_cases s lim lb k3 out1 with ⟨er, he⟩ | ⟨k4, o4, he, hk4⟩
            · obtain ⟨hk5, rfl⟩ := did_bad_inv hd he
              exact ⟨rfl, HK3.out.trans hk5, .inl ⟨er, HL.out.then (HX.out.trans he), rfl⟩⟩
            · obtain ⟨hk5, rfl, v5, hi5⟩ := did_aft_inv hd he
              have HI5 := hid hi5
              have HK5 := hid (HK3.out.trans hk5)
              have HE := hid he
              clear hd he hi5 hk5
              go_wp2
              refine ⟨⟨lb, rfl, k4, o4, v5, _, _, HI5.out, HK5.out, HL.out.then (HX.out.trans HE.out)⟩, ?_⟩
              rw [HP1.out, posOf_rd HI5.out.rd]; have := HI5.out.k8; omega
          · have HX := hid (HX.out.trans (if_neg e0))
            have t0 : ((kd : Int) == 0) = false := by simp; omega
            by_cases e1 : kd = 1
            · have HX := hid (HX.out.trans (if_pos e1))
              have t1 : ((kd : Int) == 1) = true := by simp; omega
              go_wp2_with fail
              refine (fixed_any HI3.out).mono ?_
              rintro e w4 ⟨tl, td, rfl, hi4, hk4⟩
              have HI4 := hid hi4
              have HK4 := hid (HK3.out.trans hk4)
              clear hi4 hk4 e0 e1
              go_wp2_with fail
              refine (symbols_any hs hl lb fixL fixD B tl B td (IsCode.of_check fixL_code) (IsCode.of_check fixD_code) HI4.out.fix.tabs.1 HI4.out.fix.tabs.2 HI4.out).mono ?_
              rintro e w5 ⟨hk5, hx⟩
              rcases hx with ⟨er, hLe, rfl⟩ | ⟨k5, o5, v5, hLe, rfl, hi5⟩
              · exact ⟨rfl, HK4.out.trans hk5, .inl ⟨er, (HL.out.then HX.out).trans hLe, rfl⟩⟩
              · have HI5 := hid hi5
                have HK5 := hid (HK4.out.trans hk5)
                have HLE := hid hLe
                have hfw := leads_aft HI4.out.k8 hLe
                clear hi5 hk5 hLe
                go_wp2
                refine ⟨⟨lb, rfl, k5, o5, v5, _, _, HI5.out, HK5.out, (HL.out.then HX.out).trans HLE.out⟩, ?_⟩
                rw [HP1.out, posOf_rd HI5.out.rd]; have := HI5.out.k8; omega
            · have HX := hid (HX.out.trans (if_neg e1))
              have t1 : ((kd : Int) == 1) = false := by simp; omega
              by_cases e2 : kd = 2
              · have HX := hid (HX.out.trans (if_pos e2))
                have t2 : ((kd : Int) == 2) = true := by simp; omega
                go_wp2_with fail
                refine (ownCodes_any (lim := lim) hs lb HI3.out).mono ?_
                rintro e w4 ⟨hk4, hx⟩
                rcases hx with ⟨er, hLe, rfl⟩ | ⟨lt, dt, k4, tl, td, v4, hLe, rfl, hc1, hc2, hT1, hT2, hi4⟩
                · exact ⟨rfl, HK3.out.trans hk4, .inl ⟨er, HL.out.trans ((leads_one HX.out).trans hLe), rfl⟩⟩
                have HI4 := hid hi4
                have HK4 := hid (HK3.out.trans hk4)
                have HT1 := hid hT1
                have HT2 := hid hT2
                have HC1 := hid hc1
                have HC2 := hid hc2
                have HL2 := hid (HL.out.trans ((leads_one HX.out).trans hLe))
                have hfw0 : k1 < k4 := Nat.lt_of_lt_of_le hk13 (head_leads hLe)
                clear hi4 hk4 hT1 hT2 hc1 hc2 hLe e0 e1 e2
                go_wp2_with fail
                refine (symbols_any hs hl lb lt dt B tl B td (IsCode.of_check HC1.out) (IsCode.of_check HC2.out) HT1.out HT2.out HI4.out).mono ?_
                rintro e w5 ⟨hk5, hx⟩
                rcases hx with ⟨er, hLe, rfl⟩ | ⟨k5, o5, v5, hLe, rfl, hi5⟩
                · exact ⟨rfl, HK4.out.trans hk5, .inl ⟨er, HL2.out.trans hLe, rfl⟩⟩
                · have HI5 := hid hi5
                  have HK5 := hid (HK4.out.trans hk5)
                  have HLE := hid hLe
                  have hfw := leads_aft HI4.out.k8 hLe
                  clear hi5 hk5 hLe
                  go_wp2
                  refine ⟨⟨lb, rfl, k5, o5, v5, _, _, HI5.out, HK5.out, HL2.out.trans HLE.out⟩, ?_⟩
                  rw [HP1.out, posOf_rd HI5.out.rd]; have := HI5.out.k8; omega
              · have HX := hid (HX.out.trans (if_neg e2))
                have t2 : ((kd : Int) == 2) = false := by simp; omega
                go_wp2
                exact ⟨rfl, HK3.out, .inl ⟨_, HL.out.then HX.out, rfl⟩⟩
        · have HX := hid (HX.out.trans (num_bad h2))
          refine (number_bad hs 2 (by omega) h2 HI2.out).mono ?_
          rintro e w3 ⟨rfl, hk3⟩
          exact ⟨rfl, HK2.out.trans hk3, .inl ⟨_, HL.out.then HX.out, rfl⟩⟩
      · have HX := hid (HX.out.trans (num_bad h1))
        refine (number_bad hs 1 (by omega) h1 HI1.out).mono ?_
        rintro e w2 ⟨rfl, hk2⟩
        exact ⟨rfl, HK1.out.trans hk2, .inl ⟨_, HL.out.then HX.out, rfl⟩⟩
end
end Go.Proofs.YtgchopfagobleaaDoor
/- run: all blocks, and the panic that ends them recovered (contract of the method). -/
namespace Go.Proofs.YtgchopfagobleaaDoor
open Go.RowKit Go.Conc
set_option linter.unusedVariables false
theorem run_assert_int {P : Program} {w : World} (t xT : TypeId) (k : IntKind) (v : Value) (h : P.underlying t = some (.int k)) : (Instr.typeAssert (.iface t v) xT t false).run P w = .ok v w := by
  simp [Instr.typeAssert, run_underlying h, go_sem, Result.andThen]
theorem catch_panicking (p : Addr) (x er : Int) (older : List PanicEntry) (w : World) (hc : w.cell? p = some (.int .i64 x)) (hz : w.frozen? p = false) :
    CallsD Tryd.prog 22 #[.pointer (some p)] (.panicking ({ v := .iface 23 (.int .i64 er), recovered := false } :: older)) w fun e u' w' =>
      e = .returned (.tuple #[]) ∧ u' = .panicking ({ v := .iface 23 (.int .i64 er), recovered := true } :: older) ∧ w' = w.setCell p (.int .i64 er) := by
  refine callsD_of_wpS Tryd.func22 rfl fun c₀ cs hu => ?_
  apply wpS_seq
  apply wpS_region
  simp [wpOpsS, go_sem, recoverD, hu, Tryd.ntmps22, Exit.thenS]
  apply wpS_seq
  apply wpS_region
  simp [wpOpsS, go_sem, Exit.thenS]
  refine wpS_cond (t := true) (by simp [Act.eval, Array.replicate]) ?_
  simp only [if_true]
  have hta := run_assert_int (P := Tryd.prog) (w := w) 23 20 .i64 (.int .i64 er) Tryd.underlying23
  apply wpS_region
  simp [wpOpsS, go_sem, hc, hz, hta, bodyPostS, results, Tryd.results22]
theorem catch_idle (p : Addr) (w : World) :
    CallsD Tryd.prog 22 #[.pointer (some p)] .returning w fun e u' w' => e = .returned (.tuple #[]) ∧ u' = .returning ∧ w' = w := by
  refine callsD_of_wpS Tryd.func22 rfl fun c₀ cs hu => ?_
  apply wpS_seq
  apply wpS_region
  simp [wpOpsS, go_sem, recoverD, hu, Tryd.ntmps22, Exit.thenS]
  apply wpS_seq
  apply wpS_region
  simp [wpOpsS, go_sem, Exit.thenS]
  refine wpS_cond (t := false) (by simp [Act.eval, Array.replicate]) ?_
  simp only [Bool.false_eq_true, if_false]
  refine wpS_of_wp (wp_skip ?_)
  cases c₀
  simp_all [bodyPostS, results, Tryd.results22]
/-- What run leaves. -/
def RunD (B : Nat) (w : World) (fb g : Nat) (s : ByteArray) (lim : Nat) (k : Nat) (out : List UInt8) (e : Ending) (w' : World) : Prop :=
  KT TI B w w' ∧ ((∃ er, Leads s lim (.go ⟨.top, k, out⟩) (.bad er) ∧ e = .returned (.int .i64 er)) ∨ (∃ k' out' v pl pd, Leads s lim (.go ⟨.top, k, out⟩) (.fin k' out') ∧ e = .returned (.int .i64 0) ∧ Inf B w' fb g s k' out' lim v pl pd))
theorem KT.fresh1 {T : List TypeId} {B nb : Nat} {a b : World} (h : KT T B a b) (hs : a.heap.size ≤ nb) (x : Value) : KT T B a (b.setCell ⟨nb, 0, none⟩ x) :=
  ⟨h.os, h.tape, h.output, by simpa [World.setCell] using h.size, fun i hi hn => (Below.heap_setCell b ⟨nb, 0, none⟩ x i (by show i ≠ nb; omega)).trans (h.block i hi hn)⟩
section
variable {B : Nat} {w : World} {fb g : Nat} {s : ByteArray} {k : Nat} {out : List UInt8} {lim : Nat} {v : Value} {pl pd : Option Addr}
set_option maxRecDepth 100000 in
set_option maxHeartbeats 4000000 in
theorem run_any (hs : s.size ≤ 281474976710656) (hl : lim ≤ 1073741824) (h : Inf B w fb g s k out lim v pl pd) :
    Calls Tryd.prog 13 #[.pointer (some ⟨fb, 0, none⟩)] w (RunD B w fb g s lim k out) := by
  have HI := hid h
  have hmf : ∀ (fn : Fn) (first cap : Array Value) (w : World), (Instr.makeFunc fn first cap).run Tryd.prog w = .ok (.func fn first cap) w := fun _ _ _ _ => rfl
  have HW := hid (show Bw w (w.alloc (.cells #[.int .i64 0] 23)) from (Bw.refl w).alloc _)
  have HN := hid (Has.new w 23 #[.int .i64 0])
  clear h
  go_enter_defers Tryd.func13, Tryd.ntmps13
  go_wp2_with fail
  have HI1 := hid (HI.out.bw HW.out)
  obtain ⟨nb, hnb⟩ : ∃ nb, w.heap.size = nb := ⟨_, rfl⟩
  rw [hnb] at HN ⊢
  have HNB := hid hnb
  generalize w.alloc (.cells #[.int .i64 0] 23) = W1 at *
  clear hnb
  refine (blocks_any hs hl HI1.out).mono ?_
  rintro e w2 ⟨hk2, hx⟩
  have HK2 := hid ((KT.of_bw HW.out : KT TI B w W1).trans hk2)
  have HN2 := hid (hk2.has HN.out (by decide))
  have g0 : w2.cell? ⟨nb, 0, none⟩ = some (.int .i64 0) := HN2.out.cell 0
  have f0 : w2.frozen? ⟨nb, 0, none⟩ = false := HN2.out.frozen 0
  clear hk2
  rcases hx with ⟨er, hLe, rfl⟩ | ⟨k', out', v', pl', pd', hLe, rfl, hi⟩
  · refine leaves_cons (f := 22) (args := #[.pointer (some ⟨nb, 0, none⟩)]) (by simp) (by simp [go_sem]) ?_
    refine (catch_panicking ⟨nb, 0, none⟩ 0 er [] _ g0 f0).mono ?_
    rintro e u' w'' ⟨rfl, rfl, rfl⟩
    have h1 : (w2.setCell ⟨nb, 0, none⟩ (.int .i64 er)).cell? ⟨nb, 0, none⟩ = some (.int .i64 er) := (HN2.out.put 0 (.int .i64 er)).cell 0
    have HP := hid (show RunD B w fb g s lim k out (.returned (.int .i64 er)) (w2.setCell ⟨nb, 0, none⟩ (.int .i64 er)) from ⟨HK2.out.fresh1 (by have := HNB.out; omega) _, .inl ⟨er, hLe, rfl⟩⟩)
    generalize w2.setCell ⟨nb, 0, none⟩ (.int .i64 er) = W3 at *
    simp [Leaves, settle, results, Tryd.results13, go_sem, h1]
    exact HP.out
  · have HI2 := hid hi
    have HL := hid hLe
    have h1 : (w2.setCell ⟨nb, 0, none⟩ (.int .i64 0)).cell? ⟨nb, 0, none⟩ = some (.int .i64 0) := (HN2.out.put 0 (.int .i64 0)).cell 0
    have hBn : B ≤ nb := by have h1 := HI.out.gb; have h2 := Has.lt HI.out.rd; have h3 := HNB.out; omega
    have HIX := hid (HI2.out.other ((KT.refl (T := [23]) (B := B) w2).setCell (p := ⟨nb, 0, none⟩) hBn (HN2.out.hot (by decide)) (.int .i64 0)) (by decide) (by decide) (by decide) (by decide) (by decide))
    have HP := hid (show RunD B w fb g s lim k out (.returned (.int .i64 0)) (w2.setCell ⟨nb, 0, none⟩ (.int .i64 0)) from ⟨HK2.out.fresh1 (by have := HNB.out; omega) _, .inr ⟨k', out', v', pl', pd', HL.out, rfl, HIX.out⟩⟩)
    clear hi hLe hBn
    go_wp2
    refine leaves_cons (f := 22) (args := #[.pointer (some ⟨nb, 0, none⟩)]) (by simp) (by simp [go_sem]) ?_
    refine (catch_idle ⟨nb, 0, none⟩ _).mono ?_
    rintro e u' w'' ⟨rfl, rfl, rfl⟩
    generalize w2.setCell ⟨nb, 0, none⟩ (.int .i64 0) = W3 at *
    simp [Leaves, settle, results, Tryd.results13, go_sem, h1]
    exact HP.out
end
end Go.Proofs.YtgchopfagobleaaDoor
/- Inflate (contract of the function). -/
namespace Go.Proofs.YtgchopfagobleaaDoor
open Go.RowKit Go.Conc
set_option linter.unusedVariables false
def start : IOut := .go ⟨.top, 0, []⟩
/-- What Inflate tells. -/
def InfR (s : ByteArray) (lim : Int) (a : ByteArray) (n er : Int) : Prop :=
  ((lim < 0 ∨ 1073741824 < lim) ∧ a = ⟨#[]⟩ ∧ n = 0 ∧ er = 1) ∨
  ∃ L : Nat, lim = L ∧ L ≤ 1073741824 ∧ ((∃ k out, Leads s L start (.fin k out) ∧ a = ⟨out.toArray⟩ ∧ n = ((k + 7) / 8 : Nat) ∧ er = 0) ∨ (Leads s L start (.bad er) ∧ a = ⟨#[]⟩ ∧ n = 0 ∧ er ≠ 0))
/-- What Inflate leaves. -/
def InfPost (s : ByteArray) (lim : Int) (w : World) (e : Ending) (w' : World) : Prop :=
  ∃ a n er, e = .returned (.tuple #[.string a, .int .i64 n, .int .i64 er]) ∧ InfR s lim a n er ∧ Bw w w'
set_option maxRecDepth 100000 in
set_option maxHeartbeats 4000000 in
theorem inflate_out (s : ByteArray) (lim : Int) (h : lim < 0 ∨ 1073741824 < lim) (w : World) :
    Calls Tryd.prog 7 #[.string s, .int .i64 lim] w (InfPost s lim w) := by
  have HP := hid (show InfPost s lim w (.returned (.tuple #[.string ⟨#[]⟩, .int .i64 0, .int .i64 1])) w from ⟨_, _, _, rfl, .inl ⟨h, rfl, rfl, rfl⟩, Bw.refl w⟩)
  by_cases h0 : lim < 0
  · clear h
    go_enter Tryd.func7, Tryd.ntmps7
    go_wp2
    go_returns
    exact HP.out
  · have h1 : 1073741824 < lim := by omega
    have h2 : 0 ≤ lim := by omega
    clear h
    go_enter Tryd.func7, Tryd.ntmps7
    go_wp2
    go_returns
    exact HP.out
set_option maxRecDepth 100000 in
set_option maxHeartbeats 4000000 in
theorem inflate_in (s : ByteArray) (hs : s.size ≤ 281474976710656) (L : Nat) (hL : L ≤ 1073741824) (w : World) (ht : Tabs w.heap.size w) :
    Calls Tryd.prog 7 #[.string s, .int .i64 (L : Nat)] w (InfPost s L w) := by
  have HT := hid ht
  have HR := hid (newR_any s w)
  have hl0 : (0 : Int) ≤ (L : Nat) := by omega
  have hl1 : ((L : Nat) : Int) ≤ 1073741824 := by omega
  clear ht
  go_enter Tryd.func7, Tryd.ntmps7
  go_wp2_with fail
  refine HR.out.mono ?_
  rintro e w1 ⟨rfl, hr1, hb1, hz1⟩
  have HR1 := hid hr1
  have HB1 := hid hb1
  have HZ1 := hid hz1
  clear hr1 hb1 hz1
  go_wp2_with fail
  have HW := hid (show Bw w1 (w1.alloc (.cells #[.pointer (some ⟨w.heap.size, 0, none⟩), .slice none 0 0, .int .i64 (L : Nat), .pointer none, .pointer none] 37)) from (Bw.refl w1).alloc _)
  have HN := hid (Has.new w1 37 #[.pointer (some ⟨w.heap.size, 0, none⟩), .slice none 0 0, .int .i64 (L : Nat), .pointer none, .pointer none])
  have HBW := hid (HB1.out.trans HW.out)
  have HI := hid (show Inf w.heap.size (w1.alloc (.cells #[.pointer (some ⟨w.heap.size, 0, none⟩), .slice none 0 0, .int .i64 (L : Nat), .pointer none, .pointer none] 37)) w1.heap.size w.heap.size s 0 [] L (.slice none 0 0) none none from
    ⟨HN.out, HW.out.has HR1.out, World.ownsRow_nil _ _ _ _, .inl ⟨rfl, rfl⟩, Nat.le_of_lt HZ1.out, Nat.le_refl _, Nat.zero_le _, Nat.zero_le _, HT.out.kt (T := []) (D := w.heap.size) (KT.of_bw HBW.out) (Nat.le_refl _)⟩)
  generalize w1.alloc (.cells #[.pointer (some ⟨w.heap.size, 0, none⟩), .slice none 0 0, .int .i64 (L : Nat), .pointer none, .pointer none] 37) = W2 at *
  generalize w1.heap.size = fb at *
  refine (run_any hs hL HI.out).mono ?_
  rintro e w3 ⟨hk3, hx⟩
  have HK3 := hid hk3
  have HB3 := hid (show Bw w w3 from Below.trans HBW.out (hk3.below (Nat.le_refl _) (by have := HBW.out.size; exact this)))
  clear hk3
  rcases hx with ⟨er, hLe, rfl⟩ | ⟨k', out', v', pl', pd', hLe, rfl, hi⟩
  · have hne := leads_bad (Nat.zero_le _) hLe
    have t0 : (er != 0) = true := by simpa using hne
    have HP := hid (show InfPost s L w (.returned (.tuple #[.string ⟨#[]⟩, .int .i64 0, .int .i64 er])) w3 from ⟨_, _, _, rfl, .inr ⟨L, rfl, hL, .inr ⟨hLe, rfl, rfl, hne⟩⟩, HB3.out⟩)
    clear hLe hne
    go_wp2
    go_returns
    exact HP.out
  · have HI3 := hid (hi.bw ((Bw.refl w3).drewN 1))
    have HL := hid hLe
    have hk8 := hi.k8
    obtain ⟨ol, hol⟩ : ∃ ol, out'.length = ol := ⟨_, rfl⟩
    have hown := HI3.out.own
    rw [hol] at hown
    have hcv := conv_bytes (w := w3.drewN 1) hol hown
    obtain ⟨vo, vc, rfl⟩ := own_slice hown
    have c1 : w3.drew.cell? ⟨fb, 1, none⟩ = some (.slice vo ol vc) := HI3.out.has.cell 1
    have c0 : w3.drew.cell? ⟨fb, 0, none⟩ = some (.pointer (some ⟨w.heap.size, 0, none⟩)) := HI3.out.has.cell 0
    have hcv2 : (convert 27 9 (.slice vo ol vc)).run Tryd.prog w3.drew = .ok (.string ⟨out'.toArray⟩) w3.drew := hcv
    have HD := hid (show InfPost s L w (.returned (.tuple #[.string ⟨out'.toArray⟩, .int .i64 (((k' + 7) / 8 : Nat) : Int), .int .i64 0])) w3.drew from ⟨_, _, _, rfl, .inr ⟨L, rfl, hL, .inl ⟨k', out', HL.out, rfl, rfl, rfl⟩⟩, HB3.out.drewN 1⟩)
    have hq8 : IntKind.i64.wrap (((k' : Int) + 7).tdiv 8) = (((k' + 7) / 8 : Nat) : Int) := by
      rw [Int.tdiv_eq_ediv_of_nonneg (by omega), IntWalk.i64_in _ (by omega)]; omega
    have HD2 := hid (show InfPost s L w (.returned (.tuple #[.string ⟨out'.toArray⟩, .int .i64 (IntKind.i64.wrap (((k' : Int) + 7).tdiv 8)), .int .i64 0])) w3.drew by rw [hq8]; exact HD.out)
    clear hq8
    have HAT := hid (at_any w.heap.size s k' w3.drew HI3.out.rd)
    clear hi hLe hown hcv hol
    have h7 : IntKind.i64.wrap ((k' : Int) + 7) = (k' : Int) + 7 := IntWalk.i64_in _ (by omega)
    go_wp2_with fail
    go_region_with (first | (go_at_call 14; refine HAT.out.mono ?_; rintro e w4 ⟨rfl, rfl⟩))
    all_goals go_wp2
    all_goals go_returns
    all_goals exact HD2.out
theorem inflate_any (s : ByteArray) (hs : s.size ≤ 281474976710656) (lim : Int) (w : World) (ht : Tabs w.heap.size w) :
    Calls Tryd.prog 7 #[.string s, .int .i64 lim] w (InfPost s lim w) := by
  by_cases h : lim < 0 ∨ 1073741824 < lim
  · exact inflate_out s lim h w
  · obtain ⟨L, rfl⟩ := Int.eq_ofNat_of_zero_le (show 0 ≤ lim by omega)
    exact inflate_in s hs L (by omega) w ht
/-- What Inflate tells is one. -/
theorem InfR.unique {s : ByteArray} {lim : Int} {a b : ByteArray} {n m er fr : Int} (h : InfR s lim a n er) (k : InfR s lim b m fr) : a = b ∧ n = m ∧ er = fr := by
  rcases h with ⟨h0, rfl, rfl, rfl⟩ | ⟨L, rfl, hL, h⟩
  · rcases k with ⟨_, rfl, rfl, rfl⟩ | ⟨L, rfl, hL, _⟩
    · exact ⟨rfl, rfl, rfl⟩
    · omega
  · rcases k with ⟨h0, _⟩ | ⟨L', e, _, k⟩
    · omega
    · obtain rfl : L = L' := by omega
      rcases h with ⟨k1, o1, l1, rfl, rfl, rfl⟩ | ⟨l1, rfl, rfl, _⟩ <;> rcases k with ⟨k2, o2, l2, rfl, rfl, rfl⟩ | ⟨l2, rfl, rfl, _⟩
      · have := l1.unique l2 rfl rfl
        injection this with e1 e2
        subst e1 e2
        exact ⟨rfl, rfl, rfl⟩
      · have := l1.unique l2 rfl rfl
        cases this
      · have := l1.unique l2 rfl rfl
        cases this
      · have := l1.unique l2 rfl rfl
        injection this with e1
        exact ⟨rfl, rfl, e1⟩
end Go.Proofs.YtgchopfagobleaaDoor
/- Inflate: some answers, and live (contract of the function); the plain sides of the laws. -/
namespace Go.Proofs.YtgchopfagobleaaDoor
open Go.RowKit Go.Conc
set_option linter.unusedVariables false
theorem lv1 : InfR ⟨#[3, 0]⟩ 10 ⟨#[]⟩ 2 0 := .inr ⟨10, rfl, by decide, .inl ⟨10, [], Leads.of_itr 2 (by kernel_rfl), rfl, rfl, rfl⟩⟩
theorem lv2 : InfR ⟨#[1, 1, 0, 254, 255, 97, 122]⟩ 10 ⟨#[97]⟩ 6 0 := .inr ⟨10, rfl, by decide, .inl ⟨48, [97], Leads.of_itr 1 (by kernel_rfl), rfl, rfl, rfl⟩⟩
theorem lv3 : InfR ⟨#[7]⟩ 10 ⟨#[]⟩ 0 3 := .inr ⟨10, rfl, by decide, .inr ⟨Leads.of_itr 1 (by kernel_rfl), rfl, rfl, by decide⟩⟩
theorem lv4 : InfR ⟨#[1, 1, 0, 254, 255, 97]⟩ 0 ⟨#[]⟩ 0 11 := .inr ⟨0, rfl, by decide, .inr ⟨Leads.of_itr 1 (by kernel_rfl), rfl, rfl, by decide⟩⟩
theorem Tabs.bw {w w' : World} (h : Tabs w.heap.size w) (hb : Bw w w') : Tabs w'.heap.size w' := by
  have h2 := h.kt (T := []) (D := w.heap.size) (KT.of_bw hb) (Nat.le_refl _)
  have hz := hb.size
  exact ⟨⟨by have := h2.len.lt; omega, h2.len.cell⟩, ⟨by have := h2.dist.lt; omega, h2.dist.cell⟩, ⟨by have := h2.ord.lt; omega, h2.ord.cell⟩⟩
theorem inflate_is (s : ByteArray) (hs : s.size ≤ 281474976710656) (lim : Int) {a : ByteArray} {n er : Int} (hk : InfR s lim a n er) (w : World) (ht : Tabs w.heap.size w) :
    Calls Tryd.prog 7 #[.string s, .int .i64 lim] w fun e w' => e = .returned (.tuple #[.string a, .int .i64 n, .int .i64 er]) ∧ Bw w w' := by
  refine (inflate_any s hs lim w ht).mono ?_
  rintro e w' ⟨a', n', er', rfl, hr, hb⟩
  obtain ⟨rfl, rfl, rfl⟩ := hr.unique hk
  exact ⟨rfl, hb⟩
set_option maxRecDepth 100000 in
set_option maxHeartbeats 4000000 in
theorem live_any (w : World) (ht : Tabs w.heap.size w) :
    Calls Tryd.prog 6 #[] w fun e w' => e = .returned (.bool true) ∧ Bw w w' := by
  have HT := hid ht
  clear ht
  go_enter Tryd.func6, Tryd.ntmps6
  go_wp2_with fail
  refine (inflate_is _ (by decide) 10 lv1 w HT.out).mono ?_
  rintro e w1 ⟨rfl, hb1⟩
  have HB1 := hid hb1
  clear hb1
  go_wp2_with fail
  refine (inflate_is _ (by decide) 10 lv2 w1 (HT.out.bw HB1.out)).mono ?_
  rintro e w2 ⟨rfl, hb2⟩
  have HB2 := hid (HB1.out.trans hb2)
  clear hb2
  go_wp2_with fail
  refine (inflate_is _ (by decide) 10 lv3 w2 (HT.out.bw HB2.out)).mono ?_
  rintro e w3 ⟨rfl, hb3⟩
  have HB3 := hid (HB2.out.trans hb3)
  clear hb3
  go_wp2_with fail
  refine (inflate_is _ (by decide) 0 lv4 w3 (HT.out.bw HB3.out)).mono ?_
  rintro e w4 ⟨rfl, hb4⟩
  have HB4 := hid (HB3.out.trans hb4)
  clear hb4
  go_wp2
  go_returns
  exact ⟨rfl, HB4.out⟩
/-! The laws' plain sides. -/
theorem pre_append (s u : ByteArray) : Pre s (s ++ u) := ⟨u.data.toList, by simp⟩
theorem pre_extract (s : ByteArray) (m : Nat) (h : m ≤ s.size) : Pre (s.extract 0 m) s := ⟨s.data.toList.drop m, by
  have := cut_list s 0 m
  unfold cut at this
  rw [Nat.zero_add] at this
  rw [this, List.drop_zero, List.take_append_drop]⟩
theorem behind_plain {s t : ByteArray} (hp : Pre s t) {L : Nat} {a b : ByteArray} {n m e f : Int} (h : InfR s L a n e) (k : InfR t L b m f) :
    (e ≠ 0 → e = 2 ∨ f = e) ∧ (e = 0 → f = 0 ∧ a = b ∧ n = m ∧ n ≤ s.size) := by
  rcases h with ⟨h0, rfl, rfl, rfl⟩ | ⟨L1, e1, hL, h⟩
  · rcases k with ⟨_, rfl, rfl, rfl⟩ | ⟨L2, e2, _, -⟩
    · exact ⟨fun _ => .inr rfl, fun h => by omega⟩
    · omega
  · obtain rfl : L = L1 := Int.ofNat.inj e1
    rcases k with ⟨k0, _⟩ | ⟨L2, e2, _, k⟩
    · omega
    obtain rfl : L = L2 := Int.ofNat.inj e2
    have hz := hp.size
    rcases h with ⟨k1, o1, ⟨i, hi⟩, rfl, rfl, rfl⟩ | ⟨⟨i, hi⟩, rfl, rfl, hne⟩
    · refine ⟨fun h => absurd rfl h, fun _ => ?_⟩
      have h8 := itr_pos s L i start (Nat.zero_le _)
      rw [hi] at h8
      have h8 : k1 ≤ 8 * s.size := h8
      rcases itr_pre hp L i start (Nat.zero_le _) with e | e
      · rw [hi] at e; cases e
      · rw [hi] at e
        have l1 : Leads t L start (.fin k1 o1) := ⟨i, e⟩
        rcases k with ⟨k2, o2, l2, rfl, rfl, rfl⟩ | ⟨l2, rfl, rfl, _⟩
        · have := l1.unique l2 rfl rfl
          injection this with e3 e4
          subst e3 e4
          exact ⟨rfl, rfl, rfl, by omega⟩
        · have := l1.unique l2 rfl rfl
          cases this
    · refine ⟨fun _ => ?_, fun h => absurd h hne⟩
      rcases itr_pre hp L i start (Nat.zero_le _) with e | e
      · rw [hi] at e
        injection e with e
        exact .inl e
      · rw [hi] at e
        have l1 : Leads t L start (.bad _) := ⟨i, e⟩
        rcases k with ⟨k2, o2, l2, rfl, rfl, rfl⟩ | ⟨l2, rfl, rfl, _⟩
        · have := l1.unique l2 rfl rfl
          cases this
        · have := l1.unique l2 rfl rfl
          injection this with e3
          exact .inr e3.symm
theorem infR_le {s : ByteArray} {L : Int} {a : ByteArray} {n e : Int} (h : InfR s L a n e) : 0 ≤ n ∧ n ≤ s.size := by
  rcases h with ⟨h0, rfl, rfl, rfl⟩ | ⟨L1, e1, hL, ⟨k1, o1, ⟨i, hi⟩, rfl, rfl, rfl⟩ | ⟨_, rfl, rfl, hne⟩⟩
  · omega
  · have h8 := itr_pos s L1 i start (Nat.zero_le _)
    rw [hi] at h8
    have h8 : k1 ≤ 8 * s.size := h8
    omega
  · omega
/-- Cut short: 'cut short' is told. -/
theorem cut_plain {s t : ByteArray} (hp : Pre t s) {L : Nat} {a b : ByteArray} {n m f : Int} (h : InfR s L a n 0) (hlt : (t.size : Int) < n) (k : InfR t L b m f) : f = 2 := by
  rcases behind_plain hp k h with ⟨k1, k2⟩
  by_cases h0 : f = 0
  · obtain ⟨_, _, e, _⟩ := k2 h0
    have := infR_le k
    omega
  · rcases k1 h0 with h | h
    · exact h
    · exact absurd h.symm h0
theorem limits_plain {s : ByteArray} {L b : Nat} (hb : b ≤ L) {a c : ByteArray} {n m f : Int} (h : InfR s L a n 0) (k : InfR s b c m f) : (a.size ≤ b → c = a ∧ m = n ∧ f = 0) ∧ (b < a.size → f = 11) := by
  rcases h with ⟨h0, rfl, rfl, h⟩ | ⟨L1, e1, hL, ⟨k1, o1, ⟨i, hi⟩, rfl, rfl, _⟩ | ⟨_, rfl, rfl, hne⟩⟩
  · cases h
  · obtain rfl : L = L1 := Int.ofNat.inj e1
    rcases k with ⟨k0, _⟩ | ⟨L2, e2, _, k⟩
    · omega
    obtain rfl : b = L2 := Int.ofNat.inj e2
    have hsz : (⟨o1.toArray⟩ : ByteArray).size = o1.length := rfl
    rw [hsz]
    rcases itr_lim (s := s) hb i start k1 o1 (Nat.zero_le _) hi with ⟨h1, h2⟩ | ⟨h1, h2⟩
    · refine ⟨fun _ => ?_, fun h => by omega⟩
      have l1 : Leads s b start (.fin k1 o1) := ⟨i, h2⟩
      rcases k with ⟨k2, o2, l2, rfl, rfl, rfl⟩ | ⟨l2, rfl, rfl, _⟩
      · have := l1.unique l2 rfl rfl
        injection this with e3 e4
        subst e3 e4
        exact ⟨rfl, rfl, rfl⟩
      · have := l1.unique l2 rfl rfl
        cases this
    · refine ⟨fun h => by omega, fun _ => ?_⟩
      have l1 : Leads s b start (.bad 11) := ⟨i, h2⟩
      rcases k with ⟨k2, o2, l2, rfl, rfl, rfl⟩ | ⟨l2, rfl, rfl, _⟩
      · have := l1.unique l2 rfl rfl
        cases this
      · have := l1.unique l2 rfl rfl
        injection this with e3
        exact e3.symm
  · exact absurd rfl hne
theorem infR_bad {s : ByteArray} {L : Int} {a : ByteArray} {n e : Int} (h : InfR s L a n e) (he : e ≠ 0) : a = ⟨#[]⟩ ∧ n = 0 := by
  rcases h with ⟨h0, rfl, rfl, rfl⟩ | ⟨L1, e1, hL, ⟨k1, o1, _, rfl, rfl, rfl⟩ | ⟨_, rfl, rfl, hne⟩⟩
  · exact ⟨rfl, rfl⟩
  · exact absurd rfl he
  · exact ⟨rfl, rfl⟩
end Go.Proofs.YtgchopfagobleaaDoor
/- Inflate, plain: a block as it is, laid ahead. -/
namespace Go.Proofs.YtgchopfagobleaaDoor
set_option linter.unusedVariables false
/-- The five bytes in front of a block as it is, that is not the last. -/
def hd5 (k : Nat) : ByteArray := ⟨#[0, UInt8.ofNat k, UInt8.ofNat (k / 256), UInt8.ofNat (255 - k % 256), UInt8.ofNat (255 - k / 256)]⟩
theorem bytes16 (t : ByteArray) (i : Nat) (h : i + 1 < t.size) : bv t (8 * i) 16 = t[i].toNat + 256 * t[i + 1].toNat := by
  rw [show (16 : Nat) = 8 + 8 by rfl, bv_add, bv_byte t i (by omega), show 8 * i + 8 = 8 * (i + 1) by omega, bv_byte t (i + 1) h]
theorem ahead_get (u s : ByteArray) (k i : Nat) (hi : i < 5) : ∃ h : i < (hd5 k ++ u ++ s).size, (hd5 k ++ u ++ s)[i]'h = (hd5 k).data[i]'(by show i < 5; exact hi) := by
  have h5 : (hd5 k).size = 5 := rfl
  refine ⟨by simp; omega, ?_⟩
  rw [ByteArray.getElem_append_left (by simp; omega), ByteArray.getElem_append_left (by omega)]
  rfl
theorem ahead_step (u s : ByteArray) (hu : u.size ≤ 20000) (M : Nat) (hM : u.size ≤ M) : step (hd5 u.size ++ u ++ s) M ⟨.top, 0, []⟩ = .go ⟨.top, 8 * (5 + u.size), u.data.toList⟩ := by
  obtain ⟨k, hk⟩ : ∃ k, u.size = k := ⟨_, rfl⟩
  rw [hk] at hu hM ⊢
  have h5 : (hd5 k).size = 5 := rfl
  have hz : (hd5 k ++ u ++ s).size = 5 + k + s.size := by simp [h5, hk]
  obtain ⟨b0, e0⟩ := ahead_get u s k 0 (by omega)
  obtain ⟨b1, e1⟩ := ahead_get u s k 1 (by omega)
  obtain ⟨b2, e2⟩ := ahead_get u s k 2 (by omega)
  obtain ⟨b3, e3⟩ := ahead_get u s k 3 (by omega)
  obtain ⟨b4, e4⟩ := ahead_get u s k 4 (by omega)
  have hb : bv (hd5 k ++ u ++ s) (8 * 0) 8 = 0 := by rw [bv_byte _ 0 b0, e0]; rfl
  have hb1 : bv (hd5 k ++ u ++ s) 0 1 = 0 := by
    have := bv_part (hd5 k ++ u ++ s) 0 8 0 1 (by omega)
    rw [← this, show (0 : Nat) = 8 * 0 by rfl, hb]
  have hb2 : bv (hd5 k ++ u ++ s) (0 + 1) 2 = 0 := by
    have := bv_part (hd5 k ++ u ++ s) 0 8 1 2 (by omega)
    rw [← this, show (0 : Nat) = 8 * 0 by rfl, hb]
  have hn : bv (hd5 k ++ u ++ s) (8 * 1) 16 = k := by
    rw [bytes16 _ 1 b2, e1, e2]
    show (UInt8.ofNat k).toNat + 256 * (UInt8.ofNat (k / 256)).toNat = k
    simp only [UInt8.toNat_ofNat']
    omega
  have hm : bv (hd5 k ++ u ++ s) (8 * 3) 16 = 65535 - k := by
    rw [bytes16 _ 3 b4, e3, e4]
    show (UInt8.ofNat (255 - k % 256)).toNat + 256 * (UInt8.ofNat (255 - k / 256)).toNat = 65535 - k
    simp only [UInt8.toNat_ofNat']
    omega
  have hcut : cut (hd5 k ++ u ++ s) 5 k = u.data.toList := by
    rw [cut_list]
    have hl : u.data.toList.length = k := by rw [← hk]; simp
    have : (hd5 k ++ u ++ s).data.toList = (hd5 k).data.toList ++ (u.data.toList ++ s.data.toList) := by simp
    rw [this, List.drop_append_of_le_length (by show 5 ≤ 5; omega), List.drop_of_length_le (by show 5 ≤ 5; omega), List.nil_append, List.take_append_of_le_length (by omega), List.take_of_length_le (by omega)]
  rw [step_top]
  unfold stTop
  rw [num_ok (by omega), num_ok (by omega), hb1, hb2, if_pos rfl]
  unfold stStored
  rw [show upK (0 + 1 + 2) = 8 * 1 by rfl, num_ok (by omega), show 8 * 1 + 16 = 8 * 3 by rfl, num_ok (by omega), hn, hm, if_pos rfl, show (8 * 3 + 16) / 8 = 5 by rfl, if_pos (by omega), if_neg (by show ¬ M < 0 + k; omega), hcut]
  show aft false (8 * 3 + 16 + 8 * k) ([] ++ u.data.toList) = _
  rw [show 8 * 3 + 16 + 8 * k = 8 * (5 + k) by omega]
  rfl
theorem ahead_ahd (u s : ByteArray) : Ahd s (hd5 u.size ++ u ++ s) (5 + u.size) := by
  have h5 : (hd5 u.size).size = 5 := rfl
  refine ⟨by simp [h5], ?_⟩
  have hl : u.data.toList.length = u.size := by simp
  have h5l : (hd5 u.size).data.toList.length = 5 := rfl
  have : (hd5 u.size ++ u ++ s).data.toList = ((hd5 u.size).data.toList ++ u.data.toList) ++ s.data.toList := by simp
  rw [this, List.drop_append_of_le_length (by rw [List.length_append, hl, h5l]; exact Nat.le_refl _), List.drop_of_length_le (by rw [List.length_append, hl, h5l]; exact Nat.le_refl _), List.nil_append]
theorem ahead_plain {u s : ByteArray} (hu : u.size ≤ 20000) {a b : ByteArray} {n m f : Int} (h : InfR s 100000 a n 0) (k : InfR (hd5 u.size ++ u ++ s) 150000 b m f) : f = 0 ∧ b = u ++ a ∧ m = 5 + u.size + n := by
  rcases h with ⟨h0, rfl, rfl, h⟩ | ⟨L1, e1, hL, ⟨k1, o1, ⟨i, hi⟩, rfl, rfl, _⟩ | ⟨_, rfl, rfl, hne⟩⟩
  · cases h
  · obtain rfl : 100000 = L1 := Int.ofNat.inj e1
    rcases k with ⟨k0, _⟩ | ⟨L2, e2, _, k⟩
    · omega
    obtain rfl : 150000 = L2 := Int.ofNat.inj e2
    have hl : u.data.toList.length = u.size := by simp
    have hrun := itr_ahd (A := u.data.toList) (ahead_ahd u s) (L := 100000) (M := 150000) (by omega) i .top 0 [] k1 o1 hi
    rw [Nat.add_zero, List.append_nil] at hrun
    have l1 : Leads (hd5 u.size ++ u ++ s) 150000 start (.fin (8 * (5 + u.size) + k1) (u.data.toList ++ o1)) := ((Leads.refl start).then (ahead_step u s hu 150000 (by omega))).trans ⟨i, hrun⟩
    rcases k with ⟨k2, o2, l2, rfl, rfl, rfl⟩ | ⟨l2, rfl, rfl, _⟩
    · have := l1.unique l2 rfl rfl
      injection this with e3 e4
      subst e3 e4
      refine ⟨rfl, ?_, by omega⟩
      apply ByteArray.ext
      simp
    · have := l1.unique l2 rfl rfl
      cases this
  · exact absurd rfl hne
theorem infR_few {s : ByteArray} {L : Nat} {a : ByteArray} {n : Int} (h : InfR s L a n 0) : a.size ≤ L := by
  rcases h with ⟨h0, rfl, rfl, h⟩ | ⟨L1, e1, hL, ⟨k1, o1, ⟨i, hi⟩, rfl, rfl, _⟩ | ⟨_, rfl, rfl, hne⟩⟩
  · cases h
  · obtain rfl : L = L1 := Int.ofNat.inj e1
    show o1.length ≤ L
    rcases itr_lim (s := s) (Nat.le_refl L) i start k1 o1 (Nat.zero_le _) hi with ⟨h1, h2⟩ | ⟨h1, h2⟩
    · exact h1
    · rw [hi] at h2; cases h2
  · exact absurd rfl hne
end Go.Proofs.YtgchopfagobleaaDoor
/- What the listed tables give the walks: their cells; and that the program's own start meets them. -/
namespace Go.Proofs.YtgchopfagobleaaDoor
open Go.ChangeShapes Go.WideShapes Go.ChangeAt Go.WideMaps Go.WideElems Go.RowKit
theorem gLen : Tryd.prog.globalNamed "mortise/inflate.lengths" = some 1 := by kernel_rfl
theorem tLen : (Tryd.prog.globals[1]?).map (·.type) = some 113 := by kernel_rfl
theorem gDist : Tryd.prog.globalNamed "mortise/inflate.distances" = some 2 := by kernel_rfl
theorem tDist : (Tryd.prog.globals[2]?).map (·.type) = some 115 := by kernel_rfl
theorem gOrd : Tryd.prog.globalNamed "mortise/inflate.order" = some 0 := by kernel_rfl
theorem tOrd : (Tryd.prog.globals[0]?).map (·.type) = some 102 := by kernel_rfl
theorem cInt : Tryd.prog.cellsOf 3 = 1 := by kernel_rfl
theorem cRow : Tryd.prog.cellsOf 112 = 2 := by kernel_rfl
theorem own : ownKnob Tryd.prog.godebug = none := by kernel_rfl
theorem laidOut : laidOutB Tryd.prog = true := by kernel_rfl
theorem door_met (os : Os) (args : Array Value) : laidMetH Tryd.prog Rows.inflateReadsRow.laid ((World.doorLaid Tryd.prog 400 os).forCall (fun _ _ => 0) ⟨#[], args, []⟩).memory :=
  laidMetH_of_parts3 (fuel := 8) (laidMet_of_run' 8 (by kernel_rfl) (by kernel_rfl)) (by kernel_rfl) (by kernel_rfl)
/-- What a listed array of ints holds. -/
theorem ints_laid {W : World} {base : Nat} {spare : Nat → Bool} {held : Bool} {H : Type} {enc : TypeId × Value → H} {n m : Nat} {t : TypeId} {cs : List Value} {ns : List Int} {q : List MemPlace} (ht : Tryd.prog.underlying t = some (.array n 3))
    (h : DataW.trod enc Tryd.prog W base spare held m t cs = some (.agg (ns.map fun x => .lit (.int .i64 x)), q)) (hn : ns.length = n) : ∀ i (hi : i < ns.length), cs[i]? = some (.int .i64 ns[i]) := by
  obtain ⟨xs, m1, rfl, hx1, hlen, hn3, hel⟩ := DataW.trod_array ht h
  obtain ⟨hl, _⟩ := Prod.mk.inj hx1
  have hl2 := DataW.agg.inj hl
  intro k hk
  have h1 := hel k (by omega)
  have hkx : k < xs.length := by omega
  rw [List.getElem?_eq_getElem hkx, cInt, Nat.mul_one] at h1
  obtain ⟨z, e1, e2, _⟩ := DataW.trod_int Tryd.underlying3 h1
  have h3 : (xs.map fun x => x.1)[k]? = some (.lit (.int .i64 z)) := by rw [List.getElem?_map, List.getElem?_eq_getElem hkx, e2]; rfl
  rw [← hl2, List.getElem?_map, List.getElem?_eq_getElem hk] at h3
  have h5 : ns[k] = z := by
    have := Option.some.inj h3
    simpa using this
  have h8 := congrArg (fun l => l[0]?) e1
  simp only [List.getElem?_take, List.getElem?_drop, Nat.add_zero] at h8
  rw [h5]
  simpa using h8
/-- What a listed array of rows holds. -/
theorem rows_laid {W : World} {base : Nat} {spare : Nat → Bool} {held : Bool} {H : Type} {enc : TypeId × Value → H} {n m : Nat} {t : TypeId} {cs : List Value} {ns : List (Nat × Nat)} {q : List MemPlace} (ht : Tryd.prog.underlying t = some (.array n 112))
    (h : DataW.trod enc Tryd.prog W base spare held m t cs = some (.agg (ns.map fun x => .agg [.lit (.int .i64 (x.1 : Nat)), .lit (.int .i64 (x.2 : Nat))]), q)) (hn : ns.length = n) :
    ∀ i (hi : i < ns.length), cs[i * 2]? = some (.int .i64 (ns[i].1 : Nat)) ∧ cs[i * 2 + 1]? = some (.int .i64 (ns[i].2 : Nat)) := by
  obtain ⟨xs, m1, rfl, hx1, hlen, hn3, hel⟩ := DataW.trod_array ht h
  obtain ⟨hl, _⟩ := Prod.mk.inj hx1
  have hl2 := DataW.agg.inj hl
  intro k hk
  have h1 := hel k (by omega)
  have hkx : k < xs.length := by omega
  rw [List.getElem?_eq_getElem hkx, cRow] at h1
  obtain ⟨y0, y1, m2, e1, e2, e3, e4⟩ := trod_struct2 Tryd.underlying112 h1
  simp only [cInt] at e3 e4
  obtain ⟨z0, f1, f2, _⟩ := DataW.trod_int Tryd.underlying3 e3
  obtain ⟨z1, g1, g2, _⟩ := DataW.trod_int Tryd.underlying3 e4
  have h3 : (xs.map fun x => x.1)[k]? = some (.agg [.lit (.int .i64 z0), .lit (.int .i64 z1)]) := by
    rw [List.getElem?_map, List.getElem?_eq_getElem hkx, e1, f2, g2]; rfl
  rw [← hl2, List.getElem?_map, List.getElem?_eq_getElem hk] at h3
  have h5 : (ns[k].1 : Int) = z0 ∧ (ns[k].2 : Int) = z1 := by
    have := Option.some.inj h3
    simpa using this
  have h8 := congrArg (fun l => l[0]?) f1
  have h9 := congrArg (fun l => l[0]?) g1
  simp only [List.getElem?_take, List.getElem?_drop, Nat.add_zero] at h8 h9
  rw [h5.1, h5.2]
  exact ⟨by simpa using h8, by simpa using h9⟩
theorem tabs_of {W : World} (h : laidMetH Tryd.prog Rows.inflateReadsRow.laid W) : Tabs W.heap.size W := by
  rw [MakeChecks.laidMetH_plain _ _ _ (by kernel_rfl)] at h
  obtain ⟨ps, ⟨g0, t0, cs0, f0, p0, q0, hg0, ht0, hv0, hd0, x0, _⟩, _, _⟩ := h
  obtain ⟨g1, t1, cs1, f1, p1, q1, hg1, ht1, hv1, hd1, x1, _⟩ := x0
  obtain ⟨g2, t2, cs2, f2, p2, q2, hg2, ht2, hv2, hd2, x2, _⟩ := x1
  obtain rfl := Option.some.inj (gLen.symm.trans hg0)
  obtain rfl := Option.some.inj (tLen.symm.trans ht0)
  obtain rfl := Option.some.inj (gDist.symm.trans hg1)
  obtain rfl := Option.some.inj (tDist.symm.trans ht1)
  obtain rfl := Option.some.inj (gOrd.symm.trans hg2)
  obtain rfl := Option.some.inj (tOrd.symm.trans ht2)
  have r0 := rows_laid (ns := lenT) (n := 29) Tryd.underlying113 hd0 rfl
  have r1 := rows_laid (ns := distT) (n := 30) Tryd.underlying115 hd1 rfl
  have r2 := ints_laid (ns := ordL.map fun x => ((x : Nat) : Int)) (n := 19) Tryd.underlying102 hd2 rfl
  have c0 : ∀ i, i < 58 → W.cell? ⟨1, i, none⟩ = some (lenC i) := fun i hi => by
    rw [World.var?_cell hg0 hv0 i]
    have h := r0 (i / 2) (by show i / 2 < 29; omega)
    unfold lenC lenR
    rw [List.getD_eq_getElem?_getD, List.getElem?_eq_getElem (show i / 2 < lenT.length by show i / 2 < 29; omega)]
    by_cases h2 : i % 2 = 0
    · rw [if_pos h2]
      have := h.1
      rw [show i / 2 * 2 = i by omega] at this
      simpa using this
    · rw [if_neg h2]
      have := h.2
      rw [show i / 2 * 2 + 1 = i by omega] at this
      simpa using this
  have c1 : ∀ i, i < 60 → W.cell? ⟨2, i, none⟩ = some (distC i) := fun i hi => by
    rw [World.var?_cell hg1 hv1 i]
    have h := r1 (i / 2) (by show i / 2 < 30; omega)
    unfold distC distR
    rw [List.getD_eq_getElem?_getD, List.getElem?_eq_getElem (show i / 2 < distT.length by show i / 2 < 30; omega)]
    by_cases h2 : i % 2 = 0
    · rw [if_pos h2]
      have := h.1
      rw [show i / 2 * 2 = i by omega] at this
      simpa using this
    · rw [if_neg h2]
      have := h.2
      rw [show i / 2 * 2 + 1 = i by omega] at this
      simpa using this
  have c2 : ∀ i, i < 19 → W.cell? ⟨0, i, none⟩ = some (ordC i) := fun i hi => by
    rw [World.var?_cell hg2 hv2 i]
    have h := r2 i (by show i < 19; omega)
    unfold ordC
    rw [List.getD_eq_getElem?_getD, List.getElem?_eq_getElem (show i < ordL.length by show i < 19; omega)]
    simpa using h
  exact ⟨⟨cell_lt (c0 0 (by omega)), c0⟩, ⟨cell_lt (c1 0 (by omega)), c1⟩, ⟨cell_lt (c2 0 (by omega)), c2⟩⟩
end Go.Proofs.YtgchopfagobleaaDoor
