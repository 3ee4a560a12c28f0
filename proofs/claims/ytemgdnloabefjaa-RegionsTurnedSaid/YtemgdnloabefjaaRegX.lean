/- A set and the document's, side by side, or a set alone: what one Add of each leaves. -/
import Derived.Test.YtemgdnloabefjaaRegV
import Derived.Test.YtemgdnloabefjaaRegW
namespace Go.Proofs.Ytemgdnloabefjaa
open Go.RowKit Go.Conc
set_option linter.unusedVariables false
/-- The document's set, none of whose blocks is P's. -/
def RefN (P : Nat → Prop) (w : World) (g : Nat) (L : List PartR) : Prop :=
  ∃ rl rx, Has w g 28 #[rl, rx] ∧ ¬ P g ∧ (w.ownsRow 0 31 2 rl L.length (refSpans L) ∧ ∀ b, rl.ownBlock = some b → ¬ P b) ∧ (w.ownsRow 0 3 1 rx L.length (refInts L) ∧ ∀ b, rx.ownBlock = some b → ¬ P b)
theorem RefN.at {P : Nat → Prop} {w : World} {g : Nat} {L : List PartR} (h : RefN P w g L) : RefAt w g L := by
  obtain ⟨rl, rx, h1, _, h2, h3⟩ := h
  exact ⟨rl, rx, h1, h2.1, h3.1⟩
theorem RefN.lt {P : Nat → Prop} {w : World} {g : Nat} {L : List PartR} (h : RefN P w g L) : g < w.heap.size := by
  obtain ⟨rl, rx, h1, _⟩ := h
  exact h1.lt
theorem RefN.keep {P F : Nat → Prop} {w w' : World} {g : Nat} {L : List PartR} (h : RefN P w g L) (hk : Keeps P w w') (hF : ∀ i, i < w.heap.size → F i → P i) : RefN F w' g L := by
  obtain ⟨rl, rx, h1, h2, h3, h4⟩ := h
  exact ⟨rl, rx, hk.has h1 h2, fun e => h2 (hF _ h1.lt e), ⟨own_keep h3.1 fun b hb => hk.block b (own_lt h3.1 hb) (h3.2 b hb), fun b hb e => h3.2 b hb (hF b (own_lt h3.1 hb) e)⟩, ⟨own_keep h4.1 fun b hb => hk.block b (own_lt h4.1 hb) (h4.2 b hb), fun b hb e => h4.2 b hb (hF b (own_lt h4.1 hb) e)⟩⟩
theorem own_low' {w : World} {C n size : Nat} {t : TypeId} {v : Value} {xs : List Value} (h : w.ownsRow C t size v n xs) : w.ownsRow 0 t size v n xs := by
  refine ⟨h.1, ?_⟩
  rcases h.2 with ⟨rfl, h0⟩ | ⟨g', cap, cur, rfl, h1, h2⟩
  · exact .inl ⟨rfl, h0⟩
  · exact .inr ⟨g', cap, cur, rfl, Nat.zero_le _, h2⟩
theorem RefNew.refN {P : Nat → Prop} {w w' : World} {g : Nat} {L : List PartR} (h : RefNew w w' g L) (hg : ¬ P g) : RefN (fun i => P i ∧ i < w.heap.size) w' g L := by
  obtain ⟨rl, rx, h1, h2, h3⟩ := h
  exact ⟨rl, rx, h1, fun e => hg e.1, ⟨own_low' h2, fun b hb e => by have := own_ge h2 hb; omega⟩, ⟨own_low' h3, fun b hb e => by have := own_ge h3 hb; omega⟩⟩
/-- What Add of the document leaves. -/
def RefPut (w w' : World) (g : Nat) (L L' : List PartR) : Prop := (L' = L ∧ Bw w w') ∨ (RefNew w w' g L' ∧ Keeps (fun i => i = g) w w')
theorem clash_not {L : List PartR} {lo hi : Nat} (hR : Rising L) (hsp : spB lo hi = true) (h : clashB L lo hi = false) : ∀ y ∈ L, ¬ (lo < y.hi ∧ y.lo < hi) := fun y hy hm => by
  rw [clash_eq hR] at h
  have : rclashB L lo hi = true := by
    unfold rclashB
    rw [hsp, Bool.true_and]
    refine List.any_eq_true.2 ⟨y, hy, ?_⟩
    unfold hitB
    rw [decide_eq_true (by omega), decide_eq_true (by omega)]
    rfl
  rw [this] at h
  cases h
set_option maxRecDepth 100000 in
set_option maxHeartbeats 4000000 in
theorem radd_clash (g : Nat) (L : List PartR) (h9 : L.length ≤ 1000) (lo hi x : Int) (w : World) (hs : RefAt w g L) (hsp : spB lo hi = true) (hc : rclashB L lo hi = true) :
    Calls Try.prog 18 #[.pointer (some ⟨g, 0, none⟩), .int .i64 lo, .int .i64 hi, .int .i64 x] w fun e w' => e = .returned (.int .i64 5) ∧ Bw w w' := by
  have HS := hid (fun W => rspan_any lo hi W)
  have HC := hid (rclash_any g L (by omega) lo hi w hs)
  rw [hsp] at HS
  rw [hc] at HC
  clear hsp hc hs
  go_enter Try.func18, Try.ntmps18
  go_wp2_with fail
  refine (HS.out w).mono ?_
  rintro e w1 ⟨rfl, rfl⟩
  go_wp2_with fail
  refine HC.out.mono ?_
  rintro e w2 ⟨rfl, z0, hw2⟩
  have HB2 : Hid (Bw w1 w2) := hid (by rw [hw2]; exact (Bw.refl w1).drewN z0)
  clear hw2
  go_wp2
  go_returns
  exact ⟨rfl, HB2.out⟩
set_option maxRecDepth 100000 in
set_option maxHeartbeats 4000000 in
theorem radd_bad (g : Nat) (lo hi x : Int) (w : World) (hsp : spB lo hi = false) :
    Calls Try.prog 18 #[.pointer (some ⟨g, 0, none⟩), .int .i64 lo, .int .i64 hi, .int .i64 x] w fun e w' => e = .returned (.int .i64 1) ∧ Bw w w' := by
  have HS := hid (fun W => rspan_any lo hi W)
  rw [hsp] at HS
  clear hsp
  go_enter Try.func18, Try.ntmps18
  go_wp2_with fail
  refine (HS.out w).mono ?_
  rintro e w1 ⟨rfl, rfl⟩
  go_wp2
  go_returns
  exact ⟨rfl, Bw.refl _⟩
theorem radd_any (g : Nat) (L : List PartR) (hR : Rising L) (h9 : L.length ≤ 1000) (lo hi : Int) (x : Int) (w : World) (hs : RefAt w g L) :
    Calls Try.prog 18 #[.pointer (some ⟨g, 0, none⟩), .int .i64 lo, .int .i64 hi, .int .i64 x] w fun e w' => e = .returned (.int .i64 (addE L lo hi)) ∧ RefPut w w' g L (addL L lo hi x) := by
  by_cases hsp : spB lo hi = true
  · by_cases hc : clashB L lo hi = true
    · have e1 : addE L lo hi = 5 := by unfold addE; rw [if_pos hsp, if_pos hc]
      have e2 : addL L lo hi x = L := by unfold addL; rw [hsp, hc]; rfl
      rw [e1, e2]
      rw [clash_eq hR] at hc
      exact (radd_clash g L h9 lo hi x w hs hsp hc).mono fun e w' ⟨h1, h2⟩ => ⟨h1, .inl ⟨rfl, h2⟩⟩
    · have hcf := eq_false_of_ne_true hc
      have e1 : addE L lo hi = 0 := by unfold addE; rw [if_pos hsp, if_neg hc]
      have e2 : addL L lo hi x = putIn L ⟨lo.toNat, hi.toNat, x⟩ := by unfold addL; rw [hsp, hcf]; rfl
      rw [e1, e2]
      obtain ⟨a1, a2, a3⟩ := of_decide_eq_true hsp
      obtain ⟨l, rfl⟩ : ∃ l : Nat, lo = l := ⟨lo.toNat, by omega⟩
      obtain ⟨h, rfl⟩ : ∃ h : Nat, hi = h := ⟨hi.toNat, by omega⟩
      have hn := clash_not hR hsp hcf
      have hc2 := hcf
      rw [clash_eq hR] at hc2
      have hre : radd L ⟨l, h, x⟩ = putIn L ⟨l, h, x⟩ := radd_eq hR (by show l < h; omega) (fun y hy => hn y hy)
      have := radd_ok g L h9 l h x w hs hsp hc2
      rw [hre] at this
      exact this.mono fun e w' ⟨h1, h2, h3⟩ => ⟨h1, .inr ⟨h2, h3⟩⟩
  · have hsf := eq_false_of_ne_true hsp
    have e1 : addE L lo hi = 1 := by unfold addE; rw [if_neg hsp]
    have e2 : addL L lo hi x = L := by unfold addL; rw [hsf]; rfl
    rw [e1, e2]
    exact (radd_bad g lo hi x w hsf).mono fun e w' ⟨h1, h2⟩ => ⟨h1, .inl ⟨rfl, h2⟩⟩
/-- A set of the call's own. -/
def One (w0 w : World) (g : Nat) (L : List PartR) : Prop := ∃ P : Nat → Prop, SetP P w g L ∧ (∀ i, P i → w0.heap.size ≤ i) ∧ Bw w0 w
/-- A set and the document's, of the call's own. -/
def Both (w0 w : World) (g rg : Nat) (L L2 : List PartR) : Prop := ∃ P : Nat → Prop, SetP P w g L ∧ RefN P w rg L2 ∧ (∀ i, P i → w0.heap.size ≤ i) ∧ w0.heap.size ≤ rg ∧ Bw w0 w
theorem One.at {w0 w : World} {g : Nat} {L : List PartR} (h : One w0 w g L) : SetAt w g L := by
  obtain ⟨P, h1, _⟩ := h
  exact h1.at
theorem One.bw {w0 w w' : World} {g : Nat} {L : List PartR} (h : One w0 w g L) (hb : Bw w w') : One w0 w' g L := by
  obtain ⟨P, h1, h2, h3⟩ := h
  exact ⟨P, h1.bw hb, h2, h3.trans hb⟩
theorem One.low {w0 w : World} {g : Nat} {L : List PartR} (h : One w0 w g L) : Bw w0 w := h.choose_spec.2.2
theorem Both.at {w0 w : World} {g rg : Nat} {L M : List PartR} (h : Both w0 w g rg L M) : SetAt w g L := by
  obtain ⟨P, h1, _⟩ := h
  exact h1.at
theorem Both.ref {w0 w : World} {g rg : Nat} {L M : List PartR} (h : Both w0 w g rg L M) : RefAt w rg M := by
  obtain ⟨P, _, h1, _⟩ := h
  exact h1.at
theorem Both.low {w0 w : World} {g rg : Nat} {L M : List PartR} (h : Both w0 w g rg L M) : Bw w0 w := h.choose_spec.2.2.2.2
theorem Both.bw {w0 w w' : World} {g rg : Nat} {L M : List PartR} (h : Both w0 w g rg L M) (hb : Bw w w') : Both w0 w' g rg L M := by
  obtain ⟨P, h1, h2, h3, h4, h5⟩ := h
  exact ⟨P, h1.bw hb, h2.keep (Keeps.of_bw hb) fun _ _ h => h, h3, h4, h5.trans hb⟩
theorem One.put {w0 w w' : World} {g : Nat} {L L' : List PartR} {P : Nat → Prop} (hP : ∀ i, P i → w0.heap.size ≤ i) (hb : Bw w0 w) (h : Put P w g L' w') : One w0 w' g L' :=
  ⟨_, h.1, fun i hi => hi.elim (hP i) fun hi => Nat.le_trans hb.size hi, Below.trans hb (h.2.below hb.size hP)⟩
theorem Both.put {w0 w w' : World} {g rg : Nat} {L' M : List PartR} {P : Nat → Prop} (hn : RefN P w rg M) (hP : ∀ i, P i → w0.heap.size ≤ i) (hr : w0.heap.size ≤ rg) (hb : Bw w0 w) (h : Put P w g L' w') : Both w0 w' g rg L' M :=
  ⟨_, h.1, hn.keep h.2 fun i hi h => h.elim id fun h => by omega, fun i hi => hi.elim (hP i) fun hi => Nat.le_trans hb.size hi, hr, Below.trans hb (h.2.below hb.size hP)⟩
theorem Both.rput {w0 w w' : World} {g rg : Nat} {L M M' : List PartR} (hB : Both w0 w g rg L M) (h : RefPut w w' rg M M') : Both w0 w' g rg L M' := by
  rcases h with ⟨rfl, hb⟩ | ⟨h1, h2⟩
  · exact hB.bw hb
  · obtain ⟨P, a1, a2, a3, a4, a5⟩ := hB
    have hng : ¬ P rg := by
      obtain ⟨_, _, _, h, _⟩ := a2
      exact h
    have a6 : SetP (fun i => P i ∧ i < w.heap.size) w g L := a1.mono fun i hi hp => ⟨hp, hi⟩
    exact ⟨_, a6.keep h2 fun i hi e => hng (by have e : i = rg := e; rw [← e]; exact hi.1), h1.refN hng, fun i hi => a3 i hi.1, a4, Below.trans a5 (h2.below a5.size fun i e => by have e : i = rg := e; omega)⟩
/-- One Add of the set. -/
theorem one_add (w0 : World) (g : Nat) (L : List PartR) (hR : Rising L) (h9 : L.length ≤ 1000) (lo hi x : Int) (w : World) (hs : One w0 w g L) :
    Calls Try.prog 17 #[.pointer (some ⟨g, 0, none⟩), .int .i64 lo, .int .i64 hi, .int .i64 x] w fun e w' => e = .returned (.int .i64 (addE L lo hi)) ∧ One w0 w' g (addL L lo hi x) := by
  obtain ⟨P, h1, h2, h3⟩ := hs
  exact (add_any P g L hR h9 lo hi x w h1).mono fun e w' ⟨a, b⟩ => ⟨a, One.put (L := L) h2 h3 b⟩
theorem both_add (w0 : World) (g rg : Nat) (L M : List PartR) (hR : Rising L) (h9 : L.length ≤ 1000) (lo hi x : Int) (w : World) (hs : Both w0 w g rg L M) :
    Calls Try.prog 17 #[.pointer (some ⟨g, 0, none⟩), .int .i64 lo, .int .i64 hi, .int .i64 x] w fun e w' => e = .returned (.int .i64 (addE L lo hi)) ∧ Both w0 w' g rg (addL L lo hi x) M := by
  obtain ⟨P, h1, h2, h3, h4, h5⟩ := hs
  exact (add_any P g L hR h9 lo hi x w h1).mono fun e w' ⟨a, b⟩ => ⟨a, Both.put h2 h3 h4 h5 b⟩
theorem both_radd (w0 : World) (g rg : Nat) (L M : List PartR) (hR : Rising M) (h9 : M.length ≤ 1000) (lo hi x : Int) (w : World) (hs : Both w0 w g rg L M) :
    Calls Try.prog 18 #[.pointer (some ⟨rg, 0, none⟩), .int .i64 lo, .int .i64 hi, .int .i64 x] w fun e w' => e = .returned (.int .i64 (addE M lo hi)) ∧ Both w0 w' g rg L (addL M lo hi x) :=
  (radd_any rg M hR h9 lo hi x w hs.ref).mono fun e w' ⟨a, b⟩ => ⟨a, hs.rput b⟩
end Go.Proofs.Ytemgdnloabefjaa
