/- insert and Add (for spans without values). -/
import Derived.Test.YtciaebhkemdilabRvT1
import Derived.Test.YtciaebhkemdilabRvT2
import Derived.Test.YtciaebhkemdilabRvU
import Derived.Test.YtciaebhkemdilabRvP
namespace Go.Proofs.Ytciaebhkemdilab
open Go.RowKit Go.Conc
set_option linter.unusedVariables false
set_option linter.unusedSimpArgs false
theorem insert_any (P : Nat → Prop) (g : Nat) (L : List PartR) (hR : Rising L) (h9 : L.length ≤ 1000) (p : PartR) (w : World) (hs : SetP P w g L) :
    Calls Try.prog 63 #[.pointer (some ⟨g, 0, none⟩), .agg #[.int .i64 p.lo, .int .i64 p.hi]] w fun e w' => e = .returned (.tuple #[]) ∧ Put P w g (putIn L p) w' := by
  obtain ⟨bv, h1, hp, ⟨rfl, rfl⟩ | ⟨ob, oc, ib, n, cap, rfl, p1, p2, h3, h4, h5, h6⟩⟩ := hs
  · exact insert_nil P g p w h1 hp
  · by_cases hf : fstI L p.lo < L.length
    · exact insert_mid P g ob oc ib n cap L hR (by omega) p w h1 hp p1 p2 h3 h4 h5 h6 hf
    · exact insert_end P g ob oc ib n cap L hR (by omega) p w h1 hp p1 p2 h3 h4 h5 h6 hf
set_option maxRecDepth 100000 in
set_option maxHeartbeats 4000000 in
theorem add_ok (P : Nat → Prop) (g : Nat) (L : List PartR) (hR : Rising L) (h9 : L.length ≤ 1000) (lo hi : Nat) (x : Int) (w : World) (hs : SetP P w g L) (hsp : spB lo hi = true) (hc : clashB L lo hi = false) :
    Calls Try.prog 56 #[.pointer (some ⟨g, 0, none⟩), .int .i64 lo, .int .i64 hi, .agg #[]] w fun e w' => e = .returned (.int .i64 0) ∧ Put P w g (putIn L ⟨lo, hi, x⟩) w' := by
  have HW0 := hid ((Bw.refl w).alloc (.cells #[] 84))
  have HS := hid (fun W => isSpan_any lo hi W)
  have HC := hid (fun W (h : Bw w W) => clash_any g L hR (by omega) lo hi W (hs.bw h).at)
  rw [hsp] at HS
  rw [hc] at HC
  have HI := hid (fun W (hb : Bw w W) => insert_any P g L hR h9 ⟨lo, hi, x⟩ W (hs.bw hb))
  clear hsp hc hs
  go_enter Try.func56, Try.ntmps56
  go_wp2_with fail
  refine (HS.out _).mono ?_
  rintro e w1 ⟨rfl, rfl⟩
  go_wp2_with fail
  refine (HC.out _ HW0.out).mono ?_
  rintro e w2 ⟨rfl, hb⟩
  have HB := hid (HW0.out.trans hb)
  clear hb
  go_wp2_with fail
  refine (HI.out _ HB.out).mono ?_
  rintro e w3 ⟨rfl, hp⟩
  have HP := hid hp
  clear hp
  go_wp2
  go_returns
  exact ⟨rfl, HP.out.1.mono fun i _ h => h.imp id fun h => Nat.le_trans HB.out.size h, (Keeps.of_bw HB.out).trans HP.out.2⟩
set_option maxRecDepth 100000 in
set_option maxHeartbeats 4000000 in
theorem add_clash (g : Nat) (L : List PartR) (hR : Rising L) (h9 : L.length ≤ 1000) (lo hi x : Int) (w : World) (hs : SetAt w g L) (hsp : spB lo hi = true) (hc : clashB L lo hi = true) :
    Calls Try.prog 56 #[.pointer (some ⟨g, 0, none⟩), .int .i64 lo, .int .i64 hi, .agg #[]] w fun e w' => e = .returned (.int .i64 5) ∧ Bw w w' := by
  have HW0 := hid ((Bw.refl w).alloc (.cells #[] 84))
  have HS := hid (fun W => isSpan_any lo hi W)
  have HC := hid (fun W (h : Bw w W) => clash_any g L hR (by omega) lo hi W (hs.bw h))
  rw [hsp] at HS
  rw [hc] at HC
  clear hsp hc hs
  go_enter Try.func56, Try.ntmps56
  go_wp2_with fail
  refine (HS.out _).mono ?_
  rintro e w1 ⟨rfl, rfl⟩
  go_wp2_with fail
  refine (HC.out _ HW0.out).mono ?_
  rintro e w2 ⟨rfl, hb⟩
  have HB := hid (HW0.out.trans hb)
  clear hb
  go_wp2
  go_returns
  exact ⟨rfl, HB.out⟩
set_option maxRecDepth 100000 in
set_option maxHeartbeats 4000000 in
theorem add_bad (g : Nat) (lo hi x : Int) (w : World) (hsp : spB lo hi = false) :
    Calls Try.prog 56 #[.pointer (some ⟨g, 0, none⟩), .int .i64 lo, .int .i64 hi, .agg #[]] w fun e w' => e = .returned (.int .i64 1) ∧ Bw w w' := by
  have HW0 := hid ((Bw.refl w).alloc (.cells #[] 84))
  have HS := hid (fun W => isSpan_any lo hi W)
  rw [hsp] at HS
  clear hsp
  go_enter Try.func56, Try.ntmps56
  go_wp2_with fail
  refine (HS.out _).mono ?_
  rintro e w1 ⟨rfl, rfl⟩
  go_wp2
  go_returns
  exact ⟨rfl, HW0.out⟩
theorem add_any (P : Nat → Prop) (g : Nat) (L : List PartR) (hR : Rising L) (h9 : L.length ≤ 1000) (lo hi : Int) (x : Int) (w : World) (hs : SetP P w g L) :
    Calls Try.prog 56 #[.pointer (some ⟨g, 0, none⟩), .int .i64 lo, .int .i64 hi, .agg #[]] w fun e w' => e = .returned (.int .i64 (addE L lo hi)) ∧ Put P w g (addL L lo hi x) w' := by
  have old : ∀ w', Bw w w' → Put P w g L w' := fun w' hb => ⟨(hs.bw hb).mono fun i _ h => .inl h, Keeps.of_bw hb⟩
  by_cases hsp : spB lo hi = true
  · by_cases hc : clashB L lo hi = true
    · have e1 : addE L lo hi = 5 := by unfold addE; rw [if_pos hsp, if_pos hc]
      have e2 : addL L lo hi x = L := by unfold addL; rw [hsp, hc]; rfl
      rw [e1, e2]
      exact (add_clash g L hR h9 lo hi x w hs.at hsp hc).mono fun e w' ⟨h1, h2⟩ => ⟨h1, old w' h2⟩
    · have hcf := eq_false_of_ne_true hc
      have e1 : addE L lo hi = 0 := by unfold addE; rw [if_pos hsp, if_neg hc]
      have e2 : addL L lo hi x = putIn L ⟨lo.toNat, hi.toNat, x⟩ := by unfold addL; rw [hsp, hcf]; rfl
      rw [e1, e2]
      obtain ⟨a1, a2, a3⟩ := of_decide_eq_true hsp
      obtain ⟨l, rfl⟩ : ∃ l : Nat, lo = l := ⟨lo.toNat, by omega⟩
      obtain ⟨h, rfl⟩ : ∃ h : Nat, hi = h := ⟨hi.toNat, by omega⟩
      exact add_ok P g L hR h9 l h x w hs hsp hcf
  · have hsf := eq_false_of_ne_true hsp
    have e1 : addE L lo hi = 1 := by unfold addE; rw [if_neg hsp]
    have e2 : addL L lo hi x = L := by unfold addL; rw [hsf]; rfl
    rw [e1, e2]
    exact (add_bad g lo hi x w hsf).mono fun e w' ⟨h1, h2⟩ => ⟨h1, old w' h2⟩
end Go.Proofs.Ytciaebhkemdilab
