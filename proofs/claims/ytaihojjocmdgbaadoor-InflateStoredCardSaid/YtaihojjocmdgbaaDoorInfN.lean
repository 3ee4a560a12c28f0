/- Inflate (contract of the function). -/
import Derived.Test.YtaihojjocmdgbaaDoorInfM
import Derived.Deep.QuietTactic
import Derived.BigQuiet
import Derived.Deep.RegionWith
namespace Go.Proofs.YtaihojjocmdgbaaDoor
open Go.RowKit Go.Conc
set_option linter.unusedVariables false
def start : IOut := .go ⟨.top, 0, []⟩
/-- What Inflate tells. -/
def InfR (s : ByteArray) (lim : Int) (a : ByteArray) (n er : Int) : Prop :=
  ((lim < 0 ∨ 1073741824 < lim) ∧ a = ⟨#[]⟩ ∧ n = 0 ∧ er = 1) ∨
  ∃ L : Nat, lim = L ∧ L ≤ 1073741824 ∧ ((∃ k out, Leads s L start (.fin k out) ∧ a = ⟨out.toArray⟩ ∧ n = ((k + 7) / 8 : Nat) ∧ er = 0) ∨ (Leads s L start (.bad er) ∧ a = ⟨#[]⟩ ∧ n = 0 ∧ er ≠ 0))
/-- What Inflate leaves. -/
def InfPost (s : ByteArray) (lim : Int) (w : World) (e : Ending) (w' : World) : Prop :=
  ∃ a n er, e = .returned (.tuple #[.string a, .int .i64 n, .int .i64 er]) ∧ InfR s lim a n er ∧ Bw w w'
set_option maxRecDepth 100000 in
set_option maxHeartbeats 4000000 in
theorem inflate_out (s : ByteArray) (lim : Int) (h : lim < 0 ∨ 1073741824 < lim) (w : World) :
    Calls Tryd.prog 10 #[.string s, .int .i64 lim] w (InfPost s lim w) := by
  have HP := hid (show InfPost s lim w (.returned (.tuple #[.string ⟨#[]⟩, .int .i64 0, .int .i64 1])) w from ⟨_, _, _, rfl, .inl ⟨h, rfl, rfl, rfl⟩, Bw.refl w⟩)
  by_cases h0 : lim < 0
  · clear h
    go_enter Tryd.func10, Tryd.ntmps10
    go_wp2
    go_returns
    exact HP.out
  · have h1 : 1073741824 < lim := by omega
    have h2 : 0 ≤ lim := by omega
    clear h
    go_enter Tryd.func10, Tryd.ntmps10
    go_wp2
    go_returns
    exact HP.out
set_option maxRecDepth 100000 in
set_option maxHeartbeats 4000000 in
theorem inflate_in (s : ByteArray) (hs : s.size ≤ 281474976710656) (L : Nat) (hL : L ≤ 1073741824) (w : World) (ht : Tabs w.heap.size w) :
    Calls Tryd.prog 10 #[.string s, .int .i64 (L : Nat)] w (InfPost s L w) := by
  have HT := hid ht
  have HR := hid (newR_any s w)
  have hl0 : (0 : Int) ≤ (L : Nat) := by omega
  have hl1 : ((L : Nat) : Int) ≤ 1073741824 := by omega
  clear ht
  go_enter Tryd.func10, Tryd.ntmps10
  go_wp2_with fail
  refine HR.out.mono ?_
  rintro e w1 ⟨rfl, hr1, hb1, hz1⟩
  have HR1 := hid hr1
  have HB1 := hid hb1
  have HZ1 := hid hz1
  clear hr1 hb1 hz1
  go_wp2_with fail
  have HW := hid (show Bw w1 (w1.alloc (.cells #[.pointer (some ⟨w.heap.size, 0, none⟩), .slice none 0 0, .int .i64 (L : Nat), .pointer none, .pointer none] 45)) from (Bw.refl w1).alloc _)
  have HN := hid (Has.new w1 45 #[.pointer (some ⟨w.heap.size, 0, none⟩), .slice none 0 0, .int .i64 (L : Nat), .pointer none, .pointer none])
  have HBW := hid (HB1.out.trans HW.out)
  have HI := hid (show Inf w.heap.size (w1.alloc (.cells #[.pointer (some ⟨w.heap.size, 0, none⟩), .slice none 0 0, .int .i64 (L : Nat), .pointer none, .pointer none] 45)) w1.heap.size w.heap.size s 0 [] L (.slice none 0 0) none none from
    ⟨HN.out, HW.out.has HR1.out, World.ownsRow_nil _ _ _ _, .inl ⟨rfl, rfl⟩, Nat.le_of_lt HZ1.out, Nat.le_refl _, Nat.zero_le _, Nat.zero_le _, HT.out.kt (T := []) (D := w.heap.size) (KT.of_bw HBW.out) (Nat.le_refl _)⟩)
  generalize w1.alloc (.cells #[.pointer (some ⟨w.heap.size, 0, none⟩), .slice none 0 0, .int .i64 (L : Nat), .pointer none, .pointer none] 45) = W2 at *
  generalize w1.heap.size = fb at *
  refine (run_any hs hL HI.out).mono ?_
  rintro e w3 ⟨hk3, hx⟩
  have HK3 := hid hk3
  have HB3 := hid (show Bw w w3 from Below.trans HBW.out (hk3.below (Nat.le_refl _) (by have := HBW.out.size; exact this)))
  clear hk3
  rcases hx with ⟨er, hLe, rfl⟩ | ⟨k', out', v', pl', pd', hLe, rfl, hi⟩
  · have hne := leads_bad (Nat.zero_le _) hLe
    have t0 : (er != 0) = true := by simpa using hne
    have HP := hid (show InfPost s L w (.returned (.tuple #[.string ⟨#[]⟩, .int .i64 0, .int .i64 er])) w3 from ⟨_, _, _, rfl, .inr ⟨L, rfl, hL, .inr ⟨hLe, rfl, rfl, hne⟩⟩, HB3.out⟩)
    clear hLe hne
    go_wp2
    go_returns
    exact HP.out
  · have HI3 := hid (hi.bw ((Bw.refl w3).drewN 1))
    have HL := hid hLe
    have hk8 := hi.k8
    obtain ⟨ol, hol⟩ : ∃ ol, out'.length = ol := ⟨_, rfl⟩
    have hown := HI3.out.own
    rw [hol] at hown
    have hcv := conv_bytes (w := w3.drewN 1) hol hown
    obtain ⟨vo, vc, rfl⟩ := own_slice hown
    have c1 : w3.drew.cell? ⟨fb, 1, none⟩ = some (.slice vo ol vc) := HI3.out.has.cell 1
    have c0 : w3.drew.cell? ⟨fb, 0, none⟩ = some (.pointer (some ⟨w.heap.size, 0, none⟩)) := HI3.out.has.cell 0
    have hcv2 : (convert 30 9 (.slice vo ol vc)).run Tryd.prog w3.drew = .ok (.string ⟨out'.toArray⟩) w3.drew := hcv
    have HD := hid (show InfPost s L w (.returned (.tuple #[.string ⟨out'.toArray⟩, .int .i64 (((k' + 7) / 8 : Nat) : Int), .int .i64 0])) w3.drew from ⟨_, _, _, rfl, .inr ⟨L, rfl, hL, .inl ⟨k', out', HL.out, rfl, rfl, rfl⟩⟩, HB3.out.drewN 1⟩)
    have hq8 : IntKind.i64.wrap (((k' : Int) + 7).tdiv 8) = (((k' + 7) / 8 : Nat) : Int) := by
      rw [Int.tdiv_eq_ediv_of_nonneg (by omega), IntWalk.i64_in _ (by omega)]; omega
    have HD2 := hid (show InfPost s L w (.returned (.tuple #[.string ⟨out'.toArray⟩, .int .i64 (IntKind.i64.wrap (((k' : Int) + 7).tdiv 8)), .int .i64 0])) w3.drew by rw [hq8]; exact HD.out)
    clear hq8
    have HAT := hid (at_any w.heap.size s k' w3.drew HI3.out.rd)
    clear hi hLe hown hcv hol
    have h7 : IntKind.i64.wrap ((k' : Int) + 7) = (k' : Int) + 7 := IntWalk.i64_in _ (by omega)
    go_wp2_with fail
    go_region_with (first | (go_at_call 18; refine HAT.out.mono ?_; rintro e w4 ⟨rfl, rfl⟩))
    all_goals go_wp2
    all_goals go_returns
    all_goals exact HD2.out
theorem inflate_any (s : ByteArray) (hs : s.size ≤ 281474976710656) (lim : Int) (w : World) (ht : Tabs w.heap.size w) :
    Calls Tryd.prog 10 #[.string s, .int .i64 lim] w (InfPost s lim w) := by
  by_cases h : lim < 0 ∨ 1073741824 < lim
  · exact inflate_out s lim h w
  · obtain ⟨L, rfl⟩ := Int.eq_ofNat_of_zero_le (show 0 ≤ lim by omega)
    exact inflate_in s hs L (by omega) w ht
/-- What Inflate tells is one. -/
theorem InfR.unique {s : ByteArray} {lim : Int} {a b : ByteArray} {n m er fr : Int} (h : InfR s lim a n er) (k : InfR s lim b m fr) : a = b ∧ n = m ∧ er = fr := by
  rcases h with ⟨h0, rfl, rfl, rfl⟩ | ⟨L, rfl, hL, h⟩
  · rcases k with ⟨_, rfl, rfl, rfl⟩ | ⟨L, rfl, hL, _⟩
    · exact ⟨rfl, rfl, rfl⟩
    · omega
  · rcases k with ⟨h0, _⟩ | ⟨L', e, _, k⟩
    · omega
    · obtain rfl : L = L' := by omega
      rcases h with ⟨k1, o1, l1, rfl, rfl, rfl⟩ | ⟨l1, rfl, rfl, _⟩ <;> rcases k with ⟨k2, o2, l2, rfl, rfl, rfl⟩ | ⟨l2, rfl, rfl, _⟩
      · have := l1.unique l2 rfl rfl
        injection this with e1 e2
        subst e1 e2
        exact ⟨rfl, rfl, rfl⟩
      · have := l1.unique l2 rfl rfl
        cases this
      · have := l1.unique l2 rfl rfl
        cases this
      · have := l1.unique l2 rfl rfl
        injection this with e1
        exact ⟨rfl, rfl, e1⟩
end Go.Proofs.YtaihojjocmdgbaaDoor
