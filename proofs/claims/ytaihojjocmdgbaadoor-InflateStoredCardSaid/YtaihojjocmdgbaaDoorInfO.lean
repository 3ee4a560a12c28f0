/- Inflate: some answers, and live (contract of the function); the plain sides of the laws. -/
import Derived.Test.YtaihojjocmdgbaaDoorInfN
namespace Go.Proofs.YtaihojjocmdgbaaDoor
open Go.RowKit Go.Conc
set_option linter.unusedVariables false
theorem lv1 : InfR ⟨#[3, 0]⟩ 10 ⟨#[]⟩ 2 0 := .inr ⟨10, rfl, by decide, .inl ⟨10, [], Leads.of_itr 2 (by kernel_rfl), rfl, rfl, rfl⟩⟩
theorem lv2 : InfR ⟨#[1, 1, 0, 254, 255, 97, 122]⟩ 10 ⟨#[97]⟩ 6 0 := .inr ⟨10, rfl, by decide, .inl ⟨48, [97], Leads.of_itr 1 (by kernel_rfl), rfl, rfl, rfl⟩⟩
theorem lv3 : InfR ⟨#[7]⟩ 10 ⟨#[]⟩ 0 3 := .inr ⟨10, rfl, by decide, .inr ⟨Leads.of_itr 1 (by kernel_rfl), rfl, rfl, by decide⟩⟩
theorem lv4 : InfR ⟨#[1, 1, 0, 254, 255, 97]⟩ 0 ⟨#[]⟩ 0 11 := .inr ⟨0, rfl, by decide, .inr ⟨Leads.of_itr 1 (by kernel_rfl), rfl, rfl, by decide⟩⟩
theorem Tabs.bw {w w' : World} (h : Tabs w.heap.size w) (hb : Bw w w') : Tabs w'.heap.size w' := by
  have h2 := h.kt (T := []) (D := w.heap.size) (KT.of_bw hb) (Nat.le_refl _)
  have hz := hb.size
  exact ⟨⟨by have := h2.len.lt; omega, h2.len.cell⟩, ⟨by have := h2.dist.lt; omega, h2.dist.cell⟩, ⟨by have := h2.ord.lt; omega, h2.ord.cell⟩⟩
theorem inflate_is (s : ByteArray) (hs : s.size ≤ 281474976710656) (lim : Int) {a : ByteArray} {n er : Int} (hk : InfR s lim a n er) (w : World) (ht : Tabs w.heap.size w) :
    Calls Tryd.prog 10 #[.string s, .int .i64 lim] w fun e w' => e = .returned (.tuple #[.string a, .int .i64 n, .int .i64 er]) ∧ Bw w w' := by
  refine (inflate_any s hs lim w ht).mono ?_
  rintro e w' ⟨a', n', er', rfl, hr, hb⟩
  obtain ⟨rfl, rfl, rfl⟩ := hr.unique hk
  exact ⟨rfl, hb⟩
set_option maxRecDepth 100000 in
set_option maxHeartbeats 4000000 in
theorem live_any (w : World) (ht : Tabs w.heap.size w) :
    Calls Tryd.prog 9 #[] w fun e w' => e = .returned (.bool true) ∧ Bw w w' := by
  have HT := hid ht
  clear ht
  go_enter Tryd.func9, Tryd.ntmps9
  go_wp2_with fail
  refine (inflate_is _ (by decide) 10 lv1 w HT.out).mono ?_
  rintro e w1 ⟨rfl, hb1⟩
  have HB1 := hid hb1
  clear hb1
  go_wp2_with fail
  refine (inflate_is _ (by decide) 10 lv2 w1 (HT.out.bw HB1.out)).mono ?_
  rintro e w2 ⟨rfl, hb2⟩
  have HB2 := hid (HB1.out.trans hb2)
  clear hb2
  go_wp2_with fail
  refine (inflate_is _ (by decide) 10 lv3 w2 (HT.out.bw HB2.out)).mono ?_
  rintro e w3 ⟨rfl, hb3⟩
  have HB3 := hid (HB2.out.trans hb3)
  clear hb3
  go_wp2_with fail
  refine (inflate_is _ (by decide) 0 lv4 w3 (HT.out.bw HB3.out)).mono ?_
  rintro e w4 ⟨rfl, hb4⟩
  have HB4 := hid (HB3.out.trans hb4)
  clear hb4
  go_wp2
  go_returns
  exact ⟨rfl, HB4.out⟩
/-! The laws' plain sides. -/
theorem pre_append (s u : ByteArray) : Pre s (s ++ u) := ⟨u.data.toList, by simp⟩
theorem pre_extract (s : ByteArray) (m : Nat) (h : m ≤ s.size) : Pre (s.extract 0 m) s := ⟨s.data.toList.drop m, by
  have := cut_list s 0 m
  unfold cut at this
  rw [Nat.zero_add] at this
  rw [this, List.drop_zero, List.take_append_drop]⟩
theorem behind_plain {s t : ByteArray} (hp : Pre s t) {L : Nat} {a b : ByteArray} {n m e f : Int} (h : InfR s L a n e) (k : InfR t L b m f) :
    (e ≠ 0 → e = 2 ∨ f = e) ∧ (e = 0 → f = 0 ∧ a = b ∧ n = m ∧ n ≤ s.size) := by
  rcases h with ⟨h0, rfl, rfl, rfl⟩ | ⟨L1, e1, hL, h⟩
  · rcases k with ⟨_, rfl, rfl, rfl⟩ | ⟨L2, e2, _, -⟩
    · exact ⟨fun _ => .inr rfl, fun h => by omega⟩
    · omega
  · obtain rfl : L = L1 := Int.ofNat.inj e1
    rcases k with ⟨k0, _⟩ | ⟨L2, e2, _, k⟩
    · omega
    obtain rfl : L = L2 := Int.ofNat.inj e2
    have hz := hp.size
    rcases h with ⟨k1, o1, ⟨i, hi⟩, rfl, rfl, rfl⟩ | ⟨⟨i, hi⟩, rfl, rfl, hne⟩
    · refine ⟨fun h => absurd rfl h, fun _ => ?_⟩
      have h8 := itr_pos s L i start (Nat.zero_le _)
      rw [hi] at h8
      have h8 : k1 ≤ 8 * s.size := h8
      rcases itr_pre hp L i start (Nat.zero_le _) with e | e
      · rw [hi] at e; cases e
      · rw [hi] at e
        have l1 : Leads t L start (.fin k1 o1) := ⟨i, e⟩
        rcases k with ⟨k2, o2, l2, rfl, rfl, rfl⟩ | ⟨l2, rfl, rfl, _⟩
        · have := l1.unique l2 rfl rfl
          injection this with e3 e4
          subst e3 e4
          exact ⟨rfl, rfl, rfl, by omega⟩
        · have := l1.unique l2 rfl rfl
          cases this
    · refine ⟨fun _ => ?_, fun h => absurd h hne⟩
      rcases itr_pre hp L i start (Nat.zero_le _) with e | e
      · rw [hi] at e
        injection e with e
        exact .inl e
      · rw [hi] at e
        have l1 : Leads t L start (.bad _) := ⟨i, e⟩
        rcases k with ⟨k2, o2, l2, rfl, rfl, rfl⟩ | ⟨l2, rfl, rfl, _⟩
        · have := l1.unique l2 rfl rfl
          cases this
        · have := l1.unique l2 rfl rfl
          injection this with e3
          exact .inr e3.symm
theorem infR_le {s : ByteArray} {L : Int} {a : ByteArray} {n e : Int} (h : InfR s L a n e) : 0 ≤ n ∧ n ≤ s.size := by
  rcases h with ⟨h0, rfl, rfl, rfl⟩ | ⟨L1, e1, hL, ⟨k1, o1, ⟨i, hi⟩, rfl, rfl, rfl⟩ | ⟨_, rfl, rfl, hne⟩⟩
  · omega
  · have h8 := itr_pos s L1 i start (Nat.zero_le _)
    rw [hi] at h8
    have h8 : k1 ≤ 8 * s.size := h8
    omega
  · omega
/-- Cut short: 'cut short' is told. -/
theorem cut_plain {s t : ByteArray} (hp : Pre t s) {L : Nat} {a b : ByteArray} {n m f : Int} (h : InfR s L a n 0) (hlt : (t.size : Int) < n) (k : InfR t L b m f) : f = 2 := by
  rcases behind_plain hp k h with ⟨k1, k2⟩
  by_cases h0 : f = 0
  · obtain ⟨_, _, e, _⟩ := k2 h0
    have := infR_le k
    omega
  · rcases k1 h0 with h | h
    · exact h
    · exact absurd h.symm h0
theorem limits_plain {s : ByteArray} {L b : Nat} (hb : b ≤ L) {a c : ByteArray} {n m f : Int} (h : InfR s L a n 0) (k : InfR s b c m f) : (a.size ≤ b → c = a ∧ m = n ∧ f = 0) ∧ (b < a.size → f = 11) := by
  rcases h with ⟨h0, rfl, rfl, h⟩ | ⟨L1, e1, hL, ⟨k1, o1, ⟨i, hi⟩, rfl, rfl, _⟩ | ⟨_, rfl, rfl, hne⟩⟩
  · cases h
  · obtain rfl : L = L1 := Int.ofNat.inj e1
    rcases k with ⟨k0, _⟩ | ⟨L2, e2, _, k⟩
    · omega
    obtain rfl : b = L2 := Int.ofNat.inj e2
    have hsz : (⟨o1.toArray⟩ : ByteArray).size = o1.length := rfl
    rw [hsz]
    rcases itr_lim (s := s) hb i start k1 o1 (Nat.zero_le _) hi with ⟨h1, h2⟩ | ⟨h1, h2⟩
    · refine ⟨fun _ => ?_, fun h => by omega⟩
      have l1 : Leads s b start (.fin k1 o1) := ⟨i, h2⟩
      rcases k with ⟨k2, o2, l2, rfl, rfl, rfl⟩ | ⟨l2, rfl, rfl, _⟩
      · have := l1.unique l2 rfl rfl
        injection this with e3 e4
        subst e3 e4
        exact ⟨rfl, rfl, rfl⟩
      · have := l1.unique l2 rfl rfl
        cases this
    · refine ⟨fun h => by omega, fun _ => ?_⟩
      have l1 : Leads s b start (.bad 11) := ⟨i, h2⟩
      rcases k with ⟨k2, o2, l2, rfl, rfl, rfl⟩ | ⟨l2, rfl, rfl, _⟩
      · have := l1.unique l2 rfl rfl
        cases this
      · have := l1.unique l2 rfl rfl
        injection this with e3
        exact e3.symm
  · exact absurd rfl hne
theorem infR_bad {s : ByteArray} {L : Int} {a : ByteArray} {n e : Int} (h : InfR s L a n e) (he : e ≠ 0) : a = ⟨#[]⟩ ∧ n = 0 := by
  rcases h with ⟨h0, rfl, rfl, rfl⟩ | ⟨L1, e1, hL, ⟨k1, o1, _, rfl, rfl, rfl⟩ | ⟨_, rfl, rfl, hne⟩⟩
  · exact ⟨rfl, rfl⟩
  · exact absurd rfl he
  · exact ⟨rfl, rfl⟩
end Go.Proofs.YtaihojjocmdgbaaDoor
