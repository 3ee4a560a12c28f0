/- What ReadAt of the document's source returns, and what it leaves: the same as src's. -/
import Derived.Test.YteclomkhienhiaaSrxCn
import Derived.Test.YteclomkhienhiaaSrxCo
import Derived.Test.YteclomkhienhiaaSrxCm
namespace Go.Proofs.Yteclomkhienhiaa
open Go.RowKit Go.Conc
set_option linter.unusedVariables false
def RxAny (F : Nat → Prop) (g : Nat) (s : ByteArray) (l : List (Int × Int)) (sp : List (Nat × Nat)) (a n : Int) (w : World) (e : Ending) (w' : World) : Prop :=
  RxPost F g s (rdAll s l a n) (rdSp sp a.toNat (rdAll s l a n).1) w e w'
theorem rdSp_none (sp : List (Nat × Nat)) (p : Nat) {V : ByteArray} (h : V = ⟨#[]⟩) : rdSp sp p V = sp := by subst h; rfl
theorem rdSp_some (sp : List (Nat × Nat)) (p k : Nat) {V : ByteArray} (h : V.size = k) (hk : 0 < k) : rdSp sp p V = sp ++ [(p, p + k)] := by
  unfold rdSp; rw [if_neg (by omega), h]
theorem size_ext (s : ByteArray) (p k : Nat) (h : p + k ≤ s.size) : (s.extract p (p + k)).size = k := by rw [ByteArray.size_extract]; omega
/-- What the plain reading is, where it is not refused and does not fail. -/
theorem rdAll_eq (s : ByteArray) (l : List (Int × Int)) (p q : Nat) (hq : q ≤ 1048576) (x0 : Int) (x1 : Nat) (hx : l.head?.getD (0, 0) = (x0, (x1 : Int))) (h2 : x0 ≠ 2) :
    rdAll s l p q = (rdV s p q x0 x1, rdE s.size p q x0 x1, l.tail) := by
  unfold rdAll
  rw [if_neg (by omega), hx]
  simp only [Int.toNat_natCast]
  rw [if_neg h2]
theorem rdAll_fault (s : ByteArray) (l : List (Int × Int)) (p q : Nat) (hq : q ≤ 1048576) (x1 : Int) (hx : l.head?.getD (0, 0) = (2, x1)) : rdAll s l p q = (⟨#[]⟩, 7, l.tail) := by
  unfold rdAll
  rw [if_neg (by omega), hx]
  simp
theorem ext_nil (s : ByteArray) (p : Nat) : s.extract p (p + 0) = ⟨#[]⟩ := by
  have h : (s.extract p (p + 0)).size = 0 := by rw [ByteArray.size_extract]; omega
  have h2 : (s.extract p (p + 0)).data = #[] := Array.eq_empty_of_size_eq_zero h
  show (⟨(s.extract p (p + 0)).data⟩ : ByteArray) = ⟨#[]⟩
  rw [h2]
theorem ext_far (s : ByteArray) (p k : Nat) (h : s.size ≤ p) : s.extract p (p + k) = ⟨#[]⟩ := by
  have h : (s.extract p (p + k)).size = 0 := by rw [ByteArray.size_extract]; omega
  have h2 : (s.extract p (p + k)).data = #[] := Array.eq_empty_of_size_eq_zero h
  show (⟨(s.extract p (p + k)).data⟩ : ByteArray) = ⟨#[]⟩
  rw [h2]
/-- The cases of a reading that is not refused. -/
theorem rd_cases (s : ByteArray) (p q : Nat) (x0 : Int) (x1 : Nat) :
    (s.size ≤ p ∧ q ≤ 0 ∧ rdV s p q x0 x1 = ⟨#[]⟩ ∧ rdE s.size p q x0 x1 = 0) ∨
    (s.size ≤ p ∧ 0 < q ∧ rdV s p q x0 x1 = ⟨#[]⟩ ∧ rdE s.size p q x0 x1 = 2) ∨
    (p < s.size ∧ x0 = 1 ∧ x1 ≤ 0 ∧ (s.size < p + q ∨ 0 < q) ∧ rdV s p q x0 x1 = ⟨#[]⟩ ∧ rdE s.size p q x0 x1 = 0) ∨
    (p < s.size ∧ x0 = 1 ∧ 0 < x1 ∧ p + x1 < s.size ∧ x1 < q ∧ rdV s p q x0 x1 = s.extract p (p + x1) ∧ rdE s.size p q x0 x1 = 0) ∨
    (p < s.size ∧ s.size < p + q ∧ (x0 ≠ 1 ∨ x0 = 1 ∧ s.size ≤ p + x1) ∧ rdV s p q x0 x1 = s.extract p (p + (s.size - p)) ∧ rdE s.size p q x0 x1 = 2) ∨
    (p < s.size ∧ p + q ≤ s.size ∧ q ≤ 0 ∧ (x0 ≠ 1 ∨ x0 = 1 ∧ q ≤ x1) ∧ rdV s p q x0 x1 = ⟨#[]⟩ ∧ rdE s.size p q x0 x1 = 0) ∨
    (p < s.size ∧ p + q ≤ s.size ∧ 0 < q ∧ (x0 ≠ 1 ∨ x0 = 1 ∧ q ≤ x1) ∧ rdV s p q x0 x1 = s.extract p (p + q) ∧ rdE s.size p q x0 x1 = 0) := by
  by_cases hp : p < s.size
  · by_cases hsh : x0 = 1 ∧ x1 < rdK s.size p q
    · obtain ⟨h1, h2⟩ := hsh
      have hV : rdV s p q x0 x1 = s.extract p (p + x1) := if_pos ⟨h1, h2⟩
      have hE : rdE s.size p q x0 x1 = 0 := if_pos ⟨h1, h2⟩
      unfold rdK at h2
      by_cases hz : x1 ≤ 0
      · obtain rfl : x1 = 0 := by omega
        rw [ext_nil] at hV
        exact .inr (.inr (.inl ⟨hp, h1, hz, by omega, hV, hE⟩))
      · exact .inr (.inr (.inr (.inl ⟨hp, h1, by omega, by omega, by omega, hV, hE⟩)))
    · have hV : rdV s p q x0 x1 = s.extract p (p + rdK s.size p q) := if_neg hsh
      have hE : rdE s.size p q x0 x1 = if rdK s.size p q < q then 2 else 0 := if_neg hsh
      by_cases hl : s.size < p + q
      · have hK : rdK s.size p q = s.size - p := by unfold rdK; omega
        rw [hK] at hV hE hsh
        rw [if_pos (by omega)] at hE
        exact .inr (.inr (.inr (.inr (.inl ⟨hp, hl, by by_cases h : x0 = 1; exact .inr ⟨h, by omega⟩; exact .inl h, hV, hE⟩))))
      · have hK : rdK s.size p q = q := by unfold rdK; omega
        rw [hK] at hV hE hsh
        rw [if_neg (by omega)] at hE
        by_cases hz : q ≤ 0
        · obtain rfl : q = 0 := by omega
          rw [ext_nil] at hV
          exact .inr (.inr (.inr (.inr (.inr (.inl ⟨hp, by omega, hz, by by_cases h : x0 = 1; exact .inr ⟨h, by omega⟩; exact .inl h, hV, hE⟩)))))
        · exact .inr (.inr (.inr (.inr (.inr (.inr ⟨hp, by omega, by omega, by by_cases h : x0 = 1; exact .inr ⟨h, by omega⟩; exact .inl h, hV, hE⟩)))))
  · have hK : rdK s.size p q = 0 := by unfold rdK; omega
    have hV : rdV s p q x0 x1 = ⟨#[]⟩ := by
      unfold rdV
      split
      · exact ext_far s p x1 (by omega)
      · exact ext_far s p _ (by omega)
    have hE : rdE s.size p q x0 x1 = if 0 < q then 2 else 0 := by
      unfold rdE
      rw [hK, if_neg (by omega)]
    by_cases hz : q ≤ 0
    · rw [if_neg (by omega)] at hE
      exact .inl ⟨by omega, hz, hV, hE⟩
    · rw [if_pos (by omega)] at hE
      exact .inr (.inl ⟨by omega, by omega, hV, hE⟩)
theorem eq_false_of {x : Int} {n : Int} (h : x ≠ n) : (x == n) = false := by simpa using h
theorem eq_true_of {x : Int} {n : Int} (h : x = n) : (x == n) = true := by simpa using h
theorem who_of {x0 : Int} {P : Prop} (h : x0 ≠ 1 ∨ x0 = 1 ∧ P) : Hid ((x0 == 1) = false ∨ ((x0 == 1) = true ∧ P)) := by
  rcases h with h | ⟨h, k⟩
  · exact .inl (eq_false_of h)
  · exact .inr ⟨eq_true_of h, k⟩
theorem who_any (x0 : Int) (x1 : Nat) : Hid ((x0 == 1) = false ∨ ((x0 == 1) = true ∧ 0 ≤ x1)) := by
  by_cases h : x0 = 1
  · exact .inr ⟨eq_true_of h, Nat.zero_le _⟩
  · exact .inl (eq_false_of h)
theorem rx_to {F : Nat → Prop} {g : Nat} {s V : ByteArray} {E : Int} {l l' : List (Int × Int)} {sp sp2 : List (Nat × Nat)} {p q : Nat} {w : World} (hr : rdAll s l p q = (V, E, l')) (hs : rdSp sp p V = sp2)
    (h : Calls Try.prog 15 #[.pointer (some ⟨g, 0, none⟩), .int .i64 p, .int .i64 q] w (RxPost F g s (V, E, l') sp2 w)) :
    Calls Try.prog 15 #[.pointer (some ⟨g, 0, none⟩), .int .i64 p, .int .i64 q] w (RxAny F g s l sp p q w) := by
  unfold RxAny
  rw [hr, Int.toNat_natCast, hs]
  exact h
theorem rx_any (F : Nat → Prop) (g : Nat) (s : ByteArray) (hs : s.size ≤ 140737488351232) (sp : List (Nat × Nat)) (hsp : sp.length ≤ 1000000000) (l : List (Int × Int)) (hok : OkAll l) (a n : Int) (ha : a ≤ 9223372036854775807) (w : World) (h : Srx F w g s l sp) :
    Calls Try.prog 15 #[.pointer (some ⟨g, 0, none⟩), .int .i64 a, .int .i64 n] w (RxAny F g s l sp a n w) := by
  by_cases hbad : a < 0 ∨ n < 0 ∨ 1048576 < n
  · have hr : rdAll s l a n = (⟨#[]⟩, 1, l) := by rw [rdAll, if_pos hbad]
    unfold RxAny
    rw [hr, rdSp_none sp _ rfl]
    exact rx_bad F g s l sp a n (decide_eq_false (by omega)) w h
  obtain ⟨p, rfl⟩ := Int.eq_ofNat_of_zero_le (show 0 ≤ a by omega)
  obtain ⟨q, rfl⟩ := Int.eq_ofNat_of_zero_le (show 0 ≤ n by omega)
  have hq : q ≤ 1048576 := by omega
  have hp63 : p ≤ 9223372036854775807 := by omega
  obtain ⟨ao, cap, rd, hB, h1, h2, h3, h4⟩ := h
  cases l with
  | nil =>
    rcases rd_cases s p q 0 0 with ⟨c1, c2, hV, hE⟩ | ⟨c1, c2, hV, hE⟩ | ⟨_, c, _⟩ | ⟨_, c, _⟩ | ⟨c1, c2, _, hV, hE⟩ | ⟨c1, c2, c3, _, hV, hE⟩ | ⟨c1, c2, c3, _, hV, hE⟩
    · exact rx_to (by rw [rdAll_eq s [] p q hq 0 0 rfl (by decide), hV, hE]; rfl) (rdSp_none sp p rfl) (rx_nil_farz F g s hs sp hsp p q hq hp63 c1 c2 ao cap rd w hB h1 h2 h3 h4)
    · exact rx_to (by rw [rdAll_eq s [] p q hq 0 0 rfl (by decide), hV, hE]; rfl) (rdSp_none sp p rfl) (rx_nil_far F g s hs sp hsp p q hq hp63 c1 c2 ao cap rd w hB h1 h2 h3 h4)
    · cases c
    · cases c
    · exact rx_to (by rw [rdAll_eq s [] p q hq 0 0 rfl (by decide), hV, hE]; rfl) (rdSp_some sp p _ (size_ext s p _ (by omega)) (by omega)) (rx_nil_wlt F g s hs sp hsp p q hq hp63 c1 c2 ao cap rd w hB h1 h2 h3 h4)
    · exact rx_to (by rw [rdAll_eq s [] p q hq 0 0 rfl (by decide), hV, hE]; rfl) (rdSp_none sp p rfl) (rx_nil_wgez F g s hs sp hsp p q hq hp63 c1 c2 c3 ao cap rd w hB h1 h2 h3 h4)
    · exact rx_to (by rw [rdAll_eq s [] p q hq 0 0 rfl (by decide), hV, hE]; rfl) (rdSp_some sp p _ (size_ext s p _ (by omega)) c3) (rx_nil_wge F g s hs sp hsp p q hq hp63 c1 c2 c3 ao cap rd w hB h1 h2 h3 h4)
  | cons y rest =>
    obtain ⟨x0, x1i⟩ := y
    have hst := hok (x0, x1i) (by simp)
    have hx1 : 0 ≤ x1i := by unfold okStep at hst; simp only at hst; omega
    obtain ⟨x1, rfl⟩ := Int.eq_ofNat_of_zero_le hx1
    have hcp := hB.cp
    simp only [List.length_cons] at hcp
    by_cases hf : x0 = 2
    · subst hf
      have hr : rdAll s ((2, (x1 : Int)) :: rest) p q = (⟨#[]⟩, 7, rest) := rdAll_fault s _ p q hq x1 rfl
      by_cases hc : cap = 1
      · have : rest = [] := List.eq_nil_of_length_eq_zero (by omega)
        subst this
        exact rx_to hr (rdSp_none sp p rfl) (rx_one_fault F g s hs 2 x1 sp hsp p q hq hp63 rfl ao cap hc rd w hB h1 h2 h3 h4)
      · exact rx_to hr (rdSp_none sp p rfl) (rx_more_fault F g s hs 2 x1 rest sp hsp p q hq hp63 rfl ao cap (by omega) rd w hB h1 h2 h3 h4)
    · have t2 := eq_false_of hf
      have hr := rdAll_eq s ((x0, (x1 : Int)) :: rest) p q hq x0 x1 rfl hf
      by_cases hc : cap = 1
      · have : rest = [] := List.eq_nil_of_length_eq_zero (by omega)
        subst this
        rcases rd_cases s p q x0 x1 with ⟨c1, c2, hV, hE⟩ | ⟨c1, c2, hV, hE⟩ | ⟨c1, c2, c3, c4, hV, hE⟩ | ⟨c1, c2, c3, c4, c5, hV, hE⟩ | ⟨c1, c2, c3, hV, hE⟩ | ⟨c1, c2, c3, c4, hV, hE⟩ | ⟨c1, c2, c3, c4, hV, hE⟩
        · exact rx_to (by rw [hr, hV, hE]; rfl) (rdSp_none sp p rfl) (rx_one_farz F g s hs x0 x1 sp hsp p q hq hp63 t2 c1 c2 (who_any x0 x1) ao cap hc rd w hB h1 h2 h3 h4)
        · exact rx_to (by rw [hr, hV, hE]; rfl) (rdSp_none sp p rfl) (rx_one_far F g s hs x0 x1 sp hsp p q hq hp63 t2 c1 c2 (who_any x0 x1) ao cap hc rd w hB h1 h2 h3 h4)
        · exact rx_to (by rw [hr, hV, hE]; rfl) (rdSp_none sp p rfl) (rx_one_sz F g s hs x0 x1 sp hsp p q hq hp63 t2 c1 (eq_true_of c2) c3 c4 ao cap hc rd w hB h1 h2 h3 h4)
        · exact rx_to (by rw [hr, hV, hE]; rfl) (rdSp_some sp p _ (size_ext s p _ (by omega)) c3) (rx_one_short F g s hs x0 x1 sp hsp p q hq hp63 t2 c1 (eq_true_of c2) c3 c4 c5 ao cap hc rd w hB h1 h2 h3 h4)
        · exact rx_to (by rw [hr, hV, hE]; rfl) (rdSp_some sp p _ (size_ext s p _ (by omega)) (by omega)) (rx_one_wlt F g s hs x0 x1 sp hsp p q hq hp63 t2 c1 c2 (who_of c3) ao cap hc rd w hB h1 h2 h3 h4)
        · exact rx_to (by rw [hr, hV, hE]; rfl) (rdSp_none sp p rfl) (rx_one_wgez F g s hs x0 x1 sp hsp p q hq hp63 t2 c1 c2 c3 (who_of c4) ao cap hc rd w hB h1 h2 h3 h4)
        · exact rx_to (by rw [hr, hV, hE]; rfl) (rdSp_some sp p _ (size_ext s p _ (by omega)) c3) (rx_one_wge F g s hs x0 x1 sp hsp p q hq hp63 t2 c1 c2 c3 (who_of c4) ao cap hc rd w hB h1 h2 h3 h4)
      · have hc2 : 1 < cap := by omega
        rcases rd_cases s p q x0 x1 with ⟨c1, c2, hV, hE⟩ | ⟨c1, c2, hV, hE⟩ | ⟨c1, c2, c3, c4, hV, hE⟩ | ⟨c1, c2, c3, c4, c5, hV, hE⟩ | ⟨c1, c2, c3, hV, hE⟩ | ⟨c1, c2, c3, c4, hV, hE⟩ | ⟨c1, c2, c3, c4, hV, hE⟩
        · exact rx_to (by rw [hr, hV, hE]; rfl) (rdSp_none sp p rfl) (rx_more_farz F g s hs x0 x1 rest sp hsp p q hq hp63 t2 c1 c2 (who_any x0 x1) ao cap hc2 rd w hB h1 h2 h3 h4)
        · exact rx_to (by rw [hr, hV, hE]; rfl) (rdSp_none sp p rfl) (rx_more_far F g s hs x0 x1 rest sp hsp p q hq hp63 t2 c1 c2 (who_any x0 x1) ao cap hc2 rd w hB h1 h2 h3 h4)
        · exact rx_to (by rw [hr, hV, hE]; rfl) (rdSp_none sp p rfl) (rx_more_sz F g s hs x0 x1 rest sp hsp p q hq hp63 t2 c1 (eq_true_of c2) c3 c4 ao cap hc2 rd w hB h1 h2 h3 h4)
        · exact rx_to (by rw [hr, hV, hE]; rfl) (rdSp_some sp p _ (size_ext s p _ (by omega)) c3) (rx_more_short F g s hs x0 x1 rest sp hsp p q hq hp63 t2 c1 (eq_true_of c2) c3 c4 c5 ao cap hc2 rd w hB h1 h2 h3 h4)
        · exact rx_to (by rw [hr, hV, hE]; rfl) (rdSp_some sp p _ (size_ext s p _ (by omega)) (by omega)) (rx_more_wlt F g s hs x0 x1 rest sp hsp p q hq hp63 t2 c1 c2 (who_of c3) ao cap hc2 rd w hB h1 h2 h3 h4)
        · exact rx_to (by rw [hr, hV, hE]; rfl) (rdSp_none sp p rfl) (rx_more_wgez F g s hs x0 x1 rest sp hsp p q hq hp63 t2 c1 c2 c3 (who_of c4) ao cap hc2 rd w hB h1 h2 h3 h4)
        · exact rx_to (by rw [hr, hV, hE]; rfl) (rdSp_some sp p _ (size_ext s p _ (by omega)) c3) (rx_more_wge F g s hs x0 x1 rest sp hsp p q hq hp63 t2 c1 c2 c3 (who_of c4) ao cap hc2 rd w hB h1 h2 h3 h4)
end Go.Proofs.Yteclomkhienhiaa
