/- Inflate, plain: bytes behind, limits, bytes ahead. No program in it. -/
import Derived.Test.YtgchopfagobleaaDoorInfP
namespace Go.Proofs.YtgchopfagobleaaDoor
set_option linter.unusedVariables false
def Pre (s t : ByteArray) : Prop := ∃ u : List UInt8, t.data.toList = s.data.toList ++ u
theorem Pre.size {s t : ByteArray} (h : Pre s t) : s.size ≤ t.size := by
  obtain ⟨u, h⟩ := h
  have := congrArg List.length h
  simp at this
  omega
theorem bv_pre {s t : ByteArray} (h : Pre s t) {k n : Nat} (hk : k + n ≤ 8 * s.size) : bv t k n = bv s k n := by
  obtain ⟨u, h⟩ := h
  have hl : s.data.toList.length = s.size := by simp
  unfold bv
  rw [← mdm (leN t.data.toList) (8 * s.size) k n hk, h, leN_append, hl]
  have := leN_lt s.data.toList
  rw [hl] at this
  rw [Nat.add_mul_mod_self_left, Nat.mod_eq_of_lt this]
theorem cut_list (s : ByteArray) (q n : Nat) : cut s q n = (s.data.toList.drop q).take n := by
  unfold cut
  rw [ByteArray.data_extract, Array.toList_extract, List.extract_eq_take_drop]
  congr 1
  omega
theorem cut_pre {s t : ByteArray} (h : Pre s t) {q n : Nat} (hk : q + n ≤ s.size) : cut t q n = cut s q n := by
  obtain ⟨u, h⟩ := h
  have hl : s.data.toList.length = s.size := by simp
  rw [cut_list, cut_list, h, List.drop_append_of_le_length (by omega), List.take_append_of_le_length (by rw [List.length_drop]; omega)]
theorem cut_len (s : ByteArray) (q n : Nat) (h : q + n ≤ s.size) : (cut s q n).length = n := by
  have hl : s.data.toList.length = s.size := by simp
  rw [cut_list, List.length_take, List.length_drop]; omega
theorem dGo_pre {s t : ByteArray} (h : Pre s t) (l : List Int) : ∀ (f : Nat) (p : Path) (k : Nat), k ≤ 8 * s.size → (dGo l s f p k).2.1 ≠ 2 → dGo l t f p k = dGo l s f p k
  | 0, p, k, _, _ => rfl
  | f + 1, p, k, hk, h2 => by
    rw [dGo] at h2 ⊢
    rw [dGo]
    split
    · rfl
    · rename_i hl
      rw [hl] at h2
      simp only at h2
      by_cases hn : ndB l p = true
      · rw [if_pos hn] at h2 ⊢
        rw [if_pos hn]
        by_cases hc : 8 * s.size ≤ k
        · rw [if_pos hc] at h2; simp at h2
        · rw [if_neg hc] at h2 ⊢
          have := h.size
          rw [if_neg (by omega), bv_pre h (by omega)]
          exact dGo_pre h l f _ _ (by omega) h2
      · rw [if_neg hn, if_neg hn]
theorem next_pre {s t : ByteArray} (h : Pre s t) (l : List Int) {k : Nat} (hk : k ≤ 8 * s.size) (h2 : nextE l s k ≠ 2) : nextV l t k = nextV l s k ∧ nextE l t k = nextE l s k ∧ nextK l t k = nextK l s k := by
  have e : nextR l t k = nextR l s k := dGo_pre h l 16 (0, 0) k hk h2
  unfold nextK nextV nextE
  rw [e]; exact ⟨rfl, rfl, rfl⟩
/-- What the shorter text says, the longer one says too, but for 'cut short'. -/
def PreEq (x y : IOut) : Prop := x = .bad 2 ∨ y = x
theorem PreEq.refl (x : IOut) : PreEq x x := .inr rfl
theorem num_pre {s t : ByteArray} (h : Pre s t) {k n : Nat} {f g : Nat → Nat → IOut} (hf : ∀ v k', k' ≤ 8 * s.size → PreEq (f v k') (g v k')) : PreEq (num s k n f) (num t k n g) := by
  by_cases hk : k + n ≤ 8 * s.size
  · have := h.size
    rw [num_ok hk, num_ok (by omega), bv_pre h hk]
    exact hf _ _ hk
  · rw [num_bad hk]; exact .inl rfl
theorem sym1_pre {s t : ByteArray} (h : Pre s t) {l : List Int} {k : Nat} (hk : k ≤ 8 * s.size) {f g : Nat → Nat → IOut} (hf : ∀ v k', k' ≤ 8 * s.size → PreEq (f v k') (g v k')) : PreEq (sym1 s l k f) (sym1 t l k g) := by
  by_cases h2 : nextE l s k = 2
  · rw [sym1_bad (by rw [h2]; decide), h2]; exact .inl rfl
  · obtain ⟨e1, e2, e3⟩ := next_pre h l hk h2
    by_cases h0 : nextE l s k = 0
    · rw [sym1_ok h0, sym1_ok (by rw [e2]; exact h0), e1, e3]
      exact hf _ _ (nextK_le l s k hk)
    · rw [sym1_bad h0, sym1_bad (by rw [e2]; exact h0), e2]; exact .inr rfl
theorem ite_pre {c : Prop} [Decidable c] {x x' y y' : IOut} (h : c → PreEq x x') (k : ¬ c → PreEq y y') : PreEq (if c then x else y) (if c then x' else y') := by
  by_cases hc : c
  · rw [if_pos hc, if_pos hc]; exact h hc
  · rw [if_neg hc, if_neg hc]; exact k hc
theorem step_pre {s t : ByteArray} (h : Pre s t) (lim : Nat) (st : ISt) (hk : st.k ≤ 8 * s.size) : PreEq (step s lim st) (step t lim st) := by
  obtain ⟨m, k, out⟩ := st
  have hz := h.size
  cases m with
  | top =>
    rw [step_top, step_top]
    unfold stTop stStored stHead
    refine num_pre h fun b k1 h1 => num_pre h fun kind k2 h2 => ite_pre (fun _ => ?_) fun _ => ite_pre (fun _ => .refl _) fun _ => ite_pre (fun _ => ?_) fun _ => .refl _
    · refine num_pre h fun n k3 h3 => num_pre h fun m k4 h4 => ite_pre (fun _ => ?_) fun _ => .refl _
      by_cases hq : k4 / 8 + n ≤ s.size
      · rw [if_pos hq, if_pos (show k4 / 8 + n ≤ t.size by omega), cut_pre h hq]; exact .refl _
      · rw [if_neg hq]; exact .inl rfl
    · exact num_pre h fun a k3 h3 => num_pre h fun b k4 h4 => num_pre h fun c k5 h5 => .refl _
  | hdr last n d g i l =>
    rw [step_hdr, step_hdr]
    unfold stHdr
    exact ite_pre (fun _ => num_pre h fun _ _ _ => .refl _) fun _ => .refl _
  | seq last n d t l =>
    rw [step_seq, step_seq]
    unfold stSeq stPut
    refine ite_pre (fun _ => sym1_pre h hk fun x k1 h1 => ite_pre (fun _ => ite_pre (fun _ => .refl _) fun _ => ?_) fun _ => ite_pre (fun _ => ?_) fun _ => ite_pre (fun _ => ?_) fun _ => .refl _) fun _ => .refl _
    all_goals exact num_pre h fun _ _ _ => .refl _
  | sym last lt dt =>
    rw [step_sym, step_sym]
    unfold stSym stMatch
    refine sym1_pre h hk fun x k1 h1 => ite_pre (fun _ => .refl _) fun _ => ite_pre (fun _ => .refl _) fun _ => ite_pre (fun _ => .refl _) fun _ => num_pre h fun v k2 h2 => sym1_pre h h2 fun y k3 h3 => ite_pre (fun _ => .refl _) fun _ => num_pre h fun u k4 h4 => .refl _
/-- Where a state stands. -/
def IOut.pos : IOut → Nat
  | .go st => st.k
  | .fin k _ => k
  | .bad _ => 0
def IOut.len : IOut → Nat
  | .go st => st.out.length
  | .fin _ o => o.length
  | .bad _ => 0
theorem num_pos' {s : ByteArray} {k n : Nat} {f : Nat → Nat → IOut} (hf : ∀ v k', k' = k + n → k' ≤ 8 * s.size → (f v k').pos ≤ 8 * s.size) : (num s k n f).pos ≤ 8 * s.size := by
  by_cases hk : k + n ≤ 8 * s.size
  · rw [num_ok hk]; exact hf _ _ rfl hk
  · rw [num_bad hk]; exact Nat.zero_le _
theorem num_pos {s : ByteArray} {k n : Nat} {f : Nat → Nat → IOut} (hf : ∀ v k', k' ≤ 8 * s.size → (f v k').pos ≤ 8 * s.size) : (num s k n f).pos ≤ 8 * s.size := num_pos' fun v k' _ h => hf v k' h
theorem sym1_pos {s : ByteArray} {l : List Int} {k : Nat} (hk : k ≤ 8 * s.size) {f : Nat → Nat → IOut} (hf : ∀ v k', k' ≤ 8 * s.size → (f v k').pos ≤ 8 * s.size) : (sym1 s l k f).pos ≤ 8 * s.size := by
  by_cases h0 : nextE l s k = 0
  · rw [sym1_ok h0]; exact hf _ _ (nextK_le l s k hk)
  · rw [sym1_bad h0]; exact Nat.zero_le _
theorem ite_pos {n : Nat} {c : Prop} [Decidable c] {x y : IOut} (h : c → x.pos ≤ n) (k : ¬ c → y.pos ≤ n) : (if c then x else y).pos ≤ n := by
  by_cases hc : c
  · rw [if_pos hc]; exact h hc
  · rw [if_neg hc]; exact k hc
theorem aft_pos {last : Bool} {k n : Nat} {out : List UInt8} (h : k ≤ n) : (aft last k out).pos ≤ n := by
  cases last <;> exact h
theorem step_pos (s : ByteArray) (lim : Nat) (st : ISt) (hk : st.k ≤ 8 * s.size) : (step s lim st).pos ≤ 8 * s.size := by
  obtain ⟨m, k, out⟩ := st
  have hz : (0 : Nat) ≤ 8 * s.size := Nat.zero_le _
  cases m with
  | top =>
    rw [step_top]
    unfold stTop stStored stHead
    refine num_pos fun b k1 h1 => num_pos fun kind k2 h2 => ite_pos (fun _ => ?_) fun _ => ite_pos (fun _ => h2) fun _ => ite_pos (fun _ => ?_) fun _ => hz
    · refine num_pos' fun n k3 e3 h3 => num_pos' fun m k4 e4 h4 => ite_pos (fun _ => ite_pos (fun h => ite_pos (fun _ => hz) fun _ => aft_pos ?_) fun _ => hz) fun _ => hz
      have := upK_8 k2
      omega
    · exact num_pos fun a k3 h3 => num_pos fun b k4 h4 => num_pos fun c k5 h5 => ite_pos (fun _ => h5) fun _ => hz
  | hdr last n d g i l =>
    rw [step_hdr]
    unfold stHdr
    exact ite_pos (fun _ => num_pos fun _ _ h => h) fun _ => ite_pos (fun _ => hk) fun _ => hz
  | seq last n d t l =>
    rw [step_seq]
    unfold stSeq stPut
    refine ite_pos (fun _ => sym1_pos hk fun x k1 h1 => ite_pos (fun _ => ite_pos (fun _ => hz) fun _ => ?_) fun _ => ite_pos (fun _ => ?_) fun _ => ite_pos (fun _ => ?_) fun _ => ?_) fun _ => ite_pos (fun _ => hz) fun _ => ite_pos (fun _ => ite_pos (fun _ => hk) fun _ => hz) fun _ => hz
    · exact num_pos fun _ _ h => ite_pos (fun _ => h) fun _ => hz
    · exact num_pos fun _ _ h => ite_pos (fun _ => h) fun _ => hz
    · exact num_pos fun _ _ h => ite_pos (fun _ => h) fun _ => hz
    · exact ite_pos (fun _ => h1) fun _ => hz
  | sym last lt dt =>
    rw [step_sym]
    unfold stSym stMatch
    exact sym1_pos hk fun x k1 h1 => ite_pos (fun _ => aft_pos h1) fun _ => ite_pos (fun _ => ite_pos (fun _ => hz) fun _ => h1) fun _ => ite_pos (fun _ => hz) fun _ => num_pos fun v k2 h2 => sym1_pos h2 fun y k3 h3 => ite_pos (fun _ => hz) fun _ => num_pos fun u k4 h4 => ite_pos (fun _ => hz) fun _ => ite_pos (fun _ => hz) fun _ => h4
theorem itr_pos (s : ByteArray) (lim : Nat) (n : Nat) (x : IOut) (hk : x.pos ≤ 8 * s.size) : (itr s lim n x).pos ≤ 8 * s.size := by
  induction n generalizing x with
  | zero => exact hk
  | succ n ih =>
    refine ih _ ?_
    cases x with
    | go st => exact step_pos s lim st hk
    | fin k o => exact hk
    | bad e => exact hk
theorem itr_pre {s t : ByteArray} (h : Pre s t) (lim n : Nat) (x : IOut) (hk : x.pos ≤ 8 * s.size) : PreEq (itr s lim n x) (itr t lim n x) := by
  induction n generalizing x with
  | zero => exact .refl _
  | succ n ih =>
    rw [itr, itr]
    cases x with
    | go st =>
      rcases step_pre h lim st hk with e | e
      · left
        show itr s lim n (step s lim st) = _
        rw [e]; exact itr_ended rfl n
      · show PreEq (itr s lim n (step s lim st)) (itr t lim n (step t lim st))
        rw [e]
        exact ih _ (step_pos s lim st hk)
    | fin k o => exact ih _ hk
    | bad e => exact ih _ hk
end Go.Proofs.YtgchopfagobleaaDoor
