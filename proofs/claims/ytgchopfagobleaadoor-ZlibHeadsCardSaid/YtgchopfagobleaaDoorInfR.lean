/- Inflate, plain: a lower limit; bytes laid ahead. No program in it. -/
import Derived.Test.YtgchopfagobleaaDoorInfQ
namespace Go.Proofs.YtgchopfagobleaaDoor
set_option linter.unusedVariables false
/-! A lower limit. -/
def LimRel (b : Nat) (x y : IOut) : Prop := (∃ e, x = .bad e) ∨ (x.len ≤ b ∧ y = x) ∨ (b < x.len ∧ y = .bad 11)
theorem LimRel.bad (b : Nat) (e : Int) (y : IOut) : LimRel b (.bad e) y := .inl ⟨e, rfl⟩
theorem LimRel.same {b : Nat} {x : IOut} (h : x.len ≤ b) : LimRel b x x := .inr (.inl ⟨h, rfl⟩)
theorem num_lim {b : Nat} {s : ByteArray} {k n : Nat} {f g : Nat → Nat → IOut} (hf : ∀ v k', k' ≤ 8 * s.size → LimRel b (f v k') (g v k')) : LimRel b (num s k n f) (num s k n g) := by
  by_cases hk : k + n ≤ 8 * s.size
  · rw [num_ok hk, num_ok hk]; exact hf _ _ hk
  · rw [num_bad hk]; exact .bad ..
theorem sym1_lim {b : Nat} {s : ByteArray} {l : List Int} {k : Nat} {f g : Nat → Nat → IOut} (hf : ∀ v k', LimRel b (f v k') (g v k')) : LimRel b (sym1 s l k f) (sym1 s l k g) := by
  by_cases h0 : nextE l s k = 0
  · rw [sym1_ok h0, sym1_ok h0]; exact hf _ _
  · rw [sym1_bad h0]; exact .bad ..
theorem ite_lim {b : Nat} {c : Prop} [Decidable c] {x x' y y' : IOut} (h : c → LimRel b x x') (k : ¬ c → LimRel b y y') : LimRel b (if c then x else y) (if c then x' else y') := by
  by_cases hc : c
  · rw [if_pos hc, if_pos hc]; exact h hc
  · rw [if_neg hc, if_neg hc]; exact k hc
theorem aft_lim {b : Nat} {last : Bool} {k : Nat} {out : List UInt8} (h : out.length ≤ b) : LimRel b (aft last k out) (aft last k out) := by
  cases last <;> exact .same h
theorem aft_len (last : Bool) (k : Nat) (out : List UInt8) : (aft last k out).len = out.length := by cases last <;> rfl
/-- A limit that decides. -/
theorem room_lim {L b n : Nat} (hb : b ≤ L) {x : IOut} (hx : x.len = n) : LimRel b (if L < n then .bad 11 else x) (if b < n then .bad 11 else x) := by
  by_cases h1 : L < n
  · rw [if_pos h1]; exact .bad ..
  · rw [if_neg h1]
    by_cases h2 : b < n
    · rw [if_pos h2]; exact .inr (.inr ⟨by omega, rfl⟩)
    · rw [if_neg h2]; exact .same (by omega)
theorem step_lim {s : ByteArray} {L b : Nat} (hb : b ≤ L) (st : ISt) (ho : st.out.length ≤ b) : LimRel b (step s L st) (step s b st) := by
  obtain ⟨m, k, out⟩ := st
  have ho : out.length ≤ b := ho
  cases m with
  | top =>
    rw [step_top, step_top]
    unfold stTop stStored stHead
    refine num_lim fun _ k1 h1 => num_lim fun kind k2 h2 => ite_lim (fun _ => ?_) fun _ => ite_lim (fun _ => .same ho) fun _ => ite_lim (fun _ => ?_) fun _ => .bad ..
    · refine num_lim fun n k3 h3 => num_lim fun m k4 h4 => ite_lim (fun _ => ite_lim (fun hq => ?_) fun _ => .bad ..) fun _ => .bad ..
      exact room_lim hb (by rw [aft_len, List.length_append, cut_len _ _ _ hq])
    · exact num_lim fun a k3 h3 => num_lim fun b k4 h4 => num_lim fun c k5 h5 => ite_lim (fun _ => .same ho) fun _ => .bad ..
  | hdr last n d g i l =>
    rw [step_hdr, step_hdr]
    unfold stHdr
    exact ite_lim (fun _ => num_lim fun _ _ _ => .same ho) fun _ => ite_lim (fun _ => .same ho) fun _ => .bad ..
  | seq last n d t l =>
    rw [step_seq, step_seq]
    unfold stSeq stPut
    refine ite_lim (fun _ => sym1_lim fun x k1 => ite_lim (fun _ => ite_lim (fun _ => .bad ..) fun _ => ?_) fun _ => ite_lim (fun _ => ?_) fun _ => ite_lim (fun _ => ?_) fun _ => ?_) fun _ => ite_lim (fun _ => .bad ..) fun _ => ite_lim (fun _ => ite_lim (fun _ => .same ho) fun _ => .bad ..) fun _ => .bad ..
    · exact num_lim fun _ _ _ => ite_lim (fun _ => .same ho) fun _ => .bad ..
    · exact num_lim fun _ _ _ => ite_lim (fun _ => .same ho) fun _ => .bad ..
    · exact num_lim fun _ _ _ => ite_lim (fun _ => .same ho) fun _ => .bad ..
    · exact ite_lim (fun _ => .same ho) fun _ => .bad ..
  | sym last lt dt =>
    rw [step_sym, step_sym]
    unfold stSym stMatch
    refine sym1_lim fun x k1 => ite_lim (fun _ => aft_lim ho) fun _ => ite_lim (fun _ => ?_) fun _ => ite_lim (fun _ => .bad ..) fun _ => num_lim fun v k2 h2 => sym1_lim fun y k3 => ite_lim (fun _ => .bad ..) fun _ => num_lim fun u k4 h4 => ite_lim (fun _ => .bad ..) fun _ => ?_
    · exact room_lim hb (by show (out ++ [_]).length = _; rw [List.length_append]; rfl)
    · exact room_lim hb (by show (rep out _ _).length = _; rw [rep_len])
theorem num_len {n0 : Nat} {s : ByteArray} {k n : Nat} {f : Nat → Nat → IOut} (hf : ∀ v k', (∃ e, f v k' = .bad e) ∨ n0 ≤ (f v k').len) : (∃ e, num s k n f = .bad e) ∨ n0 ≤ (num s k n f).len := by
  by_cases hk : k + n ≤ 8 * s.size
  · rw [num_ok hk]; exact hf _ _
  · rw [num_bad hk]; exact .inl ⟨_, rfl⟩
theorem sym1_len {n0 : Nat} {s : ByteArray} {l : List Int} {k : Nat} {f : Nat → Nat → IOut} (hf : ∀ v k', (∃ e, f v k' = .bad e) ∨ n0 ≤ (f v k').len) : (∃ e, sym1 s l k f = .bad e) ∨ n0 ≤ (sym1 s l k f).len := by
  by_cases h0 : nextE l s k = 0
  · rw [sym1_ok h0]; exact hf _ _
  · rw [sym1_bad h0]; exact .inl ⟨_, rfl⟩
theorem ite_len {n0 : Nat} {c : Prop} [Decidable c] {x y : IOut} (h : c → (∃ e, x = .bad e) ∨ n0 ≤ x.len) (k : ¬ c → (∃ e, y = .bad e) ∨ n0 ≤ y.len) : (∃ e, (if c then x else y) = .bad e) ∨ n0 ≤ (if c then x else y).len := by
  by_cases hc : c
  · rw [if_pos hc]; exact h hc
  · rw [if_neg hc]; exact k hc
/-- The output never grows less. -/
theorem step_len (s : ByteArray) (L : Nat) (st : ISt) : (∃ e, step s L st = .bad e) ∨ st.out.length ≤ (step s L st).len := by
  obtain ⟨m, k, out⟩ := st
  show _ ∨ out.length ≤ _
  have hz : ∀ e, (∃ e', IOut.bad e = .bad e') ∨ out.length ≤ (IOut.bad e).len := fun e => .inl ⟨e, rfl⟩
  have hs : ∀ (m : IMode) (k : Nat), (∃ e', IOut.go ⟨m, k, out⟩ = .bad e') ∨ out.length ≤ (IOut.go ⟨m, k, out⟩).len := fun m k => .inr (Nat.le_refl _)
  cases m with
  | top =>
    rw [step_top]
    unfold stTop stStored stHead
    refine num_len fun _ k1 => num_len fun kind k2 => ite_len (fun _ => ?_) fun _ => ite_len (fun _ => hs _ _) fun _ => ite_len (fun _ => ?_) fun _ => hz _
    · refine num_len fun n k3 => num_len fun m k4 => ite_len (fun _ => ite_len (fun hq => ite_len (fun _ => hz _) fun _ => .inr ?_) fun _ => hz _) fun _ => hz _
      rw [aft_len, List.length_append]; omega
    · exact num_len fun a k3 => num_len fun b k4 => num_len fun c k5 => ite_len (fun _ => hs _ _) fun _ => hz _
  | hdr last n d g i l =>
    rw [step_hdr]
    unfold stHdr
    exact ite_len (fun _ => num_len fun _ _ => hs _ _) fun _ => ite_len (fun _ => hs _ _) fun _ => hz _
  | seq last n d t l =>
    rw [step_seq]
    unfold stSeq stPut
    refine ite_len (fun _ => sym1_len fun x k1 => ite_len (fun _ => ite_len (fun _ => hz _) fun _ => ?_) fun _ => ite_len (fun _ => ?_) fun _ => ite_len (fun _ => ?_) fun _ => ?_) fun _ => ite_len (fun _ => hz _) fun _ => ite_len (fun _ => ite_len (fun _ => hs _ _) fun _ => hz _) fun _ => hz _
    · exact num_len fun _ _ => ite_len (fun _ => hs _ _) fun _ => hz _
    · exact num_len fun _ _ => ite_len (fun _ => hs _ _) fun _ => hz _
    · exact num_len fun _ _ => ite_len (fun _ => hs _ _) fun _ => hz _
    · exact ite_len (fun _ => hs _ _) fun _ => hz _
  | sym last lt dt =>
    rw [step_sym]
    unfold stSym stMatch
    refine sym1_len fun x k1 => ite_len (fun _ => .inr (by rw [aft_len]; exact Nat.le_refl _)) fun _ => ite_len (fun _ => ite_len (fun _ => hz _) fun _ => .inr ?_) fun _ => ite_len (fun _ => hz _) fun _ => num_len fun v k2 => sym1_len fun y k3 => ite_len (fun _ => hz _) fun _ => num_len fun u k4 => ite_len (fun _ => hz _) fun _ => ite_len (fun _ => hz _) fun _ => .inr ?_
    · show _ ≤ (out ++ [_]).length; rw [List.length_append]; omega
    · show _ ≤ (rep out _ _).length; rw [rep_len]; omega
theorem itr_bad (s : ByteArray) (L n : Nat) (e : Int) : itr s L n (.bad e) = .bad e := itr_ended rfl n
theorem itr_len (s : ByteArray) (L : Nat) : ∀ (n : Nat) (x : IOut) (k : Nat) (out : List UInt8), itr s L n x = .fin k out → x.len ≤ out.length
  | 0, x, k, out, h => by
    have : x = .fin k out := h
    subst this; exact Nat.le_refl _
  | n + 1, x, k, out, h => by
    cases x with
    | go st =>
      have ih := itr_len s L n _ k out h
      rcases step_len s L st with ⟨e, he⟩ | hl
      · have h' : itr s L n (step s L st) = .fin k out := h
        rw [he, itr_bad] at h'; cases h'
      · exact Nat.le_trans hl ih
    | fin k' o =>
      rw [itr_ended rfl] at h
      cases h; exact Nat.le_refl _
    | bad e => rw [itr_bad] at h; cases h
/-- The run with a lower limit. -/
theorem itr_lim {s : ByteArray} {L b : Nat} (hb : b ≤ L) : ∀ (n : Nat) (x : IOut) (k : Nat) (out : List UInt8), x.len ≤ b → itr s L n x = .fin k out → (out.length ≤ b ∧ itr s b n x = .fin k out) ∨ (b < out.length ∧ itr s b n x = .bad 11)
  | 0, x, k, out, hx, h => by
    have : x = .fin k out := h
    subst this; exact .inl ⟨hx, rfl⟩
  | n + 1, x, k, out, hx, h => by
    cases x with
    | go st =>
      have h' : itr s L n (step s L st) = .fin k out := h
      rcases step_lim (s := s) hb st hx with ⟨e, he⟩ | ⟨hl, he⟩ | ⟨hl, he⟩
      · rw [he, itr_bad] at h'; cases h'
      · have ih := itr_lim hb n _ k out hl h'
        show (_ ∧ itr s b n (step s b st) = _) ∨ (_ ∧ itr s b n (step s b st) = _)
        rw [he]; exact ih
      · right
        refine ⟨Nat.lt_of_lt_of_le hl (itr_len s L n _ k out h'), ?_⟩
        show itr s b n (step s b st) = _
        rw [he, itr_bad]
    | fin k' o =>
      rw [itr_ended rfl] at h
      cases h
      exact .inl ⟨hx, itr_ended rfl _⟩
    | bad e => rw [itr_bad] at h; cases h
/-! Bytes laid ahead. -/
structure Ahd (s t : ByteArray) (D : Nat) : Prop where
  size : t.size = D + s.size
  text : t.data.toList.drop D = s.data.toList
theorem leN_drop : ∀ (l : List UInt8) (d : Nat), leN l / 2 ^ (8 * d) = leN (l.drop d)
  | l, 0 => by simp
  | [], d + 1 => by simp [leN]
  | x :: l, d + 1 => by
    have hb : x.toNat < 256 := x.toNat_lt
    rw [show 8 * (d + 1) = 8 + 8 * d by omega, Nat.pow_add, ← Nat.div_div_eq_div_mul]
    have e : leN (x :: l) / 2 ^ 8 = leN l := by rw [leN]; omega
    rw [e, leN_drop l d]; rfl
theorem bv_ahd {s t : ByteArray} {D : Nat} (h : Ahd s t D) (k n : Nat) : bv t (8 * D + k) n = bv s k n := by
  unfold bv
  rw [Nat.pow_add, ← Nat.div_div_eq_div_mul, leN_drop, h.text]
theorem cut_ahd {s t : ByteArray} {D : Nat} (h : Ahd s t D) (q n : Nat) : cut t (D + q) n = cut s q n := by
  rw [cut_list, cut_list, ← h.text, List.drop_drop]
theorem dGo_ahd {s t : ByteArray} {D : Nat} (h : Ahd s t D) (l : List Int) : ∀ (f : Nat) (p : Path) (k : Nat), dGo l t f p (8 * D + k) = ((dGo l s f p k).1, (dGo l s f p k).2.1, 8 * D + (dGo l s f p k).2.2)
  | 0, p, k => rfl
  | f + 1, p, k => by
    have hz := h.size
    rw [dGo, dGo]
    split
    · rfl
    · by_cases hn : ndB l p = true
      · rw [if_pos hn, if_pos hn]
        by_cases hc : 8 * s.size ≤ k
        · rw [if_pos hc, if_pos (by omega)]
        · rw [if_neg hc, if_neg (by omega), bv_ahd h, Nat.add_assoc]
          exact dGo_ahd h l f _ _
      · rw [if_neg hn, if_neg hn]
theorem next_ahd {s t : ByteArray} {D : Nat} (h : Ahd s t D) (l : List Int) (k : Nat) : nextV l t (8 * D + k) = nextV l s k ∧ nextE l t (8 * D + k) = nextE l s k ∧ nextK l t (8 * D + k) = 8 * D + nextK l s k := by
  have e : nextR l t (8 * D + k) = _ := dGo_ahd h l 16 (0, 0) k
  unfold nextK nextV nextE
  rw [e]
  refine ⟨rfl, rfl, ?_⟩
  show (if (nextR l s k).2.1 = 0 then _ else _) = 8 * D + if (nextR l s k).2.1 = 0 then _ else _
  split <;> rfl
def AhdRel (D : Nat) (A : List UInt8) (x y : IOut) : Prop := (∃ e, x = .bad e) ∨ (∃ m k out, x = .go ⟨m, k, out⟩ ∧ y = .go ⟨m, 8 * D + k, A ++ out⟩) ∨ (∃ k out, x = .fin k out ∧ y = .fin (8 * D + k) (A ++ out))
theorem AhdRel.bad (D : Nat) (A : List UInt8) (e : Int) (y : IOut) : AhdRel D A (.bad e) y := .inl ⟨e, rfl⟩
theorem AhdRel.st (D : Nat) (A : List UInt8) (m : IMode) (k : Nat) (out : List UInt8) : AhdRel D A (.go ⟨m, k, out⟩) (.go ⟨m, 8 * D + k, A ++ out⟩) := .inr (.inl ⟨m, k, out, rfl, rfl⟩)
section
variable {s t : ByteArray} {D : Nat} {A : List UInt8}
theorem num_ahd (h : Ahd s t D) {k n : Nat} {f g : Nat → Nat → IOut} (hf : ∀ v k', AhdRel D A (f v k') (g v (8 * D + k'))) : AhdRel D A (num s k n f) (num t (8 * D + k) n g) := by
  have hz := h.size
  by_cases hk : k + n ≤ 8 * s.size
  · rw [num_ok hk, num_ok (by omega), bv_ahd h, Nat.add_assoc]; exact hf _ _
  · rw [num_bad hk]; exact .bad ..
theorem sym1_ahd (h : Ahd s t D) {l : List Int} {k : Nat} {f g : Nat → Nat → IOut} (hf : ∀ v k', AhdRel D A (f v k') (g v (8 * D + k'))) : AhdRel D A (sym1 s l k f) (sym1 t l (8 * D + k) g) := by
  obtain ⟨e1, e2, e3⟩ := next_ahd h l k
  by_cases h0 : nextE l s k = 0
  · rw [sym1_ok h0, sym1_ok (by rw [e2]; exact h0), e1, e3]; exact hf _ _
  · rw [sym1_bad h0]; exact .bad ..
theorem ite_ahd {c c' : Prop} [Decidable c] [Decidable c'] (hc' : c ↔ c') {x x' y y' : IOut} (h : c → AhdRel D A x x') (k : ¬ c → AhdRel D A y y') : AhdRel D A (if c then x else y) (if c' then x' else y') := by
  by_cases hc : c
  · rw [if_pos hc, if_pos (hc'.1 hc)]; exact h hc
  · rw [if_neg hc, if_neg (fun h => hc (hc'.2 h))]; exact k hc
theorem aft_ahd (last : Bool) (k : Nat) (out : List UInt8) : AhdRel D A (aft last k out) (aft last (8 * D + k) (A ++ out)) := by
  cases last
  · exact .st ..
  · exact .inr (.inr ⟨k, out, rfl, rfl⟩)
/-- A condition that lets the one pass lets the other pass. -/
theorem let_ahd {c c' : Prop} [Decidable c] [Decidable c'] (hc' : c' → c) {e e' : Int} {y y' : IOut} (k : ¬ c → AhdRel D A y y') : AhdRel D A (if c then .bad e else y) (if c' then .bad e' else y') := by
  by_cases hc : c
  · rw [if_pos hc]; exact .bad ..
  · rw [if_neg hc, if_neg (fun h => hc (hc' h))]; exact k hc
theorem rep_ahd (A out : List UInt8) (d : Nat) (h1 : 1 ≤ d) (hd : d ≤ out.length) (n : Nat) : rep (A ++ out) d n = A ++ rep out d n := by
  induction n with
  | zero => rfl
  | succ n ih =>
    rw [rep, ih, rep, rep1, rep1, List.append_assoc]
    have hl := rep_len out d n
    congr 2
    rw [List.length_append, show A.length + (rep out d n).length - d = A.length + ((rep out d n).length - d) by omega, List.getD_eq_getElem?_getD, List.getD_eq_getElem?_getD, List.getElem?_append_right (by omega), Nat.add_sub_cancel_left]
theorem distR_pos (y : Nat) (h : ¬ 30 ≤ y) : 1 ≤ (distR y).1 := by
  have : (List.range 30).all (fun i => decide (1 ≤ (distR i).1)) = true := by decide
  exact of_decide_eq_true (List.all_eq_true.1 this y (List.mem_range.2 (by omega)))
theorem step_ahd (h : Ahd s t D) {L M : Nat} (hL : L + A.length ≤ M) (m : IMode) (k : Nat) (out : List UInt8) : AhdRel D A (step s L ⟨m, k, out⟩) (step t M ⟨m, 8 * D + k, A ++ out⟩) := by
  have hz := h.size
  cases m with
  | top =>
    rw [step_top, step_top]
    unfold stTop stStored stHead
    refine num_ahd h fun b k1 => num_ahd h fun kind k2 => ite_ahd Iff.rfl (fun _ => ?_) fun _ => ite_ahd Iff.rfl (fun _ => .st ..) fun _ => ite_ahd Iff.rfl (fun _ => ?_) fun _ => .bad ..
    · have e : upK (8 * D + k2) = 8 * D + upK k2 := by unfold upK; omega
      rw [e]
      refine num_ahd h fun n k3 => num_ahd h fun m k4 => ite_ahd Iff.rfl (fun _ => ?_) fun _ => .bad ..
      refine ite_ahd (by omega) (fun _ => let_ahd (by rw [List.length_append]; omega) fun _ => ?_) fun _ => .bad ..
      rw [show (8 * D + k4) / 8 = D + k4 / 8 by omega, cut_ahd h, List.append_assoc, Nat.add_assoc]
      exact aft_ahd ..
    · exact num_ahd h fun a k3 => num_ahd h fun b k4 => num_ahd h fun c k5 => ite_ahd Iff.rfl (fun _ => .st ..) fun _ => .bad ..
  | hdr last n d g i l =>
    rw [step_hdr, step_hdr]
    unfold stHdr
    exact ite_ahd Iff.rfl (fun _ => num_ahd h fun _ _ => .st ..) fun _ => ite_ahd Iff.rfl (fun _ => .st ..) fun _ => .bad ..
  | seq last n d t' l =>
    rw [step_seq, step_seq]
    unfold stSeq stPut
    refine ite_ahd Iff.rfl (fun _ => sym1_ahd h fun x k1 => ite_ahd Iff.rfl (fun _ => ite_ahd Iff.rfl (fun _ => .bad ..) fun _ => ?_) fun _ => ite_ahd Iff.rfl (fun _ => ?_) fun _ => ite_ahd Iff.rfl (fun _ => ?_) fun _ => ?_) fun _ => ite_ahd Iff.rfl (fun _ => .bad ..) fun _ => ite_ahd Iff.rfl (fun _ => ite_ahd Iff.rfl (fun _ => .st ..) fun _ => .bad ..) fun _ => .bad ..
    · exact num_ahd h fun _ _ => ite_ahd Iff.rfl (fun _ => .st ..) fun _ => .bad ..
    · exact num_ahd h fun _ _ => ite_ahd Iff.rfl (fun _ => .st ..) fun _ => .bad ..
    · exact num_ahd h fun _ _ => ite_ahd Iff.rfl (fun _ => .st ..) fun _ => .bad ..
    · exact ite_ahd Iff.rfl (fun _ => .st ..) fun _ => .bad ..
  | sym last lt dt =>
    rw [step_sym, step_sym]
    unfold stSym stMatch
    refine sym1_ahd h fun x k1 => ite_ahd Iff.rfl (fun _ => aft_ahd ..) fun _ => ite_ahd Iff.rfl (fun _ => let_ahd (by rw [List.length_append]; omega) fun _ => ?_) fun _ => ite_ahd Iff.rfl (fun _ => .bad ..) fun _ => num_ahd h fun v k2 => sym1_ahd h fun y k3 => ite_ahd Iff.rfl (fun _ => .bad ..) fun hy => num_ahd h fun u k4 => let_ahd (by rw [List.length_append]; omega) fun hd => let_ahd (by rw [List.length_append]; omega) fun _ => ?_
    · rw [List.append_assoc]; exact .st ..
    · have := distR_pos y hy
      rw [rep_ahd A out _ (by omega) (by omega)]; exact .st ..
theorem itr_ahd (h : Ahd s t D) {L M : Nat} (hL : L + A.length ≤ M) : ∀ (n : Nat) (m : IMode) (k : Nat) (out : List UInt8) (k' : Nat) (out' : List UInt8), itr s L n (.go ⟨m, k, out⟩) = .fin k' out' → itr t M n (.go ⟨m, 8 * D + k, A ++ out⟩) = .fin (8 * D + k') (A ++ out')
  | 0, m, k, out, k', out', e => by cases e
  | n + 1, m, k, out, k', out', e => by
    have e' : itr s L n (step s L ⟨m, k, out⟩) = .fin k' out' := e
    show itr t M n (step t M ⟨m, 8 * D + k, A ++ out⟩) = _
    rcases step_ahd (A := A) h hL m k out with ⟨x, hx⟩ | ⟨m2, k2, o2, hx, hy⟩ | ⟨k2, o2, hx, hy⟩
    · rw [hx, itr_bad] at e'; cases e'
    · rw [hx] at e'; rw [hy]
      exact itr_ahd h hL n m2 k2 o2 k' out' e'
    · rw [hx, itr_ended rfl] at e'
      rw [hy, itr_ended rfl]
      cases e'; rfl
end
end Go.Proofs.YtgchopfagobleaaDoor
