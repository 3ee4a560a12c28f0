/- Inflate, plain: the machine goes on; what its errors are. No program in it. -/
import Derived.Test.YtaihojjocmdgbaaDoorInfR
namespace Go.Proofs.YtaihojjocmdgbaaDoor
set_option linter.unusedVariables false
def Fwd (s : ByteArray) (n0 : Nat) (x : IOut) : Prop := (∃ e, x = .bad e ∧ e ≠ 0) ∨ (n0 ≤ x.pos ∧ x.pos ≤ 8 * s.size ∧ ∀ e, x ≠ .bad e)
theorem Fwd.bad {s : ByteArray} {n0 : Nat} {e : Int} (h : e ≠ 0) : Fwd s n0 (.bad e) := .inl ⟨e, rfl, h⟩
theorem Fwd.st {s : ByteArray} {n0 : Nat} {m : IMode} {k : Nat} {out : List UInt8} (h : n0 ≤ k) (h8 : k ≤ 8 * s.size) : Fwd s n0 (.go ⟨m, k, out⟩) := .inr ⟨h, h8, fun e h => by cases h⟩
theorem Fwd.aft {s : ByteArray} {n0 : Nat} {last : Bool} {k : Nat} {out : List UInt8} (h : n0 ≤ k) (h8 : k ≤ 8 * s.size) : Fwd s n0 (aft last k out) := by
  cases last
  · exact .st h h8
  · exact .inr ⟨h, h8, fun e h => by cases h⟩
theorem num_fwd {s : ByteArray} {n0 k n : Nat} {f : Nat → Nat → IOut} (hk : n0 ≤ k) (hf : ∀ v k', k' = k + n → n0 ≤ k' → k' ≤ 8 * s.size → Fwd s n0 (f v k')) : Fwd s n0 (num s k n f) := by
  by_cases h : k + n ≤ 8 * s.size
  · rw [num_ok h]; exact hf _ _ rfl (by omega) h
  · rw [num_bad h]; exact .bad (by decide)
theorem sym1_fwd {s : ByteArray} {l : List Int} {n0 k : Nat} {f : Nat → Nat → IOut} (hk : n0 ≤ k) (h8 : k ≤ 8 * s.size) (hf : ∀ v k', n0 ≤ k' → k' ≤ 8 * s.size → Fwd s n0 (f v k')) : Fwd s n0 (sym1 s l k f) := by
  by_cases h0 : nextE l s k = 0
  · rw [sym1_ok h0]
    have := next_more h0 h8
    exact hf _ _ (by omega) this.2
  · rw [sym1_bad h0]; exact .bad h0
theorem ite_fwd {s : ByteArray} {n0 : Nat} {c : Prop} [Decidable c] {x y : IOut} (h : c → Fwd s n0 x) (k : ¬ c → Fwd s n0 y) : Fwd s n0 (if c then x else y) := by
  by_cases hc : c
  · rw [if_pos hc]; exact h hc
  · rw [if_neg hc]; exact k hc
theorem stored_fwd {s : ByteArray} {lim : Nat} {last : Bool} {k n0 : Nat} {out : List UInt8} (hk : n0 ≤ k) : Fwd s n0 (stStored s lim last k out) := by
  have h3 : (3 : Int) ≠ 0 := by decide
  have hu : k ≤ upK k := by unfold upK; omega
  have hu8 := upK_8 k
  unfold stStored
  refine num_fwd (by omega) fun n k3 e3 _ h3' => num_fwd (by omega) fun m k4 e4 h4 h4' => ite_fwd (fun _ => ite_fwd (fun hq => ite_fwd (fun _ => .bad (by decide)) fun _ => .aft (by omega) (by omega)) fun _ => .bad (by decide)) fun _ => .bad h3
theorem step_fwd (s : ByteArray) (lim : Nat) (st : ISt) (h8 : st.k ≤ 8 * s.size) : Fwd s st.k (step s lim st) := by
  obtain ⟨m, k, out⟩ := st
  have h8 : k ≤ 8 * s.size := h8
  show Fwd s k _
  have hr := Nat.le_refl k
  have h3 : (3 : Int) ≠ 0 := by decide
  cases m with
  | top =>
    rw [step_top]
    unfold stTop
    refine num_fwd hr fun b k1 _ h1 _ => num_fwd h1 fun kind k2 _ h2 h2' => ite_fwd (fun _ => stored_fwd h2) fun _ => ite_fwd (fun _ => .st h2 h2') fun _ => ite_fwd (fun _ => ?_) fun _ => .bad h3
    unfold stHead
    exact num_fwd h2 fun a k3 _ h3' _ => num_fwd h3' fun b k4 _ h4 _ => num_fwd h4 fun c k5 _ h5 h5' => ite_fwd (fun _ => .st h5 h5') fun _ => .bad h3
  | hdr last n d g i l =>
    rw [step_hdr]
    unfold stHdr
    exact ite_fwd (fun _ => num_fwd hr fun _ _ _ h h' => .st h h') fun _ => ite_fwd (fun _ => .st hr h8) fun h => .bad h
  | seq last n d t l =>
    rw [step_seq]
    unfold stSeq stPut
    refine ite_fwd (fun _ => sym1_fwd hr h8 fun x k1 h1 h1' => ite_fwd (fun _ => ite_fwd (fun _ => .bad h3) fun _ => ?_) fun _ => ite_fwd (fun _ => ?_) fun _ => ite_fwd (fun _ => ?_) fun _ => ?_) fun _ => ite_fwd (fun _ => .bad h3) fun _ => ite_fwd (fun _ => ite_fwd (fun _ => .st hr h8) fun h => .bad h) fun h => .bad h
    · exact num_fwd h1 fun _ _ _ h h' => ite_fwd (fun _ => .st h h') fun _ => .bad h3
    · exact num_fwd h1 fun _ _ _ h h' => ite_fwd (fun _ => .st h h') fun _ => .bad h3
    · exact num_fwd h1 fun _ _ _ h h' => ite_fwd (fun _ => .st h h') fun _ => .bad h3
    · exact ite_fwd (fun _ => .st h1 h1') fun _ => .bad h3
  | sym last lt dt =>
    rw [step_sym]
    unfold stSym stMatch
    exact sym1_fwd hr h8 fun x k1 h1 h1' => ite_fwd (fun _ => .aft h1 h1') fun _ => ite_fwd (fun _ => ite_fwd (fun _ => .bad (by decide)) fun _ => .st h1 h1') fun _ => ite_fwd (fun _ => .bad h3) fun _ => num_fwd h1 fun v k2 _ h2 h2' => sym1_fwd h2 h2' fun y k3 h3' h3'' => ite_fwd (fun _ => .bad h3) fun _ => num_fwd h3' fun u k4 _ h4 h4' => ite_fwd (fun _ => .bad h3) fun _ => ite_fwd (fun _ => .bad (by decide)) fun _ => .st h4 h4'
theorem itr_fwd (s : ByteArray) (lim n0 : Nat) : ∀ (n : Nat) (x : IOut), Fwd s n0 x → Fwd s n0 (itr s lim n x)
  | 0, x, h => h
  | n + 1, x, h => by
    rcases h with ⟨e, rfl, he⟩ | ⟨h1, h2, h3⟩
    · rw [itr_bad]; exact .bad he
    · refine itr_fwd s lim n0 n _ ?_
      cases x with
      | go st =>
        rcases step_fwd s lim st h2 with h | ⟨a, b, c⟩
        · exact .inl h
        · exact .inr ⟨Nat.le_trans h1 a, b, c⟩
      | fin k o => exact .inr ⟨h1, h2, h3⟩
      | bad e => exact absurd rfl (h3 e)
theorem leads_fwd {s : ByteArray} {lim : Nat} {m : IMode} {k : Nat} {out : List UInt8} (h8 : k ≤ 8 * s.size) {y : IOut} (h : Leads s lim (.go ⟨m, k, out⟩) y) : Fwd s k y := by
  obtain ⟨n, rfl⟩ := h
  exact itr_fwd s lim k n _ (.st (Nat.le_refl _) h8)
theorem leads_bad {s : ByteArray} {lim : Nat} {m : IMode} {k : Nat} {out : List UInt8} (h8 : k ≤ 8 * s.size) {e : Int} (h : Leads s lim (.go ⟨m, k, out⟩) (.bad e)) : e ≠ 0 := by
  rcases leads_fwd h8 h with ⟨e', h1, h2⟩ | ⟨_, _, h3⟩
  · injection h1 with h1; rw [h1]; exact h2
  · exact absurd rfl (h3 e)
theorem aft_pos_eq (last : Bool) (k : Nat) (out : List UInt8) : (aft last k out).pos = k := by cases last <;> rfl
theorem aft_not_bad (last : Bool) (k : Nat) (out : List UInt8) (e : Int) : aft last k out ≠ .bad e := by cases last <;> (intro h; cases h)
theorem leads_aft {s : ByteArray} {lim : Nat} {m : IMode} {k : Nat} {out : List UInt8} (h8 : k ≤ 8 * s.size) {last : Bool} {k' : Nat} {out' : List UInt8} (h : Leads s lim (.go ⟨m, k, out⟩) (aft last k' out')) : k ≤ k' := by
  rcases leads_fwd h8 h with ⟨e', h1, h2⟩ | ⟨h1, _, _⟩
  · exact absurd h1 (aft_not_bad _ _ _ _)
  · rwa [aft_pos_eq] at h1
/-- A stored block ends behind itself, or is none. -/
theorem stored_cases (s : ByteArray) (lim : Nat) (last : Bool) (k : Nat) (out : List UInt8) : (∃ e, stStored s lim last k out = .bad e) ∨ ∃ k' out', stStored s lim last k out = aft last k' out' ∧ k ≤ k' := by
  obtain ⟨q, hq⟩ : ∃ q, upK k = 8 * q := ⟨upK k / 8, upK_8 k⟩
  have hu : k ≤ upK k := by unfold upK; omega
  unfold stStored
  by_cases h1 : upK k + 16 ≤ 8 * s.size
  · rw [num_ok h1]
    by_cases h2 : upK k + 16 + 16 ≤ 8 * s.size
    · rw [num_ok h2]
      split
      · split
        · split
          · exact .inl ⟨_, rfl⟩
          · exact .inr ⟨_, _, rfl, by omega⟩
        · exact .inl ⟨_, rfl⟩
      · exact .inl ⟨_, rfl⟩
    · rw [num_bad h2]; exact .inl ⟨_, rfl⟩
  · rw [num_bad h1]; exact .inl ⟨_, rfl⟩
end Go.Proofs.YtaihojjocmdgbaaDoor
