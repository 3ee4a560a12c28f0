import Derived.Test.YtkmbgkcpohchhaaGreatDoorGHufR
import Derived.Test.YtkmbgkcpohchhaaGreatDoorDefF
import Derived.Test.YtkmbgkcpohchhaaGreatDoorInfVr
/- Deflate, plain: the shortest of the three is read as the text, whatever stands behind; how long it is. No program in it. -/
namespace Go.Proofs.YtkmbgkcpohchhaaGreatDoor
open Go.RowKit
set_option linter.unusedVariables false
theorem sto_read : ∀ (m : Nat) (c : List UInt8), c.length ≤ m → ∀ (bl out : List UInt8) (L : Nat), Read L bl out false → out.length + c.length ≤ L → Read L (bl ++ stoL c) (out ++ c) true
  | m, c, hm, bl, out, L, hr, hL => by
    by_cases h : c.length ≤ 65535
    · rw [stoL_last h]
      exact hr.more c true h hL
    · have ht : (c.take 65535).length = 65535 := by rw [List.length_take]; omega
      have hd : (c.drop 65535).length = c.length - 65535 := List.length_drop
      match m with
      | 0 => omega
      | m + 1 =>
        have h1 := hr.more (c.take 65535) false (by omega) (by omega)
        have h2 := sto_read m (c.drop 65535) (by omega) _ _ L h1 (by rw [List.length_append]; omega)
        rw [stoL_more h]
        rwa [List.append_assoc, List.append_assoc, List.take_append_drop] at h2
theorem short2_or (a b : ByteArray) : short2 a b = a ∨ short2 a b = b := by
  unfold short2
  split
  · exact .inr rfl
  · exact .inl rfl
theorem short2_le (a b : ByteArray) : (short2 a b).size ≤ a.size ∧ (short2 a b).size ≤ b.size := by
  unfold short2
  split <;> constructor <;> omega
theorem app_nil (a : ByteArray) : a ++ ⟨#[]⟩ = a := by
  apply ByteArray.ext
  simp
/-- Each of the three is read as the text. -/
theorem def_leads {s : ByteArray} {ts : List TokR} (hf : FindOk s ts) (more : ByteArray) : ∃ k, Leads (defS s ts ++ more) s.size start (.fin k s.data.toList) ∧ (k + 7) / 8 = (defS s ts).size := by
  obtain ⟨hl, he, _⟩ := hf
  have hok := exp_cost _ _ _ _ he
  have p1 : ∃ k, Leads ((⟨(stoL s.data.toList).toArray⟩ : ByteArray) ++ more) s.size start (.fin k s.data.toList) ∧ (k + 7) / 8 = (⟨(stoL s.data.toList).toArray⟩ : ByteArray).size := by
    have h := sto_read _ s.data.toList (Nat.le_refl _) [] [] s.size (Read.nil _) (by simp)
    rw [List.nil_append, List.nil_append] at h
    have h2 := h ((⟨(stoL s.data.toList).toArray⟩ : ByteArray) ++ more) ⟨more.data.toList, by simp⟩
    refine ⟨_, h2, ?_⟩
    show (8 * (stoL s.data.toList).length + 7) / 8 = (stoL s.data.toList).length
    omega
  have p2 : ∃ k, Leads (outS (fixP ts) ++ more) s.size start (.fin k s.data.toList) ∧ (k + 7) / 8 = (outS (fixP ts)).size :=
    ⟨_, fixed_read hok hl he more, (outS_size _).symm⟩
  have p3 : ∃ k, Leads (outS (dynP ts) ++ more) s.size start (.fin k s.data.toList) ∧ (k + 7) / 8 = (outS (dynP ts)).size :=
    ⟨_, dynamic_read hok hl he more, (outS_size _).symm⟩
  unfold defS
  generalize (⟨(stoL s.data.toList).toArray⟩ : ByteArray) = a at *
  generalize outS (fixP ts) = b at *
  generalize outS (dynP ts) = c at *
  rcases short2_or (short2 a b) c with e | e
  · rw [e]
    rcases short2_or a b with e | e
    · rw [e]; exact p1
    · rw [e]; exact p2
  · rw [e]; exact p3
theorem def_inf {s : ByteArray} {ts : List TokR} (hf : FindOk s ts) (more : ByteArray) {a : ByteArray} {n er : Int} (h : InfR (defS s ts ++ more) s.size a n er) (hs : s.size ≤ 1073741824) : a = s ∧ n = ((defS s ts).size : Nat) ∧ er = 0 := by
  obtain ⟨k, hk, hz⟩ := def_leads hf more
  have hr : InfR (defS s ts ++ more) s.size s ((defS s ts).size : Nat) 0 := .inr ⟨s.size, rfl, hs, .inl ⟨k, s.data.toList, hk, rfl, by rw [hz], rfl⟩⟩
  exact h.unique hr
theorem def_inf0 {s : ByteArray} {ts : List TokR} (hf : FindOk s ts) {a : ByteArray} {n er : Int} (h : InfR (defS s ts) s.size a n er) (hs : s.size ≤ 1073741824) : a = s ∧ n = ((defS s ts).size : Nat) ∧ er = 0 := by
  have := def_inf hf ⟨#[]⟩ (a := a) (n := n) (er := er)
  rw [app_nil] at this
  exact this h hs
theorem def_le (s : ByteArray) (ts : List TokR) : (defS s ts).size ≤ (⟨(stoL s.data.toList).toArray⟩ : ByteArray).size ∧ (defS s ts).size ≤ (outS (fixP ts)).size := by
  unfold defS
  generalize (⟨(stoL s.data.toList).toArray⟩ : ByteArray) = a
  generalize outS (fixP ts) = b
  generalize outS (dynP ts) = c
  have h1 := short2_le (short2 a b) c
  have h2 := short2_le a b
  omega
theorem def_size (s : ByteArray) (ts : List TokR) : (defS s ts).size ≤ s.size + 5 * (s.size / 65535 + 1) := by
  have h1 := (def_le s ts).1
  have h2 := stoL_len _ _ (Nat.le_refl s.data.toList.length)
  rw [size_list] at h2
  exact Nat.le_trans h1 h2
end Go.Proofs.YtkmbgkcpohchhaaGreatDoor
