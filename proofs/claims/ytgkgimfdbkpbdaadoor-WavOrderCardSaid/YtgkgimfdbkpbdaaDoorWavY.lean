/- A sound's chunks in another order: its fmt anywhere ahead of its data, which is the last. -/
import Derived.Test.YtgkgimfdbkpbdaaDoorWavTb
namespace Go.Proofs.YtgkgimfdbkpbdaaDoor
open Go.RowKit
set_option linter.unusedVariables false
set_option linter.unusedSimpArgs false
def turnL (l : List ChkR) (k : Nat) (f d : ChkR) : List ChkR := l.take k ++ [f] ++ l.drop k ++ [d]
theorem turn_len {l : List ChkR} {k : Nat} (hk : k ≤ l.length) (f d : ChkR) : (turnL l k f d).length = l.length + 2 := by
  unfold turnL
  simp
  omega
theorem turn_mem {l : List ChkR} {k : Nat} {f d c : ChkR} (h : c ∈ turnL l k f d) : c = f ∨ c = d ∨ c ∈ l := by
  unfold turnL at h
  simp only [List.mem_append, List.mem_singleton] at h
  rcases h with ((h | h) | h) | h
  · exact .inr (.inr (List.mem_of_mem_take h))
  · exact .inl h
  · exact .inr (.inr (List.mem_of_mem_drop h))
  · exact .inr (.inl h)
theorem turn_at {l : List ChkR} {k : Nat} (hk : k ≤ l.length) (f d : ChkR) (i : Nat) : (turnL l k f d)[i]? = if i < k then l[i]? else if i = k then some f else if i < l.length + 1 then l[i - 1]? else if i = l.length + 1 then some d else none := by
  unfold turnL
  have hz : (l.take k).length = k := by simp; omega
  by_cases h1 : i < k
  · rw [if_pos h1, List.append_assoc, List.append_assoc, List.getElem?_append_left (by omega), List.getElem?_take, if_pos h1]
  rw [if_neg h1]
  by_cases h2 : i = k
  · rw [if_pos h2, List.append_assoc, List.append_assoc, List.getElem?_append_right (by omega), hz, h2, Nat.sub_self]
    rfl
  rw [if_neg h2]
  by_cases h3 : i < l.length + 1
  · rw [if_pos h3, List.getElem?_append_left (by simp; omega), List.getElem?_append_right (by simp; omega), List.getElem?_drop]
    congr 1
    simp
    omega
  rw [if_neg h3]
  by_cases h4 : i = l.length + 1
  · rw [if_pos h4, List.getElem?_append_right (by simp; omega)]
    have : i - (l.take k ++ [f] ++ l.drop k).length = 0 := by simp; omega
    rw [this]
    rfl
  · rw [if_neg h4, List.getElem?_eq_none]
    simp
    omega
theorem turn_lay {m : SndR} (h : soundB m = true) {k : Nat} (hk : k ≤ m.more.length) : Lay m (turnL m.more k ⟨fmtT, fmtS m⟩ ⟨dataT, m.frames⟩) k (m.more.length + 1) where
  lt := by omega
  len := by rw [turn_len hk]; omega
  fmt := fun hi => by
    have := turn_at hk ⟨fmtT, fmtS m⟩ ⟨dataT, m.frames⟩ k
    rw [if_neg (by omega), if_pos rfl, List.getElem?_eq_getElem hi] at this
    exact Option.some.inj this
  dat := fun hi => by
    have := turn_at hk ⟨fmtT, fmtS m⟩ ⟨dataT, m.frames⟩ (m.more.length + 1)
    rw [if_neg (by omega), if_neg (by omega), if_neg (by omega), if_pos rfl, List.getElem?_eq_getElem hi] at this
    exact Option.some.inj this
  more := fun i hi h0 h1 => by
    have := turn_at hk ⟨fmtT, fmtS m⟩ ⟨dataT, m.frames⟩ i
    rw [List.getElem?_eq_getElem hi, if_neg h0] at this
    rw [turn_len hk] at hi
    by_cases c : i < k
    · rw [if_pos c] at this
      exact sound_more h _ (List.mem_of_getElem? this.symm)
    · rw [if_neg c, if_pos (by omega)] at this
      exact sound_more h _ (List.mem_of_getElem? this.symm)
  all := by
    unfold turnL
    have e : ∀ c : ChkR, [c].filter moreB = if moreB c then [c] else [] := fun c => by
      by_cases hc : moreB c = true
      · rw [if_pos hc, List.filter_cons_of_pos hc]; rfl
      · rw [if_neg hc, List.filter_cons_of_neg hc]; rfl
    rw [List.filter_append, List.filter_append, List.filter_append, e, e, not_more_fmt, not_more_dat, if_neg (by decide), if_neg (by decide), List.append_nil, List.append_nil, ← List.filter_append, List.take_append_drop]
    exact filt_all (sound_more h)
theorem chk_take {w : World} {a : Option Addr} {l : List ChkR} (h : ChkAt w a l) (k : Nat) : ChkAt w a (l.take k) := fun i hi => by
  have hi2 : i < l.length := by simp at hi; omega
  have e : (l.take k)[i]'hi = l[i] := by simp
  rw [e]
  exact h i hi2
theorem chk_drop {w : World} {ad : Addr} {l : List ChkR} (h : ChkAt w (some ad) l) (k : Nat) : ChkAt w (some (ad.add (k * 2))) (l.drop k) := fun i hi => by
  have hi2 : k + i < l.length := by simp at hi; omega
  have e : (l.drop k)[i]'hi = l[k + i] := by simp
  rw [e]
  obtain ⟨b, off, e, hl, h0, h1, hk⟩ := h (k + i) hi2
  injection e with e
  subst e
  refine ⟨b, off + k * 2, ?_, hl, ?_, ?_, hk⟩
  · unfold Addr.add
    by_cases hz : k * 2 = 0 <;> simp [hz]
  · rw [show off + k * 2 + i * 2 = off + (k + i) * 2 by omega]; exact h0
  · rw [show off + k * 2 + i * 2 = off + (k + i) * 2 by omega]; exact h1
theorem chk_one_new (w : World) (c : ChkR) (hc : c.Ok) : ChkAt (w.alloc (.cells #[.string c.typ, .string c.dat] 42)) (some ⟨w.heap.size, 0, none⟩) [c] := fun i hi => by
  obtain rfl : i = 0 := by simpa using hi
  have hh := Has.new w 42 #[.string c.typ, .string c.dat]
  exact ⟨w.heap.size, 0, rfl, by simp, hh.cell 0, hh.cell 1, hc⟩
theorem cap_le {H : Type} {enc : TypeId × Value → H} {w : World} {base : Nat} {spare : Nat → Bool} {held : Bool} {n : Nat} {u : Value} {y : DataW H × List MemPlace} {A : Option Addr} {len cap : Nat} (h : DataW.trod enc Tryd.prog w base spare held n 23 [u] = some y) (he : u = .slice A len cap) : len ≤ cap ∧ cap ≤ 9223372036854775807 := by
  rcases Go.Deep.open_slice Tryd.underlying23 h with ⟨hcs, _⟩ | ⟨a, len', cap', mm, nn, D, Pl, hcs, _, hl, hcm, _⟩
  · simp only [List.cons.injEq, and_true] at hcs
    rw [hcs] at he
    injection he with _ h2 h3
    omega
  · simp only [List.cons.injEq, and_true] at hcs
    rw [hcs] at he
    injection he with _ h2 h3
    unfold maxLen at hcm
    omega
theorem chk_two_at {w : World} {a : Option Addr} {f d : ChkR} {l : List ChkR} (h : ChkAt w a (f :: d :: l)) : ∃ b off, a = some ⟨b, off, none⟩ ∧ b < w.heap.size ∧ w.cell? ⟨b, off, none⟩ = some (.string f.typ) ∧ w.cell? ⟨b, off + 1, none⟩ = some (.string f.dat) ∧ w.cell? ⟨b, off + 2, none⟩ = some (.string d.typ) ∧ w.cell? ⟨b, off + 2 + 1, none⟩ = some (.string d.dat) := by
  obtain ⟨b, off, rfl, hl, h0, h1, _⟩ := h 0 (by simp)
  obtain ⟨b', off', e, _, h2, h3, _⟩ := h 1 (by simp)
  injection e with e
  injection e with e1 e2
  subst e1 e2
  exact ⟨b, off, rfl, hl, h0, h1, h2, h3⟩
end Go.Proofs.YtgkgimfdbkpbdaaDoor
