/- Elements' values, each found once (contracts of the methods). -/
import Derived.Test.YtlilmidffcmkjaaGreatDoorExpM
import Derived.Test.YtlilmidffcmkjaaGreatDoorExpW
import Derived.Test.YtlilmidffcmkjaaGreatDoorExpK
import Derived.Test.YtlilmidffcmkjaaGreatDoorKitE
import Derived.BigRegion
import Derived.Laws.MakeOwn
namespace Go.Proofs.YtlilmidffcmkjaaGreatDoor
open Go.RowKit
set_option linter.unusedVariables false
set_option linter.unusedSimpArgs false
/-- What is known of an element's value. -/
def ValAt (l : List ExpR) (names : List BindR) (cs : Array Value) (j : Nat) : Prop := ∃ (k : Bool) (n : Nat), cs[j * 2]? = some (.bool k) ∧ cs[j * 2 + 1]? = some (.int .u64 n) ∧ (k = true → wrt l names j = (n, 0))
/-- The evaluator in memory. -/
structure EvS (w0 w : World) (g vb : Nat) (a : Option Addr) (len cap : Nat) (na : Option Addr) (nlen ncap : Nat) (N : Nat) (l : List ExpR) (names : List BindR) : Prop where
  ev : Has w g 59 #[.slice a len cap, .slice na nlen ncap, .slice (some ⟨vb, 0, none⟩) N N]
  vals : ∃ cs, Has w vb 73 cs ∧ ∀ j, j < N → ValAt l names cs j
  bw : Bw w0 w
  gg : w0.heap.size ≤ g
  gv : w0.heap.size ≤ vb
  ne : g ≠ vb
section
variable {w0 w w' : World} {g vb : Nat} {a : Option Addr} {len cap : Nat} {na : Option Addr} {nlen ncap N : Nat} {l : List ExpR} {names : List BindR}
theorem EvS.lt (h : EvS w0 w g vb a len cap na nlen ncap N l names) : vb < w.heap.size := by
  obtain ⟨cs, hc, _⟩ := h.vals
  exact hc.lt
theorem EvS.later (h : EvS w0 w g vb a len cap na nlen ncap N l names) (hb : Bw w w') : EvS w0 w' g vb a len cap na nlen ncap N l names := by
  obtain ⟨cs, hc, hv⟩ := h.vals
  exact ⟨hb.has h.ev, ⟨cs, hb.has hc, hv⟩, h.bw.trans hb, h.gg, h.gv, h.ne⟩
theorem EvS.set (h : EvS w0 w g vb a len cap na nlen ncap N l names) (i : Nat) (hi : i < N) (n : Nat) (hw : wrt l names i = (n, 0)) :
    EvS w0 ((w.setCell ⟨vb, i * 2, none⟩ (.bool true)).setCell ⟨vb, i * 2 + 1, none⟩ (.int .u64 n)) g vb a len cap na nlen ncap N l names := by
  obtain ⟨cs, hc, hv⟩ := h.vals
  have hP := (hc.put (i * 2) (.bool true)).put (i * 2 + 1) (.int .u64 n)
  refine ⟨(h.ev.far (p := ⟨vb, i * 2, none⟩) h.ne _).far (p := ⟨vb, i * 2 + 1, none⟩) h.ne _, ⟨_, hP, fun j hj => ?_⟩, Below.setCell (Below.setCell h.bw (p := ⟨vb, i * 2, none⟩) h.gv _) (p := ⟨vb, i * 2 + 1, none⟩) h.gv _, h.gg, h.gv, h.ne⟩
  obtain ⟨k, m, h0, h1, h2⟩ := hv j hj
  by_cases e : j = i
  · subst e
    have l0 : j * 2 < cs.size := by
      rcases Nat.lt_or_ge (j * 2) cs.size with h | h
      · exact h
      · rw [Array.getElem?_eq_none h] at h0; cases h0
    have l1 : j * 2 + 1 < cs.size := by
      rcases Nat.lt_or_ge (j * 2 + 1) cs.size with h | h
      · exact h
      · rw [Array.getElem?_eq_none h] at h1; cases h1
    refine ⟨true, n, ?_, ?_, fun _ => hw⟩
    · rw [Array.getElem?_setIfInBounds_ne (by omega), Array.getElem?_setIfInBounds_self_of_lt l0]
    · rw [Array.getElem?_setIfInBounds_self_of_lt (by simpa using l1)]
  · refine ⟨k, m, ?_, ?_, h2⟩
    · rw [Array.getElem?_setIfInBounds_ne (by omega), Array.getElem?_setIfInBounds_ne (by omega)]; exact h0
    · rw [Array.getElem?_setIfInBounds_ne (by omega), Array.getElem?_setIfInBounds_ne (by omega)]; exact h1
end
/-- What value and evaluate answer. -/
def EvP (w0 w : World) (g vb : Nat) (a : Option Addr) (len cap : Nat) (na : Option Addr) (nlen ncap : Nat) (N : Nat) (l : List ExpR) (names : List BindR) (p : Nat × Int) (e : Ending) (w' : World) : Prop :=
  e = .returned (.tuple #[.int .u64 (p.1 : Nat), .int .i64 p.2]) ∧ EvS w0 w' g vb a len cap na nlen ncap N l names ∧ Keeps (· = vb) w w'
theorem findR_err {names : List BindR} {nm : ByteArray} (h : (findR names nm).2 ≠ 0) : (findR names nm).1 = 0 := by
  induction names with
  | nil => rfl
  | cons b r ih =>
    unfold findR at h ⊢
    split
    · split
      · rename_i c d
        rw [if_pos c, if_pos d] at h
        exact absurd rfl h
      · rfl
    · rename_i c
      rw [if_neg c] at h
      exact ih h
theorem oneW_err {x : ExpR} {t : List (Nat × Int)} {names : List BindR} (h : (oneW x t names).2 ≠ 0) : (oneW x t names).1 = 0 := by
  unfold oneW at h ⊢
  by_cases c0 : x.name ≠ nilS
  · rw [if_pos c0] at h ⊢; exact findR_err h
  rw [if_neg c0] at h ⊢
  by_cases c1 : x.op = nilS
  · rw [if_pos c1] at h; exact absurd rfl h
  rw [if_neg c1] at h ⊢
  by_cases c2 : (t.getD x.l.toNat (0, 0)).2 ≠ 0
  · rw [if_pos c2]
  rw [if_neg c2] at h ⊢
  by_cases c3 : (t.getD x.r.toNat (0, 0)).2 ≠ 0
  · rw [if_pos c3]
  rw [if_neg c3] at h ⊢
  cases ha : applyO x.op (t.getD x.l.toNat (0, 0)).1 (t.getD x.r.toNat (0, 0)).1 with
  | some n => rw [ha] at h; exact absurd rfl h
  | none => rfl
theorem wrt_err {l : List ExpR} {names : List BindR} {i : Nat} (h : (wrt l names i).2 ≠ 0) : (wrt l names i).1 = 0 := oneW_err h
theorem wrt_le {l : List ExpR} {names : List BindR} (hc : checkB l = true) : ∀ (m i : Nat), i < m → i < l.length → (wrt l names i).1 ≤ mostN
  | 0, i, h, _ => by omega
  | m + 1, i, h, hi => by
    have hit := check_item hc hi
    unfold wrt
    rw [show l.getD i ⟨nilS, nilS, 0, 0, 0⟩ = l[i] from by rw [List.getD_eq_getElem?_getD, List.getElem?_eq_getElem hi]; rfl]
    unfold oneW
    by_cases c0 : l[i].name ≠ nilS
    · rw [if_pos c0]; exact findR_le _ _
    rw [if_neg c0]
    by_cases c1 : l[i].op = nilS
    · rw [if_pos c1]
      show l[i].n ≤ mostN
      unfold itemB leafB operB at hit
      simp only [Bool.or_eq_true, Bool.and_eq_true, decide_eq_true_eq] at hit
      rcases hit with ⟨_, h1 | h1⟩ | h1
      · exact h1.2
      · rw [h1.1]; exact Nat.zero_le _
      · rw [h1.1.1.1.1.2]; exact Nat.zero_le _
    rw [if_neg c1]
    split
    · exact Nat.zero_le _
    split
    · exact Nat.zero_le _
    unfold itemB leafB operB at hit
    simp only [Bool.or_eq_true, Bool.and_eq_true, decide_eq_true_eq] at hit
    rcases hit with ⟨⟨⟨h1, _⟩, _⟩, _⟩ | ⟨⟨⟨⟨⟨⟨_, _⟩, _⟩, h1⟩, h2⟩, h3⟩, h4⟩
    · exact absurd h1 c1
    · have k1 : l[i].l.toNat < i := by omega
      have k2 : l[i].r.toNat < i := by omega
      rw [tabW_get l names i _ k1, tabW_get l names i _ k2]
      cases ha : applyO l[i].op (wrt l names l[i].l.toNat).1 (wrt l names l[i].r.toNat).1 with
      | some n => exact applyO_le (wrt_le hc m _ (by omega) (by omega)) (wrt_le hc m _ (by omega) (by omega)) ha
      | none => exact Nat.zero_le _
end Go.Proofs.YtlilmidffcmkjaaGreatDoor
