/- A part of an expression is printed, where expressions are (contract of the method). -/
import Derived.Test.YtlilmidffcmkjaaGreatDoorExpQ
import Derived.Maps.AppendAt
namespace Go.Proofs.YtlilmidffcmkjaaGreatDoor
open Go.RowKit
set_option linter.unusedVariables false
set_option linter.unusedSimpArgs false
/-- What printing t behind s leaves: all of it, or more than may be. -/
def Grown (s t : List UInt8) (mx : Nat) (s' : List UInt8) : Prop := s.length ≤ s'.length ∧ ((s'.length ≤ 20000 ∧ s' = s ++ t) ∨ (20000 < s'.length ∧ s'.length ≤ mx ∧ 20000 < s.length + t.length))
theorem Grown.one {s t : List UInt8} {mx : Nat} (h : (s ++ t).length ≤ mx) : Grown s t mx (s ++ t) := by
  rw [List.length_append] at h
  refine ⟨by simp, ?_⟩
  rcases Nat.lt_or_ge 20000 (s ++ t).length with c | c
  · right; rw [List.length_append] at c ⊢; omega
  · exact .inl ⟨c, rfl⟩
theorem Grown.trans {s t s1 t1 s2 : List UInt8} {m m1 : Nat} (h : Grown s t m s1) (k : Grown s1 t1 m1 s2) : Grown s (t ++ t1) m1 s2 := by
  obtain ⟨h0, h⟩ := h
  obtain ⟨k0, k⟩ := k
  refine ⟨by omega, ?_⟩
  rcases h with ⟨h1, rfl⟩ | ⟨h1, h2, h3⟩
  · rcases k with ⟨k1, rfl⟩ | ⟨k1, k2, k3⟩
    · exact .inl ⟨k1, by rw [List.append_assoc]⟩
    · right; simp only [List.length_append] at k3 ⊢; omega
  · rcases k with ⟨k1, _⟩ | ⟨k1, k2, k3⟩
    · omega
    · right; rw [List.length_append]; omega
theorem Grown.most {s t s' : List UInt8} {m m' : Nat} (h : Grown s t m s') (hm : m ≤ m') : Grown s t m' s' := ⟨h.1, h.2.imp_right fun ⟨a, b, c⟩ => ⟨a, by omega, c⟩⟩
theorem Grown.le {s t s' : List UInt8} {m : Nat} (h : Grown s t m s') : s'.length ≤ max 20000 m := by
  rcases h.2 with ⟨a, _⟩ | ⟨_, a, _⟩ <;> omega
/-- What printing answers. -/
def PrP (w0 w : World) (p : Nat) (a : Option Addr) (len cap : Nat) (s t : List UInt8) (mx : Nat) (e : Ending) (w' : World) : Prop :=
  ∃ v' s', e = .returned (.tuple #[]) ∧ PrS w0 w' p a len cap v' s' ∧ KT TX w0.heap.size w w' ∧ Grown s t mx s'
set_option maxRecDepth 100000 in
theorem full_any (w0 w : World) (p : Nat) (a : Option Addr) (len cap : Nat) (v : Value) (s : List UInt8) (h : PrS w0 w p a len cap v s) :
    Calls Tryz.prog 23 #[.pointer (some ⟨p, 0, none⟩)] w fun e w' => e = .returned (.bool (decide (20000 < s.length))) ∧ w' = w := by
  obtain ⟨ao, ca, rfl⟩ := own_slice h.row
  have c1 := h.pr.cell 1
  simp at c1
  clear h
  go_enter Tryz.func23, Tryz.ntmps23
  by_cases c : 20000 < s.length
  · have t0 : (20000 : Int) < s.length := by omega
    have d := decide_eq_true c
    go_wp2
    go_returns
    exact ⟨by first | rfl | (rw [d]; rfl), rfl⟩
  · have t0 : ¬ (20000 : Int) < s.length := by omega
    have d := decide_eq_false c
    go_wp2
    go_returns
    exact ⟨by first | rfl | (rw [d]; rfl), rfl⟩
theorem PrS.mid {w0 w w1 : World} {p : Nat} {a : Option Addr} {len cap : Nat} {v : Value} {s : List UInt8} (h : PrS w0 w p a len cap v s) (hg : w.grownBy w1 v.ownBlock) : Has w1 p 64 #[.slice a len cap, v] :=
  (hg.block p h.pr.lt (fun e => h.ne e.symm rfl)).trans h.pr
/-- One byte more. -/
theorem PrS.byte {w0 w w1 : World} {p : Nat} {a : Option Addr} {len cap : Nat} {v v' : Value} {s : List UInt8} (h : PrS w0 w p a len cap v s) (x : UInt8) (ho : w1.ownsRow w0.heap.size 5 1 v' (s.length + 1) (bcs s ++ [.int .u8 (x.toNat : Nat)])) (hg : w.grownBy w1 v.ownBlock) (hn : v'.ownBlock = v.ownBlock ∨ v'.ownBlock = some w.heap.size) :
    PrS w0 (w1.setCell ⟨p, 1, none⟩ v') p a len cap v' (s ++ [x]) ∧ KT TX w0.heap.size w (w1.setCell ⟨p, 1, none⟩ v') := by
  refine h.app ?_ hg (hn.imp_right fun e b hb => ?_)
  · have e1 : (s ++ [x]).length = s.length + 1 := by simp
    have e2 : bcs (s ++ [x]) = bcs s ++ [.int .u8 (x.toNat : Nat)] := by simp [bcs]
    rw [e1, e2]
    exact own_down ho (Nat.zero_le _)
  · rw [e] at hb
    injection hb with hb
    omega
end Go.Proofs.YtlilmidffcmkjaaGreatDoor
