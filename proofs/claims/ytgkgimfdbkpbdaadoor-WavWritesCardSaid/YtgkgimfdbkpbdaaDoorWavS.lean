/- Plain: sounds, their files. No program in it. -/
import Derived.Test.YtgkgimfdbkpbdaaDoorWavP
namespace Go.Proofs.YtgkgimfdbkpbdaaDoor
open Go.RowKit
set_option linter.unusedVariables false
structure SndR where
  ch : Int
  rate : Int
  bits : Int
  frames : ByteArray
  more : List ChkR
def fmtT : ByteArray := ⟨#[102, 109, 116, 32]⟩
def dataT : ByteArray := ⟨#[100, 97, 116, 97]⟩
def waveT : ByteArray := ⟨#[87, 65, 86, 69]⟩
def moreB (c : ChkR) : Bool := typB c.typ && decide (c.typ ≠ fmtT) && decide (c.typ ≠ dataT)
def bitsB (n : Int) : Bool := decide (n = 8 ∨ n = 16 ∨ n = 24 ∨ n = 32)
def shapeB (m : SndR) : Bool := decide (1 ≤ m.ch ∧ m.ch ≤ 16 ∧ 1 ≤ m.rate ∧ m.rate ≤ 16777216) && bitsB m.bits
def algN (m : SndR) : Nat := m.ch.toNat * m.bits.toNat / 8
def soundB (m : SndR) : Bool := shapeB m && decide (m.frames.size % algN m = 0) && m.more.all moreB
def fmtN (c r b : Nat) : ByteArray := bytesS 1 2 false ++ bytesS c 2 false ++ bytesS r 4 false ++ bytesS (r * (c * b / 8)) 4 false ++ bytesS (c * b / 8) 2 false ++ bytesS b 2 false
def fmtS (m : SndR) : ByteArray := fmtN m.ch.toNat m.rate.toNat m.bits.toNat
def allC (m : SndR) : List ChkR := ⟨fmtT, fmtS m⟩ :: ⟨dataT, m.frames⟩ :: m.more
def writeP (m : SndR) : ByteArray × Int := if soundB m then (joinT waveT (allC m), 0) else (⟨#[]⟩, 1)
theorem bits_cases {n : Int} (h : bitsB n = true) : n = 8 ∨ n = 16 ∨ n = 24 ∨ n = 32 := of_decide_eq_true h
/-- A sound's numbers, as natural ones. -/
theorem shape_nat {m : SndR} (h : shapeB m = true) : ∃ c r b : Nat, m.ch = c ∧ m.rate = r ∧ m.bits = b ∧ 1 ≤ c ∧ c ≤ 16 ∧ 1 ≤ r ∧ r ≤ 16777216 ∧ (b = 8 ∨ b = 16 ∨ b = 24 ∨ b = 32) := by
  unfold shapeB at h
  rw [Bool.and_eq_true, decide_eq_true_eq] at h
  obtain ⟨⟨h1, h2, h3, h4⟩, h5⟩ := h
  have h6 := bits_cases h5
  exact ⟨m.ch.toNat, m.rate.toNat, m.bits.toNat, by omega, by omega, by omega, by omega, by omega, by omega, by omega, by omega⟩
theorem alg_le {c b : Nat} (h : c ≤ 16) (h0 : 1 ≤ c) (hb : b = 8 ∨ b = 16 ∨ b = 24 ∨ b = 32) : 1 ≤ c * b / 8 ∧ c * b / 8 ≤ 64 := by
  rcases hb with rfl | rfl | rfl | rfl <;> omega
theorem fmtN_size (c r b : Nat) : (fmtN c r b).size = 16 := by
  unfold fmtN
  simp only [ByteArray.size_append, bytesS_size]
theorem all_types {m : SndR} (h : soundB m = true) : AllT (allC m) := by
  unfold soundB at h
  rw [Bool.and_eq_true, List.all_eq_true] at h
  intro c hc
  unfold allC at hc
  rcases List.mem_cons.1 hc with rfl | hc
  · show typB fmtT = true; decide +kernel
  rcases List.mem_cons.1 hc with rfl | hc
  · show typB dataT = true; decide +kernel
  have := h.2 c hc
  unfold moreB at this
  rw [Bool.and_eq_true, Bool.and_eq_true] at this
  exact this.1.1
theorem wave_typ : typB waveT = true := by decide +kernel
theorem one_two : bytesS 1 2 false = ⟨#[1, 0]⟩ := by decide +kernel
/-- The numbers that stand in a fmt. -/
theorem fmt_nums {c r b : Nat} (hc : c < 65536) (hr : r < 4294967296) (hb : b < 65536) (ha : c * b / 8 < 65536) (hra : r * (c * b / 8) < 4294967296) :
    numAt (fmtN c r b) 0 2 false = 1 ∧ numAt (fmtN c r b) 2 2 false = c ∧ numAt (fmtN c r b) 4 4 false = r ∧ numAt (fmtN c r b) 8 4 false = r * (c * b / 8) ∧ numAt (fmtN c r b) 12 2 false = c * b / 8 ∧ numAt (fmtN c r b) 14 2 false = b := by
  unfold fmtN
  generalize c * b / 8 = a at *
  generalize r * a = ra at *
  have z : ∀ n d, (bytesS n d false).size = d := fun n d => bytesS_size n d false
  refine ⟨?_, ?_, ?_, ?_, ?_, ?_⟩
  · have h := num_back 1 2 false ⟨#[]⟩ (bytesS c 2 false ++ bytesS r 4 false ++ bytesS ra 4 false ++ bytesS a 2 false ++ bytesS b 2 false) (by decide)
    simp only [nil_app, app_as] at h ⊢
    exact h
  · have h := num_back c 2 false (bytesS 1 2 false) (bytesS r 4 false ++ bytesS ra 4 false ++ bytesS a 2 false ++ bytesS b 2 false) (Nat.div_eq_of_lt (by simpa using hc))
    rw [z] at h
    simp only [app_as] at h ⊢
    exact h
  · have h := num_back r 4 false (bytesS 1 2 false ++ bytesS c 2 false) (bytesS ra 4 false ++ bytesS a 2 false ++ bytesS b 2 false) (Nat.div_eq_of_lt (by simpa using hr))
    rw [ByteArray.size_append, z, z] at h
    simp only [app_as] at h ⊢
    exact h
  · have h := num_back ra 4 false (bytesS 1 2 false ++ bytesS c 2 false ++ bytesS r 4 false) (bytesS a 2 false ++ bytesS b 2 false) (Nat.div_eq_of_lt (by simpa using hra))
    rw [ByteArray.size_append, ByteArray.size_append, z, z, z] at h
    simp only [app_as] at h ⊢
    exact h
  · have h := num_back a 2 false (bytesS 1 2 false ++ bytesS c 2 false ++ bytesS r 4 false ++ bytesS ra 4 false) (bytesS b 2 false) (Nat.div_eq_of_lt (by simpa using ha))
    simp only [ByteArray.size_append, z] at h
    simp only [app_as] at h ⊢
    exact h
  · have h := num_back b 2 false (bytesS 1 2 false ++ bytesS c 2 false ++ bytesS r 4 false ++ bytesS ra 4 false ++ bytesS a 2 false) ⟨#[]⟩ (Nat.div_eq_of_lt (by simpa using hb))
    simp only [ByteArray.size_append, z] at h
    simp only [app_as, app_nil] at h ⊢
    exact h
end Go.Proofs.YtgkgimfdbkpbdaaDoor
