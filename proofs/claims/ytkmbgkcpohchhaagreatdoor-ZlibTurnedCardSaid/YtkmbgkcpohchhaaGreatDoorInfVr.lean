import Derived.Test.YtkmbgkcpohchhaaGreatDoorGHufR
import Derived.Test.YtkmbgkcpohchhaaGreatDoorGHufLeT
/- Inflate, plain: blocks as they are, one behind the other. -/
namespace Go.Proofs.YtkmbgkcpohchhaaGreatDoor
set_option linter.unusedVariables false
theorem pre_get {bl : List UInt8} {t : ByteArray} (h : Pre ⟨bl.toArray⟩ t) (i : Nat) (hi : i < bl.length) : ∃ h2 : i < t.size, t[i]'h2 = bl[i] := by
  obtain ⟨u, hu⟩ := h
  have hl : t.data.toList.length = t.size := by simp
  have hz : i < t.size := by rw [← hl, hu]; simp; omega
  refine ⟨hz, ?_⟩
  have e : t[i]'hz = t.data.toList[i]'(by rw [hl]; exact hz) := by simp; rfl
  rw [e]
  have h3 : t.data.toList[i]? = bl[i]? := by rw [hu]; show (bl ++ u)[i]? = bl[i]?; exact List.getElem?_append_left hi
  rw [List.getElem?_eq_getElem (by rw [hl]; exact hz), List.getElem?_eq_getElem hi] at h3
  exact Option.some.inj h3
/-- A block as it is, read. -/
theorem blk_step (bl c : List UInt8) (last : Bool) (hc : c.length ≤ 65535) {t : ByteArray} (h : Pre ⟨(bl ++ blkB last c).toArray⟩ t) (L : Nat) (out : List UInt8) (hL : out.length + c.length ≤ L) :
    step t L ⟨.top, 8 * bl.length, out⟩ = aft last (8 * (bl ++ blkB last c).length) (out ++ c) := by
  obtain ⟨q, hq⟩ : ∃ q, bl.length = q := ⟨_, rfl⟩
  have hlen : (bl ++ blkB last c).length = q + (5 + c.length) := by rw [List.length_append, blkB_len, hq]
  have hsz := h.size
  have hsz : q + (5 + c.length) ≤ t.size := by rw [← hlen]; exact hsz
  have hb := lb1_le last
  have get : ∀ j (hj : j < 5), ∃ h2 : q + j < t.size, t[q + j]'h2 = (blkB last c)[j]'(by rw [blkB_len]; omega) := fun j hj => by
    obtain ⟨h2, e⟩ := pre_get h (q + j) (by rw [hlen]; omega)
    refine ⟨h2, e.trans ?_⟩
    rw [List.getElem_append_right (by omega)]
    congr 1
    omega
  obtain ⟨g0, e0⟩ := get 0 (by omega)
  obtain ⟨g1, e1⟩ := get 1 (by omega)
  obtain ⟨g2, e2⟩ := get 2 (by omega)
  obtain ⟨g3, e3⟩ := get 3 (by omega)
  obtain ⟨g4, e4⟩ := get 4 (by omega)
  have b0 : bv t (8 * q) 8 = lb1 last := by
    have := bv_byte t (q + 0) g0
    rw [e0] at this
    rw [Nat.add_zero] at this
    rw [this]
    show (UInt8.ofNat (lb1 last)).toNat = _
    rw [UInt8.toNat_ofNat']
    omega
  have b1 : bv t (8 * q) 1 = lb1 last := by
    have := bv_part t (8 * q) 8 0 1 (by omega)
    rw [Nat.add_zero, b0] at this
    rw [← this]; omega
  have b2 : bv t (8 * q + 1) 2 = 0 := by
    have := bv_part t (8 * q) 8 1 2 (by omega)
    rw [b0] at this
    rw [← this]; omega
  have hn : bv t (8 * (q + 1)) 16 = c.length := by
    rw [bytes16 t (q + 1) g2, e1]
    have e2' : t[q + 1 + 1]'g2 = (blkB last c)[2]'(by rw [blkB_len]; omega) := e2
    rw [e2']
    show (UInt8.ofNat c.length).toNat + 256 * (UInt8.ofNat (c.length / 256)).toNat = _
    simp only [UInt8.toNat_ofNat']
    omega
  have hm : bv t (8 * (q + 3)) 16 = 65535 - c.length := by
    rw [bytes16 t (q + 3) g4, e3]
    have e4' : t[q + 3 + 1]'g4 = (blkB last c)[4]'(by rw [blkB_len]; omega) := e4
    rw [e4']
    show (UInt8.ofNat (65535 - c.length)).toNat + 256 * (UInt8.ofNat ((65535 - c.length) / 256)).toNat = _
    simp only [UInt8.toNat_ofNat']
    omega
  have hcut : cut t (q + 5) c.length = c := by
    obtain ⟨u, hu⟩ := h
    have hu : t.data.toList = bl ++ blkB last c ++ u := hu
    rw [cut_list, hu]
    have : bl ++ blkB last c ++ u = (bl ++ [UInt8.ofNat (lb1 last), UInt8.ofNat c.length, UInt8.ofNat (c.length / 256), UInt8.ofNat (65535 - c.length), UInt8.ofNat ((65535 - c.length) / 256)]) ++ (c ++ u) := by simp [blkB]
    rw [this, List.drop_append_of_le_length (by simp; omega), List.drop_of_length_le (by simp; omega), List.nil_append, List.take_append_of_le_length (Nat.le_refl _), List.take_length]
  rw [hlen, hq, step_top]
  unfold stTop
  rw [num_ok (by omega), num_ok (by omega), b1, b2, if_pos rfl]
  unfold stStored
  rw [show upK (8 * q + 1 + 2) = 8 * (q + 1) by unfold upK; omega, num_ok (by omega), show 8 * (q + 1) + 16 = 8 * (q + 3) by omega, num_ok (by omega), hn, hm, if_pos rfl, show (8 * (q + 3) + 16) / 8 = q + 5 by omega, if_pos (by omega), if_neg (by omega), hcut]
  rw [show 8 * (q + 3) + 16 + 8 * c.length = 8 * (q + (5 + c.length)) by omega]
  have : (lb1 last == 1) = last := by cases last <;> rfl
  rw [this]
theorem pre_weak {a b : List UInt8} {t : ByteArray} (h : Pre ⟨(a ++ b).toArray⟩ t) : Pre ⟨a.toArray⟩ t := by
  obtain ⟨u, hu⟩ := h
  exact ⟨b ++ u, by rw [hu]; simp⟩
/-- The blocks so far, read. -/
def Read (L : Nat) (bl out : List UInt8) (done : Bool) : Prop := ∀ t : ByteArray, Pre ⟨bl.toArray⟩ t → Leads t L start (aft done (8 * bl.length) out)
theorem Read.nil (L : Nat) : Read L [] [] false := fun t _ => Leads.refl _
theorem Read.more {L : Nat} {bl out : List UInt8} (h : Read L bl out false) (c : List UInt8) (last : Bool) (hc : c.length ≤ 65535) (hL : out.length + c.length ≤ L) : Read L (bl ++ blkB last c) (out ++ c) last := fun t ht =>
  (h t (pre_weak ht)).then (blk_step bl c last hc ht L out hL)
end Go.Proofs.YtkmbgkcpohchhaaGreatDoor
