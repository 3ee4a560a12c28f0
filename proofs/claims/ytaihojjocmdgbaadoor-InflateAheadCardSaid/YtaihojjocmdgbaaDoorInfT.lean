/- Inflate, plain: a block as it is, laid ahead. -/
import Derived.Test.YtaihojjocmdgbaaDoorInfO
namespace Go.Proofs.YtaihojjocmdgbaaDoor
set_option linter.unusedVariables false
/-- The five bytes in front of a block as it is, that is not the last. -/
def hd5 (k : Nat) : ByteArray := ⟨#[0, UInt8.ofNat k, UInt8.ofNat (k / 256), UInt8.ofNat (255 - k % 256), UInt8.ofNat (255 - k / 256)]⟩
theorem bytes16 (t : ByteArray) (i : Nat) (h : i + 1 < t.size) : bv t (8 * i) 16 = t[i].toNat + 256 * t[i + 1].toNat := by
  rw [show (16 : Nat) = 8 + 8 by rfl, bv_add, bv_byte t i (by omega), show 8 * i + 8 = 8 * (i + 1) by omega, bv_byte t (i + 1) h]
theorem ahead_get (u s : ByteArray) (k i : Nat) (hi : i < 5) : ∃ h : i < (hd5 k ++ u ++ s).size, (hd5 k ++ u ++ s)[i]'h = (hd5 k).data[i]'(by show i < 5; exact hi) := by
  have h5 : (hd5 k).size = 5 := rfl
  refine ⟨by simp; omega, ?_⟩
  rw [ByteArray.getElem_append_left (by simp; omega), ByteArray.getElem_append_left (by omega)]
  rfl
theorem ahead_step (u s : ByteArray) (hu : u.size ≤ 20000) (M : Nat) (hM : u.size ≤ M) : step (hd5 u.size ++ u ++ s) M ⟨.top, 0, []⟩ = .go ⟨.top, 8 * (5 + u.size), u.data.toList⟩ := by
  obtain ⟨k, hk⟩ : ∃ k, u.size = k := ⟨_, rfl⟩
  rw [hk] at hu hM ⊢
  have h5 : (hd5 k).size = 5 := rfl
  have hz : (hd5 k ++ u ++ s).size = 5 + k + s.size := by simp [h5, hk]
  obtain ⟨b0, e0⟩ := ahead_get u s k 0 (by omega)
  obtain ⟨b1, e1⟩ := ahead_get u s k 1 (by omega)
  obtain ⟨b2, e2⟩ := ahead_get u s k 2 (by omega)
  obtain ⟨b3, e3⟩ := ahead_get u s k 3 (by omega)
  obtain ⟨b4, e4⟩ := ahead_get u s k 4 (by omega)
  have hb : bv (hd5 k ++ u ++ s) (8 * 0) 8 = 0 := by rw [bv_byte _ 0 b0, e0]; rfl
  have hb1 : bv (hd5 k ++ u ++ s) 0 1 = 0 := by
    have := bv_part (hd5 k ++ u ++ s) 0 8 0 1 (by omega)
    rw [← this, show (0 : Nat) = 8 * 0 by rfl, hb]
  have hb2 : bv (hd5 k ++ u ++ s) (0 + 1) 2 = 0 := by
    have := bv_part (hd5 k ++ u ++ s) 0 8 1 2 (by omega)
    rw [← this, show (0 : Nat) = 8 * 0 by rfl, hb]
  have hn : bv (hd5 k ++ u ++ s) (8 * 1) 16 = k := by
    rw [bytes16 _ 1 b2, e1, e2]
    show (UInt8.ofNat k).toNat + 256 * (UInt8.ofNat (k / 256)).toNat = k
    simp only [UInt8.toNat_ofNat']
    omega
  have hm : bv (hd5 k ++ u ++ s) (8 * 3) 16 = 65535 - k := by
    rw [bytes16 _ 3 b4, e3, e4]
    show (UInt8.ofNat (255 - k % 256)).toNat + 256 * (UInt8.ofNat (255 - k / 256)).toNat = 65535 - k
    simp only [UInt8.toNat_ofNat']
    omega
  have hcut : cut (hd5 k ++ u ++ s) 5 k = u.data.toList := by
    rw [cut_list]
    have hl : u.data.toList.length = k := by rw [← hk]; simp
    have : (hd5 k ++ u ++ s).data.toList = (hd5 k).data.toList ++ (u.data.toList ++ s.data.toList) := by simp
    rw [this, List.drop_append_of_le_length (by show 5 ≤ 5; omega), List.drop_of_length_le (by show 5 ≤ 5; omega), List.nil_append, List.take_append_of_le_length (by omega), List.take_of_length_le (by omega)]
  rw [step_top]
  unfold stTop
  rw [num_ok (by omega), num_ok (by omega), hb1, hb2, if_pos rfl]
  unfold stStored
  rw [show upK (0 + 1 + 2) = 8 * 1 by rfl, num_ok (by omega), show 8 * 1 + 16 = 8 * 3 by rfl, num_ok (by omega), hn, hm, if_pos rfl, show (8 * 3 + 16) / 8 = 5 by rfl, if_pos (by omega), if_neg (by show ¬ M < 0 + k; omega), hcut]
  show aft false (8 * 3 + 16 + 8 * k) ([] ++ u.data.toList) = _
  rw [show 8 * 3 + 16 + 8 * k = 8 * (5 + k) by omega]
  rfl
theorem ahead_ahd (u s : ByteArray) : Ahd s (hd5 u.size ++ u ++ s) (5 + u.size) := by
  have h5 : (hd5 u.size).size = 5 := rfl
  refine ⟨by simp [h5], ?_⟩
  have hl : u.data.toList.length = u.size := by simp
  have h5l : (hd5 u.size).data.toList.length = 5 := rfl
  have : (hd5 u.size ++ u ++ s).data.toList = ((hd5 u.size).data.toList ++ u.data.toList) ++ s.data.toList := by simp
  rw [this, List.drop_append_of_le_length (by rw [List.length_append, hl, h5l]; exact Nat.le_refl _), List.drop_of_length_le (by rw [List.length_append, hl, h5l]; exact Nat.le_refl _), List.nil_append]
theorem ahead_plain {u s : ByteArray} (hu : u.size ≤ 20000) {a b : ByteArray} {n m f : Int} (h : InfR s 100000 a n 0) (k : InfR (hd5 u.size ++ u ++ s) 150000 b m f) : f = 0 ∧ b = u ++ a ∧ m = 5 + u.size + n := by
  rcases h with ⟨h0, rfl, rfl, h⟩ | ⟨L1, e1, hL, ⟨k1, o1, ⟨i, hi⟩, rfl, rfl, _⟩ | ⟨_, rfl, rfl, hne⟩⟩
  · cases h
  · obtain rfl : 100000 = L1 := Int.ofNat.inj e1
    rcases k with ⟨k0, _⟩ | ⟨L2, e2, _, k⟩
    · omega
    obtain rfl : 150000 = L2 := Int.ofNat.inj e2
    have hl : u.data.toList.length = u.size := by simp
    have hrun := itr_ahd (A := u.data.toList) (ahead_ahd u s) (L := 100000) (M := 150000) (by omega) i .top 0 [] k1 o1 hi
    rw [Nat.add_zero, List.append_nil] at hrun
    have l1 : Leads (hd5 u.size ++ u ++ s) 150000 start (.fin (8 * (5 + u.size) + k1) (u.data.toList ++ o1)) := ((Leads.refl start).then (ahead_step u s hu 150000 (by omega))).trans ⟨i, hrun⟩
    rcases k with ⟨k2, o2, l2, rfl, rfl, rfl⟩ | ⟨l2, rfl, rfl, _⟩
    · have := l1.unique l2 rfl rfl
      injection this with e3 e4
      subst e3 e4
      refine ⟨rfl, ?_, by omega⟩
      apply ByteArray.ext
      simp
    · have := l1.unique l2 rfl rfl
      cases this
  · exact absurd rfl hne
theorem infR_few {s : ByteArray} {L : Nat} {a : ByteArray} {n : Int} (h : InfR s L a n 0) : a.size ≤ L := by
  rcases h with ⟨h0, rfl, rfl, h⟩ | ⟨L1, e1, hL, ⟨k1, o1, ⟨i, hi⟩, rfl, rfl, _⟩ | ⟨_, rfl, rfl, hne⟩⟩
  · cases h
  · obtain rfl : L = L1 := Int.ofNat.inj e1
    show o1.length ≤ L
    rcases itr_lim (s := s) (Nat.le_refl L) i start k1 o1 (Nat.zero_le _) hi with ⟨h1, h2⟩ | ⟨h1, h2⟩
    · exact h1
    · rw [hi] at h2; cases h2
  · exact absurd rfl hne
end Go.Proofs.YtaihojjocmdgbaaDoor
