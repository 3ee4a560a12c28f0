/- A name's meaning is looked up (contract of the function). -/
import Derived.Test.YtlilmidffcmkjaaGreatDoorBndK
import Derived.Test.YtlilmidffcmkjaaGreatDoorExpF
namespace Go.Proofs.YtlilmidffcmkjaaGreatDoor
open Go.RowKit
set_option linter.unusedVariables false
set_option linter.unusedSimpArgs false
theorem findR_next {l : List BindR} {k : Nat} (hk : k < l.length) (nm : ByteArray) : findR (l.drop k) nm = if l[k].name = nm then (if l[k].n ≤ mostN then (l[k].n, 0) else (0, 3)) else findR (l.drop (k + 1)) nm := by
  rw [List.drop_eq_getElem_cons hk, findR]
theorem findR_end {l : List BindR} {k : Nat} (hk : l.length ≤ k) (nm : ByteArray) : findR (l.drop k) nm = (0, 9) := by
  rw [List.drop_eq_nil_of_le hk, findR]
set_option maxRecDepth 100000 in
set_option maxHeartbeats 4000000 in
theorem find_any (a : Option Addr) (len cap : Nat) (hlen : len ≤ 9223372036854775807) (l : List BindR) (hll : Hid (l.length = len)) (nm : ByteArray) (w : World) (hst : BndAt w a l) :
    Calls Tryz.prog 44 #[.slice a len cap, .string nm] w fun e w' => e = .returned (.tuple #[.int .u64 (findR l nm).1, .int .i64 (findR l nm).2]) ∧ Bw w w' := by
  have HST := hid hst
  clear hst
  go_enter Tryz.func44, Tryz.ntmps44
  go_wp2
  go_loopw [10] (fun i wr => ∃ k : Nat, k ≤ len ∧ i = .int .i64 k ∧ Hid (findR (l.drop k) nm = findR l nm) ∧ Bw w wr) (fun i _ => len - (intOf i).toNat)
  case atStart => exact ⟨0, Nat.zero_le _, rfl, hid rfl, Bw.refl w⟩
  case round =>
    rename World => wr
    obtain ⟨k, hk, rfl, HA, hb⟩ := hrel
    have HB := hid hb
    clear hb
    by_cases hlt : k < len
    · have hkl : k < l.length := by rw [hll.out]; exact hlt
      have hk1 : (k : Int) < len := by omega
      obtain ⟨b, off, rfl, hbb, c0, c1, hv⟩ := HST.out.below HB.out k hkl
      have hnx := findR_next hkl nm
      obtain ⟨⟨x, n⟩, hx⟩ : ∃ q, l[k] = q := ⟨_, rfl⟩
      rw [hx] at c0 c1 hv hnx
      simp only at c0 c1
      obtain ⟨v0, v1⟩ := hv
      simp only at v0 v1
      rw [HA.out] at hnx
      simp only at hnx
      have HB1 := hid (HB.out.alloc (.cells #[.string x, .int .u64 n] 46))
      clear hx hkl hbb
      by_cases h0 : x = nm
      · by_cases h1 : n ≤ mostN
        · have HN := hid (show findR l nm = (n, 0) from hnx.trans (by rw [if_pos h0, if_pos h1]))
          clear hnx
          have g1 : ¬ (4611686018427387904 : Int) < (n : Nat) := by rw [mostN_val] at h1; omega
          subst h0
          go_wp2
          go_returns
          exact ⟨by rw [HN.out]; rfl, HB1.out⟩
        · have HN := hid (show findR l nm = (0, 3) from hnx.trans (by rw [if_pos h0, if_neg h1]))
          clear hnx
          have g1 : (4611686018427387904 : Int) < (n : Nat) := by rw [mostN_val] at h1; omega
          subst h0
          go_wp2
          go_returns
          exact ⟨by rw [HN.out]; rfl, HB1.out⟩
      · rw [if_neg h0] at hnx
        have HN := hid hnx.symm
        clear hnx
        have t0 := str_ne h0
        go_wp2
        exact ⟨⟨k + 1, by omega, by go_num, HN, HB1.out⟩, by simp [intOf]; omega⟩
    · have hk0 : k = len := by omega
      subst hk0
      have HE := hid (HA.out.symm.trans (findR_end (by rw [hll.out]; exact Nat.le_refl _) nm))
      go_wp2
      go_returns
      exact ⟨by rw [HE.out]; rfl, HB.out⟩
end Go.Proofs.YtlilmidffcmkjaaGreatDoor
