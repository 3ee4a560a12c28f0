/- A number's digits, as the document writes them (contract of the function). -/
import Derived.Test.YtlilmidffcmkjaaDoorExpQ
namespace Go.Proofs.YtlilmidffcmkjaaDoor
open Go.RowKit
set_option linter.unusedVariables false
set_option linter.unusedSimpArgs false
theorem conv_one (W : World) (z : Int) (h0 : 0 ≤ z) (h1 : z < 256) : (convert 49 9 (.slice (some ⟨W.heap.size, 0, none⟩) 1 1)).run Tryd.prog (W.alloc (.cells #[.int .u8 z] 5)) = .ok (.string ⟨#[UInt8.ofNat z.toNat]⟩) (W.alloc (.cells #[.int .u8 z] 5)) := by
  refine run_convert_bytes_back (P := Tryd.prog) _ 49 9 5 ⟨W.heap.size, 0, none⟩ 1 [UInt8.ofNat z.toNat] Tryd.underlying49 Tryd.underlying5 Tryd.underlying9 (fun j hj => ?_)
  have hj0 : j = 0 := by simpa using hj
  subst hj0
  rw [addr_add, (Has.new W 5 #[.int .u8 z]).cell]
  have e : ((UInt8.ofNat z.toNat).toNat : Int) = z := by
    rw [UInt8.toNat_ofNat']
    omega
  simp [e]
  omega
theorem one_more (c : Nat) (t : ByteArray) : (⟨#[48 + UInt8.ofNat c]⟩ : ByteArray) ++ t = ⟨([UInt8.ofNat (48 + c)] ++ t.data.toList).toArray⟩ := by
  have e : UInt8.ofNat (48 + c) = 48 + UInt8.ofNat c := by rw [UInt8.ofNat_add]; rfl
  apply ByteArray.ext
  rw [ByteArray.data_append, e]
  apply Array.ext'
  simp
set_option maxRecDepth 100000 in
set_option maxHeartbeats 4000000 in
theorem rdigits_any (n : Nat) (hn : n ≤ mostN) (w : World) :
    Calls Tryd.prog 36 #[.int .u64 n] w fun e w' => e = .returned (.string ⟨(decB n).toArray⟩) ∧ Bw w w' := by
  have hl := decB_len hn
  have hn' := hn
  rw [mostN_val] at hn'
  go_enter Tryd.func36, Tryd.ntmps36
  go_wp2
  go_loopw [0, 3] (fun x y wr => ∃ (m : Nat) (t : ByteArray), m ≤ n ∧ x = .int .u64 m ∧ y = .string t ∧ Hid (decB n = decB m ++ t.data.toList) ∧ Bw w wr) (fun x _ _ => (intOf x).toNat)
  case atStart => exact ⟨n, ⟨#[]⟩, Nat.le_refl _, rfl, rfl, hid (by simp), Bw.refl w⟩
  case round =>
    rename World => wr
    obtain ⟨m, t, hm, rfl, rfl, HD, hb⟩ := hrel
    have HB := hid hb
    clear hb
    have htl : t.size ≤ 19 := by
      have := congrArg List.length HD.out
      rw [List.length_append] at this
      have h2 : t.data.toList.length = t.size := by rw [Array.length_toList]; rfl
      omega
    have s1 : ¬ 9223372036854775807 < 1 + t.size := by omega
    by_cases h9 : m < 10
    · have k1 : ¬ (9 : Int) < (m : Nat) := by omega
      have k2 : (48 : Int) + m ≤ 57 := by omega
      have HF := hid (HD.out.trans (by rw [decB_small h9]))
      have hcv := fun W => conv_one W ((48 : Int) + m) (by omega) (by omega)
      have e1 : ((48 : Int) + m).toNat = 48 + m := by omega
      rw [e1] at hcv
      go_wp2
      go_returns
      refine ⟨?_, HB.out.alloc _⟩
      rw [HF.out, ← one_more]
      rfl
    · have k1 : (9 : Int) < (m : Nat) := by omega
      have HF := hid (HD.out.trans (by rw [decB_more h9, List.append_assoc]))
      have k3 : (0 : Int) ≤ (m : Int) % 10 ∧ (m : Int) % 10 < 10 := by omega
      have hcv := fun W => conv_one W ((48 : Int) + (m : Int) % 10) (by omega) (by omega)
      have e1 : ((48 : Int) + (m : Int) % 10).toNat = 48 + m % 10 := by omega
      rw [e1] at hcv
      go_wp2
      refine ⟨⟨m / 10, _, by omega, by go_num, rfl, ?_, HB.out.alloc _⟩, by simp [intOf]; omega⟩
      refine hid ?_
      rw [one_more, HF.out]
end Go.Proofs.YtlilmidffcmkjaaDoor
