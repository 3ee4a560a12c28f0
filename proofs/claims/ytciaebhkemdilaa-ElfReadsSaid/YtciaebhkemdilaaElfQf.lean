/- The document's within, none, even (contracts of the functions). -/
import Derived.Test.YtciaebhkemdilaaElfQe
import Derived.Test.YtciaebhkemdilaaElfZg
namespace Go.Proofs.Ytciaebhkemdilaa
open Go.RowKit
set_option linter.unusedVariables false
set_option linter.unusedSimpArgs false
set_option maxHeartbeats 400000 in
theorem within_any (n most : Int) (w : World) :
    Calls Try.prog 65 #[.int .i64 n, .int .i64 most] w fun e w' => e = .returned (.bool (inB most n)) ∧ w' = w := by
  unfold inB
  by_cases h0 : 0 ≤ n
  · go_enter Try.func65, Try.ntmps65
    go_wp2
    go_returns
    exact ⟨by simp [h0], rfl⟩
  · go_enter Try.func65, Try.ntmps65
    go_wp2
    go_returns
    exact ⟨by simp; intro h; omega, rfl⟩
theorem zGo_zero {d : ByteArray} : ∀ {f p : Nat}, zGo d f p < p + f → bt d (zGo d f p) = 0
  | 0, p, h => by rw [zGo] at h; omega
  | f + 1, p, h => by
    rw [zGo] at h ⊢
    by_cases e : bt d p = 0
    · rw [if_pos e]; exact e
    · rw [if_neg e] at h ⊢
      exact zGo_zero (by omega)
theorem noZ_of {d : ByteArray} (h : ∀ j, j < d.size → bt d j ≠ 0) : noZ d = true := by
  cases hz : noZ d with
  | true => rfl
  | false =>
    exfalso
    unfold noZ at hz
    have k := ixb_zero (d := d) (p := 0) (Nat.zero_le _)
    rw [show d.extract 0 d.size = d by simp] at k
    rw [k] at hz
    by_cases e : zAt d 0 < d.size
    · exact h _ e (zGo_zero (f := d.size - 0) (p := 0) (by show zAt d 0 < 0 + (d.size - 0); omega))
    · rw [if_neg e] at hz
      revert hz
      decide
theorem noZ_bad {d : ByteArray} {j : Nat} (hj : j < d.size) (h : bt d j = 0) : noZ d = false := by
  cases hz : noZ d with
  | false => rfl
  | true => exact absurd h (noZ_bt hz j hj)
set_option maxHeartbeats 1000000 in
theorem none_any (s : ByteArray) (hs : s.size ≤ 9223372036854775807) (w : World) :
    Calls Try.prog 66 #[.string s] w fun e w' => e = .returned (.bool (noZ s)) ∧ w' = w := by
  obtain ⟨V, hV⟩ : ∃ V, noZ s = V := ⟨_, rfl⟩
  have HV := hid hV
  rw [hV]
  clear hV
  go_enter Try.func66, Try.ntmps66
  go_wp2
  go_loopw [3] (fun vi wr => ∃ k : Nat, k ≤ s.size ∧ vi = .int .i64 k ∧ Hid (∀ j, j < k → bt s j ≠ 0) ∧ wr = w) (fun vi _ => s.size - (intOf vi).toNat)
  case atStart => exact ⟨0, Nat.zero_le _, rfl, hid (fun j h => absurd h (Nat.not_lt_zero j)), rfl⟩
  case round =>
    obtain ⟨k, hk, rfl, HA, rfl⟩ := hrel
    by_cases hlt : k < s.size
    · have hk1 : (k : Int) < (s.size : Int) := by omega
      have hb := bt_eq s k hlt
      by_cases hz : bt s k = 0
      · have hz2 : (s[k]'hlt).toNat = 0 := by omega
        have HF := hid (show V = false from by rw [← HV.out]; exact noZ_bad hlt hz)
        clear hb hz
        go_wp2
        go_returns
        exact ⟨by rw [HF.out]; rfl, rfl⟩
      · have hz2 : ¬ (s[k]'hlt).toNat = 0 := by omega
        have HN := hid hz
        clear hb hz
        go_wp2
        exact ⟨⟨k + 1, by omega, by go_num, hid (fun j hj => by
          by_cases e : j = k
          · subst e; exact HN.out
          · exact HA.out j (by omega)), by trivial⟩, by simp [intOf]; omega⟩
    · obtain rfl : k = s.size := by omega
      have HT := hid (show V = true from by rw [← HV.out]; exact noZ_of HA.out)
      go_wp2
      go_returns
      exact ⟨by rw [HT.out]; rfl, rfl⟩
def lenV : Value → Nat
  | .slice _ n _ => n
  | _ => 0
theorem RowM.allocd {w : World} {B : Nat} {e : TypeId} {v : Value} {s : ByteArray} (h : RowM w B e v s) (o : Obj) : RowM (w.alloc o) B e v s := h.bw ((Bw.refl w).alloc o)
set_option maxRecDepth 100000 in
set_option maxHeartbeats 4000000 in
theorem even_any (B : Nat) (v : Value) (s : ByteArray) (hs : s.size ≤ 100000000) (w : World) (hB : B ≤ w.heap.size) (h : RowM w B 5 v s) :
    Calls Try.prog 38 #[v] w fun e w' => ∃ v', e = .returned v' ∧ RowM w' B 5 v' (s ++ zerosT (pad8 s.size)) ∧ Grew w w' v v' := by
  obtain ⟨i0, hinf, hz0, hz1, hz2⟩ := info_parts byteInfoQ
  have HH := hid h
  have HP := hid (pad8_le s.size)
  obtain ⟨p, hp⟩ : ∃ p, pad8 s.size = p := ⟨_, rfl⟩
  have HPP := hid hp
  rw [hp]
  clear h hp
  go_enter Try.func38, Try.ntmps38
  go_wp2_with fail
  go_loopw [0] (fun vv wr => ∃ k : Nat, k ≤ p ∧ RowM wr B 5 vv (s ++ zerosT k) ∧ Grew w wr v vv) (fun vv _ => s.size + 8 - lenV vv)
  case atStart => exact ⟨0, Nat.zero_le _, by rw [show s ++ zerosT 0 = s from app_nil s]; exact HH.out, Grew.refl _ _⟩
  case round =>
    rename World => wr
    obtain ⟨k, hk, hrow, hgr⟩ := hrel
    have HROW := hid hrow
    have HGR := hid hgr
    have hp8 : p < 8 := by rw [← HPP.out]; exact HP.out
    obtain ⟨n, hn⟩ : ∃ n, (s ++ zerosT k).size = n := ⟨_, rfl⟩
    have hnk : n = s.size + k := by rw [← hn, ByteArray.size_append, zerosT_size]
    obtain ⟨ao, cp, rfl⟩ := hrow.slice
    rw [hn] at HROW HGR ⊢
    have HN := hid hn
    have HBW := hid (Nat.le_trans hB hgr.gb.size)
    clear hrow hgr hn
    by_cases hlt : k < p
    · have hm : n % 8 ≠ 0 := by have := HPP.out; unfold pad8 at this; omega
      have hm2 : (((s.size : Int) + (k : Int)) % 8 != 0) = true := by rw [bne_iff_ne]; omega
      go_wp2_with (at_builtin; refine wpList_app_rowG rfl _ _ 40 rfl B Try.underlying40 hinf hz0 hz1 hz2 _ (s ++ zerosT k) rfl (HROW.out.allocd _) ⟨#[0]⟩ 1 rfl (by decide) ⟨wr.heap.size, 0, none⟩ 1 rfl (fun j u hj => by
        match j, hj with
        | 0, hj =>
          have : u = .int .u8 0 := by simp [Lib.strCells] at hj; exact hj.symm
          rw [this]
          exact (Has.new wr 5 #[.int .u8 0]).cell 0) (by rw [HN.out]; omega) (by have := HBW.out; simp; omega) ?_; intro v9 w9 hrow9 hgr9; have HR9 := hid hrow9; have HG9 := hid (HGR.out.trans (Grew.bw ((Bw.refl wr).alloc _) hgr9)); clear hrow9 hgr9)
      rw [app_as, ← zerosT_succ] at HR9
      obtain ⟨a9, c9, hv9⟩ := HR9.out.slice
      have hz9 : (s ++ zerosT (k + 1)).size = n + 1 := by rw [ByteArray.size_append, zerosT_size]; omega
      exact ⟨⟨k + 1, by omega, HR9.out, HG9.out⟩, by rw [hv9, hz9]; simp only [lenV]; omega⟩
    · obtain rfl : k = p := by omega
      have hm2 : (((s.size : Int) + (k : Int)) % 8 != 0) = false := by
        have := pad8_mod s.size
        rw [HPP.out] at this
        rw [bne_eq_false_iff_eq]
        omega
      go_wp2
      go_returns
      exact ⟨_, rfl, HROW.out, HGR.out⟩
end Go.Proofs.Ytciaebhkemdilaa
