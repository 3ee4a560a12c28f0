/- The writer's numbers (contracts of the methods). -/
import Derived.Test.YtciaebhkemdilaaWinY
import Derived.Test.YtciaebhkemdilaaBldW
import Derived.Deep.DeepCutAuto
import Derived.IntWalk
namespace Go.Proofs.Ytciaebhkemdilaa
open Go.RowKit Go.Conc
set_option linter.unusedVariables false
set_option linter.unusedSimpArgs false
theorem BKeeps.of_bw {B b : Nat} {w w' : World} (h : Bw w w') (hB : B ≤ w.heap.size) : BKeeps B b w w' := ⟨Below.mono h hB, h.size, fun i hi _ _ => h.block i hi⟩
theorem WB.Bld.bw {B b : Nat} {u : Bool} {s : ByteArray} {w w' : World} (h : WB.Bld B b u s w) (hb : Bw w w') : WB.Bld B b u s w' := by
  obtain ⟨h1, v, h2, h3⟩ := h
  exact ⟨h1, v, hb.has h2, hb.own h3⟩
theorem BKeeps.has {B b g : Nat} {t : TypeId} {cs : Array Value} {w w' : World} (h : BKeeps B b w w') (k : Has w g t cs) (hg : g ≠ b) (ht : t ≠ 5) : Has w' g t cs := (h.2.2 g k.lt hg (fun c f e => by
  unfold Has at k
  rw [k] at e
  injection e with e
  injection e with _ e
  exact ht e)).trans k
theorem WB.ne {B b g : Nat} {u : Bool} {s : ByteArray} {t : TypeId} {cs : Array Value} {w : World} (h : WB.Bld B b u s w) (k : Has w g t cs) (ht : t ≠ 69) : g ≠ b := fun e => by
  obtain ⟨_, v, h2, _⟩ := h
  subst e
  unfold Has at h2 k
  rw [k] at h2
  injection h2 with h2
  injection h2 with _ h2
  exact ht h2
/-- A writer at b that holds these bytes. -/
def WOk (B b : Nat) (s : ByteArray) (w : World) : Prop := ∃ u, WB.Bld B b u s w
/-- Numbers, each of so many bytes, one behind the other. -/
def numsT (d : Nat) : List Nat → ByteArray
  | [] => ⟨#[]⟩
  | n :: r => bytesS n d false ++ numsT d r
theorem app_nil (s : ByteArray) : s ++ (⟨#[]⟩ : ByteArray) = s := ba_ext (by simp)
theorem nil_app (s : ByteArray) : (⟨#[]⟩ : ByteArray) ++ s = s := ba_ext (by simp)
theorem app_as (a b c : ByteArray) : a ++ b ++ c = a ++ (b ++ c) := ba_ext (by simp)
theorem numsT_app (d : Nat) (l m : List Nat) : numsT d (l ++ m) = numsT d l ++ numsT d m := by
  induction l with
  | nil => rw [List.nil_append, numsT, nil_app]
  | cons x r ih => rw [List.cons_append, numsT, numsT, ih, app_as]
theorem numsT_take {d : Nat} {l : List Nat} {k : Nat} (hk : k < l.length) : numsT d (l.take (k + 1)) = numsT d (l.take k) ++ bytesS l[k] d false := by
  rw [List.take_succ_eq_append_getElem hk, numsT_app, numsT, numsT, app_nil]
theorem numsT_size (d : Nat) (l : List Nat) : (numsT d l).size = l.length * d := by
  induction l with
  | nil => rw [List.length_nil, Nat.zero_mul]; rfl
  | cons x r ih => rw [numsT, ByteArray.size_append, bytesS_size, ih, List.length_cons, Nat.succ_mul]; omega
set_option maxHeartbeats 1000000 in
theorem wnumber_any (d : Nat) (hd : widB (d : Int) = true) (hd8 : d ≤ 8) (n : Nat) (hn : n / 2 ^ (8 * d) = 0) (B b : Nat) (u : Bool) (s : ByteArray) (hs : s.size ≤ 1000000000) (w : World) (hB : B ≤ w.heap.size) (h : WB.Bld B b u s w) :
    Calls Try.prog 87 #[.pointer (some ⟨b, 0, none⟩), .int .u64 n, .int .i64 d] w fun e w' => e = .returned (.tuple #[]) ∧ WB.Bld B b true (s ++ bytesS n d false) w' ∧ BKeeps B b w w' := by
  have HBY := hid (fun W => bytes_any n (d : Nat) false W)
  have e0 := bytesE_ok (m := n) (d := d) hd hn
  rw [bytesV_ok e0, e0] at HBY
  have HZ := hid (bytesS_size n d false)
  have HH := hid h
  obtain ⟨t, ht⟩ : ∃ t, bytesS n d false = t := ⟨_, rfl⟩
  rw [ht] at HBY HZ ⊢
  clear ht e0 h
  go_enter Try.func87, Try.ntmps87
  go_wp2_with fail
  refine (HBY.out _).mono ?_
  rintro e w2 ⟨rfl, hb2⟩
  have H2 := hid (HH.out.bw hb2)
  have HK2 := hid (BKeeps.of_bw (B := B) (b := b) hb2 hB)
  have HB2 := hid (show B ≤ w2.heap.size from Nat.le_trans hB hb2.size)
  clear hb2
  go_wp2_with fail
  refine (WB.write_any B b u s t (by have := HZ.out; omega) w2 HB2.out H2.out).mono ?_
  rintro e w3 ⟨rfl, h3, hk3⟩
  have H3 := hid h3
  have HK3 := hid (HK2.out.trans hk3)
  clear h3 hk3
  go_wp2
  go_returns
  exact ⟨rfl, H3.out, HK3.out⟩
set_option maxRecDepth 100000 in
set_option maxHeartbeats 2000000 in
theorem halves_any (l : List Nat) (hl : ∀ n ∈ l, n < 65536) (h100 : l.length ≤ 100) (g B b : Nat) (u : Bool) (s : ByteArray) (hs : s.size ≤ 100000000) (w : World) (hB : B ≤ w.heap.size) (h : WB.Bld B b u s w) (hg : Has w g 3 (l.map fun (n : Nat) => Value.int .i64 n).toArray) :
    Calls Try.prog 59 #[.pointer (some ⟨b, 0, none⟩), .slice (some ⟨g, 0, none⟩) l.length l.length] w fun e w' => e = .returned (.tuple #[]) ∧ WOk B b (s ++ numsT 2 l) w' ∧ BKeeps B b w w' := by
  have HG := hid hg
  have HH := hid h
  have HNE := hid (WB.ne h hg (by decide))
  obtain ⟨len, hlen⟩ : ∃ len, l.length = len := ⟨_, rfl⟩
  rw [hlen] at h100 ⊢
  have HLN := hid hlen
  clear h hg hlen
  go_enter Try.func59, Try.ntmps59
  go_wp2
  go_loopw [8] (fun vk wr => ∃ (k : Nat) (v : Bool), k ≤ len ∧ vk = .int .i64 k ∧ WB.Bld B b v (s ++ numsT 2 (l.take k)) wr ∧ BKeeps B b w wr) (fun vk _ => len - (intOf vk).toNat)
  case atStart => exact ⟨0, u, by omega, rfl, by rw [List.take_zero, numsT, app_nil]; exact HH.out, BKeeps.refl _ _ _⟩
  case round =>
    rename World => wr
    obtain ⟨k, v, hk, rfl, hbl, hke⟩ := hrel
    have HBL := hid hbl
    have HKE := hid hke
    by_cases hlt : k < len
    · have c0 : (k : Int) < len := by omega
      have hkl : k < l.length := by rw [HLN.out]; exact hlt
      have HTK := hid (numsT_take (d := 2) hkl)
      have c1 : wr.cell? ⟨g, k, none⟩ = some (.int .i64 (l[k] : Nat)) := by
        rw [(hke.has HG.out HNE.out (by decide)).cell k]
        simp [hkl]
      have HXL := hid (hl l[k] (List.getElem_mem _))
      have HSZ := hid (show (s ++ numsT 2 (l.take k)).size ≤ 1000000000 from by
        rw [ByteArray.size_append, numsT_size, List.length_take]; omega)
      have HB2 := hid (show B ≤ wr.heap.size from Nat.le_trans hB hke.2.1)
      obtain ⟨x, hx⟩ : ∃ x, l[k] = x := ⟨_, rfl⟩
      rw [hx] at c1 HTK HXL
      have v1 : IntKind.u64.wrap (x : Int) = x := IntWalk.u64_in _ (by have := HXL.out; omega)
      have HLT := hid hlt
      clear hbl hke hx hkl
      go_wp2_with fail
      refine (wnumber_any 2 (by decide) (by decide) x (Nat.div_eq_of_lt (by have := HXL.out; simpa using this)) B b v _ HSZ.out _ HB2.out HBL.out).mono ?_
      rintro e w2 ⟨rfl, h2, hk2⟩
      have H2 := hid h2
      have HK2 := hid (HKE.out.trans hk2)
      clear h2 hk2 c1
      go_wp2
      exact ⟨⟨k + 1, true, HLT.out, by first | rfl | go_num, by rw [HTK.out, ← app_as]; exact H2.out, HK2.out⟩, by have := HLT.out; simp [intOf]; omega⟩
    · obtain rfl : k = len := by omega
      have c0 : ¬ (k : Int) < k := by omega
      have HFT := hid (show l.take k = l from by rw [← HLN.out, List.take_length])
      clear hbl hke
      go_wp2
      go_returns
      rw [HFT.out] at HBL
      exact ⟨rfl, ⟨v, HBL.out⟩, HKE.out⟩
set_option maxRecDepth 100000 in
set_option maxHeartbeats 2000000 in
theorem words_any (l : List Nat) (hl : ∀ n ∈ l, n < 4294967296) (h100 : l.length ≤ 100) (g B b : Nat) (u : Bool) (s : ByteArray) (hs : s.size ≤ 100000000) (w : World) (hB : B ≤ w.heap.size) (h : WB.Bld B b u s w) (hg : Has w g 3 (l.map fun (n : Nat) => Value.int .i64 n).toArray) :
    Calls Try.prog 60 #[.pointer (some ⟨b, 0, none⟩), .slice (some ⟨g, 0, none⟩) l.length l.length] w fun e w' => e = .returned (.tuple #[]) ∧ WOk B b (s ++ numsT 4 l) w' ∧ BKeeps B b w w' := by
  have HG := hid hg
  have HH := hid h
  have HNE := hid (WB.ne h hg (by decide))
  obtain ⟨len, hlen⟩ : ∃ len, l.length = len := ⟨_, rfl⟩
  rw [hlen] at h100 ⊢
  have HLN := hid hlen
  clear h hg hlen
  go_enter Try.func60, Try.ntmps60
  go_wp2
  go_loopw [8] (fun vk wr => ∃ (k : Nat) (v : Bool), k ≤ len ∧ vk = .int .i64 k ∧ WB.Bld B b v (s ++ numsT 4 (l.take k)) wr ∧ BKeeps B b w wr) (fun vk _ => len - (intOf vk).toNat)
  case atStart => exact ⟨0, u, by omega, rfl, by rw [List.take_zero, numsT, app_nil]; exact HH.out, BKeeps.refl _ _ _⟩
  case round =>
    rename World => wr
    obtain ⟨k, v, hk, rfl, hbl, hke⟩ := hrel
    have HBL := hid hbl
    have HKE := hid hke
    by_cases hlt : k < len
    · have c0 : (k : Int) < len := by omega
      have hkl : k < l.length := by rw [HLN.out]; exact hlt
      have HTK := hid (numsT_take (d := 4) hkl)
      have c1 : wr.cell? ⟨g, k, none⟩ = some (.int .i64 (l[k] : Nat)) := by
        rw [(hke.has HG.out HNE.out (by decide)).cell k]
        simp [hkl]
      have HXL := hid (hl l[k] (List.getElem_mem _))
      have HSZ := hid (show (s ++ numsT 4 (l.take k)).size ≤ 1000000000 from by
        rw [ByteArray.size_append, numsT_size, List.length_take]; omega)
      have HB2 := hid (show B ≤ wr.heap.size from Nat.le_trans hB hke.2.1)
      obtain ⟨x, hx⟩ : ∃ x, l[k] = x := ⟨_, rfl⟩
      rw [hx] at c1 HTK HXL
      have v1 : IntKind.u64.wrap (x : Int) = x := IntWalk.u64_in _ (by have := HXL.out; omega)
      have HLT := hid hlt
      clear hbl hke hx hkl
      go_wp2_with fail
      refine (wnumber_any 4 (by decide) (by decide) x (Nat.div_eq_of_lt (by have := HXL.out; simpa using this)) B b v _ HSZ.out _ HB2.out HBL.out).mono ?_
      rintro e w2 ⟨rfl, h2, hk2⟩
      have H2 := hid h2
      have HK2 := hid (HKE.out.trans hk2)
      clear h2 hk2 c1
      go_wp2
      exact ⟨⟨k + 1, true, HLT.out, by first | rfl | go_num, by rw [HTK.out, ← app_as]; exact H2.out, HK2.out⟩, by have := HLT.out; simp [intOf]; omega⟩
    · obtain rfl : k = len := by omega
      have c0 : ¬ (k : Int) < k := by omega
      have HFT := hid (show l.take k = l from by rw [← HLN.out, List.take_length])
      clear hbl hke
      go_wp2
      go_returns
      rw [HFT.out] at HBL
      exact ⟨rfl, ⟨v, HBL.out⟩, HKE.out⟩
set_option maxRecDepth 100000 in
set_option maxHeartbeats 2000000 in
theorem longs_any (l : List Nat) (hl : ∀ n ∈ l, n < 18446744073709551616) (h100 : l.length ≤ 100) (g B b : Nat) (u : Bool) (s : ByteArray) (hs : s.size ≤ 100000000) (w : World) (hB : B ≤ w.heap.size) (h : WB.Bld B b u s w) (hg : Has w g 23 (l.map fun (n : Nat) => Value.int .u64 n).toArray) :
    Calls Try.prog 61 #[.pointer (some ⟨b, 0, none⟩), .slice (some ⟨g, 0, none⟩) l.length l.length] w fun e w' => e = .returned (.tuple #[]) ∧ WOk B b (s ++ numsT 8 l) w' ∧ BKeeps B b w w' := by
  have HG := hid hg
  have HH := hid h
  have HNE := hid (WB.ne h hg (by decide))
  obtain ⟨len, hlen⟩ : ∃ len, l.length = len := ⟨_, rfl⟩
  rw [hlen] at h100 ⊢
  have HLN := hid hlen
  clear h hg hlen
  go_enter Try.func61, Try.ntmps61
  go_wp2
  go_loopw [8] (fun vk wr => ∃ (k : Nat) (v : Bool), k ≤ len ∧ vk = .int .i64 k ∧ WB.Bld B b v (s ++ numsT 8 (l.take k)) wr ∧ BKeeps B b w wr) (fun vk _ => len - (intOf vk).toNat)
  case atStart => exact ⟨0, u, by omega, rfl, by rw [List.take_zero, numsT, app_nil]; exact HH.out, BKeeps.refl _ _ _⟩
  case round =>
    rename World => wr
    obtain ⟨k, v, hk, rfl, hbl, hke⟩ := hrel
    have HBL := hid hbl
    have HKE := hid hke
    by_cases hlt : k < len
    · have c0 : (k : Int) < len := by omega
      have hkl : k < l.length := by rw [HLN.out]; exact hlt
      have HTK := hid (numsT_take (d := 8) hkl)
      have c1 : wr.cell? ⟨g, k, none⟩ = some (.int .u64 (l[k] : Nat)) := by
        rw [(hke.has HG.out HNE.out (by decide)).cell k]
        simp [hkl]
      have HXL := hid (hl l[k] (List.getElem_mem _))
      have HSZ := hid (show (s ++ numsT 8 (l.take k)).size ≤ 1000000000 from by
        rw [ByteArray.size_append, numsT_size, List.length_take]; omega)
      have HB2 := hid (show B ≤ wr.heap.size from Nat.le_trans hB hke.2.1)
      obtain ⟨x, hx⟩ : ∃ x, l[k] = x := ⟨_, rfl⟩
      rw [hx] at c1 HTK HXL
      have v1 : IntKind.u64.wrap (x : Int) = x := IntWalk.u64_in _ (by have := HXL.out; omega)
      have HLT := hid hlt
      clear hbl hke hx hkl
      go_wp2_with fail
      refine (wnumber_any 8 (by decide) (by decide) x (Nat.div_eq_of_lt (by have := HXL.out; simpa using this)) B b v _ HSZ.out _ HB2.out HBL.out).mono ?_
      rintro e w2 ⟨rfl, h2, hk2⟩
      have H2 := hid h2
      have HK2 := hid (HKE.out.trans hk2)
      clear h2 hk2 c1
      go_wp2
      exact ⟨⟨k + 1, true, HLT.out, by first | rfl | go_num, by rw [HTK.out, ← app_as]; exact H2.out, HK2.out⟩, by have := HLT.out; simp [intOf]; omega⟩
    · obtain rfl : k = len := by omega
      have c0 : ¬ (k : Int) < k := by omega
      have HFT := hid (show l.take k = l from by rw [← HLN.out, List.take_length])
      clear hbl hke
      go_wp2
      go_returns
      rw [HFT.out] at HBL
      exact ⟨rfl, ⟨v, HBL.out⟩, HKE.out⟩
end Go.Proofs.Ytciaebhkemdilaa
