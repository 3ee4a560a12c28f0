/- Blanks passed over, operators looked for, elements put in (contracts of the parser's methods). -/
import Derived.Test.YtlilmidffcmkjaaGreatDoorPrsC
import Derived.Test.YtlilmidffcmkjaaGreatDoorShelfE
import Derived.Deep.RegionWith
import Derived.Deep.RegionLaw
import Derived.Deep.AppendLies
import Derived.Maps.AppendAt
namespace Go.Proofs.YtlilmidffcmkjaaGreatDoor
open Go.RowKit
set_option linter.unusedVariables false
set_option linter.unusedSimpArgs false
set_option maxRecDepth 100000 in
set_option maxHeartbeats 1000000 in
theorem demand_ok (w : World) : Calls Tryz.prog 15 #[.bool true] w fun e w' => e = .returned (.tuple #[]) ∧ w' = w := by
  go_enter Tryz.func15, Tryz.ntmps15
  go_wp2
  go_returns
  exact ⟨rfl, rfl⟩
set_option maxRecDepth 100000 in
set_option maxHeartbeats 1000000 in
theorem demand_bad (w : World) : Calls Tryz.prog 15 #[.bool false] w fun e w' => e = pan 8 ∧ w' = w := by
  go_enter Tryz.func15, Tryz.ntmps15
  go_wp2
  exact ⟨rfl, rfl, rfl⟩
set_option maxRecDepth 100000 in
set_option maxHeartbeats 1000000 in
theorem skip_any (w0 w : World) (g : Nat) (s : ByteArray) (k deep : Nat) (l : List ExpR) (v : Value) (h : PrsS w0 w g s k deep l v) :
    Calls Tryz.prog 35 #[.pointer (some ⟨g, 0, none⟩)] w fun e w' => e = .returned (.tuple #[]) ∧ PrsS w0 w' g s (skipK s k) deep l v ∧ KT TP w0.heap.size w w' := by
  have c0 := h.pr.cell 0
  simp at c0
  have HT := hid (lib_TrimLeft (dropS s k) w)
  have HE := hid (trim_drop s k h.ks)
  have HS := hid h
  clear h
  obtain ⟨r, hr⟩ : ∃ r, (⟨(Lib.trimLeftS (dropS s k).data.toList [32, 9, 10]).toArray⟩ : ByteArray) = r := ⟨_, rfl⟩
  rw [hr] at HT HE
  clear hr
  generalize dropS s k = d at *
  go_enter Tryz.func35, Tryz.ntmps35
  go_wp2_with (go_at_call 47; refine HT.out.mono ?_; rintro e w2 ⟨rfl, hb⟩; have HB := hid hb; clear hb; have HS2 := hid (HS.out.later HB.out); have c2 := HS2.out.pr.cell 0; have f0 := HS2.out.pr.frozen 0; simp at c2)
  go_returns
  exact ⟨rfl, HS2.out.rest (runK_le isBlk s k HS2.out.ks) HE.out, (KT.of_bw HB.out).trans (HS2.out.kt_set _ _)⟩
theorem own_five (w : World) (a b c d e : Value) (t : TypeId) : ∀ j u, [a, b, c, d, e][j]? = some u → (w.alloc (.cells #[a, b, c, d, e] t)).cell? ((⟨w.heap.size, 0, none⟩ : Addr).add j) = some u := by
  intro j u h
  rw [addr_add, (Has.new w t #[a, b, c, d, e]).cell j]
  simpa using h
set_option maxRecDepth 100000 in
set_option maxHeartbeats 4000000 in
theorem add_ok (w0 w : World) (g : Nat) (s : ByteArray) (k deep : Nat) (l : List ExpR) (v : Value) (h : PrsS w0 w g s k deep l v) (x : ExpR) (hx : x.Ok) (hf : l.length < 400) :
    Calls Tryz.prog 26 #[.pointer (some ⟨g, 0, none⟩), .agg #[.string x.op, .string x.name, .int .u64 x.n, .int .i64 x.l, .int .i64 x.r]] w (PrsP w0 w g s deep (some (l.length, k, l ++ [x]))) := by
  obtain ⟨i0, hinf, hz0, hz1, hz2⟩ := info_parts expInfo
  obtain ⟨ao, ca, rfl⟩ := own_slice h.row
  have HX := hid hx
  obtain ⟨o, nm, n, xl, xr⟩ := x
  simp only
  have HA := hid ((Bw.refl w).alloc (.cells #[.string o, .string nm, .int .u64 n, .int .i64 xl, .int .i64 xr] 42))
  have HN := hid (Has.new w 42 #[.string o, .string nm, .int .u64 n, .int .i64 xl, .int .i64 xr])
  have HS1 := hid (h.later HA.out)
  have c2 := HS1.out.pr.cell 2
  simp at c2
  have t1 : ((l.length : Nat) : Int) < 400 := by omega
  have HF := hid hf
  clear h hx
  go_enter Tryz.func26, Tryz.ntmps26
  go_wp2_with fail
  refine (demand_ok _).mono ?_
  rintro e w2 ⟨rfl, rfl⟩
  generalize hW1 : w.alloc (.cells #[.string o, .string nm, .int .u64 n, .int .i64 xl, .int .i64 xr] 42) = W1 at *
  have b0 := HN.out.cell 0
  have b1 := HN.out.cell 1
  have b2 := HN.out.cell 2
  have b3 := HN.out.cell 3
  have b4 := HN.out.cell 4
  simp at b0 b1 b2 b3 b4
  have HWA := hid (show Bw W1 (W1.alloc (.cells #[.string o, .string nm, .int .u64 n, .int .i64 xl, .int .i64 xr] 42)).drew from ((Bw.refl W1).alloc _).drewN 1)
  have HS2 := hid (HS1.out.later HWA.out)
  have HBS := hid (HS2.out.bw.size)
  have c2d : W1.drew.cell? ⟨g, 2, none⟩ = some (.slice ao l.length ca) := c2
  have c2e := HWA.out.cell c2
  go_wp2_with fail
  go_region_law (refine step_append_lies _ (by rfl) (.tmp 16) (.tmp 18) 22 (by rfl) w0.heap.size 42 i0 (.agg #[.string ⟨#[]⟩, .string ⟨#[]⟩, .int .u64 0, .int .i64 0, .int .i64 0]) 5 56 Tryz.underlying22 hinf hz0 hz1 hz2 (by rfl) (by decide) (.slice ao l.length ca) l.length (expCells l) (by rfl) HS2.out.row ⟨W1.heap.size, 0, none⟩ 1 1 [.string o, .string nm, .int .u64 n, .int .i64 xl, .int .i64 xr] (by rfl) rfl (own_five _ _ _ _ _ _ _) (by intro u hu; simp at hu; rcases hu with rfl | rfl | rfl | rfl | rfl <;> rfl) (by omega) (by unfold maxLen; omega) (by omega) HBS.out (W1.heap.size + 1) (by simp) ?_; intro g5 cp5 w5 hown5 hgrow5 hat5 hlt5; have HAP := hid (HS2.out.app HF.out HX.out (own_down hown5 (Nat.zero_le _)) hgrow5 (hat5.elim (fun e => .inl e.symm) (fun e => .inr (fun b hb => by rw [← Option.some.inj (show some g5 = some b from hb), e]; exact Nat.le_of_eq (by simp))))); have z5 := (HS2.out.mid hgrow5).frozen 2; have y5 := (HS2.out.mid hgrow5).cell 2; simp at y5; clear hown5 hgrow5 hat5 hlt5)
  all_goals
    have e2 := HAP.out.1.pr.cell 2
    simp at e2
    go_wp2
    go_returns
    exact ⟨((KT.of_bw (HA.out.trans HWA.out)).trans HAP.out.2), rfl, by simp, _, HAP.out.1⟩
set_option maxRecDepth 100000 in
set_option maxHeartbeats 4000000 in
theorem add_bad (w0 w : World) (g : Nat) (s : ByteArray) (k deep : Nat) (l : List ExpR) (v : Value) (h : PrsS w0 w g s k deep l v) (x : ExpR) (hx : x.Ok) (hf : ¬ l.length < 400) :
    Calls Tryz.prog 26 #[.pointer (some ⟨g, 0, none⟩), .agg #[.string x.op, .string x.name, .int .u64 x.n, .int .i64 x.l, .int .i64 x.r]] w (PrsP w0 w g s deep none) := by
  obtain ⟨ao, ca, rfl⟩ := own_slice h.row
  obtain ⟨o, nm, n, xl, xr⟩ := x
  simp only
  have HA := hid ((Bw.refl w).alloc (.cells #[.string o, .string nm, .int .u64 n, .int .i64 xl, .int .i64 xr] 42))
  have HS1 := hid (h.later HA.out)
  have c2 := HS1.out.pr.cell 2
  simp at c2
  have t1 : ¬ ((l.length : Nat) : Int) < 400 := by omega
  clear h hx hf
  go_enter Tryz.func26, Tryz.ntmps26
  go_wp2_with fail
  refine (demand_bad _).mono ?_
  rintro e w2 ⟨rfl, rfl⟩
  exact ⟨rfl, KT.of_bw HA.out, rfl⟩
end Go.Proofs.YtlilmidffcmkjaaGreatDoor
