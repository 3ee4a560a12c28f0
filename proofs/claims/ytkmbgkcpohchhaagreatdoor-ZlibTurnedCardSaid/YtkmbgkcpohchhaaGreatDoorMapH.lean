import Derived.Test.YtkmbgkcpohchhaaGreatDoorMapG
import Derived.Maps.OwnSet
import Derived.RegionTactic
import Derived.Deep.RegionHeld3
import Derived.StillTailTactics
/- forget: three bytes that no match reaches any more are dropped (contract of the function). -/
namespace Go.Proofs.YtkmbgkcpohchhaaGreatDoor
open Go.RowKit Go.Maps
set_option linter.unusedVariables false
theorem FinAt.ne {w : World} {g mb n : Nat} {s : ByteArray} {F : Pl} (h : FinAt w g mb n s F) : mb ≠ g := fun e => by
  subst e
  obtain ⟨D, ⟨es, c, h1, _⟩, _⟩ := h.map
  have h2 := h.blk
  unfold Has at h2
  rw [h1] at h2
  cases h2
theorem grown_after {w w1 w2 : World} {m : Nat} (h1 : Below w.heap.size w w1) (h2 : w1.grownBy w2 (some m)) : w.grownBy w2 (some m) :=
  ⟨h2.os.trans h1.os, h2.tape.trans h1.tape, h2.output.trans h1.output, Nat.le_trans h1.size h2.size, fun i hi hne => (h2.block i (Nat.lt_of_lt_of_le hi h1.size) hne).trans (h1.block i hi)⟩
theorem grown_two {w w1 w2 : World} {m : Nat} (h1 : w.grownBy w1 (some m)) (h2 : w1.grownBy w2 (some m)) : w.grownBy w2 (some m) :=
  ⟨h2.os.trans h1.os, h2.tape.trans h1.tape, h2.output.trans h1.output, Nat.le_trans h1.size h2.size, fun i hi hne => (h2.block i (Nat.lt_of_lt_of_le hi h1.size) hne).trans (h1.block i hi hne)⟩
theorem grown_below {w w1 : World} {m : Nat} (h1 : Below w.heap.size w w1) : w.grownBy w1 (some m) :=
  ⟨h1.os, h1.tape, h1.output, h1.size, fun i hi _ => h1.block i hi⟩
theorem MapAt.del {w : World} {b n : Nat} {F : Pl} (h : MapAt w b n F) (x y z : UInt8) (ty : TypeId) :
    ∃ w', (Builtin.delete_ #[84, 138] ty #[.map (some b), keyV x y z]).run Tryz.prog w = .ok (.tuple #[]) w' ∧ MapAt w' b n (upd F x y z zero8) ∧ w.grownBy w' (some b) := by
  obtain ⟨D, h1, hm, h3⟩ := h
  obtain ⟨w', hr, h4, h5⟩ := h1.drop keyed Tryz.underlying84 (key_of x y z) ty
  refine ⟨w', hr, ⟨_, h4, ?_, fun a b c => ?_⟩, h5.grown⟩
  · obtain ⟨es, rfl⟩ := hm
    exact ⟨_, rfl⟩
  · unfold upd
    by_cases e : x = a ∧ y = b ∧ z = c
    · obtain ⟨rfl, rfl, rfl⟩ := e
      rw [if_pos ⟨rfl, rfl, rfl⟩]
      exact ⟨atKey_del_same _, rfl⟩
    · rw [if_neg e, atKey_del_other (kl_ne e)]
      exact h3 a b c
theorem wpList_delete_run {P : Program} {w w' : World} {ops : Array Oper} {rest : List Oper} {o : Oper} {a : Act} {Q : Exit → Act → World → Prop}
    (hg : o.guard = none) (m x : Operand) (t k : TypeId) (hop : o.op = Op.call { callee := Callee.builtin Builtin.delete, args := #[m, x], argTypes := #[t, k] }) {M K : Value} (hm : a.eval m = M) (hx : a.eval x = K) (hrun : (Builtin.delete_ #[t, k] o.type #[M, K]).run P w = .ok (.tuple #[]) w')
    (hK : wpList P ops Q rest (a.put o.dst (.tuple #[])) w') : wpList P ops Q (o :: rest) a w := by
  refine wpList_plain hg fun K' hK' => ?_
  unfold Oper.wp
  simp [execOp, hop, resolve, invoke, builtin, hm, hx, hrun, Result.andThen]
  exact hK' _ _ hK
set_option maxRecDepth 100000 in
set_option maxHeartbeats 4000000 in
theorem forget_any (g mb n : Nat) (s : ByteArray) (hs : s.size ≤ 1000000) (F : Pl) (k : Nat) (hk : k + 2 < s.size) (w : World) (hf : FinAt w g mb n s F) :
    Calls Tryz.prog 74 #[.pointer (some ⟨g, 0, none⟩), .int .i64 k] w fun e w' => (∃ v, e = .returned v) ∧ FinAt w' g mb n s (fgtP s k F) ∧ w.grownBy w' (some mb) := by
  have hc : w.cell? ⟨g, 0, none⟩ = some (.string s) := hf.blk.cell 0
  have ex : s[k] = sB s k := by unfold sB; rw [show s.data[k]? = some s[k] from Array.getElem?_eq_getElem (show k < s.data.size from by show k < s.size; omega)]; rfl
  have ey : s[k + 1]'(by omega) = sB s (k + 1) := by unfold sB; rw [show s.data[k + 1]? = some (s[k + 1]'(by omega)) from Array.getElem?_eq_getElem (show k + 1 < s.data.size from by show k + 1 < s.size; omega)]; rfl
  have ez : s[k + 2]'hk = sB s (k + 2) := by unfold sB; rw [show s.data[k + 2]? = some (s[k + 2]'hk) from Array.getElem?_eq_getElem (show k + 2 < s.data.size from hk)]; rfl
  have HK := hid (fun (W : World) (h : W.cell? ⟨g, 0, none⟩ = some (.string s)) => keyAt_any g s hs k hk W h)
  rw [ex, ey, ez] at HK
  have hfg : fgtP s k F = if (F (sB s k) (sB s (k + 1)) (sB s (k + 2))).getD 0 0 = ((k : Nat) : Int) + 1 then upd F (sB s k) (sB s (k + 1)) (sB s (k + 2)) zero8 else F := rfl
  clear ex ey ez
  generalize sB s k = x at *
  generalize sB s (k + 1) = y at *
  generalize sB s (k + 2) = z at *
  have hlen := hf.map.len x y z
  have HL := hid (fun (W : World) (h : MapAt W mb n F) => h.look x y z)
  have HF := hid hf
  clear hf
  obtain ⟨ps, hps⟩ : ∃ ps, F x y z = ps := ⟨_, rfl⟩
  rw [hps] at HL hlen hfg
  clear hps
  match ps, hlen with
  | [p0, p1, p2, p3, p4, p5, p6, p7], _ =>
    have HFG := hid (hfg.trans (show _ = if p0 = ((k : Nat) : Int) + 1 then upd F x y z zero8 else F from rfl))
    have HL2 : Hid (∀ (W : World), MapAt W mb n F → (Instr.lookup 84 (.map (some mb)) (.agg #[.int .u8 (x.toNat : Nat), .int .u8 (y.toNat : Nat), .int .u8 (z.toNat : Nat)]) false).run Tryz.prog W = .ok (.agg #[.int .i64 p0, .int .i64 p1, .int .i64 p2, .int .i64 p3, .int .i64 p4, .int .i64 p5, .int .i64 p6, .int .i64 p7]) W) := HL
    have HIX : Hid (∀ (W : World), (Instr.index 136 (.agg #[.int .i64 p0, .int .i64 p1, .int .i64 p2, .int .i64 p3, .int .i64 p4, .int .i64 p5, .int .i64 p6, .int .i64 p7]) (.int .i64 0)).run Tryz.prog W = .ok (.int .i64 p0) W) := hid (fun W => index_pl [p0, p1, p2, p3, p4, p5, p6, p7] rfl 0 (by decide) W)
    have HK' : Hid (∀ (W : World), W.cell? ⟨g, 0, none⟩ = some (.string s) → Calls Tryz.prog 72 #[.pointer (some ⟨g, 0, none⟩), .int .i64 k] W fun e w' => e = .returned (.agg #[.int .u8 (x.toNat : Nat), .int .u8 (y.toNat : Nat), .int .u8 (z.toNat : Nat)]) ∧ Bw W w') := HK
    clear HL HK hfg
    go_enter Tryz.func74, Tryz.ntmps74
    go_wp2_with fail
    refine (HK'.out _ hc).mono ?_
    rintro e w2 ⟨rfl, hb2⟩
    have HB2 := hid (hb2.alloc (.cells #[.int .u8 (x.toNat : Nat), .int .u8 (y.toNat : Nat), .int .u8 (z.toNat : Nat)] 138))
    have HKB := hid (Has.new w2 138 #[.int .u8 (x.toNat : Nat), .int .u8 (y.toNat : Nat), .int .u8 (z.toNat : Nat)])
    clear hb2
    go_wp2_with fail
    generalize hW3 : w2.alloc (.cells #[.int .u8 (x.toNat : Nat), .int .u8 (y.toNat : Nat), .int .u8 (z.toNat : Nat)] 138) = W3 at *
    generalize w2.heap.size = kb at *
    have HF3 : Hid (FinAt W3.drew g mb n s F) := hid (HF.out.bw (HB2.out.drewN 1))
    have HKB3 : Hid (Has W3.drew kb 138 #[.int .u8 (x.toNat : Nat), .int .u8 (y.toNat : Nat), .int .u8 (z.toNat : Nat)]) := hid HKB.out.drew
    have q0 : W3.drew.cell? ⟨g, 1, none⟩ = some (.map (some mb)) := HF3.out.blk.cell 1
    have k0 : W3.drew.cell? ⟨kb, 0, none⟩ = some (.int .u8 (x.toNat : Nat)) := HKB.out.cell 0
    have k1 : W3.drew.cell? ⟨kb, 1, none⟩ = some (.int .u8 (y.toNat : Nat)) := HKB.out.cell 1
    have k2 : W3.drew.cell? ⟨kb, 2, none⟩ = some (.int .u8 (z.toNat : Nat)) := HKB.out.cell 2
    have hlk := HL2.out W3.drew HF3.out.map
    have hix := HIX.out W3.drew
    have HB3 : Hid (Bw w W3.drew) := hid (HB2.out.drewN 1)
    clear hW3
    by_cases hp : p0 = (k : Int) + 1
    · have tp : (p0 == (k : Int) + 1) = true := by simpa using hp
      have HFP := hid (HFG.out.trans (if_pos hp))
      clear hp
      go_region
      clear hlk hix q0 k0 k1 k2
      generalize W3.drew = W4 at *
      have q1 : W4.cell? ⟨g, 1, none⟩ = some (.map (some mb)) := HF3.out.blk.cell 1
      have k0 : W4.cell? ⟨kb, 0, none⟩ = some (.int .u8 (x.toNat : Nat)) := HKB3.out.cell 0
      have k1 : W4.cell? ⟨kb, 1, none⟩ = some (.int .u8 (y.toNat : Nat)) := HKB3.out.cell 1
      have k2 : W4.cell? ⟨kb, 2, none⟩ = some (.int .u8 (z.toNat : Nat)) := HKB3.out.cell 2
      go_wp2_with fail
      refine wp_region_still_tail 5 (by kernel_rfl) (by kernel_rfl) ?_
      simp only [List.take_succ_cons, List.take_zero, List.drop_succ_cons, List.drop_zero]
      repeat still_step
      refine wpStill_nil ?_
      change wpList _ _ _ _ _ W4.drew
      have HF7 : Hid (FinAt W4.drew g mb n s F) := hid (HF3.out.bw ((Bw.refl W4).drewN 1))
      have HB7 : Hid (Bw w W4.drew) := hid (HB3.out.drewN 1)
      generalize W4.drew = W7 at *
      obtain ⟨W8, hmu, hm8, hg8⟩ := HF7.out.map.del x y z 0
      have HM8 := hid hm8
      have HG8 := hid hg8
      clear hm8 hg8 q1 k0 k1 k2
      have hmu2 : (Builtin.delete_ #[84, 138] 0 #[.map (some mb), .agg #[.int .u8 (x.toNat : Nat), .int .u8 (y.toNat : Nat), .int .u8 (z.toNat : Nat)]]).run Tryz.prog W7 = .ok (.tuple #[]) W8 := hmu
      clear hmu
      refine wpList_delete_run rfl (.tmp 21) (.tmp 22) 84 138 rfl rfl rfl hmu2 ?_
      clear hmu2
      go_wp2
      go_end0
      exact ⟨⟨_, rfl⟩, by rw [HFP.out]; exact ⟨has_grown HF7.out.blk HG8.out (fun e => HF7.out.ne (by injection e)), HM8.out⟩, grown_after HB7.out HG8.out⟩
    · have tp : (p0 == (k : Int) + 1) = false := by simpa using hp
      have HFP := hid (HFG.out.trans (if_neg hp))
      clear hp
      go_region
      clear hlk hix q0 k0 k1 k2
      go_wp2
      go_end0
      exact ⟨⟨_, rfl⟩, by rw [HFP.out]; exact HF3.out, grown_below HB3.out⟩
end Go.Proofs.YtkmbgkcpohchhaaGreatDoor
