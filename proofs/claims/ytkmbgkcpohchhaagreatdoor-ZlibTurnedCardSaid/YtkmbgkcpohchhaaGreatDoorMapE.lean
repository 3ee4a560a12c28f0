import Derived.Test.YtkmbgkcpohchhaaGreatDoorMapH
import Derived.Laws.CopyOwn
import Derived.Laws.CopyRow
import Derived.RegionTactic
import Derived.Deep.RegionHeld3
/- keep, where three bytes are left (contract of the function). -/
namespace Go.Proofs.YtkmbgkcpohchhaaGreatDoor
open Go.RowKit
set_option linter.unusedVariables false
theorem int_size1 : (Tryz.prog.info? 3).map (·.size) = some 1 := by kernel_rfl
theorem copy_pl (pb : Nat) (p0 p1 p2 p3 p4 p5 p6 p7 : Int) (w : World) (h : Has w pb 136 #[.int .i64 p0, .int .i64 p1, .int .i64 p2, .int .i64 p3, .int .i64 p4, .int .i64 p5, .int .i64 p6, .int .i64 p7]) :
    ∃ w', (Builtin.copy_ #[44, 44] 3 #[.slice (some ⟨pb, 1, none⟩) 7 7, .slice (some ⟨pb, 0, none⟩) 8 8]).run Tryz.prog w = .ok (.int .i64 7) w' ∧ Has w' pb 136 #[.int .i64 p0, .int .i64 p0, .int .i64 p1, .int .i64 p2, .int .i64 p3, .int .i64 p4, .int .i64 p5, .int .i64 p6] ∧ w.grownBy w' (some pb) := by
  have hr := run_copy_row (P := Tryz.prog) w 44 44 3 3 pb 1 7 7 ⟨pb, 0, none⟩ 8 8 _ 136 [.int .i64 p0, .int .i64 p1, .int .i64 p2, .int .i64 p3, .int .i64 p4, .int .i64 p5, .int .i64 p6] Tryz.underlying44 int_size1 h rfl (fun j v hj => by
    rw [addr_add, h.cell j]
    match j, hj with
    | 0, hj => exact hj
    | 1, hj => exact hj
    | 2, hj => exact hj
    | 3, hj => exact hj
    | 4, hj => exact hj
    | 5, hj => exact hj
    | 6, hj => exact hj
    | j + 7, hj => simp at hj) (by simp) (by intro v hv; simp at hv; rcases hv with rfl | rfl | rfl | rfl | rfl | rfl | rfl <;> rfl)
  refine ⟨_, hr, ?_, ⟨rfl, rfl, rfl, by simp, fun i hi hne => setRow_other _ _ _ _ (fun e => hne (by rw [e]))⟩⟩
  show (w.setRow pb _).heap[pb]? = _
  exact setRow_heap w pb _ _ 136 (0, 0) h
theorem wpList_mapUpdate_run {P : Program} {w w' : World} {ops : Array Oper} {rest : List Oper} {o : Oper} {a : Act} {Q : Exit → Act → World → Prop}
    (hg : o.guard = none) (m x v : Operand) (t : TypeId) (hop : o.op = Op.mapUpdate t m x v) {M K V : Value} (hm : a.eval m = M) (hx : a.eval x = K) (hv : a.eval v = V) (hrun : (Instr.mapUpdate t M K V).run P w = .ok () w')
    (hK : wpList P ops Q rest (a.put o.dst undef) w') : wpList P ops Q (o :: rest) a w := by
  refine wpList_plain hg fun K' hK' => ?_
  unfold Oper.wp
  simp [execOp, hop, hm, hx, hv, hrun, Result.andThen]
  exact hK' _ _ hK
set_option maxRecDepth 100000 in
set_option maxHeartbeats 4000000 in
theorem keep_long (G : Nat → Prop) (g mb n : Nat) (s : ByteArray) (hs : s.size ≤ 1000000) (F : Pl) (k : Nat) (hk : k + 2 < s.size) (hn : n ≤ 1000000) (x y z : UInt8) (hx : s.data[k]? = some x) (hy : s.data[k + 1]? = some y) (hz : s.data[k + 2]? = some z) (w : World) (hf : FinAt w g mb n s F) :
    Calls Tryz.prog 43 #[.pointer (some ⟨g, 0, none⟩), .int .i64 k] w fun e w' => (∃ v, e = .returned v) ∧ FinAt w' g mb (n + 1) s (keptP s k (upd F x y z (shiftP (F x y z) (k + 1)))) ∧ w.grownBy w' (some mb) := by
  have hc : w.cell? ⟨g, 0, none⟩ = some (.string s) := hf.blk.cell 0
  have hk1 : (k : Int) < s.size := by omega
  have h3 : ¬ ((s.size : Int) - k) < 3 := by omega
  have HK : Hid (∀ (W : World), W.cell? ⟨g, 0, none⟩ = some (.string s) → Calls Tryz.prog 72 #[.pointer (some ⟨g, 0, none⟩), .int .i64 k] W fun e w' => e = .returned (.agg #[.int .u8 (x.toNat : Nat), .int .u8 (y.toNat : Nat), .int .u8 (z.toNat : Nat)]) ∧ Bw W w') := hid fun W h => by
    have e0 : s[k] = x := by
      have := (Array.getElem?_eq_getElem (show k < s.data.size from by show k < s.size; omega)).symm.trans hx
      injection this
    have e1 : (s[k + 1]'(by omega)) = y := by
      have := (Array.getElem?_eq_getElem (show k + 1 < s.data.size from by show k + 1 < s.size; omega)).symm.trans hy
      injection this
    have e2 : (s[k + 2]'hk) = z := by
      have := (Array.getElem?_eq_getElem (show k + 2 < s.data.size from hk)).symm.trans hz
      injection this
    have := keyAt_any g s (by omega) k hk W h
    rw [e0, e1, e2] at this
    exact this
  clear hx hy hz
  have hlen := hf.map.len x y z
  have HL := hid (fun (W : World) (h : MapAt W mb n F) => h.look x y z)
  have HF := hid hf
  clear hf
  obtain ⟨ps, hps⟩ : ∃ ps, F x y z = ps := ⟨_, rfl⟩
  rw [hps] at HL hlen ⊢
  clear hps
  match ps, hlen with
  | [p0, p1, p2, p3, p4, p5, p6, p7], _ =>
    have HL2 : Hid (∀ (W : World), MapAt W mb n F → (Instr.lookup 84 (.map (some mb)) (.agg #[.int .u8 (x.toNat : Nat), .int .u8 (y.toNat : Nat), .int .u8 (z.toNat : Nat)]) false).run Tryz.prog W = .ok (.agg #[.int .i64 p0, .int .i64 p1, .int .i64 p2, .int .i64 p3, .int .i64 p4, .int .i64 p5, .int .i64 p6, .int .i64 p7]) W) := HL
    clear HL
    go_enter Tryz.func43, Tryz.ntmps43
    go_wp2_with fail
    refine (HK.out _ hc).mono ?_
    rintro e w2 ⟨rfl, hb2⟩
    have HB2 := hid (hb2.alloc (.cells #[.int .u8 (x.toNat : Nat), .int .u8 (y.toNat : Nat), .int .u8 (z.toNat : Nat)] 138))
    have HKB := hid (Has.new w2 138 #[.int .u8 (x.toNat : Nat), .int .u8 (y.toNat : Nat), .int .u8 (z.toNat : Nat)])
    clear hb2
    go_wp2_with fail
    generalize hW3 : w2.alloc (.cells #[.int .u8 (x.toNat : Nat), .int .u8 (y.toNat : Nat), .int .u8 (z.toNat : Nat)] 138) = W3 at *
    generalize w2.heap.size = kb at *
    have HF3 := hid (HF.out.bw HB2.out)
    have q0 : W3.cell? ⟨g, 1, none⟩ = some (.map (some mb)) := HF3.out.blk.cell 1
    have k0 : W3.cell? ⟨kb, 0, none⟩ = some (.int .u8 (x.toNat : Nat)) := HKB.out.cell 0
    have k1 : W3.cell? ⟨kb, 1, none⟩ = some (.int .u8 (y.toNat : Nat)) := HKB.out.cell 1
    have k2 : W3.cell? ⟨kb, 2, none⟩ = some (.int .u8 (z.toNat : Nat)) := HKB.out.cell 2
    have HS := hid (fun (W : World) (h : Bw W3 W) => (⟨h.cell q0, h.cell k0, h.cell k1, h.cell k2, HL2.out W (HF3.out.map.bw h)⟩ : W.cell? ⟨g, 1, none⟩ = some (.map (some mb)) ∧ W.cell? ⟨kb, 0, none⟩ = some (.int .u8 (x.toNat : Nat)) ∧ W.cell? ⟨kb, 1, none⟩ = some (.int .u8 (y.toNat : Nat)) ∧ W.cell? ⟨kb, 2, none⟩ = some (.int .u8 (z.toNat : Nat)) ∧ (Instr.lookup 84 (.map (some mb)) (.agg #[.int .u8 (x.toNat : Nat), .int .u8 (y.toNat : Nat), .int .u8 (z.toNat : Nat)]) false).run Tryz.prog W = .ok (.agg #[.int .i64 p0, .int .i64 p1, .int .i64 p2, .int .i64 p3, .int .i64 p4, .int .i64 p5, .int .i64 p6, .int .i64 p7]) W))
    clear hW3
    go_region_held3 (fun W => W.cell? ⟨g, 1, none⟩ = some (.map (some mb)) ∧ W.cell? ⟨kb, 0, none⟩ = some (.int .u8 (x.toNat : Nat)) ∧ W.cell? ⟨kb, 1, none⟩ = some (.int .u8 (y.toNat : Nat)) ∧ W.cell? ⟨kb, 2, none⟩ = some (.int .u8 (z.toNat : Nat)) ∧ (Instr.lookup 84 (.map (some mb)) (.agg #[.int .u8 (x.toNat : Nat), .int .u8 (y.toNat : Nat), .int .u8 (z.toNat : Nat)]) false).run Tryz.prog W = .ok (.agg #[.int .i64 p0, .int .i64 p1, .int .i64 p2, .int .i64 p3, .int .i64 p4, .int .i64 p5, .int .i64 p6, .int .i64 p7]) W)
      (first | exact HS.out _ ((Bw.refl W3).drewN 1) | exact HS.out _ (((Bw.refl W3).alloc _).drewN 1))
      ((fail))
    all_goals
      have HP4 : Hid (Has (W3.alloc (.cells #[.int .i64 p0, .int .i64 p1, .int .i64 p2, .int .i64 p3, .int .i64 p4, .int .i64 p5, .int .i64 p6, .int .i64 p7] 136)).drew W3.heap.size 136 #[.int .i64 p0, .int .i64 p1, .int .i64 p2, .int .i64 p3, .int .i64 p4, .int .i64 p5, .int .i64 p6, .int .i64 p7]) := hid (Has.new W3 _ _).drew
      have HB4 : Hid (Bw W3 (W3.alloc (.cells #[.int .i64 p0, .int .i64 p1, .int .i64 p2, .int .i64 p3, .int .i64 p4, .int .i64 p5, .int .i64 p6, .int .i64 p7] 136)).drew) := hid (((Bw.refl W3).alloc _).drewN 1)
      generalize (W3.alloc (.cells #[.int .i64 p0, .int .i64 p1, .int .i64 p2, .int .i64 p3, .int .i64 p4, .int .i64 p5, .int .i64 p6, .int .i64 p7] 136)).drew = W4 at *
      generalize hpbe : W3.heap.size = pb at *
      have HPBE := hid hpbe
      clear hpbe
      obtain ⟨W5, hcp, hp5, hg5⟩ := copy_pl pb p0 p1 p2 p3 p4 p5 p6 p7 W4.drew HP4.out.drew
      have HP5 := hid hp5
      have HG5 := hid hg5
      clear hp5 hg5
      go_wp2_with fail
      go_region
      clear hcp
      have e0 : W5.cell? ⟨pb, 0, none⟩ = some (.int .i64 p0) := HP5.out.cell 0
      have ef := HP5.out.frozen 0
      go_wp2_with fail
      have HB6 : Hid (Below pb W3 (W5.setCell ⟨pb, 0, none⟩ (.int .i64 ((k : Int) + 1)))) := hid (by
        have h1 : Below pb W3 W4.drew := by
          have := HB4.out.drewN 1
          unfold Bw at this
          rw [HPBE.out] at this
          exact this
        have h2 : Below pb W4.drew W5 := own_grown (by have := h1.size; rw [HPBE.out] at this; exact this) (fun b hb => by injection hb with hb; omega) HG5.out
        exact (h1.trans h2).setCell (p := ⟨pb, 0, none⟩) (Nat.le_refl _) _)
      have hpl := HP5.out.put 0 (.int .i64 ((k : Int) + 1))
      have HPL := hid hpl
      generalize W5.setCell ⟨pb, 0, none⟩ (.int .i64 ((k : Int) + 1)) = W6 at *
      clear hpl e0 ef
      have hgl := HF3.out.blk.lt
      have hml := HF3.out.map.lt
      have hkl := HKB.out.lt
      rw [HPBE.out] at hgl hml hkl
      have HF6 := hid (⟨HF3.out.blk.below HB6.out hgl, HF3.out.map.keep (HB6.out.block mb hml)⟩ : FinAt W6 g mb n s F)
      have HK6 := hid (HKB.out.below HB6.out hkl)
      have q6 : W6.cell? ⟨g, 1, none⟩ = some (.map (some mb)) := HF6.out.blk.cell 1
      have k60 : W6.cell? ⟨kb, 0, none⟩ = some (.int .u8 (x.toNat : Nat)) := HK6.out.cell 0
      have k61 : W6.cell? ⟨kb, 1, none⟩ = some (.int .u8 (y.toNat : Nat)) := HK6.out.cell 1
      have k62 : W6.cell? ⟨kb, 2, none⟩ = some (.int .u8 (z.toNat : Nat)) := HK6.out.cell 2
      have a0 : W6.cell? ⟨pb, 0, none⟩ = some (.int .i64 ((k : Int) + 1)) := HPL.out.cell 0
      have a1 : W6.cell? ⟨pb, 1, none⟩ = some (.int .i64 p0) := HPL.out.cell 1
      have a2 : W6.cell? ⟨pb, 2, none⟩ = some (.int .i64 p1) := HPL.out.cell 2
      have a3 : W6.cell? ⟨pb, 3, none⟩ = some (.int .i64 p2) := HPL.out.cell 3
      have a4 : W6.cell? ⟨pb, 4, none⟩ = some (.int .i64 p3) := HPL.out.cell 4
      have a5 : W6.cell? ⟨pb, 5, none⟩ = some (.int .i64 p4) := HPL.out.cell 5
      have a6 : W6.cell? ⟨pb, 6, none⟩ = some (.int .i64 p5) := HPL.out.cell 6
      have a7 : W6.cell? ⟨pb, 7, none⟩ = some (.int .i64 p6) := HPL.out.cell 7
      refine wp_region_still_tail 6 (by kernel_rfl) (by kernel_rfl) ?_
      simp only [List.take_succ_cons, List.take_zero, List.drop_succ_cons, List.drop_zero]
      repeat still_step
      refine wpStill_nil ?_
      change wpList _ _ _ _ _ W6.drew
      have HF7 : Hid (FinAt W6.drew g mb n s F) := hid (HF6.out.bw ((Bw.refl W6).drewN 1))
      have HB7 : Hid (Below pb W3 W6.drew) := hid (HB6.out.drew)
      generalize W6.drew = W7 at *
      obtain ⟨W8, hmu, hm8, hg8⟩ := HF7.out.map.put (by omega) x y z [(k : Int) + 1, p0, p1, p2, p3, p4, p5, p6] rfl
      have hmu2 : (Instr.mapUpdate 84 (.map (some mb)) (.agg #[.int .u8 (x.toNat : Nat), .int .u8 (y.toNat : Nat), .int .u8 (z.toNat : Nat)]) (.agg #[.int .i64 ((k : Int) + 1), .int .i64 p0, .int .i64 p1, .int .i64 p2, .int .i64 p3, .int .i64 p4, .int .i64 p5, .int .i64 p6])).run Tryz.prog W7 = .ok () W8 := hmu
      have HM8 := hid hm8
      have HG8 := hid hg8
      clear hmu hm8 hg8 q6 k60 k61 k62 a0 a1 a2 a3 a4 a5 a6 a7
      refine wpList_mapUpdate_run rfl (.tmp 32) (.tmp 33) (.tmp 34) _ rfl rfl rfl rfl hmu2 ?_
      clear hmu2
      have hwp : w.heap.size ≤ pb := by have := HB2.out.size; rw [HPBE.out] at this; exact this
      have HG9 := hid (grown_after (Below.trans HB2.out (Below.mono HB7.out hwp)) HG8.out)
      have HF8 : Hid (FinAt W8 g mb (n + 1) s (upd F x y z (shiftP [p0, p1, p2, p3, p4, p5, p6, p7] (k + 1)))) := hid ⟨has_grown HF7.out.blk HG8.out (fun e => HF7.out.ne (by injection e)), HM8.out⟩
      clear hwp
      obtain ⟨F', hue⟩ : ∃ F', upd F x y z (shiftP [p0, p1, p2, p3, p4, p5, p6, p7] (k + 1)) = F' := ⟨_, rfl⟩
      rw [hue] at HF8
      have HUE := hid hue
      clear hue
      by_cases h32 : 32768 ≤ k
      · have t327 : decide ((32768 : Int) ≤ k) = true := decide_eq_true (by omega)
        obtain ⟨a, ha⟩ : ∃ a, k - 32768 = a := ⟨_, rfl⟩
        have ea : (k : Int) - 32768 = (a : Nat) := by omega
        have HFG := hid (forget_any g mb (n + 1) s hs F' a (by omega) W8 HF8.out)
        have HKP := hid (show keptP s k F' = fgtP s a F' by unfold keptP; rw [if_pos h32, ha])
        clear ha h32
        go_wp2_with fail
        refine HFG.out.mono ?_
        rintro e w9 ⟨⟨v, rfl⟩, hf9, hg9⟩
        have HF9 := hid hf9
        have HGG := hid (grown_two HG9.out hg9)
        clear hf9 hg9
        go_wp2
        go_end0
        exact ⟨⟨_, rfl⟩, by rw [HUE.out, HKP.out]; exact HF9.out, HGG.out⟩
      · have t327 : decide ((32768 : Int) ≤ k) = false := decide_eq_false (by omega)
        have HKP := hid (show keptP s k F' = F' by unfold keptP; exact if_neg h32)
        clear h32
        go_wp2
        go_end0
        exact ⟨⟨_, rfl⟩, by rw [HUE.out, HKP.out]; exact HF8.out, HG9.out⟩
end Go.Proofs.YtkmbgkcpohchhaaGreatDoor
