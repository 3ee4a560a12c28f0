/- copied of elf's laws (contract of the function). -/
import Derived.Test.YtciaebhkemdilaaElfTg
namespace Go.Proofs.Ytciaebhkemdilaa
open Go.RowKit
set_option linter.unusedVariables false
set_option linter.unusedSimpArgs false
theorem wpList_app_run {P : Program} {w w' : World} {ops : Array Oper} {rest : List Oper} {o : Oper} {a : Act} {Q : Exit → Act → World → Prop} (hgd : o.guard = none) (x y : Operand) (t : TypeId)
    (ho : o.op = .call { callee := .builtin .append, args := #[x, y], argTypes := #[t, t] }) (u v r : Value) (hx : a.eval x = u) (hy : a.eval y = v) (hr : (Builtin.append_ #[t, t] o.type #[u, v]).run P w = .ok r w')
    (h : wpList P ops Q rest (a.put o.dst r) w') : wpList P ops Q (o :: rest) a w := by
  refine wpList_plain hgd fun K hK => ?_
  unfold Oper.wp execOp
  simp only [ho, resolve, invoke, builtin, Sem.run_bind, Sem.run_pure, Result.andThen_ok, List.map_toArray, List.map_cons, List.map_nil, hx, hy, hr]
  exact hK _ _ h
theorem seg_app (A : Option Addr) (n cap : Nat) (l : List SegR) (hl : l.length = n) (hn : n ≤ 1001) (hA : A = none → cap = 0) (ty : TypeId) (w : World) (hst : SegAt w A l) :
    ∃ a2 c2 w', (Builtin.append_ #[24, 24] ty #[.slice none 0 0, .slice A n cap]).run Try.prog w = .ok (.slice a2 n c2) w' ∧ w'.ownsRow w.heap.size 61 8 (.slice a2 n c2) n (segCells l) ∧ Bw w w' := by
  obtain ⟨i0, hi, hz0, hz1, hz2⟩ := info_parts segKInfo
  have hnil : w.ownsRow w.heap.size 61 8 (.slice none 0 0) 0 [] := ⟨rfl, .inl ⟨rfl, rfl⟩⟩
  cases A with
  | none =>
    have hl0 : l = [] := by
      cases l with
      | nil => rfl
      | cons y l => obtain ⟨b, off, e, _⟩ := hst 0 (by simp); cases e
    subst hl0
    have : n = 0 := by rw [← hl]; rfl
    subst this
    rw [hA rfl]
    exact ⟨none, 0, w, run_append_owned_none (P := Try.prog) (w := w) w.heap.size _ ty _ i0 8 Try.underlying24 hi _ 0 [] hnil, ⟨rfl, .inl ⟨rfl, rfl⟩⟩, Bw.refl _⟩
  | some ad =>
    have hlen : (segCells l).length = n * 8 := by rw [← hl]; exact segCells_len l
    obtain ⟨v', w', hr, hw, hg, _⟩ := run_append_own (P := Try.prog) w w.heap.size _ ty _ i0 _ 8 64 Try.underlying24 hi hz0 hz1 hz2 rfl (by decide) (.slice none 0 0) 0 [] hnil ad n cap (segCells l) hlen (fun q u hq => by
      have hq2 : q < n * 8 := by rw [← hlen]; exact (List.getElem?_eq_some_iff.1 hq).1
      have hi2 : q / 8 < l.length := by omega
      obtain ⟨b, off, e, -, hrg⟩ := seg_range hst (q / 8) hi2
      obtain rfl : ad = ⟨b, off, none⟩ := Option.some.inj e
      have ea : (Addr.add ⟨b, off, none⟩ q) = ⟨b, off + q, none⟩ := by
        unfold Addr.add; by_cases hz : q = 0 <;> simp [hz]
      rw [ea]
      have k := segCells_get l (q / 8) hi2 (q % 8) (by omega)
      rw [show q / 8 * 8 + q % 8 = q by omega, hq] at k
      have := hrg (q % 8) u k.symm
      rw [show off + q / 8 * 8 + q % 8 = off + q by omega] at this
      exact this) (fun u hu => by
      unfold segCells at hu
      obtain ⟨y, _, hu⟩ := List.mem_flatMap.1 hu
      unfold segCell at hu
      simp only [List.mem_cons, List.not_mem_nil, or_false] at hu
      rcases hu with rfl | rfl | rfl | rfl | rfl | rfl | rfl | rfl <;> rfl) (by unfold maxLen; omega) (by omega) (Nat.le_refl _)
    rw [Nat.zero_add, List.nil_append] at hw
    obtain ⟨a2, c2, rfl⟩ := own_slice hw
    exact ⟨a2, c2, w', hr, hw, own_grownJ hnil hg (Nat.le_refl _)⟩
theorem sec_app (A : Option Addr) (n cap : Nat) (l : List SecR) (hl : l.length = n) (hn : n ≤ 1001) (hA : A = none → cap = 0) (ty : TypeId) (w : World) (hst : SecAt w A l) :
    ∃ a2 c2 w', (Builtin.append_ #[25, 25] ty #[.slice none 0 0, .slice A n cap]).run Try.prog w = .ok (.slice a2 n c2) w' ∧ w'.ownsRow w.heap.size 43 10 (.slice a2 n c2) n (secCells l) ∧ Bw w w' := by
  obtain ⟨i0, hi, hz0, hz1, hz2⟩ := info_parts secKInfo
  have hnil : w.ownsRow w.heap.size 43 10 (.slice none 0 0) 0 [] := ⟨rfl, .inl ⟨rfl, rfl⟩⟩
  cases A with
  | none =>
    have hl0 : l = [] := by
      cases l with
      | nil => rfl
      | cons y l => obtain ⟨b, off, e, _⟩ := hst 0 (by simp); cases e
    subst hl0
    have : n = 0 := by rw [← hl]; rfl
    subst this
    rw [hA rfl]
    exact ⟨none, 0, w, run_append_owned_none (P := Try.prog) (w := w) w.heap.size _ ty _ i0 10 Try.underlying25 hi _ 0 [] hnil, ⟨rfl, .inl ⟨rfl, rfl⟩⟩, Bw.refl _⟩
  | some ad =>
    have hlen : (secCells l).length = n * 10 := by rw [← hl]; exact secCells_len l
    obtain ⟨v', w', hr, hw, hg, _⟩ := run_append_own (P := Try.prog) w w.heap.size _ ty _ i0 _ 10 96 Try.underlying25 hi hz0 hz1 hz2 rfl (by decide) (.slice none 0 0) 0 [] hnil ad n cap (secCells l) hlen (fun q u hq => by
      have hq2 : q < n * 10 := by rw [← hlen]; exact (List.getElem?_eq_some_iff.1 hq).1
      have hi2 : q / 10 < l.length := by omega
      obtain ⟨b, off, e, -, hrg⟩ := sec_range hst (q / 10) hi2
      obtain rfl : ad = ⟨b, off, none⟩ := Option.some.inj e
      have ea : (Addr.add ⟨b, off, none⟩ q) = ⟨b, off + q, none⟩ := by
        unfold Addr.add; by_cases hz : q = 0 <;> simp [hz]
      rw [ea]
      have k := secCells_get l (q / 10) hi2 (q % 10) (by omega)
      rw [show q / 10 * 10 + q % 10 = q by omega, hq] at k
      have := hrg (q % 10) u k.symm
      rw [show off + q / 10 * 10 + q % 10 = off + q by omega] at this
      exact this) (fun u hu => by
      unfold secCells at hu
      obtain ⟨y, _, hu⟩ := List.mem_flatMap.1 hu
      unfold secCell at hu
      simp only [List.mem_cons, List.not_mem_nil, or_false] at hu
      rcases hu with rfl | rfl | rfl | rfl | rfl | rfl | rfl | rfl | rfl | rfl <;> rfl) (by unfold maxLen; omega) (by omega) (Nat.le_refl _)
    rw [Nat.zero_add, List.nil_append] at hw
    obtain ⟨a2, c2, rfl⟩ := own_slice hw
    exact ⟨a2, c2, w', hr, hw, own_grownJ hnil hg (Nat.le_refl _)⟩
def CopQ (m : ElfR) (n k : Nat) (w : World) (e : Ending) (w' : World) : Prop := ∃ a2 c2 b2 d2, e = .returned (.agg #[.int .i64 m.typ, .int .i64 m.mac, .int .u64 m.ent, .int .i64 m.flg, .slice a2 n c2, .slice b2 k d2]) ∧ Bw w w' ∧ ElfAt w' m a2 b2
set_option maxRecDepth 100000 in
set_option maxHeartbeats 8000000 in
theorem copied_any (m : ElfR) (a b : Option Addr) (n k c d : Nat) (hn1 : n ≤ 1001) (hk1 : k ≤ 1001) (hca : a = none → c = 0) (hdb : b = none → d = 0) (w : World) (hin : InM w m a b n k) :
    Calls Try.prog 14 #[.agg #[.int .i64 m.typ, .int .i64 m.mac, .int .u64 m.ent, .int .i64 m.flg, .slice a n c, .slice b k d]] w (CopQ m n k w) := by
  have HIN := hid hin
  have HQ := hid (fun e w' a2 c2 b2 d2 (he : e = .returned (.agg #[.int .i64 m.typ, .int .i64 m.mac, .int .u64 m.ent, .int .i64 m.flg, .slice a2 n c2, .slice b2 k d2])) (hb : Bw w w') (h : ElfAt w' m a2 b2) => (show CopQ m n k w e w' from ⟨a2, c2, b2, d2, he, hb, h⟩))
  have HSA := hid (fun (W : World) (h : InM W m a b n k) => seg_app a n c m.segs h.hn hn1 hca 24 W h.at_.1)
  have HSB := hid (fun (W : World) (h : InM W m a b n k) => sec_app b k d m.secs h.hk hk1 hdb 25 W h.at_.2)
  obtain ⟨ty, hty⟩ : ∃ x, m.typ = x := ⟨_, rfl⟩
  obtain ⟨ma, hma⟩ : ∃ x, m.mac = x := ⟨_, rfl⟩
  obtain ⟨en, hen⟩ : ∃ x, m.ent = x := ⟨_, rfl⟩
  obtain ⟨fl, hfl⟩ : ∃ x, m.flg = x := ⟨_, rfl⟩
  rw [hty, hma, hen, hfl] at HQ ⊢
  have HX1 := hid (Has.new w 27 #[.int .i64 ty, .int .i64 ma, .int .u64 en, .int .i64 fl, .slice a n c, .slice b k d])
  have HR2 := hid (Has.new (w.alloc (.cells #[.int .i64 ty, .int .i64 ma, .int .u64 en, .int .i64 fl, .slice a n c, .slice b k d] 27)) 27 #[.int .i64 0, .int .i64 0, .int .u64 0, .int .i64 0, .slice none 0 0, .slice none 0 0])
  have HX2 := hid (HX1.out.alloc (.cells #[.int .i64 0, .int .i64 0, .int .u64 0, .int .i64 0, .slice none 0 0, .slice none 0 0] 27))
  have HO3 := hid (Has.new ((w.alloc (.cells #[.int .i64 ty, .int .i64 ma, .int .u64 en, .int .i64 fl, .slice a n c, .slice b k d] 27)).alloc (.cells #[.int .i64 0, .int .i64 0, .int .u64 0, .int .i64 0, .slice none 0 0, .slice none 0 0] 27)) 27 #[.int .i64 ty, .int .i64 ma, .int .u64 en, .int .i64 fl, .slice a n c, .slice b k d])
  have HX3 := hid (HX2.out.alloc (.cells #[.int .i64 ty, .int .i64 ma, .int .u64 en, .int .i64 fl, .slice a n c, .slice b k d] 27))
  have HR3 := hid (HR2.out.alloc (.cells #[.int .i64 ty, .int .i64 ma, .int .u64 en, .int .i64 fl, .slice a n c, .slice b k d] 27))
  have HB3 := hid ((((Bw.refl w).alloc (.cells #[.int .i64 ty, .int .i64 ma, .int .u64 en, .int .i64 fl, .slice a n c, .slice b k d] 27)).alloc (.cells #[.int .i64 0, .int .i64 0, .int .u64 0, .int .i64 0, .slice none 0 0, .slice none 0 0] 27)).alloc (.cells #[.int .i64 ty, .int .i64 ma, .int .u64 en, .int .i64 fl, .slice a n c, .slice b k d] 27))
  obtain ⟨xb, hxb⟩ : ∃ xb, w.heap.size = xb := ⟨_, rfl⟩
  have HXB := hid hxb
  simp only [World.size_alloc, hxb] at HR3 HO3 HX3 HX2
  clear HX1 HR2 hty hma hen hfl hin
  go_enter Try.func14, Try.ntmps14
  go_upto_region 1 with fail
  refine wp_region_list ?_
  refine wpList_load_mid rfl 27 (.tmp 1) rfl xb 0 rfl [.int .i64 ty, .int .i64 ma, .int .u64 en, .int .i64 fl, .slice a n c, .slice b k d] _ HX2.out.range Try.underlying27 rfl inf_Elf ?_
  go_upto_region 2 with fail
  generalize ((w.alloc (.cells #[.int .i64 ty, .int .i64 ma, .int .u64 en, .int .i64 fl, .slice a n c, .slice b k d] 27)).alloc (.cells #[.int .i64 0, .int .i64 0, .int .u64 0, .int .i64 0, .slice none 0 0, .slice none 0 0] 27)).alloc (.cells #[.int .i64 ty, .int .i64 ma, .int .u64 en, .int .i64 fl, .slice a n c, .slice b k d] 27) = w3 at *
  clear HX2
  have o4 : w3.cell? ⟨xb + 1 + 1, 4, none⟩ = some (.slice a n c) := HO3.out.cell 4
  have f4 := HO3.out.frozen 4
  have HO4 := hid (show Has (w3.setCell ⟨xb + 1 + 1, 4, none⟩ (.slice none 0 0)) (xb + 1 + 1) 27 #[.int .i64 ty, .int .i64 ma, .int .u64 en, .int .i64 fl, .slice none 0 0, .slice b k d] from HO3.out.put 4 (.slice none 0 0))
  have HX4 := hid (HX3.out.far (p := ⟨xb + 1 + 1, 4, none⟩) (show xb ≠ xb + 1 + 1 by omega) (.slice none 0 0))
  have HR4 := hid (HR3.out.far (p := ⟨xb + 1 + 1, 4, none⟩) (show xb + 1 ≠ xb + 1 + 1 by omega) (.slice none 0 0))
  have HB4 := hid (show Bw w (w3.setCell ⟨xb + 1 + 1, 4, none⟩ (.slice none 0 0)) from Below.setCell (p := ⟨xb + 1 + 1, 4, none⟩) HB3.out (by rw [HXB.out]; show xb ≤ xb + 1 + 1; omega) (.slice none 0 0))
  clear hxb
  go_upto_region 3 with fail
  generalize w3.setCell ⟨xb + 1 + 1, 4, none⟩ (.slice none 0 0) = w4 at *
  clear o4 f4 HO3 HX3 HR3 HB3
  obtain ⟨a2, c2, w5, hrun, hown, hb5⟩ := HSA.out w4 (HIN.out.bw HB4.out)
  have HRUN := hid hrun
  have HOW := hid (own0 hown)
  have HOL := hid (fun (g : Nat) (h : (Value.slice a2 n c2).ownBlock = some g) => own_ge hown h)
  have x4 : w4.cell? ⟨xb, 4, none⟩ = some (.slice a n c) := HX4.out.cell 4
  have o4 : w4.cell? ⟨xb + 1 + 1, 4, none⟩ = some (.slice none 0 0) := HO4.out.cell 4
  have HLT := hid HO4.out.lt
  have HO5 := hid (hb5.has HO4.out)
  have HX5 := hid (hb5.has HX4.out)
  have HR5 := hid (hb5.has HR4.out)
  have HB5 := hid (HB4.out.trans hb5)
  have o5 : w5.cell? ⟨xb + 1 + 1, 4, none⟩ = some (.slice none 0 0) := HO5.out.cell 4
  have f5 := HO5.out.frozen 4
  have HO6 := hid (show Has (w5.setCell ⟨xb + 1 + 1, 4, none⟩ (.slice a2 n c2)) (xb + 1 + 1) 27 #[.int .i64 ty, .int .i64 ma, .int .u64 en, .int .i64 fl, .slice a2 n c2, .slice b k d] from HO5.out.put 4 (.slice a2 n c2))
  have HX6 := hid (HX5.out.far (p := ⟨xb + 1 + 1, 4, none⟩) (show xb ≠ xb + 1 + 1 by omega) (.slice a2 n c2))
  have HR6 := hid (HR5.out.far (p := ⟨xb + 1 + 1, 4, none⟩) (show xb + 1 ≠ xb + 1 + 1 by omega) (.slice a2 n c2))
  have HB6 := hid (show Bw w (w5.setCell ⟨xb + 1 + 1, 4, none⟩ (.slice a2 n c2)) from Below.setCell (p := ⟨xb + 1 + 1, 4, none⟩) HB5.out (by rw [HXB.out]; show xb ≤ xb + 1 + 1; omega) (.slice a2 n c2))
  have HS6 := hid (own_keep HOW.out (w' := w5.setCell ⟨xb + 1 + 1, 4, none⟩ (.slice a2 n c2)) fun q hq => Below.heap_setCell w5 ⟨xb + 1 + 1, 4, none⟩ _ q (fun e => by have := HOL.out q hq; have := HLT.out; have e2 : q = xb + 1 + 1 := e; omega))
  clear hrun hown hb5 HO4 HX4 HR4 HB4
  go_upto_region 4 with (at_builtin; refine wpList_app_run rfl _ _ 24 rfl _ _ _ rfl rfl HRUN.out ?_)
  generalize w5.setCell ⟨xb + 1 + 1, 4, none⟩ (.slice a2 n c2) = w6 at *
  clear x4 o4 o5 f5 HRUN HO5 HX5 HR5 HB5 HOW HOL HLT
  have o6 : w6.cell? ⟨xb + 1 + 1, 5, none⟩ = some (.slice b k d) := HO6.out.cell 5
  have f6 := HO6.out.frozen 5
  have HO7 := hid (show Has (w6.setCell ⟨xb + 1 + 1, 5, none⟩ (.slice none 0 0)) (xb + 1 + 1) 27 #[.int .i64 ty, .int .i64 ma, .int .u64 en, .int .i64 fl, .slice a2 n c2, .slice none 0 0] from HO6.out.put 5 (.slice none 0 0))
  have HX7 := hid (HX6.out.far (p := ⟨xb + 1 + 1, 5, none⟩) (show xb ≠ xb + 1 + 1 by omega) (.slice none 0 0))
  have HR7 := hid (HR6.out.far (p := ⟨xb + 1 + 1, 5, none⟩) (show xb + 1 ≠ xb + 1 + 1 by omega) (.slice none 0 0))
  have HB7 := hid (show Bw w (w6.setCell ⟨xb + 1 + 1, 5, none⟩ (.slice none 0 0)) from Below.setCell (p := ⟨xb + 1 + 1, 5, none⟩) HB6.out (by rw [HXB.out]; show xb ≤ xb + 1 + 1; omega) (.slice none 0 0))
  have HS7 := hid (own_keep HS6.out (w' := w6.setCell ⟨xb + 1 + 1, 5, none⟩ (.slice none 0 0)) fun q hq => Below.heap_setCell w6 ⟨xb + 1 + 1, 5, none⟩ _ q (fun e => own_ne_has HS6.out HO6.out (by decide) (by rw [hq]; exact congrArg some e)))
  go_upto_region 5 with fail
  generalize w6.setCell ⟨xb + 1 + 1, 5, none⟩ (.slice none 0 0) = w7 at *
  clear o6 f6 HO6 HX6 HR6 HB6 HS6
  obtain ⟨b2, d2, w8, hrun, hown, hb8⟩ := HSB.out w7 (HIN.out.bw HB7.out)
  have HRUN := hid hrun
  have HOW := hid (own0 hown)
  have x7 : w7.cell? ⟨xb, 5, none⟩ = some (.slice b k d) := HX7.out.cell 5
  have o7 : w7.cell? ⟨xb + 1 + 1, 5, none⟩ = some (.slice none 0 0) := HO7.out.cell 5
  have HO8 := hid (hb8.has HO7.out)
  have HR8 := hid (hb8.has HR7.out)
  have HB8 := hid (HB7.out.trans hb8)
  have HS8 := hid (hb8.own HS7.out)
  have o8 : w8.cell? ⟨xb + 1 + 1, 5, none⟩ = some (.slice none 0 0) := HO8.out.cell 5
  have f8 := HO8.out.frozen 5
  have HO9 := hid (show Has (w8.setCell ⟨xb + 1 + 1, 5, none⟩ (.slice b2 k d2)) (xb + 1 + 1) 27 #[.int .i64 ty, .int .i64 ma, .int .u64 en, .int .i64 fl, .slice a2 n c2, .slice b2 k d2] from HO8.out.put 5 (.slice b2 k d2))
  have HR9 := hid (HR8.out.far (p := ⟨xb + 1 + 1, 5, none⟩) (show xb + 1 ≠ xb + 1 + 1 by omega) (.slice b2 k d2))
  have HB9 := hid (show Bw w (w8.setCell ⟨xb + 1 + 1, 5, none⟩ (.slice b2 k d2)) from Below.setCell (p := ⟨xb + 1 + 1, 5, none⟩) HB8.out (by rw [HXB.out]; show xb ≤ xb + 1 + 1; omega) (.slice b2 k d2))
  have HS9 := hid (own_keep HS8.out (w' := w8.setCell ⟨xb + 1 + 1, 5, none⟩ (.slice b2 k d2)) fun q hq => Below.heap_setCell w8 ⟨xb + 1 + 1, 5, none⟩ _ q (fun e => own_ne_has HS8.out HO8.out (by decide) (by rw [hq]; exact congrArg some e)))
  have HT9 := hid (own_keep HOW.out (w' := w8.setCell ⟨xb + 1 + 1, 5, none⟩ (.slice b2 k d2)) fun q hq => Below.heap_setCell w8 ⟨xb + 1 + 1, 5, none⟩ _ q (fun e => own_ne_has HOW.out HO8.out (by decide) (by rw [hq]; exact congrArg some e)))
  clear hrun hown hb8 HO7 HX7 HR7 HB7 HS7
  go_upto_region 6 with (at_builtin; refine wpList_app_run rfl _ _ 25 rfl _ _ _ rfl rfl HRUN.out ?_)
  generalize w8.setCell ⟨xb + 1 + 1, 5, none⟩ (.slice b2 k d2) = w9 at *
  clear x7 o7 o8 f8 HRUN HO8 HR8 HB8 HS8 HOW
  have HPN := hid (HR9.out.set [.int .i64 ty, .int .i64 ma, .int .u64 en, .int .i64 fl, .slice a2 n c2, .slice b2 k d2] rfl)
  have HBN := hid (HB9.out.set (show w.heap.size ≤ xb + 1 by rw [HXB.out]; omega) [.int .i64 ty, .int .i64 ma, .int .u64 en, .int .i64 fl, .slice a2 n c2, .slice b2 k d2])
  have HSN := hid (own_keep HS9.out (w' := w9.setCells (xb + 1) 0 [.int .i64 ty, .int .i64 ma, .int .u64 en, .int .i64 fl, .slice a2 n c2, .slice b2 k d2]) fun q hq => by rw [setCells_put]; exact putL_heap (fun e => own_ne_has HS9.out HR9.out (by decide) (by rw [hq]; exact congrArg some e)))
  have HTN := hid (own_keep HT9.out (w' := w9.setCells (xb + 1) 0 [.int .i64 ty, .int .i64 ma, .int .u64 en, .int .i64 fl, .slice a2 n c2, .slice b2 k d2]) fun q hq => by rw [setCells_put]; exact putL_heap (fun e => own_ne_has HT9.out HR9.out (by decide) (by rw [hq]; exact congrArg some e)))
  refine wp_region_list ?_
  refine wpList_load_mid rfl 27 (.tmp 3) rfl (xb + 1 + 1) 0 rfl [.int .i64 ty, .int .i64 ma, .int .u64 en, .int .i64 fl, .slice a2 n c2, .slice b2 k d2] _ HO9.out.range Try.underlying27 rfl inf_Elf ?_
  refine wpList_store_mid rfl 27 (.tmp 2) (.tmp 19) rfl (xb + 1) 0 #[.int .i64 ty, .int .i64 ma, .int .u64 en, .int .i64 fl, .slice a2 n c2, .slice b2 k d2] rfl rfl (HR9.out.there 6 (Nat.le_refl _)) inf_Elf (by simp only [List.all_toArray, List.all_cons, List.all_nil]; rfl) ?_
  change wpList _ _ _ _ _ (w9.setCells (xb + 1) 0 [.int .i64 ty, .int .i64 ma, .int .u64 en, .int .i64 fl, .slice a2 n c2, .slice b2 k d2])
  generalize w9.setCells (xb + 1) 0 [.int .i64 ty, .int .i64 ma, .int .u64 en, .int .i64 fl, .slice a2 n c2, .slice b2 k d2] = wz at *
  go_wp2_with fail
  have p0 := HPN.out.cell 0
  have p1 := HPN.out.cell 1
  have p2 := HPN.out.cell 2
  have p3 := HPN.out.cell 3
  have p4 := HPN.out.cell 4
  have p5 := HPN.out.cell 5
  simp only [List.getElem?_toArray, List.getElem?_cons_zero, List.getElem?_cons_succ] at p0 p1 p2 p3 p4 p5
  refine bodyPost_ret (by simp [results, Try.results14, go_sem, p0, p1, p2, p3, p4, p5]; try rfl) rfl ?_
  refine HQ.out _ _ a2 c2 b2 d2 rfl HBN.out ⟨?_, ?_⟩
  · exact SegAt.of_own (by rw [HIN.out.hn]; exact HSN.out) HIN.out.seg
  · exact SecAt.of_own (by rw [HIN.out.hk]; exact HTN.out) HIN.out.sec
end Go.Proofs.Ytciaebhkemdilaa
