/- The document's reader of expressions in memory, and how it grows (contract of its method). -/
import Derived.Test.YtlilmidffcmkjaaGreatDoorRdX
import Derived.Test.YtlilmidffcmkjaaGreatDoorPrsD
namespace Go.Proofs.YtlilmidffcmkjaaGreatDoor
open Go.RowKit
set_option linter.unusedVariables false
set_option linter.unusedSimpArgs false
/-- The reader: its lexer, its list, how many brackets are open. -/
structure ExsS (w0 w : World) (lb eb : Nat) (s : ByteArray) (k : Nat) (bad : Bool) (deep : Nat) (l : List ExpR) (v : Value) : Prop where
  lx : LxAt w lb s k bad
  ex : Has w eb 38 #[.pointer (some ⟨lb, 0, none⟩), v, .int .i64 (deep : Nat)]
  row : w.ownsRow w0.heap.size 42 5 v l.length (expCells l)
  bw : Bw w0 w
  lp : w0.heap.size ≤ lb
  ep : w0.heap.size ≤ eb
  ks : k ≤ s.size
  len : l.length ≤ 1000
  dp : deep ≤ 20
section
variable {w0 w w' : World} {lb eb : Nat} {s : ByteArray} {k deep : Nat} {bad : Bool} {l : List ExpR} {v : Value}
theorem has_ne {w : World} {a b : Nat} {t u : TypeId} {xs ys : Array Value} (h : Has w a t xs) (k : Has w b u ys) (ht : t ≠ u) : a ≠ b := fun e => by
  subst e
  unfold Has at h k
  rw [h] at k
  injection k with k
  injection k with _ k
  exact ht k
theorem row_ne {w : World} {B a n : Nat} {t u : TypeId} {ys xs : Array Value} {v : Value} {zs : List Value} {sz : Nat} (h : Has w a t ys) (o : w.ownsRow B u sz v n zs) (ht : t ≠ u) {b : Nat} (hb : v.ownBlock = some b) : a ≠ b := fun e => by
  obtain ⟨cur, hc⟩ := own_at o hb
  unfold Has at h
  rw [e, hc] at h
  injection h with h
  injection h with _ h
  exact ht h.symm
theorem ExsS.later (h : ExsS w0 w lb eb s k bad deep l v) (hb : Bw w w') : ExsS w0 w' lb eb s k bad deep l v :=
  ⟨hb.has h.lx, hb.has h.ex, Bw.own hb h.row, h.bw.trans hb, h.lp, h.ep, h.ks, h.len, h.dp⟩
theorem ExsS.el (h : ExsS w0 w lb eb s k bad deep l v) : eb ≠ lb := has_ne h.ex h.lx (by decide)
theorem ExsS.ne (h : ExsS w0 w lb eb s k bad deep l v) {b : Nat} (hb : v.ownBlock = some b) : eb ≠ b := row_ne (xs := #[]) h.ex h.row (by decide) hb
theorem ExsS.nl (h : ExsS w0 w lb eb s k bad deep l v) {b : Nat} (hb : v.ownBlock = some b) : lb ≠ b := row_ne (xs := #[]) h.lx h.row (by decide) hb
theorem ExsS.rowE (h : ExsS w0 w lb eb s k bad deep l v) (i : Nat) (u : Value) : (w.setCell ⟨eb, i, none⟩ u).ownsRow w0.heap.size 42 5 v l.length (expCells l) :=
  own_keep h.row fun b hb => Below.heap_setCell w ⟨eb, i, none⟩ u b (fun e => h.ne hb e.symm)
theorem ExsS.rowL (h : ExsS w0 w lb eb s k bad deep l v) (i : Nat) (u : Value) : (w.setCell ⟨lb, i, none⟩ u).ownsRow w0.heap.size 42 5 v l.length (expCells l) :=
  own_keep h.row fun b hb => Below.heap_setCell w ⟨lb, i, none⟩ u b (fun e => h.nl hb e.symm)
theorem ExsS.ktE (h : ExsS w0 w lb eb s k bad deep l v) (i : Nat) (u : Value) : KT TR w0.heap.size w (w.setCell ⟨eb, i, none⟩ u) :=
  (KT.refl w).setCell (p := ⟨eb, i, none⟩) h.ep (h.ex.hot (by decide)) u
theorem ExsS.ktL (h : ExsS w0 w lb eb s k bad deep l v) (i : Nat) (u : Value) : KT TR w0.heap.size w (w.setCell ⟨lb, i, none⟩ u) :=
  (KT.refl w).setCell (p := ⟨lb, i, none⟩) h.lp (h.lx.hot (by decide)) u
theorem ExsS.bwE (h : ExsS w0 w lb eb s k bad deep l v) (i : Nat) (u : Value) : Bw w0 (w.setCell ⟨eb, i, none⟩ u) :=
  Below.trans h.bw ((h.ktE i u).below (Nat.le_refl _) h.bw.size)
theorem ExsS.bwL (h : ExsS w0 w lb eb s k bad deep l v) (i : Nat) (u : Value) : Bw w0 (w.setCell ⟨lb, i, none⟩ u) :=
  Below.trans h.bw ((h.ktL i u).below (Nat.le_refl _) h.bw.size)
theorem KT.wide {B : Nat} {w w' : World} (h : KT TL B w w') : KT TR B w w' :=
  ⟨h.os, h.tape, h.output, h.size, fun i hi hn => h.block i hi (hn.imp_right fun (g : ¬ Hot TR w i) (e : Hot TL w i) => g (by obtain ⟨cs, t, h1, h2⟩ := e; exact ⟨cs, t, h1, by unfold TL at h2; unfold TR; simp at h2 ⊢; exact .inl h2⟩))⟩
/-- The lexer alone moved. -/
theorem ExsS.lexed (h : ExsS w0 w lb eb s k bad deep l v) (hk : KT TL w0.heap.size w w') {k' : Nat} {bad' : Bool} (hl : LxAt w' lb s k' bad') (hs : k' ≤ s.size) : ExsS w0 w' lb eb s k' bad' deep l v :=
  ⟨hl, hk.has h.ex (by decide), hk.own h.row (by decide), Below.trans h.bw (hk.below (Nat.le_refl _) h.bw.size), h.lp, h.ep, hs, h.len, h.dp⟩
/-- Where it stands is stored. -/
theorem ExsS.goto (h : ExsS w0 w lb eb s k bad deep l v) {k' : Nat} (hk : k' ≤ s.size) {x : Int} (hx : x = k') : ExsS w0 (w.setCell ⟨lb, 1, none⟩ (.int .i64 x)) lb eb s k' bad deep l v := by
  subst hx
  exact ⟨h.lx.put 1 _, h.ex.far (p := ⟨lb, 1, none⟩) (fun e => h.el e) _, h.rowL _ _, h.bwL _ _, h.lp, h.ep, hk, h.len, h.dp⟩
/-- It is bad. -/
theorem ExsS.worse (h : ExsS w0 w lb eb s k bad deep l v) : ExsS w0 (w.setCell ⟨lb, 2, none⟩ (.bool true)) lb eb s k true deep l v :=
  ⟨h.lx.put 2 _, h.ex.far (p := ⟨lb, 2, none⟩) (fun e => h.el e) _, h.rowL _ _, h.bwL _ _, h.lp, h.ep, h.ks, h.len, h.dp⟩
/-- How many brackets are open is stored. -/
theorem ExsS.open_ (h : ExsS w0 w lb eb s k bad deep l v) {d : Nat} (hd : d ≤ 20) {x : Int} (hx : x = d) : ExsS w0 (w.setCell ⟨eb, 2, none⟩ (.int .i64 x)) lb eb s k bad d l v := by
  subst hx
  exact ⟨h.lx.far (p := ⟨eb, 2, none⟩) (fun e => h.el e.symm) _, h.ex.put 2 _, h.rowE _ _, h.bwE _ _, h.lp, h.ep, h.ks, h.len, hd⟩
theorem ExsS.mid (h : ExsS w0 w lb eb s k bad deep l v) (hg : w.grownBy w' v.ownBlock) : Has w' eb 38 #[.pointer (some ⟨lb, 0, none⟩), v, .int .i64 (deep : Nat)] :=
  (hg.block eb h.ex.lt (fun e => h.ne e.symm rfl)).trans h.ex
theorem ExsS.midL (h : ExsS w0 w lb eb s k bad deep l v) (hg : w.grownBy w' v.ownBlock) : LxAt w' lb s k bad :=
  (hg.block lb h.lx.lt (fun e => h.nl e.symm rfl)).trans h.lx
/-- The list grew, and the reader holds it. -/
theorem ExsS.app (h : ExsS w0 w lb eb s k bad deep l v) (hf : l.length < 1000) {x : ExpR} {v' : Value} (ho : w'.ownsRow 0 42 5 v' (l.length + 1) (expCells l ++ expCell x)) (hg : w.grownBy w' v.ownBlock) (hn : v'.ownBlock = v.ownBlock ∨ ∀ b, v'.ownBlock = some b → w.heap.size ≤ b) :
    ExsS w0 (w'.setCell ⟨eb, 1, none⟩ v') lb eb s k bad deep (l ++ [x]) v' ∧ KT TR w0.heap.size w (w'.setCell ⟨eb, 1, none⟩ v') := by
  have hk : KT TR w0.heap.size w w' := KT.of_grown h.row (Nat.le_refl _) hg (by decide)
  have hp1 := h.mid hg
  have hl1 := h.midL hg
  have hb0 : ∀ b, v'.ownBlock = some b → w0.heap.size ≤ b := fun b hb => by
    rcases hn with hn | hn
    · exact own_ge h.row (hn ▸ hb)
    · exact Nat.le_trans h.bw.size (hn b hb)
  have hne : ∀ b, v'.ownBlock = some b → eb ≠ b := fun b hb => row_ne (xs := #[]) hp1 ho (by decide) hb
  have hk2 := hk.setCell (p := ⟨eb, 1, none⟩) h.ep (hp1.hot (by decide)) v'
  have hB : Bw w0 (w'.setCell ⟨eb, 1, none⟩ v') := Below.trans h.bw (hk2.below (Nat.le_refl _) h.bw.size)
  have e1 : (l ++ [x]).length = l.length + 1 := by simp
  refine ⟨⟨hl1.far (p := ⟨eb, 1, none⟩) (fun e => h.el e.symm) _, hp1.put 1 v', ?_, hB, h.lp, h.ep, h.ks, by omega, h.dp⟩, hk2⟩
  rw [e1, expCells_snoc]
  exact own_lift (own_keep ho fun b hb => Below.heap_setCell w' ⟨eb, 1, none⟩ v' b (fun e => hne b hb e.symm)) hb0
end
set_option maxRecDepth 100000 in
set_option maxHeartbeats 4000000 in
theorem radd_any (w0 w : World) (lb eb : Nat) (s : ByteArray) (k deep : Nat) (bad : Bool) (l : List ExpR) (v : Value) (h : ExsS w0 w lb eb s k bad deep l v) (x : ExpR) (hf : l.length < 1000) :
    Calls Tryz.prog 19 #[.pointer (some ⟨eb, 0, none⟩), .agg #[.string x.op, .string x.name, .int .u64 x.n, .int .i64 x.l, .int .i64 x.r]] w fun e w' => e = .returned (.int .i64 (l.length : Nat)) ∧ KT TR w0.heap.size w w' ∧ ∃ v', ExsS w0 w' lb eb s k (bad || decide (400 ≤ l.length)) deep (l ++ [x]) v' := by
  obtain ⟨i0, hinf, hz0, hz1, hz2⟩ := info_parts expInfo
  obtain ⟨ao, ca, rfl⟩ := own_slice h.row
  obtain ⟨o, nm, n, xl, xr⟩ := x
  simp only
  have HA := hid ((Bw.refl w).alloc (.cells #[.string o, .string nm, .int .u64 n, .int .i64 xl, .int .i64 xr] 42))
  have HN := hid (Has.new w 42 #[.string o, .string nm, .int .u64 n, .int .i64 xl, .int .i64 xr])
  have HS1 := hid (h.later HA.out)
  have HF := hid hf
  clear h
  go_enter Tryz.func19, Tryz.ntmps19
  go_wp2_with fail
  generalize hW1 : w.alloc (.cells #[.string o, .string nm, .int .u64 n, .int .i64 xl, .int .i64 xr] 42) = W1 at *
  have b0 := HN.out.cell 0
  have b1 := HN.out.cell 1
  have b2 := HN.out.cell 2
  have b3 := HN.out.cell 3
  have b4 := HN.out.cell 4
  simp at b0 b1 b2 b3 b4
  have HWA := hid (show Bw W1 (W1.alloc (.cells #[.string o, .string nm, .int .u64 n, .int .i64 xl, .int .i64 xr] 42)).drew from ((Bw.refl W1).alloc _).drewN 1)
  have HS2 := hid (HS1.out.later HWA.out)
  have HBS := hid (HS2.out.bw.size)
  have c1 := HS1.out.ex.cell 1
  simp at c1
  have c1d : W1.drew.cell? ⟨eb, 1, none⟩ = some (.slice ao l.length ca) := c1
  have c1e := HWA.out.cell c1
  go_region_law (refine step_append_lies _ (by rfl) (.tmp 9) (.tmp 11) 22 (by rfl) w0.heap.size 42 i0 (.agg #[.string ⟨#[]⟩, .string ⟨#[]⟩, .int .u64 0, .int .i64 0, .int .i64 0]) 5 56 Tryz.underlying22 hinf hz0 hz1 hz2 (by rfl) (by decide) (.slice ao l.length ca) l.length (expCells l) (by rfl) HS2.out.row ⟨W1.heap.size, 0, none⟩ 1 1 [.string o, .string nm, .int .u64 n, .int .i64 xl, .int .i64 xr] (by rfl) rfl (own_five _ _ _ _ _ _ _) (by intro u hu; simp at hu; rcases hu with rfl | rfl | rfl | rfl | rfl <;> rfl) (by omega) (by unfold maxLen; omega) (by omega) HBS.out (W1.heap.size + 1) (by simp) ?_; intro g5 cp5 w5 hown5 hgrow5 hat5 hlt5; have HAP := hid (HS2.out.app (x := ⟨o, nm, n, xl, xr⟩) HF.out (own_down hown5 (Nat.zero_le _)) hgrow5 (hat5.elim (fun e => .inl e.symm) (fun e => .inr (fun b hb => by rw [← Option.some.inj (show some g5 = some b from hb), e]; exact Nat.le_of_eq (by simp))))); have z5 := (HS2.out.mid hgrow5).frozen 1; have y5 := (HS2.out.mid hgrow5).cell 1; simp at y5; clear hown5 hgrow5 hat5 hlt5)
  all_goals
    have e0 := HAP.out.1.ex.cell 0
    have e1 := HAP.out.1.ex.cell 1
    have e2 := HAP.out.1.lx.cell 2
    have q2 := HAP.out.1.lx.frozen 2
    simp at e0 e1 e2
    by_cases hc : 400 ≤ l.length
    · have u1 : (400 : Int) < (l.length : Int) + 1 := by omega
      have HW := hid HAP.out.1.worse
      have w1 := HW.out.ex.cell 1
      have HE := hid (show (bad || decide (400 ≤ l.length)) = true from by rw [decide_eq_true hc, Bool.or_true])
      have HKF := hid (((KT.of_bw (HA.out.trans HWA.out)).trans HAP.out.2).trans (HAP.out.1.ktL 2 (.bool true)))
      simp at w1
      clear hc
      go_wp2
      go_returns
      exact ⟨by simp, HKF.out, _, by rw [HE.out]; exact HW.out⟩
    · have u1 : ¬ (400 : Int) < (l.length : Int) + 1 := by omega
      have HE := hid (show (bad || decide (400 ≤ l.length)) = bad from by rw [decide_eq_false hc, Bool.or_false])
      clear hc
      go_wp2
      go_returns
      exact ⟨by simp, ((KT.of_bw (HA.out.trans HWA.out)).trans HAP.out.2), _, by rw [HE.out]; exact HAP.out.1⟩
end Go.Proofs.YtlilmidffcmkjaaGreatDoor
