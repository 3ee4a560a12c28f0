/- insert into a set of no spans (for spans without values). -/
import Derived.Test.YtciaebhkemdilabRvT
import Derived.Deep.RegionLaw
import Derived.Deep.DeepCutAuto
import Derived.Deep.RegionHeld3
namespace Go.Proofs.Ytciaebhkemdilab
open Go.RowKit Go.Conc Go.Lib
set_option linter.unusedVariables false
set_option linter.unusedSimpArgs false
theorem own_low0 {w : World} {C n size : Nat} {t : TypeId} {v : Value} {xs : List Value} (h : w.ownsRow C t size v n xs) : w.ownsRow 0 t size v n xs := by
  refine ⟨h.1, ?_⟩
  rcases h.2 with ⟨rfl, h0⟩ | ⟨g', cap, cur, rfl, h1, h2⟩
  · exact .inl ⟨rfl, h0⟩
  · exact .inr ⟨g', cap, cur, rfl, Nat.zero_le _, h2⟩
/-- What insert's great statement leaves in a set that was empty. -/
def Laid0 (P : Nat → Prop) (w w3 : World) (g ob oc : Nat) (p : PartR) (wx : World) : Prop :=
  ∃ b cap, Has wx g 103 #[.slice (some ⟨ob, 0, none⟩) 1 oc] ∧ wx.ownsRow 0 117 1 (.slice (some ⟨ob, 0, none⟩) 1 oc) 1 [.slice (some ⟨b, 0, none⟩) 1 cap] ∧ w3.heap.size ≤ b ∧ wx.ownsRow 0 111 2 (.slice (some ⟨b, 0, none⟩) 1 cap) 1 (partCells [p]) ∧ Keeps P w wx
theorem slInfo : (Try.prog.info? 117 ).map (fun i => (i.zero, i.size, i.bytes)) = some (some (.slice none 0 0), 1, 24) := by kernel_rfl
set_option maxRecDepth 100000 in
set_option maxHeartbeats 4000000 in
theorem insert_nil (P : Nat → Prop) (g : Nat) (p : PartR) (w : World) (hs : Has w g 103 #[.slice none 0 0]) (hpg : P g) :
    Calls Try.prog 63 #[.pointer (some ⟨g, 0, none⟩), .agg #[.int .i64 p.lo, .int .i64 p.hi]] w fun e w' => e = .returned (.tuple #[]) ∧ Put P w g [p] w' := by
  obtain ⟨i1, hinf, hz0, hz1, hz2⟩ := info_parts slInfo
  have hgl : g < w.heap.size := hs.lt
  have HINS : Hid (∀ (X : World) (vb : Nat), Has X vb 111 (partCell p).toArray → Calls Try.prog 69 #[.slice none 0 0, .int .i64 0, .slice (some ⟨vb, 0, none⟩) 1 1] X (InsPost X none 1 [p])) := hid fun X vb h2 => ins_end (.slice none 0 0) 0 [] (hid rfl) (by omega) p vb X (World.ownsRow_nil _ _ _ _) h2
  have HS := hid hs
  have hW0 : Bw w (w.alloc (.cells #[.int .i64 p.lo, .int .i64 p.hi] 111)) := (Bw.refl w).alloc _
  have hbx : Has (w.alloc (.cells #[.int .i64 p.lo, .int .i64 p.hi] 111)) w.heap.size 111 #[.int .i64 p.lo, .int .i64 p.hi] := Has.new w 111 #[.int .i64 p.lo, .int .i64 p.hi]
  have HW0 := hid hW0
  have HBX := hid hbx
  clear hs hW0 hbx
  go_enter Try.func63, Try.ntmps63
  go_wp2_with fail
  generalize hW : w.alloc (.cells #[.int .i64 p.lo, .int .i64 p.hi] 111) = W0 at *
  have HZ : Hid (W0.heap.size = w.heap.size + 1) := hid (by rw [← hW]; simp)
  clear hW
  have p0 : W0.drew.cell? ⟨g, 0, none⟩ = some (.slice none 0 0) := (HW0.out.has HS.out).cell 0
  have p1 : W0.drew.cell? ⟨w.heap.size, 0, none⟩ = some (.int .i64 p.lo) := HBX.out.cell 0
  have HB1 : Hid (Bw W0 W0.drew) := hid ((Bw.refl W0).drewN 1)
  go_region_held3 (fun w' => w'.cell? ⟨g, 0, none⟩ = some (.slice none 0 0) ∧ w'.cell? ⟨w.heap.size, 0, none⟩ = some (.int .i64 p.lo)) (first | exact ⟨p0, p1⟩ | exact ⟨q0, q1⟩ | exact ⟨r0, r1⟩ | exact ⟨by assumption, by assumption⟩)
    (first
      | (go_at_call 68; refine (search_ret none 0 0 _).mono ?_; rintro e w2 ⟨b1, rfl, hk, hb2⟩; have HB2 := hid (HB1.out.trans hb2); have q0 := (HB2.out.has (HW0.out.has HS.out)).cell 0; have q1 := (HB2.out.has HBX.out).cell 0; have HK2 := hid hk; clear hk hb2)
      | (go_at_call 73; refine (sea_nil b1 p.lo _ HK2.out).mono ?_; rintro e w3 ⟨rfl, hb3⟩; have HB3 := hid (HB2.out.trans hb3); have r0 := (HB3.out.has (HW0.out.has HS.out)).cell 0; have r1 := (HB3.out.has HBX.out).cell 0; clear hb3))
  clear p0 p1 q0 q1 HK2 HB2 HB1
  have HBW := hid (HW0.out.trans HB3.out)
  have hs3 : w.heap.size + 1 ≤ w3.heap.size := by have := HB3.out.size; have := HZ.out; omega
  have HS3 := hid (HBW.out.has HS.out)
  have HX3 := hid (HB3.out.has HBX.out)
  clear r1 HB3
  go_wp2_with (at_builtin; refine wpList_append_own_at _ rfl (.tmp 28) (.tmp 29) 101 rfl w3.heap.size 117 i1 (.slice none 0 0) 1 24 Try.underlying101 hinf hz0 hz1 hz2 rfl (by decide) (.slice none 0 0) 0 [] rfl (World.ownsRow_nil _ _ _ _) ⟨w3.heap.size, 0, none⟩ 1 1 [.slice none 0 0] rfl rfl (has_cells (Has.new w3 117 #[.slice none 0 0])) (by intro u hu; simp at hu; subst hu; rfl) (by unfold maxLen; omega) (by omega) (by simp only [World.size_alloc]; omega) ?_; intro v5 w5 hown5 hgrow5 _ hat5; obtain ⟨vo5, vc5, rfl⟩ := own_slice hown5; have HG5 := hid hgrow5; have HO5a := hid hown5; have HS5a := hid (has_grown (HS3.out.alloc (.cells #[.slice none 0 0] 117)) hgrow5 (fun e => by cases e)); have HX5a := hid (has_grown (HX3.out.alloc (.cells #[.slice none 0 0] 117)) hgrow5 (fun e => by cases e)); have t0 : w5.cell? ⟨g, 0, none⟩ = some (.slice none 0 0) := HS5a.out.cell 0; have t1 : w5.frozen? ⟨g, 0, none⟩ = false := HS5a.out.frozen 0; clear hown5 hgrow5 hat5)
  have HO5z := hid (own_low0 HO5a.out)
  obtain ⟨ob, oc, hob⟩ := own_some HO5z.out (by omega)
  obtain ⟨rfl, rfl⟩ : vo5 = some ⟨ob, 0, none⟩ ∧ vc5 = oc := by simpa using hob
  clear hob t0 t1 r0
  have hobw : w3.heap.size ≤ ob := own_ge HO5a.out rfl
  have hz5 : w3.heap.size + 1 ≤ w5.heap.size := by have := HG5.out.size; simpa using this
  obtain ⟨-, -, -, hoc1, hocm, -, -⟩ := own_row HO5a.out
  have hgo : g ≠ ob := by omega
  have HKW := hid ((((Keeps.of_bw (F := P) HBW.out).trans (Keeps.of_bw ((Bw.refl w3).alloc (.cells #[.slice none 0 0] 117)))).trans (keeps_grownF HG5.out (fun r e => by cases e))).setCell (p := ⟨g, 0, none⟩) (.inl hpg) (.slice (some ⟨ob, 0, none⟩) 1 vc5))
  have HS6 : Hid (Has (w5.setCell ⟨g, 0, none⟩ (.slice (some ⟨ob, 0, none⟩) 1 vc5)) g 103 #[.slice (some ⟨ob, 0, none⟩) 1 vc5]) := hid (HS5a.out.put 0 _)
  have HO6 : Hid ((w5.setCell ⟨g, 0, none⟩ (.slice (some ⟨ob, 0, none⟩) 1 vc5)).ownsRow 0 117 1 (.slice (some ⟨ob, 0, none⟩) 1 vc5) 1 [.slice none 0 0]) := hid (own_keep HO5z.out fun j hj => Below.heap_setCell _ _ _ _ (by have e : some ob = some j := hj; injection e with e; subst e; simp; omega))
  have HX6 : Hid (Has (w5.setCell ⟨g, 0, none⟩ (.slice (some ⟨ob, 0, none⟩) 1 vc5)) w.heap.size 111 #[.int .i64 p.lo, .int .i64 p.hi]) := hid (HX5a.out.far (show w.heap.size ≠ g by omega) _)
  have hz6 : w3.heap.size + 1 ≤ (w5.setCell ⟨g, 0, none⟩ (.slice (some ⟨ob, 0, none⟩) 1 vc5)).heap.size := by simpa [World.setCell] using hz5
  have hol5 : ob < (w5.setCell ⟨g, 0, none⟩ (.slice (some ⟨ob, 0, none⟩) 1 vc5)).heap.size := own_lt HO6.out rfl
  generalize w5.setCell ⟨g, 0, none⟩ (.slice (some ⟨ob, 0, none⟩) 1 vc5) = W6 at *
  have h01 : (0 : Int) < 1 := by omega
  go_cut [] (fun wx => Laid0 P w w3 g ob vc5 p wx)
  case first =>
    go_wp2_with fail
    have a0 : W6.drew.cell? ⟨g, 0, none⟩ = some (.slice (some ⟨ob, 0, none⟩) 1 vc5) := HS6.out.cell 0
    have a1 : W6.drew.cell? ⟨ob, 0, none⟩ = some (.slice none 0 0) := own_cell0 HO6.out
    have a2 : W6.drew.cell? ⟨w.heap.size, 0, none⟩ = some (.int .i64 p.lo) := HX6.out.cell 0
    have a3 : W6.drew.cell? ⟨w.heap.size, 1, none⟩ = some (.int .i64 p.hi) := HX6.out.cell 1
    have AA := ((Bw.refl W6).alloc (.cells #[.int .i64 p.lo, .int .i64 p.hi] 111)).drewN 1
    have e0 : (W6.alloc (.cells #[.int .i64 p.lo, .int .i64 p.hi] 111)).drew.cell? ⟨g, 0, none⟩ = some (.slice (some ⟨ob, 0, none⟩) 1 vc5) := AA.cell a0
    have e1 : (W6.alloc (.cells #[.int .i64 p.lo, .int .i64 p.hi] 111)).drew.cell? ⟨ob, 0, none⟩ = some (.slice none 0 0) := AA.cell a1
    clear AA
    go_region_law (first
      | (go_simp; go_at_call 69; refine (HINS.out _ W6.heap.size (Has.new W6 111 #[.int .i64 p.lo, .int .i64 p.hi]).drew).mono ?_; rintro e w4 ⟨v', rfl, hown4, hgr4, hat4⟩; obtain ⟨vo, vc, rfl⟩ := own_slice hown4; have hgr4b := fun (j : Nat) (hj : j < W6.heap.size + 1) => hgr4.block j (by simpa using hj) (fun e => by cases e); have HG4 := hid hgr4; have HW4 := hid hown4; have HA4 := hid hat4; have HB4 := hid (hgr4b : ∀ j, j < W6.heap.size + 1 → w4.heap[j]? = (W6.alloc (.cells #[.int .i64 p.lo, .int .i64 p.hi] 111)).heap[j]?); clear hown4 hgr4 hat4 hgr4b; have HSG4 : Hid (Has w4 g 103 #[.slice (some ⟨ob, 0, none⟩) 1 vc5]) := hid ((HB4.out g (by omega)).trans (HS6.out.alloc _)); have HO4 : Hid (w4.ownsRow 0 117 1 (.slice (some ⟨ob, 0, none⟩) 1 vc5) 1 [.slice none 0 0]) := hid (own_keep (((Bw.refl W6).alloc _).own HO6.out) fun b hb => HB4.out b (by have := own_lt HO6.out hb; omega)); have HX4 : Hid (Has w4 w.heap.size 111 #[.int .i64 p.lo, .int .i64 p.hi]) := hid ((HB4.out w.heap.size (by omega)).trans (HX6.out.alloc _)); have d0 : w4.cell? ⟨g, 0, none⟩ = some (.slice (some ⟨ob, 0, none⟩) 1 vc5) := HSG4.out.cell 0; have f4 : w4.frozen? ⟨ob, 0, none⟩ = false := own_frozen HO4.out; have s4 : w4.cell? ⟨ob, 0, none⟩ = some (.slice none 0 0) := own_cell0 HO4.out))
    all_goals
      go_wp2_with fail
      go_meet
      case rel =>
        obtain ⟨b, cap', hb⟩ := own_some HW4.out (by omega)
        obtain ⟨rfl, rfl⟩ : vo = some ⟨b, 0, none⟩ ∧ vc = cap' := by simpa using hb
        have hbb : W6.heap.size + 1 ≤ b := by
          rcases HA4.out with h | ⟨b', h, h2⟩
          · cases h
          · have h : some b = some b' := h
            injection h with h
            subst h
            simpa using h2
        exact ⟨b, vc, HSG4.out.far hgo _, own_set0 HO4.out _, by omega, own_keep HW4.out fun j hj => Below.heap_setCell _ _ _ _ (by have e : some b = some j := hj; injection e with e; subst e; simp; omega), ((HKW.out.trans (Keeps.of_bw (((Bw.refl W6).alloc (.cells #[.int .i64 p.lo, .int .i64 p.hi] 111)).drewN 1))).trans (keeps_grownF HG4.out (fun r e => by cases e))).setCell (.inr (by simp; omega)) _⟩
  case rest =>
    obtain ⟨b, cap', l1, l2, l3, l4, l5⟩ := hcut
    have c0 : wc.cell? ⟨g, 0, none⟩ = some (.slice (some ⟨ob, 0, none⟩) 1 vc5) := l1.cell 0
    have c1 : wc.cell? ⟨ob, 0, none⟩ = some (.slice (some ⟨b, 0, none⟩) 1 cap') := own_cell0 l2
    have HL := hid (⟨l1, l2, l3, l4, l5⟩ : _ ∧ _ ∧ _ ∧ _ ∧ _)
    clear l1 l2 l3 l4 l5
    go_wp2
    go_returns
    obtain ⟨l1, l2, l3, l4, l5⟩ := HL.out
    exact ⟨rfl, ⟨_, l1, .inl hpg, .inr ⟨ob, vc5, b, 1, cap', rfl, .inr (by omega), .inr (by omega), l2, rfl, by omega, l4⟩⟩, l5⟩
end Go.Proofs.Ytciaebhkemdilab
