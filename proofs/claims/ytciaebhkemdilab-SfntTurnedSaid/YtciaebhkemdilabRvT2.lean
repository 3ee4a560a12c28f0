/- insert, behind the last span (for spans without values). -/
import Derived.Test.YtciaebhkemdilabRvT
import Derived.Deep.RegionLaw
import Derived.Deep.DeepCutAuto
import Derived.Deep.RegionHeld3
namespace Go.Proofs.Ytciaebhkemdilab
open Go.RowKit Go.Conc Go.Lib
set_option linter.unusedVariables false
set_option linter.unusedSimpArgs false
set_option maxRecDepth 100000 in
set_option maxHeartbeats 4000000 in
theorem insert_end (P : Nat → Prop) (g ob oc ib n cap : Nat) (L : List PartR) (hR : Rising L) (h9 : n ≤ 1000) (p : PartR) (w : World) (hs : Has w g 103 #[.slice (some ⟨ob, 0, none⟩) 1 oc]) (hpg : P g) (hpo : P ob) (hpi : P ib) (ho : w.ownsRow 0 117 1 (.slice (some ⟨ob, 0, none⟩) 1 oc) 1 [.slice (some ⟨ib, 0, none⟩) n cap]) (hn : n = L.length) (hn0 : 0 < n) (hi : w.ownsRow 0 111 2 (.slice (some ⟨ib, 0, none⟩) n cap) n (partCells L)) (hf : ¬ fstI L p.lo < L.length) :
    Calls Try.prog 63 #[.pointer (some ⟨g, 0, none⟩), .agg #[.int .i64 p.lo, .int .i64 p.hi]] w fun e w' => e = .returned (.tuple #[]) ∧ Put P w g (putIn L p) w' := by
  obtain ⟨cur0, hg0, -, hoc1, hocm, -, -⟩ := own_row ho
  obtain ⟨cur1, hg1, -, hncap, hcapm, -, -⟩ := own_row hi
  have hgo : g ≠ ob := fun e => own_ne_has ho hs (by decide) (by rw [e]; rfl)
  have hgi : g ≠ ib := fun e => own_ne_has hi hs (by decide) (by rw [e]; rfl)
  have hoi : ob ≠ ib := fun e => by
    rw [e, hg1] at hg0
    injection hg0 with h
    injection h with _ h
    exact absurd h (by decide)
  have hgl : g < w.heap.size := hs.lt
  have hol : ob < w.heap.size := own_lt ho rfl
  have hil : ib < w.heap.size := own_lt hi rfl
  have E1 := hid (show seaB L p.lo = 1 from (if_neg hf).trans (if_neg (by omega)))
  have E2 := hid (show seaI L p.lo = 0 from if_neg hf)
  obtain ⟨i, hie⟩ : ∃ i, fstI L p.lo = i := ⟨_, rfl⟩
  have hil2 : i ≤ n := by rw [← hie, hn]; exact fst_le L p.lo
  have hput : putIn L p = L.take i ++ p :: L.drop i := by rw [← hie]; rfl
  rw [hie] at hf
  have hin : i = n := by omega
  have HN := hid hn.symm
  have hins : ∀ (X : World) (vb : Nat), X.ownsRow 0 111 2 (.slice (some ⟨ib, 0, none⟩) n cap) n (partCells L) → Has X vb 111 (partCell p).toArray → vb ≠ ib → Calls Try.prog 69 #[.slice (some ⟨ib, 0, none⟩) n cap, .int .i64 n, .slice (some ⟨vb, 0, none⟩) 1 1] X (InsPost X (some ib) (n + 1) (putIn L p)) := fun X vb h1 h2 h3 => by
    rw [hput]
    rw [hin, List.take_of_length_le (by have := HN.out; omega), List.drop_eq_nil_of_le (by have := HN.out; omega)]
    exact ins_end _ n L HN (by omega) p vb X h1 h2
  have HINS := hid hins
  have HS := hid hs
  have HO := hid ho
  have HI := hid hi
  have HF2 := hid hf
  have hW0 : Bw w (w.alloc (.cells #[.int .i64 p.lo, .int .i64 p.hi] 111)) := (Bw.refl w).alloc _
  have hbx : Has (w.alloc (.cells #[.int .i64 p.lo, .int .i64 p.hi] 111)) w.heap.size 111 #[.int .i64 p.lo, .int .i64 p.hi] := Has.new w 111 #[.int .i64 p.lo, .int .i64 p.hi]
  have HW0 := hid hW0
  have HBX := hid hbx
  have HSEA := hid (fun (b1 : Nat) (X : World) (hk : X.cell? ⟨b1, 0, none⟩ = some (.slice (some ⟨ob, 0, none⟩) 1 oc)) (hb : Bw w X) => sea_some b1 ob oc ib n cap L hR p.lo hoc1 hn hn0 (by omega) X hk (hb.cell (own_cell0 ho)) (hb.own hi))
  rw [E1.out, E2.out] at HSEA
  clear hins hs ho hi hput hW0 hbx hn hie hg0 hg1 hf E1 E2
  go_enter Try.func63, Try.ntmps63
  go_wp2_with fail
  generalize hW : w.alloc (.cells #[.int .i64 p.lo, .int .i64 p.hi] 111) = W0 at *
  have HZ : Hid (W0.heap.size = w.heap.size + 1) := hid (by rw [← hW]; simp)
  clear hW
  have p0 : W0.drew.cell? ⟨g, 0, none⟩ = some (.slice (some ⟨ob, 0, none⟩) 1 oc) := (HW0.out.has HS.out).cell 0
  have p1 : W0.drew.cell? ⟨w.heap.size, 0, none⟩ = some (.int .i64 p.lo) := HBX.out.cell 0
  have HB1 : Hid (Bw W0 W0.drew) := hid ((Bw.refl W0).drewN 1)
  go_region_held3 (fun w' => w'.cell? ⟨g, 0, none⟩ = some (.slice (some ⟨ob, 0, none⟩) 1 oc) ∧ w'.cell? ⟨w.heap.size, 0, none⟩ = some (.int .i64 p.lo)) (first | exact ⟨p0, p1⟩ | exact ⟨q0, q1⟩ | exact ⟨r0, r1⟩ | exact ⟨by assumption, by assumption⟩)
    (first
      | (go_at_call 68; refine (search_ret _ 1 oc _).mono ?_; rintro e w2 ⟨b1, rfl, hk, hb2⟩; have HB2 := hid (HB1.out.trans hb2); have q0 := (HB2.out.has (HW0.out.has HS.out)).cell 0; have q1 := (HB2.out.has HBX.out).cell 0; have HK2 := hid hk; clear hk hb2)
      | (go_at_call 73; refine (HSEA.out b1 _ HK2.out (HW0.out.trans HB2.out)).mono ?_; rintro e w3 ⟨rfl, hb3⟩; have HB3 := hid (HB2.out.trans hb3); have r0 := (HB3.out.has (HW0.out.has HS.out)).cell 0; have r1 := (HB3.out.has HBX.out).cell 0; clear hb3))
  clear p0 p1 q0 q1 HSEA HK2 HB2 HB1
  have HBW := hid (HW0.out.trans HB3.out)
  have hs3 : w.heap.size + 1 ≤ w3.heap.size := by have := HB3.out.size; have := HZ.out; omega
  have HS3 := hid (HBW.out.has HS.out)
  have HO3 := hid (HBW.out.own HO.out)
  have HI3 := hid (HBW.out.own HI.out)
  have HX3 := hid (HB3.out.has HBX.out)
  clear r1
  have s0 : w3.cell? ⟨ob, 0, none⟩ = some (.slice (some ⟨ib, 0, none⟩) n cap) := own_cell0 HO3.out
  have h01 : (0 : Int) < 1 := by omega
  go_upto_region 7 with fail
  go_cut [] (fun wx => Laid P w w3 g ob oc ib n (putIn L p) wx)
  case first =>
    go_wp2_with fail
    have a0 : w3.drew.cell? ⟨g, 0, none⟩ = some (.slice (some ⟨ob, 0, none⟩) 1 oc) := HS3.out.cell 0
    have a1 : w3.drew.cell? ⟨ob, 0, none⟩ = some (.slice (some ⟨ib, 0, none⟩) n cap) := own_cell0 HO3.out
    have a2 : w3.drew.cell? ⟨w.heap.size, 0, none⟩ = some (.int .i64 p.lo) := HX3.out.cell 0
    have a3 : w3.drew.cell? ⟨w.heap.size, 1, none⟩ = some (.int .i64 p.hi) := HX3.out.cell 1
    have AA := ((Bw.refl w3).alloc (.cells #[.int .i64 p.lo, .int .i64 p.hi] 111)).drewN 1
    have e0 : (w3.alloc (.cells #[.int .i64 p.lo, .int .i64 p.hi] 111)).drew.cell? ⟨g, 0, none⟩ = some (.slice (some ⟨ob, 0, none⟩) 1 oc) := AA.cell a0
    have e1 : (w3.alloc (.cells #[.int .i64 p.lo, .int .i64 p.hi] 111)).drew.cell? ⟨ob, 0, none⟩ = some (.slice (some ⟨ib, 0, none⟩) n cap) := AA.cell a1
    clear AA
    go_region_law (first
      | (go_simp; go_at_call 69; refine (HINS.out _ w3.heap.size ((((Bw.refl w3).alloc _).drewN 1).own HI3.out) (Has.new w3 111 #[.int .i64 p.lo, .int .i64 p.hi]) (by omega)).mono ?_; rintro e w4 ⟨v', rfl, hown4, hgr4, hat4⟩; obtain ⟨vo, vc, rfl⟩ := own_slice hown4; have hgr4b := fun (j : Nat) (hj : j < w3.heap.size + 1) (hne : j ≠ ib) => hgr4.block j (by simpa using hj) (fun e => hne (by injection e)); have HG4 := hid hgr4; have HW4 := hid hown4; have HA4 := hid hat4; have HB4 := hid (hgr4b : ∀ j, j < w3.heap.size + 1 → j ≠ ib → w4.heap[j]? = (w3.alloc (.cells #[.int .i64 p.lo, .int .i64 p.hi] 111)).heap[j]?); clear hown4 hgr4 hat4 hgr4b; have HSG4 : Hid (Has w4 g 103 #[.slice (some ⟨ob, 0, none⟩) 1 oc]) := hid ((HB4.out g (by omega) hgi).trans (HS3.out.alloc _)); have HO4 : Hid (w4.ownsRow 0 117 1 (.slice (some ⟨ob, 0, none⟩) 1 oc) 1 [.slice (some ⟨ib, 0, none⟩) n cap]) := hid (own_keep (((Bw.refl w3).alloc _).own HO3.out) fun b hb => HB4.out b (by have := own_lt HO3.out hb; omega) (by have e : some ob = some b := hb; injection e with e; omega)); have HX4 : Hid (Has w4 w.heap.size 111 #[.int .i64 p.lo, .int .i64 p.hi]) := hid ((HB4.out w.heap.size (by omega) (by omega)).trans (HX3.out.alloc _)); have d0 : w4.cell? ⟨g, 0, none⟩ = some (.slice (some ⟨ob, 0, none⟩) 1 oc) := HSG4.out.cell 0; have f4 : w4.frozen? ⟨ob, 0, none⟩ = false := own_frozen HO4.out; have s4 : w4.cell? ⟨ob, 0, none⟩ = some (.slice (some ⟨ib, 0, none⟩) n cap) := own_cell0 HO4.out))
    all_goals
      go_wp2_with fail
      go_meet
      case rel =>
        obtain ⟨b, cap', hb⟩ := own_some HW4.out (by omega)
        obtain ⟨rfl, rfl⟩ : vo = some ⟨b, 0, none⟩ ∧ vc = cap' := by simpa using hb
        have hbb : b = ib ∨ w3.heap.size + 1 ≤ b := by
          rcases HA4.out with h | ⟨b', h, h2⟩
          · left
            have h : some b = some ib := h
            injection h
          · right
            have h : some b = some b' := h
            injection h with h
            subst h
            simpa using h2
        exact ⟨b, vc, HSG4.out.far hgo _, own_set0 HO4.out _, by rcases hbb with rfl | h; exact .inl rfl; exact .inr (by omega), own_keep HW4.out fun j hj => Below.heap_setCell _ _ _ _ (by have e : some b = some j := hj; injection e with e; subst e; simp; omega), (((Keeps.of_bw HBW.out).trans (Keeps.of_bw (((Bw.refl w3).alloc (.cells #[.int .i64 p.lo, .int .i64 p.hi] 111)).drewN 1))).trans (keeps_grownF HG4.out (fun r e => by injection e with e; subst e; exact hpi))).setCell (.inl hpo) _⟩
  case rest =>
    obtain ⟨b, cap', l1, l2, l3, l4, l5⟩ := hcut
    have c0 : wc.cell? ⟨g, 0, none⟩ = some (.slice (some ⟨ob, 0, none⟩) 1 oc) := l1.cell 0
    have c1 : wc.cell? ⟨ob, 0, none⟩ = some (.slice (some ⟨b, 0, none⟩) (n + 1) cap') := own_cell0 l2
    have hn1 : ¬ (1024 : Int) < (n : Int) + 1 := by omega
    have HL := hid (⟨l1, l2, l3, l4, l5⟩ : _ ∧ _ ∧ _ ∧ _ ∧ _)
    clear l1 l2 l3 l4 l5
    go_wp2
    go_returns
    obtain ⟨l1, l2, l3, l4, l5⟩ := HL.out
    exact ⟨rfl, ⟨_, l1, .inl hpg, .inr ⟨ob, oc, b, n + 1, cap', rfl, .inl hpo, by rcases l3 with rfl | h; exact .inl hpi; exact .inr (by omega), l2, by rw [putIn_len, HN.out], by omega, l4⟩⟩, l5⟩
end Go.Proofs.Ytciaebhkemdilab
