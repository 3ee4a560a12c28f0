/- pairs (contract of the function). -/
import Derived.Test.YtcacnidlfjglbaaHufLa
import Derived.Deep.RegionHeld3
import Derived.IntWalk
import Derived.Deep.AppendLies
namespace Go.Proofs.Ytcacnidlfjglbaa
open Go.RowKit Go.Conc
set_option linter.unusedVariables false
/-- Each two nodes that follow one another, joined. -/
def prM : List NdM → List NdM
  | a :: b :: r => (a.1 + b.1, a.2 ++ b.2) :: prM r
  | _ => []
theorem prM_len : ∀ M : List NdM, (prM M).length = M.length / 2
  | [] => rfl
  | [_] => by simp [prM]
  | a :: b :: r => by
    show (prM r).length + 1 = (r.length + 1 + 1) / 2
    rw [prM_len r]; omega
theorem prM_snoc : ∀ (M : List NdM) (j : Nat) (h : 2 * j + 1 < M.length), prM (M.take (2 * (j + 1))) = prM (M.take (2 * j)) ++ [((M[2 * j]'(by omega)).1 + (M[2 * j + 1]).1, (M[2 * j]'(by omega)).2 ++ (M[2 * j + 1]).2)]
  | [], j, h => absurd h (by simp)
  | [_], j, h => absurd h (by simp)
  | a :: b :: r, 0, _ => rfl
  | a :: b :: r, j + 1, h => by
    have ih := prM_snoc r j (by simp at h; omega)
    have e1 : 2 * (j + 1 + 1) = 2 * (j + 1) + 1 + 1 := by omega
    have e2 : 2 * (j + 1) = 2 * j + 1 + 1 := by omega
    show prM ((a :: b :: r).take (2 * (j + 1 + 1))) = prM ((a :: b :: r).take (2 * (j + 1))) ++ _
    rw [e1, List.take_succ_cons, List.take_succ_cons]
    have e3 : (a :: b :: r).take (2 * (j + 1)) = a :: b :: r.take (2 * j) := by rw [e2, List.take_succ_cons, List.take_succ_cons]
    rw [e3]
    show _ :: prM (r.take (2 * (j + 1))) = (_ :: prM (r.take (2 * j))) ++ _
    rw [ih]
    rfl
theorem prM_all (M : List NdM) (j : Nat) (h : M.length ≤ 2 * j + 1) : prM (M.take (2 * j)) = prM M := by
  by_cases e : M.length ≤ 2 * j
  · rw [List.take_of_length_le e]
  · have e2 : M.length = 2 * j + 1 := by omega
    clear h e
    induction j generalizing M with
    | zero =>
      match M, e2 with
      | [x], _ => rfl
    | succ j ih =>
      match M, e2 with
      | a :: b :: r, e2 =>
        have e3 : 2 * (j + 1) = 2 * j + 1 + 1 := by omega
        rw [e3, List.take_succ_cons, List.take_succ_cons]
        show _ :: prM _ = _ :: prM r
        rw [ih r (by simp at e2; omega)]
set_option maxRecDepth 100000 in
set_option maxHeartbeats 8000000 in
theorem pairs_any (B rb cap n : Nat) (N : List Nd) (M : List NdM) (hn : Hid (N.length = n)) (h0 : n ≤ 100000) (hw : ∀ m ∈ M, m.1 ≤ 1152921504606846976) (hs : ∀ m ∈ M, m.2.length ≤ 400000) (X : Nat → Prop) (w : World) (hX : ∀ g, X g → g < w.heap.size) (hB : B ≤ w.heap.size) (h : w.ownsRow B 45 2 (.slice (some ⟨rb, 0, none⟩) n cap) n (ndCells N)) (hM : NodesM X w N M) :
    Calls Try.prog 27 #[.slice (some ⟨rb, 0, none⟩) n cap] w fun e w' => ∃ (v : Value) (N' : List Nd), e = .returned v ∧ w'.ownsRow w.heap.size 45 2 v N'.length (ndCells N') ∧ NodesM X w' N' (prM M) ∧ Bw w w' := by
  obtain ⟨i0, hinf, hz0, hz1, hz2⟩ := info_parts infond
  have hcap := ownp_cap h
  have hrbl := own_lt h (b := rb) rfl
  have HO := hid h
  have HM := hid hM
  have HW := hid hw
  have HS := hid hs
  have hML : M.length = n := by rw [← hM.1]; exact hn.out
  have HML := hid hML
  have HX := hid hX
  clear h hM hw hs hML hX
  go_enter Try.func27, Try.ntmps27
  go_wp2_with fail
  go_loopw [3, 4] (fun v i wr => ∃ (j : Nat) (N' : List Nd), 2 * j ≤ n ∧ i = .int .i64 (((2 * j : Nat) : Int) + 1) ∧ wr.ownsRow w.heap.size 45 2 v N'.length (ndCells N') ∧ NodesM X wr N' (prM (M.take (2 * j))) ∧ Bw w wr) (fun _ i _ => n + 2 - (intOf i).toNat)
  case atStart => exact ⟨0, [], by omega, rfl, World.ownsRow_nil _ _ _ _, NodesM.nil _ _, Bw.refl _⟩
  case round =>
    obtain ⟨j, N', hj, rfl, hown, hM', hbw⟩ := hrel
    obtain ⟨vo, vc, rfl⟩ := own_slice hown
    have HOW := hid hown
    have HM' := hid hM'
    have HBW := hid hbw
    have hbz := hbw.size
    have hNl : N'.length ≤ j := by refine Nat.le_of_eq ?_; rw [hM'.1, prM_len, List.length_take, HML.out]; omega
    clear hown hM' hbw
    by_cases hlt : 2 * j + 1 < n
    · have hlti : ((2 * j : Nat) : Int) + 1 < n := by omega
      have k0 : 2 * j < N.length := by rw [hn.out]; omega
      have k1 : 2 * j + 1 < N.length := by rw [hn.out]; exact hlt
      have m0 : 2 * j < M.length := by rw [HML.out]; omega
      have m1 : 2 * j + 1 < M.length := by rw [HML.out]; exact hlt
      have HPS := hid (prM_snoc M j m1)
      have a0 := HM.out.2 (2 * j) k0 m0
      have a1 := HM.out.2 (2 * j + 1) k1 m1
      have w0 := HW.out _ (List.getElem_mem m0)
      have w1 := HW.out _ (List.getElem_mem m1)
      have s0 := HS.out _ (List.getElem_mem m0)
      have s1 := HS.out _ (List.getElem_mem m1)
      have c0 : ∀ c, c < 2 → (ndCells N)[2 * (2 * j) + c]? = (ndE N[2 * j])[c]? := fun c hc => flat2_get ndE (fun _ => rfl) N (2 * j) c k0 hc
      have c1 : ∀ c, c < 2 → (ndCells N)[2 * (2 * j + 1) + c]? = (ndE N[2 * j + 1])[c]? := fun c hc => flat2_get ndE (fun _ => rfl) N (2 * j + 1) c k1 hc
      generalize N[2 * j] = x0 at *
      generalize N[2 * j + 1] = x1 at *
      generalize M[2 * j] = y0 at *
      generalize M[2 * j + 1] = y1 at *
      obtain ⟨xa, xv⟩ := x0
      obtain ⟨xb, xu⟩ := x1
      obtain ⟨ya, ys⟩ := y0
      obtain ⟨yb, yt⟩ := y1
      obtain ⟨hxa, g0, cp0, hv0, hp0, hr0, -⟩ := a0
      obtain ⟨hxb, g1, cp1, hv1, hp1, hr1, -⟩ := a1
      simp only at hxa hxb hv0 hv1 hp0 hp1 hr0 hr1 w0 w1 s0 s1 HPS
      subst hxa hxb hv0 hv1
      obtain ⟨p, hp⟩ : ∃ p, 2 * j = p := ⟨_, rfl⟩
      have r0 := ownp_cell (HBW.out.own HO.out) (c0 0 (by omega))
      have r1 := ownp_cell (HBW.out.own HO.out) (c0 1 (by omega))
      have r2 := ownp_cell (HBW.out.own HO.out) (c1 0 (by omega))
      have r3 := ownp_cell (HBW.out.own HO.out) (c1 1 (by omega))
      rw [hp] at r0 r1 r2 r3 hlt hlti ⊢
      rw [Nat.add_zero, Nat.mul_comm] at r0 r2
      rw [Nat.mul_comm] at r1 r3
      have HSF := hid (fun (W : World) (h : W.heap[rb]? = wr.heap[rb]?) => (⟨(World.cell?_of_block h).trans r0, (World.cell?_of_block h).trans r1, (World.cell?_of_block h).trans r2, (World.cell?_of_block h).trans r3⟩ : W.cell? ⟨rb, p * 2, none⟩ = some (.int .i64 (ya : Nat)) ∧ W.cell? ⟨rb, p * 2 + 1, none⟩ = some (.slice (some ⟨g0, 0, none⟩) ys.length cp0) ∧ W.cell? ⟨rb, (p + 1) * 2, none⟩ = some (.int .i64 (yb : Nat)) ∧ W.cell? ⟨rb, (p + 1) * 2 + 1, none⟩ = some (.slice (some ⟨g1, 0, none⟩) yt.length cp1)))
      have HSS := hid (fun (W : World) (h : Bw wr W) => (⟨h.cell r0, h.cell r1, h.cell r2, h.cell r3⟩ : W.cell? ⟨rb, p * 2, none⟩ = some (.int .i64 (ya : Nat)) ∧ W.cell? ⟨rb, p * 2 + 1, none⟩ = some (.slice (some ⟨g0, 0, none⟩) ys.length cp0) ∧ W.cell? ⟨rb, (p + 1) * 2, none⟩ = some (.int .i64 (yb : Nat)) ∧ W.cell? ⟨rb, (p + 1) * 2 + 1, none⟩ = some (.slice (some ⟨g1, 0, none⟩) yt.length cp1)))
      have HP := hid hp
      have hp5 : p ≤ 100000 := by omega
      have e1 : IntKind.i64.wrap ((p : Int) + 1 - 1) = (p : Int) := by rw [IntWalk.i64_in _ (by omega)]; omega
      have e2 : IntKind.i64.wrap ((ya : Int) + yb) = (ya : Int) + yb := by rw [IntWalk.i64_in _ (by omega)]
      have e7 : IntKind.i64.wrap (p : Int) = (p : Int) := IntWalk.i64_in _ (by omega)
      have e3 : (0 : Int) ≤ (p : Int) + 1 := by omega
      have e5 : ((p : Int) + 1).toNat = p + 1 := by omega
      have e6 : (p : Int) < n := by omega
      have HA2 := hid (Has.new wr 22 #[.slice (some ⟨g0, 0, none⟩) ys.length cp0, .slice (some ⟨g1, 0, none⟩) yt.length cp1])
      have HR0 := hid (HBW.out.own hr0)
      have HR1 := hid (HBW.out.own hr1)
      clear r0 r1 r2 r3 c0 c1 hp hr0 hr1 k0 k1 m0 m1
      go_wp2_with fail
      have HAd : Hid (Has (wr.alloc (.cells #[.slice (some ⟨g0, 0, none⟩) ys.length cp0, .slice (some ⟨g1, 0, none⟩) yt.length cp1] 22)).drew wr.heap.size 22 #[.slice (some ⟨g0, 0, none⟩) ys.length cp0, .slice (some ⟨g1, 0, none⟩) yt.length cp1]) := hid HA2.out.drew
      have HBd : Hid (Bw wr (wr.alloc (.cells #[.slice (some ⟨g0, 0, none⟩) ys.length cp0, .slice (some ⟨g1, 0, none⟩) yt.length cp1] 22)).drew) := hid (((Bw.refl wr).alloc _).drewN 1)
      have hyl : ys.length + yt.length ≤ 1000000 := by omega
      go_region_held3 (fun W => W.cell? ⟨rb, p * 2, none⟩ = some (.int .i64 (ya : Nat)) ∧ W.cell? ⟨rb, p * 2 + 1, none⟩ = some (.slice (some ⟨g0, 0, none⟩) ys.length cp0) ∧ W.cell? ⟨rb, (p + 1) * 2, none⟩ = some (.int .i64 (yb : Nat)) ∧ W.cell? ⟨rb, (p + 1) * 2 + 1, none⟩ = some (.slice (some ⟨g1, 0, none⟩) yt.length cp1))
        (first | exact HSS.out _ ((Bw.refl wr).drewN 1) | exact HSS.out _ HBd.out | exact HSS.out _ HB2.out | exact HSS.out _ (HB2.out.alloc _) | exact HSF.out _ HB3.out)
        (first
          | (go_at_call 35; refine (concat_zs wr.heap.size 0 g0 cp0 ys.length 0 g1 cp1 yt.length (symCells ys) (symCells yt) hp0 hp1 hyl (sym_one _) (sym_one _) _ HAd.out (HBd.out.own HR0.out) (HBd.out.own HR1.out)).mono ?_; rintro e w2 ⟨v2, rfl, hv2, hb2⟩; obtain ⟨g2, cp2, rfl⟩ := own_some hv2 (by omega); have HV2 := hid hv2; have HB2 := hid (HBd.out.trans hb2); clear hv2 hb2)
          | (refine step_append_lies _ (by rfl) (.tmp 11) (.tmp 38) 40 (by rfl) w.heap.size 45 i0 (.agg #[.int .i64 0, .slice none 0 0]) 2 32 Try.underlying40 hinf hz0 hz1 hz2 (by rfl) (by decide) (.slice vo N'.length vc) N'.length (ndCells N') (by rfl) ((HB2.out.own HOW.out).alloc _) ⟨w2.heap.size, 0, none⟩ 1 1 [.int .i64 ((ya : Int) + yb), .slice (some ⟨g2, 0, none⟩) (ys.length + yt.length) cp2] (by rfl) rfl (own_two _ _ _ _) (by intro u hu; simp at hu; rcases hu with rfl | rfl <;> rfl) (by omega) (by unfold maxLen; omega) (by omega) (by have := HB2.out.size; simp only [World.size_alloc]; omega) (w2.heap.size + 1) (by simp) ?_; intro g5 cp5 w5 hown5 hgrow5 hat5 hlt5; have HO5 := hid hown5; have HG5 := hid hgrow5; have HB3 := hid ((hgrow5.block rb (by have := HB2.out.size; simp only [World.size_alloc]; omega) (fun e => by have := own_ge HOW.out e.symm; omega)).trans (((HB2.out.alloc _).block rb (by omega)))); clear hown5 hgrow5 hat5 hlt5))
      have HOA := hid ((HB2.out.own HOW.out).alloc (.cells #[.int .i64 ((ya : Int) + yb), .slice (some ⟨g2, 0, none⟩) (ys.length + yt.length) cp2] 45))
      have HB5 := hid (show Bw w w5 from Below.trans (Bw.trans HBW.out (HB2.out.alloc _)) (own_grownJ HOA.out HG5.out (by have := HB2.out.size; simp only [World.size_alloc]; omega)))
      have HM5 := hid (NodesM.grown (HM'.out.bw (HB2.out.alloc _)) HOA.out HG5.out)
      have HV3 : Hid (SymR X w2 ((ya : Int) + yb, some ⟨g2, 0, none⟩, ys.length + yt.length, cp2) (ys ++ yt)) := hid ⟨g2, cp2, by simp, by simp; omega, by rw [List.length_append, symCells, List.map_append]; exact own_base HV2.out (Nat.zero_le _), fun hx => by have h1 := HX.out _ hx; have h2 := own_ge HV2.out (b := g2) rfl; have h3 := HBd.out.size; omega⟩
      have HS5 := hid (SymR.grown (HV3.out.bw ((Bw.refl w2).alloc _)) HOA.out HG5.out)
      have HXI := hid (show (((2 * (j + 1) : Nat) : Int)) + 1 = (p : Int) + 1 + 2 by have := HP.out; omega)
      go_wp2
      go_roundw
      case rel =>
        refine ⟨j + 1, N' ++ [((ya : Int) + yb, some ⟨g2, 0, none⟩, ys.length + yt.length, cp2)], by have := HP.out; omega, congrArg (Value.int .i64) HXI.out.symm, ?_, ?_, HB5.out⟩
        · rw [List.length_append, ndCells_snoc]
          exact HO5.out
        · rw [HPS.out]
          exact HM5.out.snoc (by simp only; omega) HS5.out
      case measure => simp [intOf]; omega
    · have hnj : n ≤ 2 * j + 1 := by omega
      have hnji : ¬ ((2 * j : Nat) : Int) + 1 < n := by omega
      have HF := hid (prM_all M j (by rw [HML.out]; exact hnj))
      rw [HF.out] at HM'
      go_wp2
      go_ret
      exact ⟨_, rfl, N', HOW.out, HM'.out, HBW.out⟩
end Go.Proofs.Ytcacnidlfjglbaa
