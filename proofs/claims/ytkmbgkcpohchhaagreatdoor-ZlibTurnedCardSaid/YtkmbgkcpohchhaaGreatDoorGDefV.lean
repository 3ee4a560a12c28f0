import Derived.Test.YtkmbgkcpohchhaaGreatDoorGDefR
import Derived.Maps.AppendAt
import Derived.StillTailTactics
import Derived.Deep.CutBlock
import Derived.Deep.CutRange
import Derived.Deep.QuietTactic
import Derived.BigQuiet
namespace Go.Proofs.YtkmbgkcpohchhaaGreatDoor
open Go.RowKit Go.Conc
set_option linter.unusedVariables false
def partsL (l : List Int) : Nat → Nat → List SymT
  | 0, _ => []
  | f + 1, k => if k < l.length then (partS l k).1 :: partsL l f (k + (partS l k).2) else []
def allP (l : List Int) : List SymT := partsL l l.length 0
def SymOk (s : SymT) : Prop := s.idx < 19 ∧ s.ext ≤ 7 ∧ s.more < 2 ^ s.ext
theorem partsL_ok {l : List Int} (h15 : ∀ x ∈ l, 0 ≤ x ∧ x ≤ 15) : ∀ f k, ∀ s ∈ partsL l f k, SymOk s
  | 0, k, s, h => by cases h
  | f + 1, k, s, h => by
    rw [partsL] at h
    split at h
    · rename_i c
      rcases List.mem_cons.1 h with rfl | h
      · exact (partS_ok c h15).2.2
      · exact partsL_ok h15 f _ s h
    · cases h
theorem partsL_len (l : List Int) : ∀ f k, (partsL l f k).length ≤ f
  | 0, k => Nat.le_refl _
  | f + 1, k => by
    rw [partsL]
    split
    · have := partsL_len l f (k + (partS l k).2)
      simp only [List.length_cons]
      omega
    · exact Nat.zero_le _
def symCell (s : SymT) : List Value := [.int .i64 s.idx, .int .i64 s.ext, .int .u32 s.more]
def symCells3 (l : List SymT) : List Value := l.flatMap symCell
theorem symCells3_snoc (l : List SymT) (o : SymT) : symCells3 (l ++ [o]) = symCells3 l ++ symCell o := by simp [symCells3]
theorem symCells3_get (l : List SymT) (i : Nat) (h : i < l.length) (j : Nat) (hj : j < 3) : (symCells3 l)[i * 3 + j]? = (symCell l[i])[j]? := by
  induction l generalizing i with
  | nil => exact absurd h (by simp)
  | cons o r ih =>
    have hl : (symCell o).length = 3 := rfl
    cases i with
    | zero => simp only [symCells3, List.flatMap_cons, Nat.zero_mul, Nat.zero_add, List.getElem_cons_zero]; rw [List.getElem?_append_left (by omega)]
    | succ i =>
      simp only [symCells3, List.flatMap_cons, List.getElem_cons_succ]
      rw [List.getElem?_append_right (by omega), hl, show (i + 1) * 3 + j - 3 = i * 3 + j by omega]
      exact ih i (by simpa using h)
def SymsAt (w : World) (b : Nat) (l : List SymT) : Prop := ∀ i (h : i < l.length), b < w.heap.size ∧ w.cell? ⟨b, i * 3, none⟩ = some (.int .i64 (l[i]'h).idx) ∧ w.cell? ⟨b, i * 3 + 1, none⟩ = some (.int .i64 (l[i]'h).ext) ∧ w.cell? ⟨b, i * 3 + 2, none⟩ = some (.int .u32 (l[i]'h).more)
theorem SymsAt.block {w w' : World} {b : Nat} {l : List SymT} (h : SymsAt w b l) (hs : w.heap.size ≤ w'.heap.size) (hb : b < w.heap.size → w'.heap[b]? = w.heap[b]?) : SymsAt w' b l := fun i hi => by
  obtain ⟨h0, h1, h2, h3⟩ := h i hi
  exact ⟨Nat.lt_of_lt_of_le h0 hs, (World.cell?_of_block (hb h0)).trans h1, (World.cell?_of_block (hb h0)).trans h2, (World.cell?_of_block (hb h0)).trans h3⟩
theorem SymsAt.bw {w w' : World} {b : Nat} {l : List SymT} (h : SymsAt w b l) (hb : Bw w w') : SymsAt w' b l := h.block hb.size fun hl => hb.block b hl
theorem symsAt_own {w : World} {B b n cap : Nat} {l : List SymT} (h : w.ownsRow B 116 3 (.slice (some ⟨b, 0, none⟩) n cap) n (symCells3 l)) (hl : l.length = n) : SymsAt w b l := fun i hi => by
  have key : ∀ j, j < 3 → ∀ u, (symCell l[i])[j]? = some u → w.cell? ⟨b, i * 3 + j, none⟩ = some u := fun j hj u hu => by
    have := h.cells (g := b) rfl (i * 3 + j) u (by rw [symCells3_get l i hi j hj, hu])
    rwa [addr_add] at this
  exact ⟨own_lt h rfl, key 0 (by omega) _ rfl, key 1 (by omega) _ rfl, key 2 (by omega) _ rfl⟩
theorem symInfo : (Tryz.prog.info? 116).map (fun i => (i.zero, i.size, i.bytes)) = some (some (.agg #[.int .i64 0, .int .i64 0, .int .u32 0]), 3, 24) := by kernel_rfl
theorem sym_at {w : World} {i0 x0 m0 : Value} {t : TypeId} (j : Nat) (u : Value) (h : ([i0, x0, m0] : List Value)[j]? = some u) : (w.alloc (.cells #[i0, x0, m0] t)).cell? (Addr.add ⟨w.heap.size, 0, none⟩ j) = some u := by
  have hh := Has.new w t #[i0, x0, m0]
  rw [addr_add, hh.cell j]
  rw [← h]
  rcases j with _ | _ | _ | j <;> rfl
set_option maxRecDepth 100000 in
set_option maxHeartbeats 4000000 in
theorem parts_any (a : Option Addr) (len cap : Nat) (l : List Int) (hll : Hid (l.length = len)) (h640 : len ≤ 640) (h15 : ∀ x ∈ l, 0 ≤ x ∧ x ≤ 15) (w : World) (hst : ZsAt w a l) :
    Calls Tryz.prog 61 #[.slice a len cap] w fun e w' => ∃ v : Value, e = .returned v ∧ w'.ownsRow w.heap.size 116 3 v (allP l).length (symCells3 (allP l)) ∧ Bw w w' := by
  obtain ⟨i0, hinf, hz0, hz1, hz2⟩ := info_parts symInfo
  have HP := hid (fun k (hk : k < len) W (hw : Bw w W) => part_any a len cap k l hll h640 h15 hk W (hst.bw hw))
  have HPO := hid (fun k (hk : k < len) => partS_ok (l := l) (k := k) (by rw [hll.out]; exact hk) h15)
  rw [hll.out] at HPO
  have HAL := hid (show allP l = partsL l len 0 by unfold allP; rw [hll.out])
  have HLN := hid (show (allP l).length ≤ 640 by have := partsL_len l l.length 0; rw [hll.out] at this; unfold allP; rw [hll.out]; omega)
  generalize allP l = al at *
  clear hst h15
  go_enter Tryz.func61, Tryz.ntmps61
  go_wp2_with fail
  go_loopw [3, 4] (fun v i wr => ∃ (k f : Nat) (N : List SymT), k ≤ len ∧ i = .int .i64 k ∧ Hid (len - k ≤ f) ∧ Hid (N ++ partsL l f k = al) ∧ wr.ownsRow w.heap.size 116 3 v N.length (symCells3 N) ∧ Bw w wr) (fun _ i _ => len - (intOf i).toNat)
  case atStart => exact ⟨0, len, [], Nat.zero_le _, rfl, hid (Nat.le_refl _), hid HAL.out.symm, World.ownsRow_nil _ _ _ _, Bw.refl _⟩
  case round =>
    rename World => wr
    obtain ⟨k, f, N, hk, rfl, HF, HNE, hown, hbw⟩ := hrel
    obtain ⟨vo, vc, rfl⟩ := own_slice hown
    have HOW := hid hown
    have HB := hid hbw
    have hbz := hbw.size
    have hNl : N.length ≤ 640 := by have h1 := congrArg List.length HNE.out; rw [List.length_append] at h1; have := HLN.out; omega
    clear hown hbw
    by_cases hlt : k < len
    · have hlti : (k : Int) < len := by omega
      obtain ⟨g, rfl⟩ : ∃ g, f = g + 1 := ⟨f - 1, by have := HF.out; omega⟩
      have hne := HNE.out
      rw [partsL, if_pos (by rw [hll.out]; exact hlt)] at hne
      obtain ⟨o1, o2, _⟩ := HPO.out k hlt
      have HPK := hid (fun W hw => HP.out k hlt W hw)
      generalize hq : partS l k = q at *
      obtain ⟨⟨yi, yx, ym⟩, q2⟩ := q
      simp only at o1 o2
      have hqi : (k : Int) + q2 = ((k + q2 : Nat) : Int) := by omega
      have hqw : IntKind.i64.wrap ((k : Int) + q2) = (k : Int) + q2 := IntWalk.i64_in _ (by omega)
      obtain ⟨nn, hn⟩ : ∃ n, N.length = n := ⟨_, rfl⟩
      have HN := hid hn
      rw [hn] at HOW hNl ⊢
      have HNE2 := hid hne
      have HQI := hid hqi
      clear hn hne hq hqi HNE
      go_wp2_with fail
      refine (HPK.out wr HB.out).mono ?_
      rintro e w3 ⟨rfl, hb3⟩
      have HB3 := hid hb3
      have HO3 := hid (hb3.own HOW.out)
      have hz3 := hb3.size
      unfold symV
      clear hb3
      go_wp2_with (at_builtin; refine wpList_append_own_at _ rfl (.tmp 17) (.tmp 19) 120 rfl w.heap.size 116 i0 (.agg #[.int .i64 0, .int .i64 0, .int .u32 0]) 3 24 Tryz.underlying120 hinf hz0 hz1 hz2 rfl (by decide) (.slice vo nn vc) nn (symCells3 N) rfl (((Bw.refl w3).alloc _).alloc _ |>.own HO3.out) ⟨w3.heap.size + 1, 0, none⟩ 1 1 [.int .i64 yi, .int .i64 yx, .int .u32 ym] rfl rfl (by have := sym_at (w := w3.alloc (.cells #[.int .i64 yi, .int .i64 yx, .int .u32 ym] 116)) (i0 := .int .i64 yi) (x0 := .int .i64 yx) (m0 := .int .u32 ym) (t := 116); rw [World.size_alloc] at this; exact this) (by intro u hu; simp at hu; rcases hu with rfl | rfl | rfl <;> rfl) (by unfold maxLen; omega) (by omega) (by simp; omega) ?_; intro v' w5 hown5 hgrow5 _ _; have HO5 := hid hown5; have HG5 := hid hgrow5; clear hown5 hgrow5)
      have HB5 := hid (show Bw w w5 from Below.trans ((HB.out.trans HB3.out).alloc _ |>.alloc _) (own_grownJ HO3.out HG5.out (by simp only [World.size_alloc]; omega)))
      refine ⟨⟨k + q2, g, N ++ [⟨yi, yx, ym⟩], o2, congrArg (Value.int .i64) HQI.out, hid (by have := HF.out; omega), hid (by rw [List.append_assoc]; exact HNE2.out), ?_, HB5.out⟩, by simp [intOf]; omega⟩
      rw [List.length_append, HN.out, symCells3_snoc]
      exact HO5.out
    · obtain rfl : k = len := by omega
      have hN : N = al := by
        have h1 := HNE.out
        cases f with
        | zero => rw [partsL, List.append_nil] at h1; exact h1
        | succ f => rw [partsL, if_neg (by rw [hll.out]; omega), List.append_nil] at h1; exact h1
      subst hN
      go_wp2
      go_returns
      exact ⟨_, rfl, HOW.out, HB.out⟩
def cntS (N : List SymT) (j i : Nat) : Nat := (N.take j).countP fun s => decide (s.idx = i)
theorem cntS_succ {N : List SymT} {j : Nat} (h : j < N.length) (i : Nat) : cntS N (j + 1) i = cntS N j i + if N[j].idx = i then 1 else 0 := by
  unfold cntS
  rw [List.take_succ_eq_append_getElem h, List.countP_append, List.countP_singleton]
  simp
theorem cntS_le (N : List SymT) (j i : Nat) : cntS N j i ≤ j := by
  unfold cntS
  exact Nat.le_trans List.countP_le_length (List.length_take_le _ _)
def cntA (N : List SymT) (i : Nat) : Nat := cntS N N.length i
theorem cntA_pos {N : List SymT} {s : SymT} (h : s ∈ N) : 0 < cntA N s.idx := by
  unfold cntA cntS
  rw [List.take_length]
  exact List.countP_pos_iff.2 ⟨s, h, by simp⟩
def fstL (N : List SymT) : List Int := bestL (natL (cntA N) 19) 19 7 19
def fstLn (N : List SymT) : Nat := bestN (natL (cntA N) 19) 19 7 19
theorem fstLn_eq (N : List SymT) : fstLn N = 19 := Nat.le_antisymm (trim_le (manyF (natL (cntA N) 19) 19 7) 19 19) (trim_ge (manyF (natL (cntA N) 19) 19 7) 19 19 (Nat.le_refl _))
theorem fstL_check (N : List SymT) : checkE (fstL N) = 0 := best_check 19 (by decide) (by decide) (by decide) (lv_few _ 19 7 (by decide))
theorem fstL_len (N : List SymT) : (fstL N).length = 19 := (natL_len _ _).trans (fstLn_eq N)
set_option maxRecDepth 100000 in
theorem zero19 : (#[.int .i64 0, .int .i64 0, .int .i64 0, .int .i64 0, .int .i64 0, .int .i64 0, .int .i64 0, .int .i64 0, .int .i64 0, .int .i64 0, .int .i64 0, .int .i64 0, .int .i64 0, .int .i64 0, .int .i64 0, .int .i64 0, .int .i64 0, .int .i64 0, .int .i64 0] : Array Value) = arrN 19 fun _ => 0 := by kernel_rfl
set_option maxRecDepth 100000 in
set_option maxHeartbeats 4000000 in
theorem firstCode_any (b n cap : Nat) (N : List SymT) (hN : Hid (N.length = n)) (hn : n ≤ 640) (hok : ∀ s ∈ N, SymOk s) (w : World) (hst : SymsAt w b N) :
    Calls Tryz.prog 63 #[.slice (some ⟨b, 0, none⟩) n cap] w fun e w' => ∃ lb ub uc, e = .returned (codeV lb 19 ub uc 19) ∧ w.heap.size ≤ lb ∧ w.heap.size ≤ ub ∧ CodeAt w' lb ub (fstL N) ∧ Bw w w' := by
  have HST := hid hst
  have HOK := hid hok
  clear hst hok
  go_enter Tryz.func63, Tryz.ntmps63
  go_wp2_with fail
  have HC := hid ((Has.new w 47 #[.slice none 0 0, .slice none 0 0]).alloc (.cells #[.int .i64 0, .int .i64 0, .int .i64 0, .int .i64 0, .int .i64 0, .int .i64 0, .int .i64 0, .int .i64 0, .int .i64 0, .int .i64 0, .int .i64 0, .int .i64 0, .int .i64 0, .int .i64 0, .int .i64 0, .int .i64 0, .int .i64 0, .int .i64 0, .int .i64 0] 124))
  have HA := hid (Has.new (w.alloc (.cells #[.slice none 0 0, .slice none 0 0] 47)) 124 #[.int .i64 0, .int .i64 0, .int .i64 0, .int .i64 0, .int .i64 0, .int .i64 0, .int .i64 0, .int .i64 0, .int .i64 0, .int .i64 0, .int .i64 0, .int .i64 0, .int .i64 0, .int .i64 0, .int .i64 0, .int .i64 0, .int .i64 0, .int .i64 0, .int .i64 0])
  have HB := hid (((Bw.refl w).alloc (.cells #[.slice none 0 0, .slice none 0 0] 47)).alloc (.cells #[.int .i64 0, .int .i64 0, .int .i64 0, .int .i64 0, .int .i64 0, .int .i64 0, .int .i64 0, .int .i64 0, .int .i64 0, .int .i64 0, .int .i64 0, .int .i64 0, .int .i64 0, .int .i64 0, .int .i64 0, .int .i64 0, .int .i64 0, .int .i64 0, .int .i64 0] 124))
  rw [show (w.alloc (.cells #[.slice none 0 0, .slice none 0 0] 47)).heap.size = w.heap.size + 1 by simp] at HA
  generalize (w.alloc (.cells #[.slice none 0 0, .slice none 0 0] 47)).alloc (.cells #[.int .i64 0, .int .i64 0, .int .i64 0, .int .i64 0, .int .i64 0, .int .i64 0, .int .i64 0, .int .i64 0, .int .i64 0, .int .i64 0, .int .i64 0, .int .i64 0, .int .i64 0, .int .i64 0, .int .i64 0, .int .i64 0, .int .i64 0, .int .i64 0, .int .i64 0] 124) = W2 at *
  rw [zero19] at HA
  obtain ⟨nb, hnb⟩ : ∃ nb, w.heap.size = nb := ⟨_, rfl⟩
  rw [hnb] at HC HA ⊢
  have HNB := hid hnb
  clear hnb
  go_loopw [8] (fun i wr => ∃ j : Nat, j ≤ n ∧ i = .int .i64 j ∧ Bw w wr ∧ Has wr nb 47 #[.slice none 0 0, .slice none 0 0] ∧ Has wr (nb + 1) 124 (arrN 19 (cntS N j))) (fun i _ => n - (intOf i).toNat)
  case atStart => exact ⟨0, Nat.zero_le _, rfl, HB.out, HC.out, HA.out⟩
  case round =>
    rename World => wr
    obtain ⟨j, hj, rfl, hb, hc, ha⟩ := hrel
    have hal := ha.lt
    have hcl := hc.lt
    by_cases hlt : j < n
    · have hlti : (j : Int) < n := by omega
      have hjl : j < N.length := by rw [hN.out]; exact hlt
      obtain ⟨_, c0, c1, c2⟩ := (HST.out.bw hb) j hjl
      have hsy := (HOK.out N[j] (List.getElem_mem hjl)).1
      have HCS := hid (cntS_succ hjl)
      have HCL := hid (cntS_le N j)
      generalize N[j] = s at *
      obtain ⟨yi, yx, ym⟩ := s
      simp only at hsy c0 c1 c2
      have HB1 := hid (hb.alloc (.cells #[.int .i64 yi, .int .i64 yx, .int .u32 ym] 116))
      have HC1 := hid (hc.alloc (.cells #[.int .i64 yi, .int .i64 yx, .int .u32 ym] 116))
      have hA1 := ha.alloc (.cells #[.int .i64 yi, .int .i64 yx, .int .u32 ym] 116)
      have HS1 := hid (Has.new wr 116 #[.int .i64 yi, .int .i64 yx, .int .u32 ym])
      have HA1 := hid hA1
      generalize cntS N j = f at *
      have hfy := HCL.out yi
      generalize hfv : f yi = fv at *
      have k0 : (wr.alloc (.cells #[.int .i64 yi, .int .i64 yx, .int .u32 ym] 116)).cell? ⟨nb + 1, yi, none⟩ = some (.int .i64 (fv : Nat)) := by rw [hA1.cell yi, arrN_get f hsy, hfv]
      have g0 := hA1.frozen yi
      have HA2 := hid (ha.put yi (.int .i64 ((fv + 1 : Nat) : Int)))
      rw [arrN_set] at HA2
      have HC2 := hid (hc.far (p := ⟨nb + 1, yi, none⟩) (show nb ≠ nb + 1 by omega) (.int .i64 ((fv + 1 : Nat) : Int)))
      have HB2 := hid (Below.setCell hb (p := ⟨nb + 1, yi, none⟩) (show w.heap.size ≤ nb + 1 by have := HNB.out; omega) (.int .i64 ((fv + 1 : Nat) : Int)))
      have HEL := hid (show arrN 19 (fun i => if i = yi then fv + 1 else f i) = arrN 19 (cntS N (j + 1)) from arrN_congr fun i _ => by
        rw [HCS.out]
        by_cases e : i = yi
        · rw [if_pos e, if_pos e.symm, e, hfv]
        · rw [if_neg e, if_neg (fun h => e h.symm)]; rfl)
      rw [HEL.out] at HA2
      rw [show ((fv + 1 : Nat) : Int) = (fv : Int) + 1 by omega] at HA2 HC2 HB2
      have wr9 : IntKind.i64.wrap ((fv : Int) + 1) = (fv : Int) + 1 := IntWalk.i64_in _ (by omega)
      have hyi : (yi : Int) < 19 := by omega
      clear hb hc ha hA1 hfv
      go_wp2
      go_roundw
      case rel => exact ⟨j + 1, by omega, by go_num, (show Bw w _ from HB2.out).alloc _, HC2.out.alloc _, HA2.out.alloc _⟩
      case measure => simp [intOf]; omega
    · obtain rfl : j = n := by omega
      have HAX := hid (show Has wr (nb + 1) 124 (arrN 19 (cntA N)) by unfold cntA; rw [hN.out]; exact ha)
      have HCX := hid hc
      have HBX := hid hb
      have HO1 := hid (show ∀ x ∈ natL (cntA N) 19, oftB x = true from fun x hx => by
        obtain ⟨i, hi, rfl⟩ := List.mem_map.1 hx
        have h1 := cntS_le N N.length i
        have h2 := hN.out
        unfold oftB cntA
        exact decide_eq_true ⟨by omega, by omega⟩)
      have HBE := hid (best_any (some ⟨nb + 1, 0, none⟩) 19 19 7 19 (natL (cntA N) 19) (hid (natL_len _ _)) (by decide) HO1.out (by decide) (by decide) (lv_few _ 19 7 (by decide)) (by decide) wr (arr_zs HAX.out))
      rw [show bestN (natL (cntA N) 19) 19 7 19 = 19 from fstLn_eq N, show bestL (natL (cntA N) 19) 19 7 19 = fstL N from rfl] at HBE
      have HNC := hid (fun rb W h => newCode_any rb 19 19 (fstL N) (hid (fstL_len N)) (by decide) (fstL_check N) W h)
      clear hb hc ha
      go_wp2_with fail
      refine HBE.out.mono ?_
      rintro e w3 ⟨lb, rfl, hl1, hlb, hs1, hb3⟩
      have HL1 := hid hl1
      have HS1 := hid hs1
      have HB3 := hid hb3
      clear hl1 hlb hs1 hb3
      go_wp2_with fail
      refine (HNC.out lb w3 HS1.out).mono ?_
      rintro e w8 ⟨ub, uc, rfl, hu1, hc1, hb4⟩
      unfold codeV
      have HU1 := hid hu1
      have HX8 := hid hc1
      have HB8 := hid (HBX.out.trans (HB3.out.trans hb4))
      have HN8 := hid ((HB3.out.trans hb4).has HCX.out)
      have n0 := HN8.out.cell 0
      have n1 := HN8.out.cell 1
      have f0 := HN8.out.frozen 0
      have f1 := HN8.out.frozen 1
      have HP := hid ((HN8.out.put 0 (.slice (some ⟨lb, 0, none⟩) 19 19)).put 1 (.slice (some ⟨ub, 0, none⟩) 19 uc))
      have HBW := hid (show Bw w _ from Below.setCell (Below.setCell HB8.out (p := ⟨nb, 0, none⟩) (show w.heap.size ≤ nb by have := HNB.out; omega) (.slice (some ⟨lb, 0, none⟩) 19 19)) (p := ⟨nb, 1, none⟩) (show w.heap.size ≤ nb by have := HNB.out; omega) (.slice (some ⟨ub, 0, none⟩) 19 uc))
      have HKB := hid (show ∀ b, b ≠ nb → ((w8.setCell ⟨nb, 0, none⟩ (.slice (some ⟨lb, 0, none⟩) 19 19)).setCell ⟨nb, 1, none⟩ (.slice (some ⟨ub, 0, none⟩) 19 uc)).heap[b]? = w8.heap[b]? from fun b hb => (Below.heap_setCell _ ⟨nb, 1, none⟩ _ b hb).trans (Below.heap_setCell _ ⟨nb, 0, none⟩ _ b hb))
      have HSZ := hid (show ((w8.setCell ⟨nb, 0, none⟩ (.slice (some ⟨lb, 0, none⟩) 19 19)).setCell ⟨nb, 1, none⟩ (.slice (some ⟨ub, 0, none⟩) 19 uc)).heap.size = w8.heap.size by simp only [World.size_setCell])
      have s1 := HBX.out.size
      have s2 := HB3.out.size
      clear hu1 hc1 hb4
      go_wp2
      generalize (w8.setCell ⟨nb, 0, none⟩ (.slice (some ⟨lb, 0, none⟩) 19 19)).setCell ⟨nb, 1, none⟩ (.slice (some ⟨ub, 0, none⟩) 19 uc) = w9 at *
      clear n0 n1 f0 f1
      have e0 : w9.cell? ⟨nb, 0, none⟩ = some (.slice (some ⟨lb, 0, none⟩) 19 19) := HP.out.cell 0
      have e1 : w9.cell? ⟨nb, 1, none⟩ = some (.slice (some ⟨ub, 0, none⟩) 19 uc) := HP.out.cell 1
      (try simp only [Exit.inBlock, Exit.then])
      refine bodyPost_ret (v := codeV lb 19 ub uc 19) (by simp [results, Tryz.results63, go_sem, codeV, e0, e1]; try rfl) rfl ?_
      have hn := HNB.out
      have g1 := HL1.out
      have g2 := HU1.out
      exact ⟨lb, ub, uc, rfl, by omega, by omega, HX8.out.blocks (Nat.le_of_eq HSZ.out.symm) (HKB.out _ (by omega)) (HKB.out _ (by omega)), HBW.out⟩
end Go.Proofs.YtkmbgkcpohchhaaGreatDoor
namespace Go.Proofs.YtkmbgkcpohchhaaGreatDoor
open Go.RowKit Go.Conc
set_option linter.unusedVariables false
set_option maxRecDepth 100000 in
set_option maxHeartbeats 4000000 in
theorem concat_at (ab g1 c1 n1 g2 c2 n2 : Nat) (xs1 xs2 : List Value) (h01 : 0 < n1) (h02 : 0 < n2) (hn : n1 + n2 ≤ 1000000) (hone1 : ∀ u ∈ xs1, u.oneCell' = true) (hone2 : ∀ u ∈ xs2, u.oneCell' = true) (w : World) (ha : Has w ab 44 #[.slice (some ⟨g1, 0, none⟩) n1 c1, .slice (some ⟨g2, 0, none⟩) n2 c2])
    (b1 : g1 < w.heap.size) (b2 : g2 < w.heap.size) (hl1 : xs1.length = n1 * 1) (hl2 : xs2.length = n2 * 1) (q1 : ∀ j u, xs1[j]? = some u → w.cell? ⟨g1, j, none⟩ = some u) (q2 : ∀ j u, xs2[j]? = some u → w.cell? ⟨g2, j, none⟩ = some u) :
    Calls Tryz.prog 62 #[.slice (some ⟨ab, 0, none⟩) 2 2] w fun e w' => ∃ v, e = .returned v ∧ w'.ownsRow w.heap.size 3 1 v (n1 + n2) (xs1 ++ xs2) ∧ Bw w w' := by
  obtain ⟨i0, hinf, hz0, hz1, hz2⟩ := info_parts infozs
  have c0 := ha.cell 0
  have c1x := ha.cell 1
  have HO1 := hid (show ∀ W, Bw w W → ∀ j u, xs1[j]? = some u → W.cell? (Addr.add ⟨g1, 0, none⟩ j) = some u from fun W hw j u hj => by rw [addr_add]; exact (World.cell?_of_block (hw.block g1 b1)).trans (q1 j u hj))
  have HO2 := hid (show ∀ W, Bw w W → ∀ j u, xs2[j]? = some u → W.cell? (Addr.add ⟨g2, 0, none⟩ j) = some u from fun W hw j u hj => by rw [addr_add]; exact (World.cell?_of_block (hw.block g2 b2)).trans (q2 j u hj))
  have HA := hid ha
  have HG := hid (fun W => grow_zs (n1 + n2) (by omega) hn W)
  rw [Int.natCast_add] at HG
  clear q1 q2 b1 b2 ha
  go_enter Tryz.func62, Tryz.ntmps62
  go_wp2
  refine wp_loop_rounds 3 ?_
  rw [rounds_succ]
  go_wp2
  rw [rounds_succ]
  go_wp2
  rw [rounds_succ]
  go_wp2_with (go_at_call 98; refine (HG.out _).mono ?_; rintro e w2 ⟨v, rfl, hv, hb⟩)
  have HV := hid hv
  have HB := hid hb
  have d0 := (HB.out.has HA.out).cell 0
  have d1 := (HB.out.has HA.out).cell 1
  have hb2 := hb.size
  clear hv hb c0 c1x HG
  go_wp2
  refine wp_loop_rounds 3 ?_
  rw [rounds_succ]
  have HN1 := hid (fun (j : Nat) (u : Value) (hj : xs1[j]? = some u) => HO1.out _ HB.out j u hj)
  go_wp2_with (at_builtin; refine wpList_append_own_at _ rfl (.tmp 31) (.tmp 32) 44 rfl w.heap.size 3 i0 (.int .i64 0) 1 8 Tryz.underlying44 hinf hz0 hz1 hz2 rfl (by decide) v 0 [] rfl HV.out ⟨g1, 0, none⟩ n1 c1 xs1 rfl hl1 HN1.out hone1 (by unfold maxLen; omega) (by omega) hb2 ?_; intro v3 w3 hown3 hgrow3 _ _; have HO3 := hid hown3; have HG3 := hid hgrow3; clear hown3 hgrow3)
  have HB3 := hid (show Bw w w3 from Below.trans HB.out (own_grownJ HV.out HG3.out hb2))
  have hb3 := HB3.out.size
  have e0 := (HB3.out.has HA.out).cell 0
  have e1 := (HB3.out.has HA.out).cell 1
  have HN2 := hid (fun (j : Nat) (u : Value) (hj : xs2[j]? = some u) => HO2.out _ HB3.out j u hj)
  clear d0 d1
  go_wp2_with fail
  rw [rounds_succ]
  go_wp2_with (at_builtin; refine wpList_append_own_at _ rfl (.tmp 31) (.tmp 32) 44 rfl w.heap.size 3 i0 (.int .i64 0) 1 8 Tryz.underlying44 hinf hz0 hz1 hz2 rfl (by decide) v3 (0 + n1) ([] ++ xs1) rfl HO3.out ⟨g2, 0, none⟩ n2 c2 xs2 rfl hl2 HN2.out hone2 (by unfold maxLen; omega) (by omega) hb3 ?_; intro v4 w4 hown4 hgrow4 _ _; have HO4 := hid hown4; have HG4 := hid hgrow4; clear hown4 hgrow4)
  have HB4 := hid (show Bw w w4 from Below.trans HB3.out (own_grownJ HO3.out HG4.out hb3))
  clear e0 e1
  go_wp2_with fail
  rw [rounds_succ]
  go_wp2
  go_ret
  exact ⟨v4, rfl, by simpa using HO4.out, HB4.out⟩

theorem put_pc (F : Nat → Prop) (g k N : Nat) (P : List (Nat × Nat)) (hk : k + pcK P ≤ 1125899906842000) (v n : Nat) (hn : n ≤ 16) (hv : v < 2 ^ n) (W w : World) (h : WPost F g (k + pcK P) (N + pcN P * 2 ^ k) W w) :
    Calls Tryz.prog 60 #[.pointer (some ⟨g, 0, none⟩), .int .u32 v, .int .i64 n] w fun e w' => e = .returned (.int .i64 0) ∧ WPost F g (k + pcK (P ++ [(v, n)])) (N + pcN (P ++ [(v, n)]) * 2 ^ k) W w' := by
  obtain ⟨F1, hw, hk1, hf⟩ := h
  have h16 : (2 : Nat) ^ n ≤ 2 ^ 16 := Nat.pow_le_pow_right (by decide) hn
  rw [show (2 : Nat) ^ 16 = 65536 by rfl] at h16
  have := put_ok F1 g (k + pcK P) (N + pcN P * 2 ^ k) (by omega) v (by omega) n (by omega) hv w hw
  have e1 := pcN_at N k P [(v, n)]
  rw [show pcN [(v, n)] = v by simp [pcN]] at e1
  rw [e1] at this
  refine this.mono ?_
  rintro e w' ⟨rfl, h3⟩
  refine ⟨rfl, ?_⟩
  rw [pcK_app, show pcK [(v, n)] = n by simp [pcK], ← Nat.add_assoc]
  exact h3.step hk1 hf
theorem symbol_pc (F : Nat → Prop) (g k N lb lc ub uc len : Nat) (l : List Int) (P : List (Nat × Nat)) (hIC : IsCode l) (hll : Hid (l.length = len)) (idx ext more : Nat) (hi : idx < len) (hx : ext ≤ 13) (hm : more < 2 ^ ext) (hk : k + pcK P ≤ 1125899906842000) (W w : World) (hc : CodeAt W lb ub l) (h1 : ¬ F lb) (h2 : ¬ F ub) (h : WPost F g (k + pcK P) (N + pcN P * 2 ^ k) W w) :
    Calls Tryz.prog 64 #[.pointer (some ⟨g, 0, none⟩), codeV lb lc ub uc len, .agg #[.int .i64 idx, .int .i64 ext, .int .u32 more]] w fun e w' => e = .returned (.tuple #[]) ∧ WPost F g (k + pcK (P ++ symP l ⟨idx, ext, more⟩)) (N + pcN (P ++ symP l ⟨idx, ext, more⟩) * 2 ^ k) W w' := by
  refine (symbol_at F g (k + pcK P) (N + pcN P * 2 ^ k) lb lc ub uc len l hIC hll idx ext more hi hx hm hk W w hc h1 h2 h).mono ?_
  rintro e w' ⟨rfl, h3⟩
  rw [pcN_at, show k + pcK P + pcK (symP l ⟨idx, ext, more⟩) = k + pcK (P ++ symP l ⟨idx, ext, more⟩) by rw [pcK_app]; omega] at h3
  exact ⟨rfl, h3⟩
def dOrd : List Nat := [16, 17, 18, 0, 8, 7, 9, 6, 10, 5, 11, 4, 12, 3, 13, 2, 14, 1, 15]
def dO (i : Nat) : Nat := dOrd.getD i 0
theorem dO_lt (i : Nat) : dO i < 19 := by
  unfold dO
  rcases Nat.lt_or_ge i 19 with h | h
  · have : ∀ j : Fin 19, dOrd.getD j.val 0 < 19 := by decide
    exact this ⟨i, h⟩
  · have : dOrd[i]? = none := List.getElem?_eq_none (show 19 ≤ i from h)
    simp [List.getD, this]
def gvN (Fl : List Int) : Nat := trimGo (fun i => lenF Fl (dO i)) 4 19
def hdr3 (L D : List Int) : List (Nat × Nat) := [(L.length - 257, 5), (D.length - 1, 5), (gvN (fstL (allP (L ++ D))) - 4, 4)]
def gvP (Fl : List Int) (j : Nat) : List (Nat × Nat) := (List.range j).map fun i => (lenF Fl (dO i), 3)
def sqP (Fl : List Int) (A : List SymT) (j : Nat) : List (Nat × Nat) := (A.take j).flatMap (symP Fl)
def hdrP (L D : List Int) : List (Nat × Nat) := hdr3 L D ++ gvP (fstL (allP (L ++ D))) (gvN (fstL (allP (L ++ D)))) ++ (allP (L ++ D)).flatMap (symP (fstL (allP (L ++ D))))
theorem gvP_succ (Fl : List Int) (j : Nat) : gvP Fl (j + 1) = gvP Fl j ++ [(lenF Fl (dO j), 3)] := by
  unfold gvP
  rw [List.range_succ, List.map_append]
  rfl
theorem gvP_len (Fl : List Int) : ∀ j, pcK (gvP Fl j) = 3 * j
  | 0 => rfl
  | j + 1 => by rw [gvP_succ, pcK_app, gvP_len Fl j]; show 3 * j + (3 + 0) = _; omega
theorem sqP_succ (Fl : List Int) (A : List SymT) (j : Nat) (h : j < A.length) : sqP Fl A (j + 1) = sqP Fl A j ++ symP Fl A[j] := by
  unfold sqP
  rw [List.take_succ_eq_append_getElem h, List.flatMap_append, List.flatMap_singleton]
theorem sqP_all (Fl : List Int) (A : List SymT) : sqP Fl A A.length = A.flatMap (symP Fl) := by unfold sqP; rw [List.take_length]
theorem sqP_le {Fl : List Int} (h : IsCode Fl) (A : List SymT) (hA : ∀ s ∈ A, SymOk s) : ∀ j, j ≤ A.length → pcK (sqP Fl A j) ≤ 28 * j
  | 0, _ => by simp [sqP, pcK]
  | j + 1, hj => by
    have h1 := sqP_le h A hA j (by omega)
    have h2 := symP_le h (s := A[j]) (by have := (hA A[j] (List.getElem_mem _)).2.1; omega)
    rw [sqP_succ Fl A j (by omega), pcK_app]
    omega
theorem fst_7 (N : List SymT) (i : Nat) : lenF (fstL N) i ≤ 7 := by
  unfold lenF
  rcases Nat.lt_or_ge i 19 with h | h
  · have e : fstL N = natL (manyF (natL (cntA N) 19) 19 7) 19 := by
      unfold fstL bestL
      rw [show bestN (natL (cntA N) 19) 19 7 19 = 19 from fstLn_eq N]
    rw [e, natL_get _ _ _ h]
    have hm := many_ok (l := natL (cntA N) 19) (len := 19) (most := 7) (by decide) (by decide) (lv_few _ 19 7 (by decide))
    by_cases c : i < 19 ∧ 0 < (natL (cntA N) 19).getD i 0
    · have := (hm.1 i c.1 c.2).2
      omega
    · rw [hm.2.1 i c]; decide
  · have : (fstL N)[i]? = none := List.getElem?_eq_none (by rw [fstL_len]; exact h)
    simp [List.getD, this]
theorem allP_ne {l : List Int} (h : 0 < l.length) : 0 < (allP l).length := by
  unfold allP
  obtain ⟨n, hn⟩ : ∃ n, l.length = n + 1 := ⟨l.length - 1, by omega⟩
  rw [hn, partsL, if_pos h]
  simp
end Go.Proofs.YtkmbgkcpohchhaaGreatDoor
namespace Go.Proofs.YtkmbgkcpohchhaaGreatDoor
open Go.RowKit Go.Conc
set_option linter.unusedVariables false
def OrdAt (w : World) : Prop := 0 < w.heap.size ∧ ∀ j, j < 19 → w.cell? ⟨0, j, none⟩ = some (.int .i64 (dO j : Nat))
theorem OrdAt.block {w w' : World} (h : OrdAt w) (hs : w.heap.size ≤ w'.heap.size) (hb : w'.heap[(0 : Nat)]? = w.heap[(0 : Nat)]?) : OrdAt w' := ⟨Nat.lt_of_lt_of_le h.1 hs, fun j hj => (World.cell?_of_block hb).trans (h.2 j hj)⟩
theorem OrdAt.bw {w w' : World} (h : OrdAt w) (hb : Bw w w') : OrdAt w' := h.block hb.size (hb.block _ h.1)
theorem lens_cells {w : World} {b ub : Nat} {l : List Int} (h : CodeAt w b ub l) (hl : IsCode l) : ∀ j u, (l.map fun x => Value.int .i64 x)[j]? = some u → w.cell? ⟨b, j, none⟩ = some u := fun j u hj => by
  rw [List.getElem?_map] at hj
  rcases Nat.lt_or_ge j l.length with h1 | h1
  · rw [h.lc j h1, ← (hl.len j).2]
    rw [List.getElem?_eq_getElem h1] at hj
    simpa [List.getD, h1] using hj
  · rw [List.getElem?_eq_none h1] at hj
    cases hj
theorem own_zs {w : World} {B g n cap : Nat} {l : List Int} (h : w.ownsRow B 3 1 (.slice (some ⟨g, 0, none⟩) n cap) n (l.map fun x => Value.int .i64 x)) : ZsAt w (some ⟨g, 0, none⟩) l := fun i hi => by
  refine ⟨g, 0, rfl, own_lt h rfl, ?_⟩
  have := h.cells (g := g) rfl i (.int .i64 l[i]) (by simp [hi])
  rw [addr_add] at this
  rw [Nat.zero_add]
  exact this
set_option maxRecDepth 100000 in
set_option maxHeartbeats 8000000 in
theorem header_any (F : Nat → Prop) (g k N lb lc ub uc len lb2 lc2 ub2 uc2 len2 : Nat) (L D : List Int) (hL : IsCode L) (hD : IsCode D) (hLl : Hid (L.length = len)) (hDl : Hid (D.length = len2)) (h257 : 257 ≤ len) (h286 : len ≤ 286) (h1 : 1 ≤ len2) (h30 : len2 ≤ 30)
    (hk : k ≤ 562949953420000) (w : World) (h : WrF F w g k N) (hcL : CodeAt w lb ub L) (hcD : CodeAt w lb2 ub2 D) (f1 : ¬ F lb) (f2 : ¬ F ub) (f3 : ¬ F lb2) (f4 : ¬ F ub2) (hO : OrdAt w) (f5 : ¬ F 0) :
    Calls Tryz.prog 29 #[.pointer (some ⟨g, 0, none⟩), .agg #[.slice (some ⟨lb, 0, none⟩) len lc, .slice (some ⟨ub, 0, none⟩) len uc, .slice (some ⟨lb2, 0, none⟩) len2 lc2, .slice (some ⟨ub2, 0, none⟩) len2 uc2]] w fun e w' => e = .returned (.tuple #[]) ∧ WPost F g (k + pcK (hdrP L D)) (N + pcN (hdrP L D) * 2 ^ k) w w' := by
  have hFw : ∀ i, F i → i < w.heap.size := fun i hi => h.lt hi
  have HFw := hid hFw
  have h15 : ∀ x ∈ L ++ D, 0 ≤ x ∧ x ≤ 15 := fun x hx => by
    rcases List.mem_append.1 hx with hx | hx
    · exact hL.range x hx
    · exact hD.range x hx
  have hLDl : (L ++ D).length = len + len2 := by rw [List.length_append, hLl.out, hDl.out]
  have HLC := hid hL
  have HDC := hid hD
  have HCC := hid (fun ab W ha (hw : Bw w W) => concat_at ab lb lc len lb2 lc2 len2 (L.map fun x => .int .i64 x) (D.map fun x => .int .i64 x) (by omega) (by omega) (by omega) (by intro u hu; obtain ⟨x, _, rfl⟩ := List.mem_map.1 hu; rfl) (by intro u hu; obtain ⟨x, _, rfl⟩ := List.mem_map.1 hu; rfl) W ha (hcL.bw hw).l1 (hcD.bw hw).l1 (by rw [List.length_map, hLl.out, Nat.mul_one]) (by rw [List.length_map, hDl.out, Nat.mul_one]) (lens_cells (hcL.bw hw) hL) (lens_cells (hcD.bw hw) hD))
  have HPA := hid (fun vb vc W hz => parts_any (some ⟨vb, 0, none⟩) (len + len2) vc (L ++ D) (hid hLDl) (by omega) h15 W hz)
  have hAok : ∀ s ∈ allP (L ++ D), SymOk s := partsL_ok h15 _ _
  have hAle : (allP (L ++ D)).length ≤ 640 := by have := partsL_len (L ++ D) (L ++ D).length 0; unfold allP; omega
  have hAne : 0 < (allP (L ++ D)).length := allP_ne (by omega)
  have HEQ := hid (show hdrP L D = [(len - 257, 5), (len2 - 1, 5), (gvN (fstL (allP (L ++ D))) - 4, 4)] ++ gvP (fstL (allP (L ++ D))) (gvN (fstL (allP (L ++ D)))) ++ (allP (L ++ D)).flatMap (symP (fstL (allP (L ++ D)))) by unfold hdrP hdr3; rw [hLl.out, hDl.out])
  have HMA := hid (show (L.map fun x => Value.int .i64 x) ++ (D.map fun x => Value.int .i64 x) = (L ++ D).map fun x => Value.int .i64 x from List.map_append.symm)
  rw [HEQ.out]
  generalize allP (L ++ D) = A at *
  have HFC := hid (fun b cap W hs => firstCode_any b A.length cap A (hid rfl) hAle hAok W hs)
  have hFl := IsCode.of_check (fstL_check A)
  have hFlen := fstL_len A
  have hF7 := fst_7 A
  generalize fstL A = Fl at *
  have HAOK := hid hAok
  have HFI := hid hFl
  have HFL := hid hFlen
  have HF7 := hid hF7
  obtain ⟨n, hn⟩ : ∃ n, A.length = n := ⟨_, rfl⟩
  have HAN := hid hn
  rw [hn] at hAle hAne HFC HPA
  have B1 := hid ((Bw.refl w).alloc (.cells #[.slice (some ⟨lb, 0, none⟩) len lc, .slice (some ⟨ub, 0, none⟩) len uc, .slice (some ⟨lb2, 0, none⟩) len2 lc2, .slice (some ⟨ub2, 0, none⟩) len2 uc2] 49))
  have C1 := hid (Has.new w 49 #[.slice (some ⟨lb, 0, none⟩) len lc, .slice (some ⟨ub, 0, none⟩) len uc, .slice (some ⟨lb2, 0, none⟩) len2 lc2, .slice (some ⟨ub2, 0, none⟩) len2 uc2])
  have HWR := hid h
  have HOR := hid hO
  have HNF := hid (show ¬ F lb ∧ ¬ F ub ∧ ¬ F lb2 ∧ ¬ F ub2 ∧ ¬ F 0 from ⟨f1, f2, f3, f4, f5⟩)
  obtain ⟨HL, hHL⟩ : ∃ HL, [(len - 257, 5), (len2 - 1, 5), (gvN Fl - 4, 4)] ++ gvP Fl (gvN Fl) ++ A.flatMap (symP Fl) = HL := ⟨_, rfl⟩
  rw [hHL]
  have HHL := hid hHL
  clear hFw h15 hLDl hL hD hAok hFl hFlen hF7 hn HEQ h hcL hcD f1 f2 f3 f4 hO f5 hHL
  go_enter Tryz.func29, Tryz.ntmps29
  have x0 := C1.out.cell 0
  have x2 := C1.out.cell 2
  go_wp2_with fail
  have H2 := Has.new (w.alloc (.cells #[.slice (some ⟨lb, 0, none⟩) len lc, .slice (some ⟨ub, 0, none⟩) len uc, .slice (some ⟨lb2, 0, none⟩) len2 lc2, .slice (some ⟨ub2, 0, none⟩) len2 uc2] 49)) 44 #[.slice (some ⟨lb, 0, none⟩) len lc, .slice (some ⟨lb2, 0, none⟩) len2 lc2]
  rw [World.size_alloc] at H2
  have B2 := hid (B1.out.alloc (.cells #[.slice (some ⟨lb, 0, none⟩) len lc, .slice (some ⟨lb2, 0, none⟩) len2 lc2] 44))
  refine (HCC.out (w.heap.size + 1) _ H2 B2.out).mono ?_
  rintro e w3 ⟨v, rfl, hv, hb3⟩
  obtain ⟨vb, vc, rfl⟩ := own_some hv (by omega)
  rw [HMA.out] at hv
  have HZ3 := hid (own_zs hv)
  have HB3 := hid hb3
  have B3 := hid (B2.out.trans hb3)
  have C3 := hid (hb3.has (C1.out.alloc (.cells #[.slice (some ⟨lb, 0, none⟩) len lc, .slice (some ⟨lb2, 0, none⟩) len2 lc2] 44)))
  clear hv hb3 H2 x0 x2
  go_wp2_with fail
  refine (HPA.out vb vc w3 HZ3.out).mono ?_
  rintro e w4 ⟨v4, rfl, hv4, hb4⟩
  obtain ⟨sb, sc, rfl⟩ := own_some hv4 (by omega)
  have HS4 := hid (symsAt_own hv4 HAN.out)
  have B4 := hid (B3.out.trans hb4)
  have C4 := hid (hb4.has C3.out)
  have HSB := hid (own_ge hv4 (b := sb) rfl)
  have hz3 := hb4.size
  clear hv4 hb4
  go_wp2_with fail
  refine (HFC.out sb sc w4 HS4.out).mono ?_
  rintro e w5 ⟨fb, fub, fuc, rfl, hfb, hfu, hcf, hb5⟩
  unfold codeV
  have hz4 := hb5.size
  have hz1 := B3.out.size
  have HCF := hid (hcf.bw ((Bw.refl w5).alloc (.cells #[.slice (some ⟨fb, 0, none⟩) 19 19, .slice (some ⟨fub, 0, none⟩) 19 fuc] 47)))
  have HS5 := hid ((HS4.out.bw hb5).bw ((Bw.refl w5).alloc (.cells #[.slice (some ⟨fb, 0, none⟩) 19 19, .slice (some ⟨fub, 0, none⟩) 19 fuc] 47)))
  have B5 := hid ((B4.out.trans hb5).alloc (.cells #[.slice (some ⟨fb, 0, none⟩) 19 19, .slice (some ⟨fub, 0, none⟩) 19 fuc] 47))
  have C5 := hid ((hb5.has C4.out).alloc (.cells #[.slice (some ⟨fb, 0, none⟩) 19 19, .slice (some ⟨fub, 0, none⟩) 19 fuc] 47))
  have D5 := hid (Has.new w5 47 #[.slice (some ⟨fb, 0, none⟩) 19 19, .slice (some ⟨fub, 0, none⟩) 19 fuc])
  have HSB := hid (show w.heap.size ≤ sb by have := HSB.out; omega)
  have HFB := hid (show w.heap.size ≤ fb ∧ w.heap.size ≤ fub ∧ w.heap.size ≤ w5.heap.size by omega)
  clear hcf hb5
  go_upto_block 0 with fail
  generalize w5.alloc (.cells #[.slice (some ⟨fb, 0, none⟩) 19 19, .slice (some ⟨fub, 0, none⟩) 19 fuc] 47) = W5 at *
  obtain ⟨cb, hcb⟩ : ∃ cb, w5.heap.size = cb := ⟨_, rfl⟩
  rw [hcb] at D5 HFB ⊢
  clear hcb hfb hfu hz3 hz4 hz1
  have HOR5 := hid (HOR.out.bw B5.out)
  have HGV := hid (show gvN Fl = trimGo (fun i => lenF Fl (dO i)) 4 19 from rfl)
  have hgl : gvN Fl ≤ 19 := trim_le _ 4 19
  have hgg : 4 ≤ gvN Fl := trim_ge _ 4 19 (by decide)
  generalize gvN Fl = gv at *
  go_cut [6] from 21 to 35 (fun v wx => v = .int .i64 gv ∧ Bw W5 wx)
  case first =>
    go_wp2_with fail
    go_loopw [6] (fun v wr => ∃ q : Nat, q ≤ 19 ∧ 4 ≤ q ∧ v = .int .i64 q ∧ Hid (trimGo (fun i => lenF Fl (dO i)) 4 q = gv) ∧ Bw W5 wr) (fun v _ => (intOf v).toNat)
    case atStart => exact ⟨19, Nat.le_refl _, by decide, rfl, hid HGV.out.symm, Bw.refl _⟩
    case round =>
      rename World => wr
      obtain ⟨q, hq19, hq4, rfl, HT, hbw⟩ := hrel
      have HB := hid hbw
      by_cases hlt : 4 < q
      · obtain ⟨p, rfl⟩ : ∃ p, q = p + 1 := ⟨q - 1, by omega⟩
        have c0 := (HOR5.out.bw hbw).2 p (by omega)
        have hop := dO_lt p
        have c1 := (HCF.out.bw hbw).lc (dO p) (by rw [HFL.out]; exact hop)
        have c2 := (hbw.has D5.out).cell 0
        have hgi : (4 : Int) < (p : Int) + 1 := by omega
        have hp19 : (p : Int) < 19 := by omega
        have hTT := HT.out
        rw [trimGo] at hTT
        have HTT := hid hTT
        generalize hlv : lenF Fl (dO p) = lv at *
        generalize dO p = o at *
        have ho19 : (o : Int) < 19 := by omega
        clear hbw hTT
        by_cases hz : lv = 0
        · have HT2 := hid (show trimGo (fun i => lenF Fl (dO i)) 4 p = gv from (if_pos ⟨hlt, hz⟩).symm.trans HTT.out)
          clear hlv
          subst hz
          go_wp2_with fail
          go_quiet (fail)
          go_wp2
          exact ⟨⟨p, by omega, by omega, rfl, hid HT2.out, HB.out.drewN _⟩, by simp [intOf]⟩
        · have hzd : (((lv : Nat) : Int) == 0) = false := by simp; omega
          have HTT := hid (show p + 1 = gv from (if_neg (fun h => hz h.2)).symm.trans HTT.out)
          have HGQ := hid (show ((p : Int) + 1) = (gv : Nat) by have := HTT.out; omega)
          clear hlv
          go_wp2_with fail
          go_quiet (fail)
          go_wp2
          go_meet
          case rel => exact ⟨congrArg (Value.int .i64) HGQ.out, HB.out.drewN _⟩
      · have hq : q = 4 := by omega
        have HGQ := hid (show q = gv by
          have h1 := HT.out
          rw [hq, trimGo, if_neg (by omega)] at h1
          omega)
        have hgi : decide ((4 : Int) < (q : Nat)) = false := decide_eq_false (by omega)
        clear hq
        go_wp2_with fail
        go_quiet (fail)
        go_wp2
        go_meet
        case rel => exact ⟨by rw [HGQ.out], HB.out.drewN _⟩
  case rest =>
    obtain ⟨rfl, hb6⟩ := hcut
    have hF6 : WrF F wc g k N := HWR.out.keep (G := fun _ => False) (.of_bw (B5.out.trans hb6)) fun _ _ h => h
    have hnew : ∀ b, w.heap.size ≤ b → ¬ F b := fun b hb hf => by have := HFw.out b hf; omega
    have HX := hid (hb6.has C5.out)
    have HDX := hid (hb6.has D5.out)
    have HCX := hid (HCF.out.bw hb6)
    have HSX := hid (HS5.out.bw hb6)
    have HOX := hid (HOR5.out.bw hb6)
    have HNEW := hid hnew
    have HP0 := hid (show WPost F g (k + pcK []) (N + pcN [] * 2 ^ k) wc wc by
      rw [show N + pcN [] * 2 ^ k = N by simp [pcN]]
      exact WPost.refl hF6)
    have HBC := hid (B5.out.trans hb6)
    have HAX := hid (show ∀ V k' N', WPost F g k' N' wc V → V.cell? ⟨w.heap.size, 0, none⟩ = some (.slice (some ⟨lb, 0, none⟩) len lc) ∧ V.cell? ⟨w.heap.size, 2, none⟩ = some (.slice (some ⟨lb2, 0, none⟩) len2 lc2) ∧ V.cell? ⟨cb, 0, none⟩ = some (.slice (some ⟨fb, 0, none⟩) 19 19) ∧ V.cell? ⟨cb, 1, none⟩ = some (.slice (some ⟨fub, 0, none⟩) 19 fuc) from fun V k' N' hp => by
      have h1 := hp.has HX.out (HNEW.out _ (Nat.le_refl _))
      have h2 := hp.has HDX.out (HNEW.out _ HFB.out.2.2)
      exact ⟨h1.cell 0, h1.cell 2, h2.cell 0, h2.cell 1⟩)
    have HAO := hid (show ∀ V k' N', WPost F g k' N' wc V → ∀ j, j < 19 → V.cell? ⟨0, j, none⟩ = some (.int .i64 (dO j : Nat)) ∧ V.cell? ⟨fb, j, none⟩ = some (.int .i64 (lenF Fl j : Nat)) from fun V k' N' hp j hj => by
      obtain ⟨F1, _, hk1, _⟩ := hp
      exact ⟨(World.cell?_of_block (hk1.block _ HOX.out.1 HNF.out.2.2.2.2)).trans (HOX.out.2 j hj), (World.cell?_of_block (hk1.block _ HCX.out.l1 (HNEW.out _ HFB.out.1))).trans (HCX.out.lc j (by rw [HFL.out]; exact hj))⟩)
    have e1 : ((len - 257 : Nat) : Int) = (len : Int) - 257 := by omega
    have e2 : ((len2 - 1 : Nat) : Int) = (len2 : Int) - 1 := by omega
    have e3 : ((gv - 4 : Nat) : Int) = (gv : Int) - 4 := by omega
    have HQ1 := hid (fun V hp => put_pc F g k N [] (by show k + 0 ≤ _; omega) (len - 257) 5 (by decide) (by show len - 257 < 32; omega) wc V hp)
    have HQ2 := hid (fun V hp => put_pc F g k N ([] ++ [(len - 257, 5)]) (by show k + (5 + 0) ≤ _; omega) (len2 - 1) 5 (by decide) (by show len2 - 1 < 32; omega) wc V hp)
    have HQ3 := hid (fun V hp => put_pc F g k N ([] ++ [(len - 257, 5)] ++ [(len2 - 1, 5)]) (by show k + (5 + (5 + 0)) ≤ _; omega) (gv - 4) 4 (by decide) (by show gv - 4 < 16; omega) wc V hp)
    rw [e1] at HQ1
    rw [e2] at HQ2
    rw [e3] at HQ3
    clear e1 e2 e3 hF6 hnew hb6
    have hpd : WPost F g _ _ wc wc.drew := HP0.out.bw ((Bw.refl wc).drewN 1)
    have x0 := (HAX.out wc.drew _ _ hpd).1
    have HPD := hid hpd
    clear hpd
    go_wp2_with fail
    generalize hwd : wc.drew = W6 at *
    go_still_tail 9, (by kernel_rfl)
    change wpList _ _ _ _ _ wc.drew
    rw [hwd]
    clear x0 hwd
    go_wp2_with fail
    refine (HQ1.out _ HPD.out).mono ?_
    rintro e w7 ⟨rfl, hp⟩
    have HP7 := hid hp
    clear hp HPD
    have hpd : WPost F g _ _ wc w7.drew := HP7.out.bw ((Bw.refl w7).drewN 1)
    have x0 := (HAX.out w7.drew _ _ hpd).2.1
    have HPD := hid hpd
    clear hpd
    go_wp2_with fail
    generalize hwd : w7.drew = W6 at *
    go_still_tail 9, (by kernel_rfl)
    change wpList _ _ _ _ _ w7.drew
    rw [hwd]
    clear x0 hwd
    go_wp2_with fail
    refine (HQ2.out _ HPD.out).mono ?_
    rintro e w8 ⟨rfl, hp⟩
    have HP8 := hid hp
    clear hp HPD
    go_wp2_with fail
    refine (HQ3.out _ HP8.out).mono ?_
    rintro e w9 ⟨rfl, hp⟩
    have HP9 := hid hp
    clear hp
    have HP9 := hid (show WPost F g (k + pcK ([(len - 257, 5), (len2 - 1, 5), (gv - 4, 4)] ++ gvP Fl 0)) (N + pcN ([(len - 257, 5), (len2 - 1, 5), (gv - 4, 4)] ++ gvP Fl 0) * 2 ^ k) wc w9 from HP9.out)
    have HQ := hid (fun P j (hj : j < gv) (hP : pcK P = 14) V hp => put_pc F g k N (P ++ gvP Fl j) (by rw [pcK_app, gvP_len]; omega) (lenF Fl (dO j)) 3 (by decide) (by have := HF7.out (dO j); show lenF Fl (dO j) < 8; omega) wc V hp)
    have hP3 : pcK [(len - 257, 5), (len2 - 1, 5), (gv - 4, 4)] = 14 := rfl
    have HP3 := hid hP3
    have HEND := hid (show ∀ P : List (Nat × Nat), P ++ gvP Fl gv ++ sqP Fl A n = P ++ gvP Fl gv ++ A.flatMap (symP Fl) from fun P => by rw [← HAN.out, sqP_all])
    generalize [(len - 257, 5), (len2 - 1, 5), (gv - 4, 4)] = P at *
    clear hP3 HQ1 HQ2 HQ3
    go_wp2_with fail
    go_loopw [7, 64] (fun _ i wr => ∃ j : Nat, j ≤ gv ∧ i = .int .i64 j ∧ WPost F g (k + pcK (P ++ gvP Fl j)) (N + pcN (P ++ gvP Fl j) * 2 ^ k) wc wr) (fun _ i _ => gv - (intOf i).toNat)
    case atStart => exact ⟨0, Nat.zero_le _, rfl, HP9.out⟩
    case round =>
      rename World => wr
      obtain ⟨j, hj, rfl, hp⟩ := hrel
      have HPR := hid hp
      clear hp
      by_cases hlt : j < gv
      · have hlti : (j : Int) < gv := by omega
        have hj19 : (j : Int) < 19 := by omega
        have HQJ := hid (fun V hp => HQ.out P j hlt HP3.out V hp)
        have hl7 := HF7.out (dO j)
        have ho := dO_lt j
        have HNX := hid (show P ++ gvP Fl j ++ [(lenF Fl (dO j), 3)] = P ++ gvP Fl (j + 1) by rw [gvP_succ, List.append_assoc])
        rw [HNX.out] at HQJ
        have hpd : WPost F g _ _ wc wr.drew := HPR.out.bw ((Bw.refl wr).drewN 1)
        have x0 := (HAX.out wr.drew _ _ hpd).2.2.1
        have x1 := (HAO.out wr.drew _ _ hpd j (by omega)).1
        have x2 := (HAO.out wr.drew _ _ hpd (dO j) ho).2
        have HPD := hid hpd
        clear hpd HNX
        generalize lenF Fl (dO j) = lv at *
        generalize dO j = o at *
        have hoi : (o : Int) < 19 := by omega
        go_wp2_with fail
        generalize hwd : wr.drew = W6 at *
        go_still_tail 11, (by kernel_rfl)
        change wpList _ _ _ _ _ wr.drew
        rw [hwd]
        clear x0 x1 x2 hwd
        go_wp2_with fail
        refine (HQJ.out _ HPD.out).mono ?_
        rintro e w10 ⟨rfl, hp⟩
        have HP10 := hid hp
        clear hp
        go_wp2
        go_roundw
        case rel => exact ⟨j + 1, by omega, by go_num, HP10.out⟩
        case measure => simp [intOf]; omega
      · obtain rfl : j = gv := by omega
        have HS0 := hid (show WPost F g (k + pcK (P ++ gvP Fl j ++ sqP Fl A 0)) (N + pcN (P ++ gvP Fl j ++ sqP Fl A 0) * 2 ^ k) wc wr by
          rw [show sqP Fl A 0 = [] from rfl, List.append_nil]; exact HPR.out)
        have HGL := hid (show pcK (P ++ gvP Fl j) ≤ 71 by rw [pcK_app, gvP_len, HP3.out]; omega)
        clear HQ HPR HP9
        have HEND2 := hid (HEND.out P)
        clear HEND
        generalize P ++ gvP Fl j = Q at *
        go_wp2_with fail
        go_loopw [82] (fun i wi => ∃ j : Nat, j ≤ n ∧ i = .int .i64 j ∧ WPost F g (k + pcK (Q ++ sqP Fl A j)) (N + pcN (Q ++ sqP Fl A j) * 2 ^ k) wc wi) (fun i _ => n - (intOf i).toNat)
        case atStart => exact ⟨0, Nat.zero_le _, rfl, HS0.out⟩
        case round =>
          rename World => wi
          obtain ⟨m, hm, rfl, hp⟩ := hrel
          by_cases hlt : m < n
          · have hlti : (m : Int) < n := by omega
            have hml : m < A.length := by rw [HAN.out]; exact hlt
            obtain ⟨hsb, s0, s1, s2⟩ := HSX.out m hml
            have hkeep : wi.heap[sb]? = wc.heap[sb]? := by
              obtain ⟨F1, _, hk1, _⟩ := hp
              exact hk1.block sb hsb (HNEW.out _ HSB.out)
            have y0 : wi.cell? ⟨sb, m * 3, none⟩ = _ := (World.cell?_of_block hkeep).trans s0
            have y1 : wi.cell? ⟨sb, m * 3 + 1, none⟩ = _ := (World.cell?_of_block hkeep).trans s1
            have y2 : wi.cell? ⟨sb, m * 3 + 2, none⟩ = _ := (World.cell?_of_block hkeep).trans s2
            have hso := HAOK.out A[m] (List.getElem_mem hml)
            have HSU := hid (sqP_succ Fl A m hml)
            have hsl := sqP_le HFI.out A HAOK.out m (by rw [HAN.out]; exact hm)
            generalize A[m] = s at *
            obtain ⟨yi, yx, ym⟩ := s
            obtain ⟨o1, o2, o3⟩ := hso
            simp only at o1 o2 o3 y0 y1 y2
            have HSY := hid (fun V hp => symbol_pc F g k N fb 19 fub fuc 19 Fl (Q ++ sqP Fl A m) HFI.out HFL.out yi yx ym o1 (by omega) o3 (by rw [pcK_app]; have := HGL.out; omega) wc V HCX.out (HNEW.out _ HFB.out.1) (HNEW.out _ HFB.out.2.1) hp)
            have HPW := hid (hp.bw ((Bw.refl wi).alloc (.cells #[.int .i64 yi, .int .i64 yx, .int .u32 ym] 116)))
            have x0 := (HAX.out _ _ _ HPW.out).2.2.1
            have x1 := (HAX.out _ _ _ HPW.out).2.2.2
            have HN := hid (Has.new wi 116 #[.int .i64 yi, .int .i64 yx, .int .u32 ym])
            have z0 := HN.out.cell 0
            have z1 := HN.out.cell 1
            have z2 := HN.out.cell 2
            clear hp hkeep s0 s1 s2 hsb o1 o2 o3 hsl hml
            go_wp2_with fail
            refine (HSY.out _ HPW.out).mono ?_
            rintro e w10 ⟨rfl, hp⟩
            have HP10 := hid hp
            clear hp
            go_wp2
            go_roundw
            case rel => exact ⟨m + 1, by omega, by go_num, by rw [HSU.out, ← List.append_assoc]; exact HP10.out⟩
            case measure => simp [intOf]; omega
          · obtain rfl : m = n := by omega
            have h5 := WPost.step (.of_bw HBC.out) (fun i hi => .inl hi) hp
            have h6 := HEND2.out
            rw [h6, HHL.out] at h5
            have H5 := hid h5
            clear h5 h6 hp
            go_wp2
            go_returns
            exact ⟨rfl, H5.out⟩
end Go.Proofs.YtkmbgkcpohchhaaGreatDoor
namespace Go.Proofs.YtkmbgkcpohchhaaGreatDoor
open Go.RowKit Go.Conc
set_option linter.unusedVariables false
def dynP (ts : List TokR) : List (Nat × Nat) := (5, 3) :: (hdrP (ownL ts) (ownD ts) ++ toksP (ownL ts) (ownD ts) ts)
set_option maxHeartbeats 1000000 in
theorem Dynamic_bad (a : Option Addr) (n cap : Nat) (hn : n ≤ 1000000) (ts : List TokR) (hts : Hid (ts.length = n)) (hok : costOk ts = false) (w : World) (hst : ToksAt w a ts) :
    Calls Tryz.prog 10 #[.slice a n cap] w fun e w' => e = .returned (.tuple #[.string ⟨#[]⟩, .int .i64 1]) ∧ Bw w w' := by
  have HV := hid (valid_any a n cap hn ts hts w hst)
  have hE : costE ts = 1 := by unfold costE; rw [hok]; rfl
  rw [hE] at HV
  clear hst hE
  go_enter Tryz.func10, Tryz.ntmps10
  go_wp2_with fail
  refine HV.out.mono ?_
  rintro e w2 ⟨rfl, hb⟩
  have HB := hid hb
  clear hb
  go_wp2
  go_returns
  exact ⟨rfl, HB.out⟩
theorem gvP_le (Fl : List Int) (j : Nat) (h : j ≤ 19) : pcK (gvP Fl j) ≤ 57 := by rw [gvP_len]; omega
theorem hdrP_le {L D : List Int} (hL : IsCode L) (hD : IsCode D) : pcK (hdrP L D) ≤ 18000 := by
  have h15 : ∀ x ∈ L ++ D, 0 ≤ x ∧ x ≤ 15 := fun x hx => by
    rcases List.mem_append.1 hx with hx | hx
    · exact hL.range x hx
    · exact hD.range x hx
  have h1 := hL.few
  have h2 := hD.few
  have h3 : (allP (L ++ D)).length ≤ 640 := by have := partsL_len (L ++ D) (L ++ D).length 0; rw [List.length_append] at this; unfold allP; rw [List.length_append]; omega
  have h4 := sqP_le (IsCode.of_check (fstL_check (allP (L ++ D)))) (allP (L ++ D)) (partsL_ok h15 _ _) _ (Nat.le_refl _)
  rw [sqP_all] at h4
  have h5 := gvP_le (fstL (allP (L ++ D))) (gvN (fstL (allP (L ++ D)))) (trim_le _ 4 19)
  unfold hdrP
  rw [pcK_app, pcK_app]
  have h6 : pcK (hdr3 L D) = 14 := rfl
  omega
set_option maxRecDepth 100000 in
set_option maxHeartbeats 4000000 in
theorem Dynamic_ok (a : Option Addr) (n cap : Nat) (hn : n ≤ 1000000) (ts : List TokR) (hts : Hid (ts.length = n)) (hok : costOk ts = true) (w : World) (hst : ToksAt w a ts) (hO : OrdAt w) :
    Calls Tryz.prog 10 #[.slice a n cap] w fun e w' => e = .returned (.tuple #[.string (outS (dynP ts)), .int .i64 0]) ∧ Bw w w' := by
  have HV := hid (valid_any a n cap hn ts hts w hst)
  have hE : costE ts = 0 := by unfold costE; rw [hok]; rfl
  rw [hE] at HV
  have HST := hid hst
  have hlit : ∀ t ∈ ts, t.lit < 256 := fun t ht => by
    obtain ⟨i, hi, rfl⟩ := List.getElem_of_mem ht
    obtain ⟨_, _, _, _, _, _, _, h⟩ := hst i hi
    exact h
  have HIN := hid (own_in hok hlit)
  have HOK := hid hok
  have hL := IsCode.of_check (ownL_check ts)
  have hD := IsCode.of_check (ownD_check ts)
  have hpl : pcK (toksP (ownL ts) (ownD ts) ts) ≤ 56 * n + 28 := by
    have h1 := toks_le hL hD ts hok hlit
    have h2 := symP_le hL (s := ⟨256, 0, 0⟩) (by decide)
    unfold toksP
    rw [pcK_app]
    rw [hts.out] at h1
    omega
  have hhl := hdrP_le hL hD
  have HOW := hid (fun W (h : Bw w W) => ownCodes_any a n cap hn ts hts hok W (hst.below h))
  have HL := hid hL
  have HD := hid hD
  have HLn := hid (ownL_len ts)
  have HDn := hid (ownD_len ts)
  obtain ⟨l1, l2⟩ := ownLn_ge ts
  obtain ⟨d1, d2⟩ := ownDn_ge ts
  have HE := hid (show strN (5 + pcN (hdrP (ownL ts) (ownD ts)) * 2 ^ 3 + pcN (toksP (ownL ts) (ownD ts) ts) * 2 ^ (3 + pcK (hdrP (ownL ts) (ownD ts)))) ((3 + pcK (hdrP (ownL ts) (ownD ts)) + pcK (toksP (ownL ts) (ownD ts) ts) + 7) / 8) = outS (dynP ts) from by
    unfold outS dynP
    rw [pcN_at, pcN, pcK, pcK_app, Nat.mul_comm (pcN _) (2 ^ 3), Nat.add_assoc 3 (pcK _) (pcK _)])
  have HOR := hid hO
  generalize ownL ts = L at *
  generalize ownD ts = D at *
  generalize ownLn ts = ln at *
  generalize ownDn ts = dn at *
  clear hst hE hlit hok hL hD hO
  go_enter Tryz.func10, Tryz.ntmps10
  go_wp2_with fail
  refine HV.out.mono ?_
  rintro e w1 ⟨rfl, hb⟩
  have HB1 := hid hb
  clear hb HV
  go_wp2_with fail
  refine (HOW.out w1 HB1.out).mono ?_
  rintro e w2 ⟨lb, ub, uc, lb2, ub2, uc2, rfl, hC, hb⟩
  have HC := hid hC
  have HB2 := hid (HB1.out.trans hb)
  clear hC hb HOW
  unfold codes4
  go_wp2_with fail
  have HCD := hid ((Has.new w2 49 #[.slice (some ⟨lb, 0, none⟩) ln 286, .slice (some ⟨ub, 0, none⟩) ln uc, .slice (some ⟨lb2, 0, none⟩) dn 30, .slice (some ⟨ub2, 0, none⟩) dn uc2]).alloc (.cells #[.int .i64 0, .slice none 0 0, .int .u8 0] 57))
  have HF := hid (WrF.fresh (Has.new (w2.alloc (.cells #[.slice (some ⟨lb, 0, none⟩) ln 286, .slice (some ⟨ub, 0, none⟩) ln uc, .slice (some ⟨lb2, 0, none⟩) dn 30, .slice (some ⟨ub2, 0, none⟩) dn uc2] 49)) 57 #[.int .i64 0, .slice none 0 0, .int .u8 0]))
  have HBW := hid (((Bw.refl w2).alloc (.cells #[.slice (some ⟨lb, 0, none⟩) ln 286, .slice (some ⟨ub, 0, none⟩) ln uc, .slice (some ⟨lb2, 0, none⟩) dn 30, .slice (some ⟨ub2, 0, none⟩) dn uc2] 49)).alloc (.cells #[.int .i64 0, .slice none 0 0, .int .u8 0] 57))
  have HZ3 := hid (show ((w2.alloc (.cells #[.slice (some ⟨lb, 0, none⟩) ln 286, .slice (some ⟨ub, 0, none⟩) ln uc, .slice (some ⟨lb2, 0, none⟩) dn 30, .slice (some ⟨ub2, 0, none⟩) dn uc2] 49)).alloc (.cells #[.int .i64 0, .slice none 0 0, .int .u8 0] 57)).heap.size = w2.heap.size + 2 by simp)
  rw [show (w2.alloc (.cells #[.slice (some ⟨lb, 0, none⟩) ln 286, .slice (some ⟨ub, 0, none⟩) ln uc, .slice (some ⟨lb2, 0, none⟩) dn 30, .slice (some ⟨ub2, 0, none⟩) dn uc2] 49)).heap.size = w2.heap.size + 1 by simp] at HF
  generalize (w2.alloc (.cells #[.slice (some ⟨lb, 0, none⟩) ln 286, .slice (some ⟨ub, 0, none⟩) ln uc, .slice (some ⟨lb2, 0, none⟩) dn 30, .slice (some ⟨ub2, 0, none⟩) dn uc2] 49)).alloc (.cells #[.int .i64 0, .slice none 0 0, .int .u8 0] 57) = W3 at *
  have hz2 := HB2.out.size
  obtain ⟨cb, hcb⟩ : ∃ cb, w2.heap.size = cb := ⟨_, rfl⟩
  rw [hcb] at HCD HF HZ3 hz2 ⊢
  have HCB := hid hcb
  clear hcb
  have HB3 := hid (HB2.out.trans HBW.out)
  have HZ := hid hz2
  have HCL := hid (HC.out.l.bw HBW.out)
  have HCR := hid (HC.out.d.bw HBW.out)
  have HNE := hid (show lb ≠ cb + 1 ∧ ub ≠ cb + 1 ∧ lb2 ≠ cb + 1 ∧ ub2 ≠ cb + 1 by
    have h1 := HC.out.l.l1
    have h2 := HC.out.l.u1
    have h3 := HC.out.d.l1
    have h4 := HC.out.d.u1
    have := HCB.out
    omega)
  have HNO := hid (show 0 ≠ cb + 1 by have := HOR.out.1; omega)
  have HT3 := hid (HST.out.below HB3.out)
  have HTA := hid (show ∀ b o, 0 < n → a = some ⟨b, o, none⟩ → b ≠ cb + 1 from fun b o hn0 ea => by
    obtain ⟨b', off', e', hl', _⟩ := HST.out 0 (by rw [hts.out]; exact hn0)
    have hlt : b < w.heap.size := by rw [ea] at e'; injection e' with e'; injection e' with e1; omega
    omega)
  have HO3 := hid (HOR.out.bw HB3.out)
  clear hz2
  refine (begin_any (· = cb + 1) (cb + 1) 0 0 (by decide) 2 (by decide) true W3 HF.out).mono ?_
  rintro e w4 ⟨rfl, h4⟩
  rw [show 0 + (lb1 true + 2 * 2) * 2 ^ 0 = 5 from rfl, show 0 + 3 = 3 from rfl] at h4
  have H4 := hid h4
  clear h4
  -- what a world behind has
  have HCC := hid (fun V k' N' (hp : WPost (· = cb + 1) (cb + 1) k' N' W3 V) => hp.has HCD.out (show ¬ cb = cb + 1 by omega))
  have HALL := hid (show ∀ V k' N', WPost (· = cb + 1) (cb + 1) k' N' W3 V → ∃ F', WrF F' V (cb + 1) k' N' ∧ Keeps (· = cb + 1) W3 V ∧ (∀ i, F' i → i = cb + 1 ∨ W3.heap.size ≤ i) ∧ CodeAt V lb ub L ∧ CodeAt V lb2 ub2 D ∧ OrdAt V ∧ ToksAt V a ts ∧ ¬ F' lb ∧ ¬ F' ub ∧ ¬ F' lb2 ∧ ¬ F' ub2 ∧ ¬ F' 0 ∧ ∀ b o, 0 < n → a = some ⟨b, o, none⟩ → ¬ F' b from fun V k' N' hp => by
    obtain ⟨F', h1, h2, h3⟩ := hp
    refine ⟨F', h1, h2, h3, HCL.out.keep h2 HNE.out.1 HNE.out.2.1, HCR.out.keep h2 HNE.out.2.2.1 HNE.out.2.2.2, HO3.out.block h2.size (h2.block _ HO3.out.1 HNO.out), fun i hi => ?_, WPost.more h3 HCL.out.l1 HNE.out.1, WPost.more h3 HCL.out.u1 HNE.out.2.1, WPost.more h3 HCR.out.l1 HNE.out.2.2.1, WPost.more h3 HCR.out.u1 HNE.out.2.2.2, WPost.more h3 HO3.out.1 HNO.out, fun b o hn0 ea => ?_⟩
    · obtain ⟨b, off, e, hl, q0, q1, q2, q3⟩ := HT3.out i hi
      have hbk := h2.block b hl (HTA.out b off (by have := hts.out; omega) e)
      exact ⟨b, off, e, Nat.lt_of_lt_of_le hl h2.size, (World.cell?_of_block hbk).trans q0, (World.cell?_of_block hbk).trans q1, (World.cell?_of_block hbk).trans q2, q3⟩
    · obtain ⟨b', off', e', hl', _⟩ := HT3.out 0 (by rw [hts.out]; exact hn0)
      have hlt : b < W3.heap.size := by rw [ea] at e'; injection e' with e'; injection e' with e1; omega
      exact WPost.more h3 hlt (HTA.out b o hn0 ea))
  have c0 := (HCC.out _ _ _ H4.out).cell 0
  have c1 := (HCC.out _ _ _ H4.out).cell 1
  have c2 := (HCC.out _ _ _ H4.out).cell 2
  have c3 := (HCC.out _ _ _ H4.out).cell 3
  go_wp2_with fail
  clear c0 c1 c2 c3
  obtain ⟨F4, k1, k2, k3, k4, k5, k6, k7, n1, n2, n3, n4, n5, n6⟩ := HALL.out _ _ _ H4.out
  refine (header_any F4 (cb + 1) 3 5 lb 286 ub uc ln lb2 30 ub2 uc2 dn L D HL.out HD.out HLn HDn l1 l2 d1 d2 (by decide) w4 k1 k4 k5 n1 n2 n3 n4 k6 n5).mono ?_
  rintro e w5 ⟨rfl, h5⟩
  have H5 := hid (WPost.step k2 k3 h5)
  clear k1 k2 k3 k4 k5 k6 k7 n1 n2 n3 n4 n5 n6 h5
  have c0 := (HCC.out _ _ _ H5.out).cell 0
  have c1 := (HCC.out _ _ _ H5.out).cell 1
  have c2 := (HCC.out _ _ _ H5.out).cell 2
  have c3 := (HCC.out _ _ _ H5.out).cell 3
  go_wp2_with fail
  clear c0 c1 c2 c3
  obtain ⟨F5, k1, k2, k3, k4, k5, k6, k7, n1, n2, n3, n4, n5, n6⟩ := HALL.out _ _ _ H5.out
  refine (tokens_any F5 (cb + 1) _ _ lb 286 ub uc ln lb2 30 ub2 uc2 dn L D HL.out HD.out HLn HDn (by omega) a n cap ts hts hn HOK.out HIN.out (by omega) w5 k1 k4 k5 n1 n2 n3 n4 k7 n6).mono ?_
  rintro e w6 ⟨rfl, h6⟩
  obtain ⟨F6, m1, m2, m3⟩ := WPost.step k2 k3 h6
  have HWS := hid (wstr_any F6 (cb + 1) _ _ (by omega) w6 m1)
  have HB6 := hid (show Bw w w6 from Below.trans HB3.out (m2.below (B := w.heap.size) (by have := HZ.out; have := HZ3.out; omega) (fun i (hi : i = cb + 1) => by have := HZ.out; omega)))
  clear k1 k2 k3 k4 k5 k6 k7 n1 n2 n3 n4 n5 n6 h6 m1 m2 m3
  go_wp2_with fail
  refine HWS.out.mono ?_
  rintro e w7 ⟨rfl, hb7⟩
  rw [HE.out]
  have HB7 := hid (HB6.out.trans hb7)
  clear hb7
  go_wp2
  go_returns
  exact ⟨rfl, HB7.out⟩
end Go.Proofs.YtkmbgkcpohchhaaGreatDoor
