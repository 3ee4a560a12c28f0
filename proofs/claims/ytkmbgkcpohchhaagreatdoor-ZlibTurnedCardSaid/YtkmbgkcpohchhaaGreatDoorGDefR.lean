import Derived.Test.YtkmbgkcpohchhaaGreatDoorGTokKit
import Derived.Test.YtkmbgkcpohchhaaGreatDoorGDefN
import Derived.Test.YtkmbgkcpohchhaaGreatDoorGHufLeT
import Derived.Deep.RegionWith
import Derived.IntWalk
import Derived.Deep.QuietTactic
import Derived.BigQuiet
import Derived.Deep.CutBlock
import Derived.Deep.CutRange
namespace Go.Proofs.YtkmbgkcpohchhaaGreatDoor
open Go.RowKit Go.Conc
set_option linter.unusedVariables false
set_option maxHeartbeats 1000000 in
theorem valid_any (a : Option Addr) (len cap : Nat) (hlen : len ≤ 1000000) (l : List TokR) (hll : Hid (l.length = len)) (w : World) (hst : ToksAt w a l) :
    Calls Tryz.prog 26 #[.slice a len cap] w fun e w' => e = .returned (.int .i64 (costE l)) ∧ Bw w w' := by
  have HC := hid (cost_any a len cap hlen l hll w hst)
  clear hst
  generalize costE l = ce at *
  go_enter Tryz.func26, Tryz.ntmps26
  go_wp2_with fail
  refine HC.out.mono ?_
  rintro e w2 ⟨rfl, hb⟩
  have HB := hid hb
  clear hb
  go_wp2
  go_returns
  exact ⟨rfl, HB.out⟩
def fixP (ts : List TokR) : List (Nat × Nat) := (3, 3) :: toksP fixLL fixDD ts
def outS (p : List (Nat × Nat)) : ByteArray := strN (pcN p) ((pcK p + 7) / 8)
theorem fix_in (t : TokR) (h : tokOk t = true) (hl : t.lit < 256) : TokIn 288 32 t := by
  refine ⟨by have := (litY_ok h hl).1; omega, fun hb => ?_⟩
  have hm : isM t = true := by simpa [tokOk, hb] using h
  have := (dstY_ok hm).1
  omega
theorem WrF.lt {F : Nat → Prop} {w : World} {g k N : Nat} (h : WrF F w g k N) {i : Nat} (hi : F i) : i < w.heap.size := by
  obtain ⟨_, _, _, _, _, h5⟩ := h
  exact h5 i hi
set_option maxRecDepth 100000 in
set_option maxHeartbeats 4000000 in
theorem Fixed_ok (a : Option Addr) (n cap : Nat) (hn : n ≤ 1000000) (ts : List TokR) (hts : Hid (ts.length = n)) (hok : costOk ts = true) (w : World) (hst : ToksAt w a ts) :
    Calls Tryz.prog 24 #[.slice a n cap] w fun e w' => e = .returned (.tuple #[.string (outS (fixP ts)), .int .i64 0]) ∧ Bw w w' := by
  have HV := hid (valid_any a n cap hn ts hts w hst)
  have hE : costE ts = 0 := by unfold costE; rw [hok]; rfl
  rw [hE] at HV
  have HST := hid hst
  have hlit : ∀ t ∈ ts, t.lit < 256 := fun t ht => by
    obtain ⟨i, hi, rfl⟩ := List.getElem_of_mem ht
    obtain ⟨_, _, _, _, _, _, _, h⟩ := hst i hi
    exact h
  have hoks : ∀ t ∈ ts, tokOk t = true := List.all_eq_true.1 hok
  have HIN := hid (fun t (ht : t ∈ ts) => fix_in t (hoks t ht) (hlit t ht))
  have HOK := hid hok
  have hpl : pcK (toksP fixLL fixDD ts) ≤ 56 * n + 28 := by
    have h1 := toks_le (IsCode.of_check fixLL_check) (IsCode.of_check fixDD_check) ts hok hlit
    have h2 := symP_le (IsCode.of_check fixLL_check) (s := ⟨256, 0, 0⟩) (by decide)
    unfold toksP
    rw [pcK_app]
    rw [hts.out] at h1
    omega
  clear hst hE hlit hoks hok
  go_enter Tryz.func24, Tryz.ntmps24
  go_wp2_with fail
  refine HV.out.mono ?_
  rintro e w1 ⟨rfl, hb⟩
  have HB1 := hid hb
  clear hb HV
  go_wp2_with fail
  have HF := hid (WrF.fresh (Has.new w1 57 #[.int .i64 0, .slice none 0 0, .int .u8 0]))
  have HB2 := hid (HB1.out.alloc (.cells #[.int .i64 0, .slice none 0 0, .int .u8 0] 57))
  have HZ2 := hid (show (w1.alloc (.cells #[.int .i64 0, .slice none 0 0, .int .u8 0] 57)).heap.size = w1.heap.size + 1 by simp)
  generalize w1.alloc (.cells #[.int .i64 0, .slice none 0 0, .int .u8 0] 57) = W2 at *
  have HZ1 := hid HB1.out.size
  obtain ⟨g, hg⟩ : ∃ g, w1.heap.size = g := ⟨_, rfl⟩
  rw [hg] at HF HZ2 HZ1 ⊢
  clear hg
  refine (begin_any (· = g) g 0 0 (by decide) 1 (by decide) true W2 HF.out).mono ?_
  rintro e w3 ⟨rfl, F3, h3, k3, f3⟩
  rw [show 0 + (lb1 true + 2 * 1) * 2 ^ 0 = 3 from rfl] at h3
  have H3 := hid h3
  have K3 := hid k3
  have FF3 := hid f3
  clear h3 k3 f3
  go_wp2_with fail
  refine (fixedCodes_any w3).mono ?_
  rintro e w4 ⟨lb, ub, uc, lb2, ub2, uc2, rfl, hC, hb4⟩
  have HC := hid hC
  have HB4 := hid hb4
  clear hC hb4
  have hW : WrF F3 w4 g 3 3 := H3.out.keep (G := fun _ => False) (.of_bw HB4.out) fun _ _ h => h
  have hnF : ∀ b, w3.heap.size ≤ b → ¬ F3 b := fun b h1 h2 => by have := H3.out.lt h2; omega
  have hK24 : Keeps (· = g) W2 w4 := K3.out.trans (.of_bw HB4.out)
  have hT : ToksAt w4 a ts := fun i hi => by
    obtain ⟨b, off, e, hl, q0, q1, q2, q3⟩ := (HST.out.below HB2.out) i hi
    obtain ⟨b', off', e', hl', _⟩ := HST.out i hi
    have : b < w.heap.size := by rw [e] at e'; injection e' with e'; injection e' with e1; omega
    have hbk := hK24.block b hl (by show ¬ b = g; have := HZ1.out; omega)
    exact ⟨b, off, e, Nat.lt_of_lt_of_le hl hK24.size, (World.cell?_of_block hbk).trans q0, (World.cell?_of_block hbk).trans q1, (World.cell?_of_block hbk).trans q2, q3⟩
  have hfa : ∀ b o, 0 < n → a = some ⟨b, o, none⟩ → ¬ F3 b := fun b o hn0 ea hF => by
    obtain ⟨b', off', e', hl', _⟩ := HST.out 0 (by rw [hts.out]; exact hn0)
    have hlt : b < w.heap.size := by rw [ea] at e'; injection e' with e'; injection e' with e1; omega
    rcases FF3.out b hF with h | h
    · have := HZ1.out; have h : b = g := h; omega
    · have := HZ1.out; have := HZ2.out; omega
  have hT2 := tokens_any F3 g 3 3 lb 288 ub uc 288 lb2 32 ub2 uc2 32 fixLL fixDD (IsCode.of_check fixLL_check) (IsCode.of_check fixDD_check) (hid fixLL_len) (hid fixDD_len) (by decide) a n cap ts hts hn HOK.out HIN.out (by decide) w4 hW HC.out.l HC.out.d (hnF _ HC.out.new.1) (hnF _ HC.out.new.2.1) (hnF _ HC.out.new.2.2.1) (hnF _ HC.out.new.2.2.2) hT hfa
  have HT2 := hid hT2
  clear hW hnF hT hfa hT2
  have HK24 := hid hK24
  clear hK24
  unfold codes4
  go_wp2_with fail
  refine HT2.out.mono ?_
  rintro e w5 ⟨rfl, h5⟩
  obtain ⟨F5, h5, k5, f5⟩ := WPost.step HK24.out FF3.out h5
  have HWS := hid (wstr_any F5 g _ _ (by omega) w5 h5)
  have HE := hid (show strN (3 + pcN (toksP fixLL fixDD ts) * 2 ^ 3) ((3 + pcK (toksP fixLL fixDD ts) + 7) / 8) = outS (fixP ts) from by
    unfold outS fixP
    rw [pcN, pcK, Nat.mul_comm])
  have HB5 := hid (show Bw w w5 from Below.trans HB2.out (k5.below (B := w.heap.size) (by have := HZ1.out; have := HZ2.out; omega) (fun i (hi : i = g) => by have := HZ1.out; omega)))
  have hF5 : F5 g := by obtain ⟨_, h, _⟩ := h5; exact h
  clear h5 k5 f5
  go_wp2_with fail
  refine HWS.out.mono ?_
  rintro e w6 ⟨rfl, hb6⟩
  rw [HE.out]
  have HB6 := hid (HB5.out.trans hb6)
  clear hb6
  go_wp2
  go_returns
  exact ⟨rfl, HB6.out⟩
end Go.Proofs.YtkmbgkcpohchhaaGreatDoor
namespace Go.Proofs.YtkmbgkcpohchhaaGreatDoor
open Go.RowKit Go.Conc
set_option linter.unusedVariables false
def arrN (n : Nat) (f : Nat → Nat) : Array Value := ((List.range n).map fun j => Value.int .i64 ((f j : Nat) : Int)).toArray
theorem arrN_get {n : Nat} (f : Nat → Nat) {j : Nat} (h : j < n) : (arrN n f)[j]? = some (.int .i64 ((f j : Nat) : Int)) := by simp [arrN, h]
theorem arrN_set (n : Nat) (f : Nat → Nat) (k v : Nat) : (arrN n f).setIfInBounds k (.int .i64 ((v : Nat) : Int)) = arrN n fun j => if j = k then v else f j := by
  apply Array.ext_getElem?
  intro j
  rw [Array.getElem?_setIfInBounds]
  by_cases hj : j < n
  · rw [arrN_get _ hj]
    by_cases e : k = j
    · subst e; simp [arrN, hj]
    · rw [if_neg e, arrN_get _ hj, if_neg (fun h => e h.symm)]
  · have h1 : (arrN n f)[j]? = none := by simp [arrN]; omega
    have h2 : (arrN n fun j => if j = k then v else f j)[j]? = none := by simp [arrN]; omega
    rw [h1, h2]
    by_cases e : k = j
    · subst e; simp [arrN, hj]
    · rw [if_neg e]
theorem arrN_congr {n : Nat} {f g : Nat → Nat} (h : ∀ j, j < n → f j = g j) : arrN n f = arrN n g := by
  unfold arrN
  congr 1
  apply List.map_congr_left
  intro j hj
  rw [h j (List.mem_range.1 hj)]

def litQ (ts : List TokR) (j i : Nat) : Nat := (ts.take j).countP fun t => decide ((litY t).idx = i)
def dstQ (ts : List TokR) (j i : Nat) : Nat := (ts.take j).countP fun t => !isB t && decide ((dstY t).idx = i)
theorem litQ_succ {ts : List TokR} {j : Nat} (h : j < ts.length) (i : Nat) : litQ ts (j + 1) i = litQ ts j i + if (litY ts[j]).idx = i then 1 else 0 := by
  unfold litQ
  rw [List.take_succ_eq_append_getElem h, List.countP_append, List.countP_singleton]
  simp
theorem dstQ_succ {ts : List TokR} {j : Nat} (h : j < ts.length) (i : Nat) : dstQ ts (j + 1) i = dstQ ts j i + if isB ts[j] = false ∧ (dstY ts[j]).idx = i then 1 else 0 := by
  unfold dstQ
  rw [List.take_succ_eq_append_getElem h, List.countP_append, List.countP_singleton]
  simp
theorem litQ_le (ts : List TokR) (j i : Nat) : litQ ts j i ≤ j := by
  unfold litQ
  exact Nat.le_trans List.countP_le_length (List.length_take_le _ _)
theorem dstQ_le (ts : List TokR) (j i : Nat) : dstQ ts j i ≤ j := by
  unfold dstQ
  exact Nat.le_trans List.countP_le_length (List.length_take_le _ _)
def litO (ts : List TokR) (i : Nat) : Nat := litQ ts ts.length i + if i = 256 then 1 else 0
def dstO (ts : List TokR) (i : Nat) : Nat := dstQ ts ts.length i
def ownL (ts : List TokR) : List Int := bestL (natL (litO ts) 286) 286 15 257
def ownD (ts : List TokR) : List Int := bestL (natL (dstO ts) 30) 30 15 1
def ownLn (ts : List TokR) : Nat := bestN (natL (litO ts) 286) 286 15 257
def ownDn (ts : List TokR) : Nat := bestN (natL (dstO ts) 30) 30 15 1
theorem lv_few (l : List Int) (n m : Nat) (h : n ≤ 2 ^ m) : (lvM l n).length ≤ 2 ^ m := Nat.le_trans (lvM_len l n) h
theorem ownL_check (ts : List TokR) : checkE (ownL ts) = 0 := best_check 257 (by decide) (by decide) (by decide) (lv_few _ 286 15 (by decide))
theorem ownD_check (ts : List TokR) : checkE (ownD ts) = 0 := best_check 1 (by decide) (by decide) (by decide) (lv_few _ 30 15 (by decide))
theorem ownL_len (ts : List TokR) : (ownL ts).length = ownLn ts := natL_len _ _
theorem ownD_len (ts : List TokR) : (ownD ts).length = ownDn ts := natL_len _ _
theorem ownLn_ge (ts : List TokR) : 257 ≤ ownLn ts ∧ ownLn ts ≤ 286 := ⟨trim_ge _ 257 286 (by decide), trim_le _ 257 286⟩
theorem ownDn_ge (ts : List TokR) : 1 ≤ ownDn ts ∧ ownDn ts ≤ 30 := ⟨trim_ge _ 1 30 (by decide), trim_le _ 1 30⟩
theorem many_pos {f : Nat → Nat} {n most i : Nat} (hm1 : 1 ≤ most) (hm : most ≤ 15) (hp : n ≤ 2 ^ most) (hi : i < n) (h : 0 < f i) : 1 ≤ manyF (natL f n) n most i :=
  ((many_ok hm1 hm (lv_few (natL f n) n most hp)).1 i hi (by rw [natL_get f n i hi]; omega)).1
theorem best_in {f : Nat → Nat} {n most least i : Nat} (hm1 : 1 ≤ most) (hm : most ≤ 15) (hp : n ≤ 2 ^ most) (hi : i < n) (h : 0 < f i) : i < bestN (natL f n) n most least := by
  rcases Nat.lt_or_ge i (bestN (natL f n) n most least) with h1 | h1
  · exact h1
  · have h2 := trim_zero _ _ _ i h1 hi
    have h3 := many_pos hm1 hm hp hi h
    omega
theorem litO_pos {ts : List TokR} {t : TokR} (h : t ∈ ts) : 0 < litO ts (litY t).idx := by
  unfold litO litQ
  rw [List.take_length]
  have : 0 < ts.countP fun x => decide ((litY x).idx = (litY t).idx) := List.countP_pos_iff.2 ⟨t, h, by simp⟩
  omega
theorem dstO_pos {ts : List TokR} {t : TokR} (h : t ∈ ts) (hb : isB t = false) : 0 < dstO ts (dstY t).idx := by
  unfold dstO dstQ
  rw [List.take_length]
  exact List.countP_pos_iff.2 ⟨t, h, by simp [hb]⟩
theorem own_in {ts : List TokR} (hok : costOk ts = true) (hl : ∀ t ∈ ts, t.lit < 256) : ∀ t ∈ ts, TokIn (ownLn ts) (ownDn ts) t := fun t ht => by
  have h1 := List.all_eq_true.1 hok t ht
  refine ⟨best_in (by decide) (by decide) (by decide) (litY_ok h1 (hl t ht)).1 (litO_pos ht), fun hb => ?_⟩
  have hm : isM t = true := by simpa [tokOk, hb] using h1
  exact best_in (by decide) (by decide) (by decide) (dstY_ok hm).1 (dstO_pos ht hb)
set_option maxRecDepth 100000 in
theorem zero286 : Tryz.zeroCells113 = arrN 286 fun _ => 0 := by kernel_rfl
set_option maxRecDepth 100000 in
theorem zero30 : (#[.int .i64 0, .int .i64 0, .int .i64 0, .int .i64 0, .int .i64 0, .int .i64 0, .int .i64 0, .int .i64 0, .int .i64 0, .int .i64 0, .int .i64 0, .int .i64 0, .int .i64 0, .int .i64 0, .int .i64 0, .int .i64 0, .int .i64 0, .int .i64 0, .int .i64 0, .int .i64 0, .int .i64 0, .int .i64 0, .int .i64 0, .int .i64 0, .int .i64 0, .int .i64 0, .int .i64 0, .int .i64 0, .int .i64 0, .int .i64 0] : Array Value) = arrN 30 fun _ => 0 := by kernel_rfl
theorem arr_zs {w : World} {b n : Nat} {t : TypeId} {f : Nat → Nat} (h : Has w b t (arrN n f)) : ZsAt w (some ⟨b, 0, none⟩) (natL f n) := zs_many h (Nat.le_refl n)
set_option maxRecDepth 100000 in
set_option maxHeartbeats 4000000 in
theorem ownCodes_any (a : Option Addr) (n cap : Nat) (hn : n ≤ 1000000) (ts : List TokR) (hts : Hid (ts.length = n)) (hok : costOk ts = true) (w : World) (hst : ToksAt w a ts) :
    Calls Tryz.prog 27 #[.slice a n cap] w fun e w' => ∃ lb ub uc lb2 ub2 uc2, e = .returned (codes4 lb 286 ub uc (ownLn ts) lb2 30 ub2 uc2 (ownDn ts)) ∧ Codes2 w w' lb ub lb2 ub2 (ownL ts) (ownD ts) ∧ Bw w w' := by
  have HOK := hid (show ∀ t ∈ ts, tokOk t = true from List.all_eq_true.1 hok)
  have HST := hid hst
  have hfd : ∀ (x y z : Value) (W : World), (Instr.field 116 (.agg #[x, y, z]) 0).run Tryz.prog W = .ok x W := fun _ _ _ _ => by kernel_rfl
  clear hok hst
  go_enter Tryz.func27, Tryz.ntmps27
  go_wp2_with fail
  have HN := hid (((Has.new w 49 #[.slice none 0 0, .slice none 0 0, .slice none 0 0, .slice none 0 0]).alloc (.cells Tryz.zeroCells113 113)).alloc (.cells #[.int .i64 0, .int .i64 0, .int .i64 0, .int .i64 0, .int .i64 0, .int .i64 0, .int .i64 0, .int .i64 0, .int .i64 0, .int .i64 0, .int .i64 0, .int .i64 0, .int .i64 0, .int .i64 0, .int .i64 0, .int .i64 0, .int .i64 0, .int .i64 0, .int .i64 0, .int .i64 0, .int .i64 0, .int .i64 0, .int .i64 0, .int .i64 0, .int .i64 0, .int .i64 0, .int .i64 0, .int .i64 0, .int .i64 0, .int .i64 0] 114))
  have HA := hid ((Has.new (w.alloc (.cells #[.slice none 0 0, .slice none 0 0, .slice none 0 0, .slice none 0 0] 49)) 113 Tryz.zeroCells113).alloc (.cells #[.int .i64 0, .int .i64 0, .int .i64 0, .int .i64 0, .int .i64 0, .int .i64 0, .int .i64 0, .int .i64 0, .int .i64 0, .int .i64 0, .int .i64 0, .int .i64 0, .int .i64 0, .int .i64 0, .int .i64 0, .int .i64 0, .int .i64 0, .int .i64 0, .int .i64 0, .int .i64 0, .int .i64 0, .int .i64 0, .int .i64 0, .int .i64 0, .int .i64 0, .int .i64 0, .int .i64 0, .int .i64 0, .int .i64 0, .int .i64 0] 114))
  have HD := hid (Has.new ((w.alloc (.cells #[.slice none 0 0, .slice none 0 0, .slice none 0 0, .slice none 0 0] 49)).alloc (.cells Tryz.zeroCells113 113)) 114 #[.int .i64 0, .int .i64 0, .int .i64 0, .int .i64 0, .int .i64 0, .int .i64 0, .int .i64 0, .int .i64 0, .int .i64 0, .int .i64 0, .int .i64 0, .int .i64 0, .int .i64 0, .int .i64 0, .int .i64 0, .int .i64 0, .int .i64 0, .int .i64 0, .int .i64 0, .int .i64 0, .int .i64 0, .int .i64 0, .int .i64 0, .int .i64 0, .int .i64 0, .int .i64 0, .int .i64 0, .int .i64 0, .int .i64 0, .int .i64 0])
  have HB := hid ((((Bw.refl w).alloc (.cells #[.slice none 0 0, .slice none 0 0, .slice none 0 0, .slice none 0 0] 49)).alloc (.cells Tryz.zeroCells113 113)).alloc (.cells #[.int .i64 0, .int .i64 0, .int .i64 0, .int .i64 0, .int .i64 0, .int .i64 0, .int .i64 0, .int .i64 0, .int .i64 0, .int .i64 0, .int .i64 0, .int .i64 0, .int .i64 0, .int .i64 0, .int .i64 0, .int .i64 0, .int .i64 0, .int .i64 0, .int .i64 0, .int .i64 0, .int .i64 0, .int .i64 0, .int .i64 0, .int .i64 0, .int .i64 0, .int .i64 0, .int .i64 0, .int .i64 0, .int .i64 0, .int .i64 0] 114))
  rw [show (w.alloc (.cells #[.slice none 0 0, .slice none 0 0, .slice none 0 0, .slice none 0 0] 49)).heap.size = w.heap.size + 1 by simp] at HA
  rw [show ((w.alloc (.cells #[.slice none 0 0, .slice none 0 0, .slice none 0 0, .slice none 0 0] 49)).alloc (.cells Tryz.zeroCells113 113)).heap.size = w.heap.size + 2 by simp] at HD
  generalize ((w.alloc (.cells #[.slice none 0 0, .slice none 0 0, .slice none 0 0, .slice none 0 0] 49)).alloc (.cells Tryz.zeroCells113 113)).alloc (.cells #[.int .i64 0, .int .i64 0, .int .i64 0, .int .i64 0, .int .i64 0, .int .i64 0, .int .i64 0, .int .i64 0, .int .i64 0, .int .i64 0, .int .i64 0, .int .i64 0, .int .i64 0, .int .i64 0, .int .i64 0, .int .i64 0, .int .i64 0, .int .i64 0, .int .i64 0, .int .i64 0, .int .i64 0, .int .i64 0, .int .i64 0, .int .i64 0, .int .i64 0, .int .i64 0, .int .i64 0, .int .i64 0, .int .i64 0, .int .i64 0] 114) = W3 at *
  rw [zero286] at HA
  rw [zero30] at HD
  obtain ⟨nb, hnb⟩ : ∃ nb, w.heap.size = nb := ⟨_, rfl⟩
  rw [hnb] at HN HA HD ⊢
  have HNB := hid hnb
  clear hnb
  have HD : Hid (Has W3 (nb + 1 + 1) 114 (arrN 30 fun _ => 0)) := HD
  obtain ⟨db, hdb⟩ : ∃ db, nb + 1 + 1 = db := ⟨_, rfl⟩
  rw [hdb] at HD ⊢
  have HDB := hid hdb
  clear hdb
  go_loopw [9] (fun i wr => ∃ j : Nat, j ≤ n ∧ i = .int .i64 j ∧ Bw w wr ∧ Has wr nb 49 #[.slice none 0 0, .slice none 0 0, .slice none 0 0, .slice none 0 0] ∧ Has wr (nb + 1) 113 (arrN 286 (litQ ts j)) ∧ Has wr db 114 (arrN 30 (dstQ ts j))) (fun i _ => n - (intOf i).toNat)
  case atStart => exact ⟨0, Nat.zero_le _, rfl, HB.out, HN.out, HA.out, HD.out⟩
  case round =>
    rename World => wr
    obtain ⟨j, hj, rfl, hb, hn4, ha4, hd4⟩ := hrel
    have HB4 := hid hb
    have HN4 := hid hn4
    have HA4 := hid ha4
    have HD4 := hid hd4
    have hnl := hn4.lt
    have hal := ha4.lt
    have hdl := hd4.lt
    by_cases hlt : j < n
    · have hlti : (j : Int) < n := by omega
      have hjl : j < ts.length := by rw [hts.out]; exact hlt
      obtain ⟨ab, aoff, rfl, hab, c0, c1, c2, hv⟩ := HST.out.below hb j hjl
      have htok := HOK.out ts[j] (List.getElem_mem hjl)
      have HLS := hid (litQ_succ hjl)
      have HDS := hid (dstQ_succ hjl)
      have HQL := hid (litQ_le ts j)
      have HQD := hid (dstQ_le ts j)
      clear hb hn4 ha4 hd4
      generalize ts[j] = t at *
      generalize litQ ts j = f at *
      generalize dstQ ts j = q at *
      have HLI := hid (fun W => literal_ok t htok hv W)
      have HDI := hid (fun (hm : isM t = true) W => distance_ok t hm W)
      obtain ⟨l1, l2, l3⟩ := litY_ok htok hv
      have HDY := hid (fun (hm : isM t = true) => (dstY_ok hm).1)
      have HMB := hid htok
      obtain ⟨yi, yx, ym, hY⟩ : ∃ i x m, litY t = ⟨i, x, m⟩ := ⟨_, _, _, rfl⟩
      obtain ⟨zi, zx, zm, hZ⟩ : ∃ i x m, dstY t = ⟨i, x, m⟩ := ⟨_, _, _, rfl⟩
      rw [hY] at l1 HLI HLS
      rw [hZ] at HDI HDY HDS
      simp only at l1
      obtain ⟨x0, x1, x2⟩ := t
      clear hY hZ l2 l3 htok hv hjl
      have hfy := HQL.out yi
      have HU := hid (show Bw wr (wr.alloc (.cells #[.int .u8 x0, .int .i64 x1, .int .i64 x2] 29)) from (Bw.refl wr).alloc _)
      have HT5 := hid (Has.new wr 29 #[.int .u8 x0, .int .i64 x1, .int .i64 x2])
      have hyii : (yi : Int) < 286 := by omega
      generalize hfv : f yi = fv at *
      go_wp2_with fail
      refine (HLI.out _).mono ?_
      rintro e w5 ⟨rfl, hb5⟩
      have HU5 := hid (HU.out.trans hb5)
      have HT6 := hid (hb5.has HT5.out)
      have HA5 := hid (HU5.out.has HA4.out)
      have c5 : w5.cell? ⟨nb + 1, yi, none⟩ = some (.int .i64 (fv : Nat)) := by rw [HA5.out.cell yi, arrN_get f l1, hfv]
      have f5 := HA5.out.frozen yi
      have ev : ((fv : Nat) : Int) + 1 = ((fv + 1 : Nat) : Int) := by omega
      have HA6 := hid (HA5.out.put yi (.int .i64 ((fv + 1 : Nat) : Int)))
      rw [arrN_set] at HA6
      have HD6 := hid ((HU5.out.has HD4.out).far (p := ⟨nb + 1, yi, none⟩) (show db ≠ nb + 1 by have := HDB.out; omega) (.int .i64 ((fv + 1 : Nat) : Int)))
      have HN6 := hid ((HU5.out.has HN4.out).far (p := ⟨nb + 1, yi, none⟩) (show nb ≠ nb + 1 by omega) (.int .i64 ((fv + 1 : Nat) : Int)))
      have HT7 := hid (HT6.out.far (p := ⟨nb + 1, yi, none⟩) (show wr.heap.size ≠ nb + 1 by omega) (.int .i64 ((fv + 1 : Nat) : Int)))
      have HB6 := hid (Below.setCell (HB4.out.trans HU5.out) (p := ⟨nb + 1, yi, none⟩) (show w.heap.size ≤ nb + 1 by have := HNB.out; omega) (.int .i64 ((fv + 1 : Nat) : Int)))
      have HEL := hid (show arrN 286 (fun i => if i = yi then fv + 1 else f i) = arrN 286 (litQ ts (j + 1)) from arrN_congr fun i _ => by
        rw [HLS.out]
        by_cases e : i = yi
        · rw [if_pos e, if_pos e.symm, e, hfv]
        · rw [if_neg e, if_neg (fun h => e h.symm)]; rfl)
      rw [HEL.out] at HA6
      clear hb5
      have x6 : (w5.setCell ⟨nb + 1, yi, none⟩ (.int .i64 ((fv + 1 : Nat) : Int))).cell? ⟨wr.heap.size, 2, none⟩ = some (.int .i64 x2) := HT7.out.cell 2
      rw [← ev] at x6
      have hfv9 : fv ≤ 1000000 := by omega
      have wr9 : IntKind.i64.wrap ((fv : Int) + 1) = (fv : Int) + 1 := IntWalk.i64_in _ (by omega)
      unfold symV
      cases hbt : isB ⟨x0, x1, x2⟩ with
      | true =>
        obtain ⟨h2, h1⟩ := isB_iff.1 hbt
        simp only at h1 h2
        subst h1 h2
        have HED := hid (show arrN 30 q = arrN 30 (dstQ ts (j + 1)) from arrN_congr fun i _ => by rw [HDS.out, if_neg (fun h => by rw [hbt] at h; exact absurd h.1 (by decide))]; rfl)
        rw [HED.out] at HD6
        rw [← ev] at HB6 HN6 HA6 HD6
        clear hbt ev
        go_wp2
        go_roundw
        case rel => exact ⟨j + 1, by omega, by go_num, HB6.out, HN6.out, HA6.out, HD6.out⟩
        case measure => simp [intOf]; omega
      | false =>
        have hm : isM ⟨x0, x1, x2⟩ = true := by
          have := HMB.out
          simpa [tokOk, hbt] using this
        have h1 := (isM_iff.1 hm).1
        simp only at h1
        have h1d : decide (0 < x2) = true := decide_eq_true (by omega)
        have hz30 : zi < 30 := HDY.out hm
        have HDI := hid (HDI.out hm)
        have hqz := HQD.out zi
        generalize hqv : q zi = qv at *
        have HED := hid (show arrN 30 (fun i => if i = zi then qv + 1 else q i) = arrN 30 (dstQ ts (j + 1)) from arrN_congr fun i _ => by
          rw [HDS.out]
          by_cases e : i = zi
          · rw [if_pos e, if_pos ⟨hbt, e.symm⟩, e, hqv]
          · rw [if_neg e, if_neg (fun h => e h.2.symm)]; rfl)
        have hzii : (zi : Int) < 30 := by omega
        have x60 : (w5.setCell ⟨nb + 1, yi, none⟩ (.int .i64 ((fv : Nat) + 1))).cell? ⟨wr.heap.size, 0, none⟩ = some (.int .u8 x0) := by rw [ev]; exact HT7.out.cell 0
        have x61 : (w5.setCell ⟨nb + 1, yi, none⟩ (.int .i64 ((fv : Nat) + 1))).cell? ⟨wr.heap.size, 1, none⟩ = some (.int .i64 x1) := by rw [ev]; exact HT7.out.cell 1
        rw [← ev] at HB6 HN6 HA6 HD6
        clear hbt hm ev
        go_wp2_with fail
        generalize w5.setCell ⟨nb + 1, yi, none⟩ (.int .i64 ((fv : Nat) + 1)) = w6 at *
        refine (HDI.out _).mono ?_
        rintro e w7 ⟨rfl, hb7⟩
        unfold symV
        have HD7 := hid (hb7.has HD6.out)
        have HA7 := hid (hb7.has HA6.out)
        have HN7 := hid (hb7.has HN6.out)
        have HB7 := hid ((show Bw w w6 from HB6.out).trans hb7)
        have c7 : w7.cell? ⟨db, zi, none⟩ = some (.int .i64 (qv : Nat)) := by rw [HD7.out.cell zi, arrN_get q hz30, hqv]
        have f7 := HD7.out.frozen zi
        have ev7 : ((qv : Nat) : Int) + 1 = ((qv + 1 : Nat) : Int) := by omega
        have HD8 := hid (HD7.out.put zi (.int .i64 ((qv + 1 : Nat) : Int)))
        rw [arrN_set, HED.out] at HD8
        have HA8 := hid (HA7.out.far (p := ⟨db, zi, none⟩) (show nb + 1 ≠ db by have := HDB.out; omega) (.int .i64 ((qv + 1 : Nat) : Int)))
        have HN8 := hid (HN7.out.far (p := ⟨db, zi, none⟩) (show nb ≠ db by have := HDB.out; omega) (.int .i64 ((qv + 1 : Nat) : Int)))
        have HB8 := hid (Below.setCell HB7.out (p := ⟨db, zi, none⟩) (show w.heap.size ≤ db by have := HNB.out; have := HDB.out; omega) (.int .i64 ((qv + 1 : Nat) : Int)))
        rw [← ev7] at HB8 HN8 HA8 HD8
        have hqv9 : qv ≤ 1000000 := by omega
        have wq9 : IntKind.i64.wrap ((qv : Int) + 1) = (qv : Int) + 1 := IntWalk.i64_in _ (by omega)
        clear hb7 ev7 x60 x61 x6
        go_wp2
        go_roundw
        case rel => exact ⟨j + 1, by omega, by go_num, HB8.out, HN8.out, HA8.out, HD8.out⟩
        case measure => simp [intOf]; omega
    · obtain rfl : j = n := by omega
      have hq6 := litQ_le ts j 256
      have c6 : wr.cell? ⟨nb + 1, 256, none⟩ = some (.int .i64 (litQ ts j 256 : Nat)) := by rw [ha4.cell 256, arrN_get _ (by decide)]
      have f6 := ha4.frozen 256
      have HAX := hid (ha4.put 256 (.int .i64 ((litQ ts j 256 + 1 : Nat) : Int)))
      rw [arrN_set] at HAX
      have HDX := hid (hd4.far (p := ⟨nb + 1, 256, none⟩) (show db ≠ nb + 1 by have := HDB.out; omega) (.int .i64 ((litQ ts j 256 + 1 : Nat) : Int)))
      have HNX := hid (hn4.far (p := ⟨nb + 1, 256, none⟩) (show nb ≠ nb + 1 by omega) (.int .i64 ((litQ ts j 256 + 1 : Nat) : Int)))
      have HBX := hid (show Bw w (wr.setCell ⟨nb + 1, 256, none⟩ (.int .i64 ((litQ ts j 256 + 1 : Nat) : Int))) from Below.setCell hb (p := ⟨nb + 1, 256, none⟩) (show w.heap.size ≤ nb + 1 by have := HNB.out; omega) _)
      have HEL := hid (show arrN 286 (fun i => if i = 256 then litQ ts j 256 + 1 else litQ ts j i) = arrN 286 (litO ts) from arrN_congr fun i _ => by
        unfold litO
        rw [hts.out]
        by_cases e : i = 256
        · rw [if_pos e, if_pos e, e]
        · rw [if_neg e, if_neg e]; rfl)
      rw [HEL.out] at HAX
      have HED := hid (show arrN 30 (dstQ ts j) = arrN 30 (dstO ts) from arrN_congr fun i _ => by unfold dstO; rw [hts.out])
      rw [HED.out] at HDX
      generalize litQ ts j 256 = fv at *
      have hfv9 : fv ≤ 1000000 := by omega
      have wr9 : IntKind.i64.wrap ((fv : Int) + 1) = (fv : Int) + 1 := IntWalk.i64_in _ (by omega)
      rw [show (((fv + 1 : Nat) : Int)) = (fv : Int) + 1 by omega] at HAX HDX HNX HBX
      clear hb hn4 ha4 hd4 HB4 HN4 HA4 HD4 hq6
      go_wp2_with fail
      generalize wr.setCell ⟨nb + 1, 256, none⟩ (.int .i64 ((fv : Int) + 1)) = wx at *
      have HO1 := hid (show ∀ x ∈ natL (litO ts) 286, oftB x = true from fun x hx => by
        obtain ⟨i, hi, rfl⟩ := List.mem_map.1 hx
        have h1 := litQ_le ts ts.length i
        have h2 := hts.out
        unfold oftB litO
        exact decide_eq_true ⟨by split <;> omega, by split <;> omega⟩)
      have HO2 := hid (show ∀ x ∈ natL (dstO ts) 30, oftB x = true from fun x hx => by
        obtain ⟨i, hi, rfl⟩ := List.mem_map.1 hx
        have h1 := dstQ_le ts ts.length i
        have h2 := hts.out
        unfold oftB dstO
        exact decide_eq_true ⟨by omega, by omega⟩)
      have HBE1 := hid (fun W (h : ZsAt W (some ⟨nb + 1, 0, none⟩) (natL (litO ts) 286)) => best_any (some ⟨nb + 1, 0, none⟩) 286 286 15 257 (natL (litO ts) 286) (hid (natL_len _ _)) (by decide) HO1.out (by decide) (by decide) (lv_few _ 286 15 (by decide)) (by decide) W h)
      have HBE2 := hid (fun W (h : ZsAt W (some ⟨db, 0, none⟩) (natL (dstO ts) 30)) => best_any (some ⟨db, 0, none⟩) 30 30 15 1 (natL (dstO ts) 30) (hid (natL_len _ _)) (by decide) HO2.out (by decide) (by decide) (lv_few _ 30 15 (by decide)) (by decide) W h)
      have HLc := hid (fun rb W h => newCode_any rb 286 (ownLn ts) (ownL ts) (hid (ownL_len ts)) (by have := (ownLn_ge ts).1; omega) (ownL_check ts) W h)
      have HDc := hid (fun rb W h => newCode_any rb 30 (ownDn ts) (ownD ts) (hid (ownD_len ts)) (by have := (ownDn_ge ts).1; omega) (ownD_check ts) W h)
      rw [show bestN (natL (litO ts) 286) 286 15 257 = ownLn ts from rfl, show bestL (natL (litO ts) 286) 286 15 257 = ownL ts from rfl] at HBE1
      rw [show bestN (natL (dstO ts) 30) 30 15 1 = ownDn ts from rfl, show bestL (natL (dstO ts) 30) 30 15 1 = ownD ts from rfl] at HBE2
      have HZ1 := hid (arr_zs (HAX.out.drewN 1))
      have HZ2 := hid (arr_zs (HDX.out.drewN 1))
      have HBD := hid (show Bw w (wx.drewN 1) from (show Bw w wx from HBX.out).drewN 1)
      have HND := hid (HNX.out.drewN 1)
      have hnl2 := HND.out.lt
      have hal2 := HAX.out.lt
      have hdl2 := HDX.out.lt
      clear c6 f6
      go_region_with (first
        | (go_at_call 58; refine (HDc.out lb2 w5 HS2.out).mono ?_; rintro e w8 ⟨ub2, uc2, rfl, hu2, hc2, hb8⟩; unfold codeV; have HU2 := hid hu2; have HC2 := hid hc2; have HB67 := hid hb8; have hN8 := ((HB13.out.trans HB34.out).trans (HB45.out.trans hb8)).has HND.out; have HN8 := hid hN8; have n0 := hN8.cell 0; have n1 := hN8.cell 1; have n2 := hN8.cell 2; have n3 := hN8.cell 3; have f0 := hN8.frozen 0; have f1 := hN8.frozen 1; have f2 := hN8.frozen 2; have f3 := hN8.frozen 3; clear hu2 hc2 hb8 hN8)
        | (go_at_call 59; refine (HBE2.out w4 HZ2d.out).mono ?_; rintro e w5 ⟨lb2, rfl, hl2, hlb2, hs2, hb5⟩; have HL2 := hid hl2; have HLB2 := hid hlb2; have HS2 := hid hs2; have HB45 := hid hb5; clear hl2 hlb2 hs2 hb5)
        | (go_at_call 58; refine (HLc.out lb w3 HS1.out).mono ?_; rintro e w4 ⟨ub, uc, rfl, hu1, hc1, hb4⟩; unfold codeV; have HU1 := hid hu1; have HC1 := hid hc1; have HB34 := hid hb4; have HZ2d := hid (HZ2.out.bw (HB13.out.trans hb4)); clear hu1 hc1 hb4)
        | (go_at_call 59; refine (HBE1.out _ HZ1.out).mono ?_; rintro e w3 ⟨lb, rfl, hl1, hlb1, hs1, hb3⟩; have HL1 := hid hl1; have HLB1 := hid hlb1; have HS1 := hid hs1; have HB13 := hid hb3; clear hl1 hlb1 hs1 hb3))
      have HB8 := hid (show Bw w w8 from HBD.out.trans ((HB13.out.trans HB34.out).trans (HB45.out.trans HB67.out)))
      have HX8 := hid (HC1.out.bw (HB45.out.trans HB67.out))
      have HP := hid ((((HN8.out.put 0 (.slice (some ⟨lb, 0, none⟩) (ownLn ts) 286)).put 1 (.slice (some ⟨ub, 0, none⟩) (ownLn ts) uc)).put 2 (.slice (some ⟨lb2, 0, none⟩) (ownDn ts) 30)).put 3 (.slice (some ⟨ub2, 0, none⟩) (ownDn ts) uc2))
      have HBW := hid (show Bw w _ from (Below.setCell (Below.setCell (Below.setCell (Below.setCell HB8.out (p := ⟨nb, 0, none⟩) (show w.heap.size ≤ nb by have := HNB.out; omega) (.slice (some ⟨lb, 0, none⟩) (ownLn ts) 286)) (p := ⟨nb, 1, none⟩) (show w.heap.size ≤ nb by have := HNB.out; omega) (.slice (some ⟨ub, 0, none⟩) (ownLn ts) uc)) (p := ⟨nb, 2, none⟩) (show w.heap.size ≤ nb by have := HNB.out; omega) (.slice (some ⟨lb2, 0, none⟩) (ownDn ts) 30)) (p := ⟨nb, 3, none⟩) (show w.heap.size ≤ nb by have := HNB.out; omega) (.slice (some ⟨ub2, 0, none⟩) (ownDn ts) uc2)))
      have HKB := hid (show ∀ b, b ≠ nb → ((((w8.setCell ⟨nb, 0, none⟩ (.slice (some ⟨lb, 0, none⟩) (ownLn ts) 286)).setCell ⟨nb, 1, none⟩ (.slice (some ⟨ub, 0, none⟩) (ownLn ts) uc)).setCell ⟨nb, 2, none⟩ (.slice (some ⟨lb2, 0, none⟩) (ownDn ts) 30)).setCell ⟨nb, 3, none⟩ (.slice (some ⟨ub2, 0, none⟩) (ownDn ts) uc2)).heap[b]? = w8.heap[b]? from fun b hb => ((Below.heap_setCell _ ⟨nb, 3, none⟩ _ b hb).trans ((Below.heap_setCell _ ⟨nb, 2, none⟩ _ b hb).trans ((Below.heap_setCell _ ⟨nb, 1, none⟩ _ b hb).trans ((Below.heap_setCell _ ⟨nb, 0, none⟩ _ b hb).trans rfl)))))
      have HSZ := hid (show ((((w8.setCell ⟨nb, 0, none⟩ (.slice (some ⟨lb, 0, none⟩) (ownLn ts) 286)).setCell ⟨nb, 1, none⟩ (.slice (some ⟨ub, 0, none⟩) (ownLn ts) uc)).setCell ⟨nb, 2, none⟩ (.slice (some ⟨lb2, 0, none⟩) (ownDn ts) 30)).setCell ⟨nb, 3, none⟩ (.slice (some ⟨ub2, 0, none⟩) (ownDn ts) uc2)).heap.size = w8.heap.size by simp only [World.size_setCell])
      go_wp2
      generalize (((w8.setCell ⟨nb, 0, none⟩ (.slice (some ⟨lb, 0, none⟩) (ownLn ts) 286)).setCell ⟨nb, 1, none⟩ (.slice (some ⟨ub, 0, none⟩) (ownLn ts) uc)).setCell ⟨nb, 2, none⟩ (.slice (some ⟨lb2, 0, none⟩) (ownDn ts) 30)).setCell ⟨nb, 3, none⟩ (.slice (some ⟨ub2, 0, none⟩) (ownDn ts) uc2) = w9 at *
      clear n0 n1 n2 n3 f0 f1 f2 f3
      have e0 : w9.cell? ⟨nb, 0, none⟩ = some (.slice (some ⟨lb, 0, none⟩) (ownLn ts) 286) := HP.out.cell 0
      have e1 : w9.cell? ⟨nb, 1, none⟩ = some (.slice (some ⟨ub, 0, none⟩) (ownLn ts) uc) := HP.out.cell 1
      have e2 : w9.cell? ⟨nb, 2, none⟩ = some (.slice (some ⟨lb2, 0, none⟩) (ownDn ts) 30) := HP.out.cell 2
      have e3 : w9.cell? ⟨nb, 3, none⟩ = some (.slice (some ⟨ub2, 0, none⟩) (ownDn ts) uc2) := HP.out.cell 3
      (try simp only [Exit.inBlock, Exit.then])
      refine bodyPost_ret (v := codes4 lb 286 ub uc (ownLn ts) lb2 30 ub2 uc2 (ownDn ts)) (by simp [results, Tryz.results27, go_sem, codes4, e0, e1, e2, e3]; try rfl) rfl ?_
      have hn := HNB.out
      have s1 := HBD.out.size
      have s2 := HB13.out.size
      have s3 := HB34.out.size
      have s4 := HB45.out.size
      have g1 := HL1.out
      have g2 := HU1.out
      have g3 := HL2.out
      have g4 := HU2.out
      have hnw : nb < (wx.drewN 1).heap.size := hnl2
      refine ⟨lb, ub, uc, lb2, ub2, uc2, rfl, ⟨HX8.out.blocks (Nat.le_of_eq HSZ.out.symm) (HKB.out _ (by omega)) (HKB.out _ (by omega)), HC2.out.blocks (Nat.le_of_eq HSZ.out.symm) (HKB.out _ (by omega)) (HKB.out _ (by omega)), by omega, by omega, by omega, by omega⟩, HBW.out⟩
end Go.Proofs.YtkmbgkcpohchhaaGreatDoor
namespace Go.Proofs.YtkmbgkcpohchhaaGreatDoor
open Go.RowKit Go.Conc
set_option linter.unusedVariables false
def runGo (l : List Int) (k : Nat) : Nat → Nat → Nat
  | 0, r => r
  | f + 1, r => if k + r < l.length ∧ l.getD (k + r) 0 = l.getD k 0 then runGo l k f (r + 1) else r
def runN (l : List Int) (k : Nat) : Nat := runGo l k l.length 1
theorem runGo_le (l : List Int) (k : Nat) : ∀ f r, k + r ≤ l.length → r ≤ runGo l k f r ∧ k + runGo l k f r ≤ l.length
  | 0, r, h => ⟨Nat.le_refl _, h⟩
  | f + 1, r, h => by
    rw [runGo]
    split
    · rename_i c
      have := runGo_le l k f (r + 1) (by omega)
      exact ⟨by omega, this.2⟩
    · exact ⟨Nat.le_refl _, h⟩
theorem runGo_same (l : List Int) (k : Nat) : ∀ f r, (∀ i, i < r → l.getD (k + i) 0 = l.getD k 0) → ∀ i, i < runGo l k f r → l.getD (k + i) 0 = l.getD k 0
  | 0, r, h => h
  | f + 1, r, h => by
    rw [runGo]
    split
    · rename_i c
      refine runGo_same l k f (r + 1) fun i hi => ?_
      rcases Nat.lt_or_ge i r with h1 | h1
      · exact h i h1
      · obtain rfl : i = r := by omega
        exact c.2
    · exact h
theorem runN_ok {l : List Int} {k : Nat} (h : k < l.length) : 1 ≤ runN l k ∧ k + runN l k ≤ l.length ∧ ∀ i, i < runN l k → l.getD (k + i) 0 = l.getD k 0 := by
  have h1 := runGo_le l k l.length 1 (by omega)
  refine ⟨h1.1, h1.2, runGo_same l k l.length 1 fun i hi => ?_⟩
  obtain rfl : i = 0 := by omega
  rfl
def partS (l : List Int) (k : Nat) : SymT × Nat :=
  if l.getD k 0 = 0 ∧ 11 ≤ runN l k then (⟨18, 7, min (runN l k) 138 - 11⟩, min (runN l k) 138)
  else if l.getD k 0 = 0 ∧ 3 ≤ runN l k then (⟨17, 3, runN l k - 3⟩, runN l k)
  else if (0 < k ∧ l.getD k 0 = l.getD (k - 1) 0) ∧ 3 ≤ runN l k then (⟨16, 2, min (runN l k) 6 - 3⟩, min (runN l k) 6)
  else (⟨(l.getD k 0).toNat, 0, 0⟩, 1)
theorem partS_ok {l : List Int} {k : Nat} (h : k < l.length) (h15 : ∀ x ∈ l, 0 ≤ x ∧ x ≤ 15) : 1 ≤ (partS l k).2 ∧ k + (partS l k).2 ≤ l.length ∧ (partS l k).1.idx < 19 ∧ (partS l k).1.ext ≤ 7 ∧ (partS l k).1.more < 2 ^ (partS l k).1.ext := by
  obtain ⟨h1, h2, _⟩ := runN_ok h
  have hx := h15 (l.getD k 0) (by simp [List.getD, h])
  unfold partS
  generalize runN l k = r at *
  split
  · exact ⟨by show 1 ≤ min r 138; omega, by show k + min r 138 ≤ _; omega, by show 18 < 19; decide, by show 7 ≤ 7; decide, by show min r 138 - 11 < 128; omega⟩
  · split
    · exact ⟨by show 1 ≤ r; omega, h2, by show 17 < 19; decide, by show 3 ≤ 7; decide, by show r - 3 < 8; omega⟩
    · split
      · exact ⟨by show 1 ≤ min r 6; omega, by show k + min r 6 ≤ _; omega, by show 16 < 19; decide, by show 2 ≤ 7; decide, by show min r 6 - 3 < 4; omega⟩
      · exact ⟨Nat.le_refl _, by show k + 1 ≤ _; omega, by show (l.getD k 0).toNat < 19; omega, by show 0 ≤ 7; decide, by show 0 < 1; decide⟩
set_option maxRecDepth 100000 in
set_option maxHeartbeats 4000000 in
theorem part_any (a : Option Addr) (len cap k : Nat) (l : List Int) (hll : Hid (l.length = len)) (h320 : len ≤ 640) (h15 : ∀ x ∈ l, 0 ≤ x ∧ x ≤ 15) (hk : k < len) (w : World) (hst : ZsAt w a l) :
    Calls Tryz.prog 97 #[.slice a len cap, .int .i64 k] w fun e w' => e = .returned (.tuple #[symV (partS l k).1, .int .i64 (partS l k).2]) ∧ Bw w w' := by
  obtain ⟨b, off, rfl, hb, _⟩ := hst k (by rw [hll.out]; exact hk)
  have HZ := hid (show ∀ W, Bw w W → ∀ i, i < len → W.cell? ⟨b, off + i, none⟩ = some (.int .i64 (l.getD i 0)) from fun W hw i hi => by
    obtain ⟨b', off', e, hb', hc⟩ := hst i (by rw [hll.out]; exact hi)
    injection e with e
    injection e with e1 e2 e3
    subst e1 e2
    rw [World.cell?_of_block (hw.block b hb'), hc]
    simp [List.getD, show i < l.length by rw [hll.out]; exact hi])
  have HX := hid (show ∀ i, i < len → 0 ≤ l.getD i 0 ∧ l.getD i 0 ≤ 15 from fun i hi => h15 _ (by simp [List.getD, show i < l.length by rw [hll.out]; exact hi]))
  have HR := hid (show partS l k = _ from rfl)
  clear hst h15
  go_enter Tryz.func97, Tryz.ntmps97
  go_upto_block 0 with fail
  have HN := hid (Has.new w 116 #[.int .i64 0, .int .i64 0, .int .u32 0])
  have HB := hid ((Bw.refl w).alloc (.cells #[.int .i64 0, .int .i64 0, .int .u32 0] 116))
  generalize w.alloc (.cells #[.int .i64 0, .int .i64 0, .int .u32 0] 116) = W1 at *
  go_cut [6] from 9 to 29 (fun v wx => ∃ r : Nat, 1 ≤ r ∧ k + r ≤ len ∧ v = .int .i64 r ∧ Hid (r = runN l k) ∧ Has wx w.heap.size 116 #[.int .i64 0, .int .i64 0, .int .u32 0] ∧ Bw w wx)
  case first =>
    go_wp2_with fail
    go_loopw [6] (fun i wr => ∃ r : Nat, 1 ≤ r ∧ k + r ≤ len ∧ i = .int .i64 r ∧ Hid (runGo l k (len + 1 - r) r = runN l k) ∧ Has wr w.heap.size 116 #[.int .i64 0, .int .i64 0, .int .u32 0] ∧ Bw w wr) (fun i _ => len - (intOf i).toNat)
    case atStart => exact ⟨1, Nat.le_refl _, hk, rfl, hid (by unfold runN; rw [hll.out, Nat.add_sub_cancel]), HN.out, HB.out⟩
    case round =>
      rename World => wr
      obtain ⟨r, hr1, hr2, rfl, HRG, hn, hbw⟩ := hrel
      have HN1 := hid hn
      have HB1 := hid hbw
      have cx : wr.cell? ⟨b, off + k, none⟩ = _ := HZ.out wr hbw k hk
      have hx := HX.out k hk
      have hkr : ((k : Int) + r) = ((k + r : Nat) : Int) := by omega
      have hw1 : IntKind.i64.wrap ((k : Int) + r) = (k : Int) + r := IntWalk.i64_in _ (by omega)
      have ht1 : ((k : Int) + r).toNat = k + r := by omega
      have hp1 : (0 : Int) ≤ (k : Int) + r := by omega
      have hki : (k : Int) < len := by omega
      have HGO := hid (show runGo l k (len + 1 - r) r = if k + r < l.length ∧ l.getD (k + r) 0 = l.getD k 0 then runGo l k (len - r) (r + 1) else r by rw [show len + 1 - r = len - r + 1 by omega, runGo])
      rw [hll.out] at HGO
      clear hn hbw hkr
      by_cases hlt : k + r < len
      · have hlti : (k : Int) + r < len := by omega
        have cy : wr.cell? ⟨b, off + (k + r), none⟩ = _ := HZ.out wr HB1.out (k + r) hlt
        have hy := HX.out (k + r) hlt
        by_cases he : l.getD (k + r) 0 = l.getD k 0
        · rw [if_pos ⟨hlt, he⟩] at HGO
          rw [he] at cy
          have HGO2 := hid (HGO.out.symm.trans HRG.out)
          clear HGO he
          generalize l.getD k 0 = x at *
          go_wp2_with fail
          go_quiet (fail)
          go_wp2
          exact ⟨⟨r + 1, by omega, by omega, by go_num, hid (by rw [show len + 1 - (r + 1) = len - r by omega]; exact HGO2.out), HN1.out.drewN _, HB1.out.drewN _⟩, by simp [intOf]; omega⟩
        · rw [if_neg (fun h => he h.2)] at HGO
          have HGO2 := hid (HGO.out.symm.trans HRG.out)
          have hed : decide (l.getD (k + r) 0 = l.getD k 0) = false := decide_eq_false he
          clear HGO
          generalize l.getD k 0 = x at *
          generalize l.getD (k + r) 0 = y at *
          go_wp2_with fail
          go_quiet (fail)
          go_wp2
          go_meet
          case rel => exact ⟨r, hr1, hr2, rfl, hid HGO2.out, HN1.out.drewN _, HB1.out.drewN _⟩
      · have hlti : decide ((k : Int) + r < len) = false := decide_eq_false (by omega)
        rw [if_neg (fun h => hlt h.1)] at HGO
        have HGO2 := hid (HGO.out.symm.trans HRG.out)
        clear HGO
        generalize l.getD k 0 = x at *
        go_wp2_with fail
        go_quiet (fail)
        go_wp2
        go_meet
        case rel => exact ⟨r, hr1, hr2, rfl, hid HGO2.out, HN1.out.drewN _, HB1.out.drewN _⟩
  case rest =>
    obtain ⟨r, hr1, hr2, rfl, HRN, hn, hb⟩ := hcut
    have HN5 := hid hn
    have HB5 := hid hb
    have cx : wc.cell? ⟨b, off + k, none⟩ = some (.int .i64 (l.getD k 0)) := HZ.out wc hb k hk
    have hxx := HX.out k hk
    have hki : (k : Int) < len := by omega
    have HR2 := hid (show partS l k = if l.getD k 0 = 0 ∧ 11 ≤ r then (⟨18, 7, min r 138 - 11⟩, min r 138) else if l.getD k 0 = 0 ∧ 3 ≤ r then (⟨17, 3, r - 3⟩, r) else if (0 < k ∧ l.getD k 0 = l.getD (k - 1) 0) ∧ 3 ≤ r then (⟨16, 2, min r 6 - 3⟩, min r 6) else (⟨(l.getD k 0).toNat, 0, 0⟩, 1) by rw [HRN.out]; rfl)
    have n0 := HN5.out.cell 0
    have n1 := HN5.out.cell 1
    have n2 := HN5.out.cell 2
    have f0 := HN5.out.frozen 0
    have f1 := HN5.out.frozen 1
    have f2 := HN5.out.frozen 2
    have HZP := hid (show ∀ p, k = p + 1 → wc.cell? ⟨b, off + p, none⟩ = some (.int .i64 (l.getD p 0)) from fun p e => HZ.out wc hb p (by omega))
    clear hn hb HR HZ HX
    generalize hxe : l.getD k 0 = x at *
    clear hxe
    by_cases hx0 : x = 0
    · subst hx0
      by_cases h11 : 11 ≤ r
      · rw [if_pos ⟨rfl, h11⟩] at HR2
        obtain ⟨m, hm⟩ : ∃ m, min r 138 = m := ⟨_, rfl⟩
        have hm1 : 11 ≤ m ∧ m ≤ 138 := by omega
        have hmi : min (r : Int) 138 = (m : Nat) := by omega
        rw [hm] at HR2
        have hw1 : IntKind.i64.wrap ((m : Int) - 11) = (m : Int) - 11 := IntWalk.i64_in _ (by omega)
        have hw2 : IntKind.u32.wrap ((m : Int) - 11) = (m : Int) - 11 := IntWalk.u32_in _ (by omega)
        have h11i : (11 : Int) ≤ r := by omega
        clear hm
        have HP := hid (((HN5.out.put 0 (.int .i64 18)).put 1 (.int .i64 7)).put 2 (.int .u32 ((m : Int) - 11)))
        have HBW := hid (show Bw w _ from (Below.setCell (Below.setCell (Below.setCell HB5.out (p := ⟨w.heap.size, 0, none⟩) (Nat.le_refl _) (.int .i64 18)) (p := ⟨w.heap.size, 1, none⟩) (Nat.le_refl _) (.int .i64 7)) (p := ⟨w.heap.size, 2, none⟩) (Nat.le_refl _) (.int .u32 ((m : Int) - 11))))
        go_wp2
        generalize ((wc.setCell ⟨w.heap.size, 0, none⟩ (.int .i64 18)).setCell ⟨w.heap.size, 1, none⟩ (.int .i64 7)).setCell ⟨w.heap.size, 2, none⟩ (.int .u32 ((m : Int) - 11)) = w9 at *
        have e0 : w9.cell? ⟨w.heap.size, 0, none⟩ = some (.int .i64 18) := HP.out.cell 0
        have e1 : w9.cell? ⟨w.heap.size, 1, none⟩ = some (.int .i64 7) := HP.out.cell 1
        have e2 : w9.cell? ⟨w.heap.size, 2, none⟩ = some (.int .u32 ((m : Int) - 11)) := HP.out.cell 2
        (try simp only [Exit.inBlock, Exit.then])
        refine bodyPost_ret (by simp [results, Tryz.results97, go_sem, e0, e1, e2]; try rfl) rfl ?_
        exact ⟨by rw [HR2.out]; show _ = Ending.returned (.tuple #[.agg #[.int .i64 18, .int .i64 7, .int .u32 ((m - 11 : Nat) : Int)], .int .i64 m]); rw [show ((m - 11 : Nat) : Int) = (m : Int) - 11 by omega], HBW.out⟩
      · by_cases h3 : 3 ≤ r
        · rw [if_neg (fun h => h11 h.2), if_pos ⟨rfl, h3⟩] at HR2
          have hw1 : IntKind.i64.wrap ((r : Int) - 3) = (r : Int) - 3 := IntWalk.i64_in _ (by omega)
          have hw2 : IntKind.u32.wrap ((r : Int) - 3) = (r : Int) - 3 := IntWalk.u32_in _ (by omega)
          have h11i : decide ((11 : Int) ≤ r) = false := decide_eq_false (by omega)
          have h3i : (3 : Int) ≤ r := by omega
          have HP := hid (((HN5.out.put 0 (.int .i64 17)).put 1 (.int .i64 3)).put 2 (.int .u32 ((r : Int) - 3)))
          have HBW := hid (show Bw w _ from (Below.setCell (Below.setCell (Below.setCell HB5.out (p := ⟨w.heap.size, 0, none⟩) (Nat.le_refl _) (.int .i64 17)) (p := ⟨w.heap.size, 1, none⟩) (Nat.le_refl _) (.int .i64 3)) (p := ⟨w.heap.size, 2, none⟩) (Nat.le_refl _) (.int .u32 ((r : Int) - 3))))
          go_wp2
          generalize ((wc.setCell ⟨w.heap.size, 0, none⟩ (.int .i64 17)).setCell ⟨w.heap.size, 1, none⟩ (.int .i64 3)).setCell ⟨w.heap.size, 2, none⟩ (.int .u32 ((r : Int) - 3)) = w9 at *
          have e0 : w9.cell? ⟨w.heap.size, 0, none⟩ = some (.int .i64 17) := HP.out.cell 0
          have e1 : w9.cell? ⟨w.heap.size, 1, none⟩ = some (.int .i64 3) := HP.out.cell 1
          have e2 : w9.cell? ⟨w.heap.size, 2, none⟩ = some (.int .u32 ((r : Int) - 3)) := HP.out.cell 2
          (try simp only [Exit.inBlock, Exit.then])
          refine bodyPost_ret (by simp [results, Tryz.results97, go_sem, e0, e1, e2]; try rfl) rfl ?_
          exact ⟨by rw [HR2.out]; show _ = Ending.returned (.tuple #[.agg #[.int .i64 17, .int .i64 3, .int .u32 ((r - 3 : Nat) : Int)], .int .i64 r]); rw [show ((r - 3 : Nat) : Int) = (r : Int) - 3 by omega], HBW.out⟩
        · rw [if_neg (fun h => h11 h.2), if_neg (fun h => h3 h.2), if_neg (fun h => h3 h.2)] at HR2
          have h11i : decide ((11 : Int) ≤ r) = false := decide_eq_false (by omega)
          have h3i : decide ((3 : Int) ≤ r) = false := decide_eq_false (by omega)
          rcases Nat.eq_zero_or_pos k with h0 | hp
          · subst h0
            have cx0 : wc.cell? ⟨b, off, none⟩ = _ := cx
            have hli : (0 : Int) < len := by omega
            go_wp2_with fail
            go_quiet (fail)
            rename_i nq
            have HN6 := hid (HN5.out.drewN nq)
            have HB6 := hid (HB5.out.drewN nq)
            have HP := hid (((HN6.out.put 0 (.int .i64 0)).put 1 (.int .i64 0)).put 2 (.int .u32 0))
            have HBW := hid (show Bw w _ from (Below.setCell (Below.setCell (Below.setCell HB6.out (p := ⟨w.heap.size, 0, none⟩) (Nat.le_refl _) (.int .i64 0)) (p := ⟨w.heap.size, 1, none⟩) (Nat.le_refl _) (.int .i64 0)) (p := ⟨w.heap.size, 2, none⟩) (Nat.le_refl _) (.int .u32 0)))
            go_wp2
            generalize (((wc.drewN nq).setCell ⟨w.heap.size, 0, none⟩ (.int .i64 0)).setCell ⟨w.heap.size, 1, none⟩ (.int .i64 0)).setCell ⟨w.heap.size, 2, none⟩ (.int .u32 0) = w9 at *
            have e0 : w9.cell? ⟨w.heap.size, 0, none⟩ = some (.int .i64 0) := HP.out.cell 0
            have e1 : w9.cell? ⟨w.heap.size, 1, none⟩ = some (.int .i64 0) := HP.out.cell 1
            have e2 : w9.cell? ⟨w.heap.size, 2, none⟩ = some (.int .u32 0) := HP.out.cell 2
            (try simp only [Exit.inBlock, Exit.then])
            refine bodyPost_ret (by simp [results, Tryz.results97, go_sem, e0, e1, e2]; try rfl) rfl ?_
            exact ⟨by rw [HR2.out]; rfl, HBW.out⟩
          · obtain ⟨p, rfl⟩ : ∃ p, k = p + 1 := ⟨k - 1, by omega⟩
            have cz := HZP.out p rfl
            have ep : ((p + 1 : Nat) : Int) - 1 = (p : Nat) := by omega
            have hp0 : (0 : Int) < ((p + 1 : Nat) : Int) := by omega
            have hpl : (p : Int) < len := by omega
            generalize l.getD p 0 = z at *
            by_cases hz : z = 0
            · subst hz
              go_wp2_with fail
              go_quiet (fail)
              rename_i nq
              have HN6 := hid (HN5.out.drewN nq)
              have HB6 := hid (HB5.out.drewN nq)
              have HP := hid (((HN6.out.put 0 (.int .i64 0)).put 1 (.int .i64 0)).put 2 (.int .u32 0))
              have HBW := hid (show Bw w _ from (Below.setCell (Below.setCell (Below.setCell HB6.out (p := ⟨w.heap.size, 0, none⟩) (Nat.le_refl _) (.int .i64 0)) (p := ⟨w.heap.size, 1, none⟩) (Nat.le_refl _) (.int .i64 0)) (p := ⟨w.heap.size, 2, none⟩) (Nat.le_refl _) (.int .u32 0)))
              go_wp2
              generalize (((wc.drewN nq).setCell ⟨w.heap.size, 0, none⟩ (.int .i64 0)).setCell ⟨w.heap.size, 1, none⟩ (.int .i64 0)).setCell ⟨w.heap.size, 2, none⟩ (.int .u32 0) = w9 at *
              have e0 : w9.cell? ⟨w.heap.size, 0, none⟩ = some (.int .i64 0) := HP.out.cell 0
              have e1 : w9.cell? ⟨w.heap.size, 1, none⟩ = some (.int .i64 0) := HP.out.cell 1
              have e2 : w9.cell? ⟨w.heap.size, 2, none⟩ = some (.int .u32 0) := HP.out.cell 2
              (try simp only [Exit.inBlock, Exit.then])
              refine bodyPost_ret (by simp [results, Tryz.results97, go_sem, e0, e1, e2]; try rfl) rfl ?_
              exact ⟨by rw [HR2.out]; rfl, HBW.out⟩
            · have hzd : ((0 : Int) == z) = false := by simp; omega
              go_wp2_with fail
              go_quiet (fail)
              rename_i nq
              have HN6 := hid (HN5.out.drewN nq)
              have HB6 := hid (HB5.out.drewN nq)
              have HP := hid (((HN6.out.put 0 (.int .i64 0)).put 1 (.int .i64 0)).put 2 (.int .u32 0))
              have HBW := hid (show Bw w _ from (Below.setCell (Below.setCell (Below.setCell HB6.out (p := ⟨w.heap.size, 0, none⟩) (Nat.le_refl _) (.int .i64 0)) (p := ⟨w.heap.size, 1, none⟩) (Nat.le_refl _) (.int .i64 0)) (p := ⟨w.heap.size, 2, none⟩) (Nat.le_refl _) (.int .u32 0)))
              go_wp2
              generalize (((wc.drewN nq).setCell ⟨w.heap.size, 0, none⟩ (.int .i64 0)).setCell ⟨w.heap.size, 1, none⟩ (.int .i64 0)).setCell ⟨w.heap.size, 2, none⟩ (.int .u32 0) = w9 at *
              have e0 : w9.cell? ⟨w.heap.size, 0, none⟩ = some (.int .i64 0) := HP.out.cell 0
              have e1 : w9.cell? ⟨w.heap.size, 1, none⟩ = some (.int .i64 0) := HP.out.cell 1
              have e2 : w9.cell? ⟨w.heap.size, 2, none⟩ = some (.int .u32 0) := HP.out.cell 2
              (try simp only [Exit.inBlock, Exit.then])
              refine bodyPost_ret (by simp [results, Tryz.results97, go_sem, e0, e1, e2]; try rfl) rfl ?_
              exact ⟨by rw [HR2.out]; rfl, HBW.out⟩
    · have hxd : (x == 0) = false := by simp [hx0]
      obtain ⟨xn, rfl⟩ := Int.eq_ofNat_of_zero_le hxx.1
      rcases Nat.eq_zero_or_pos k with h0 | hp
      · rw [if_neg (fun h => hx0 h.1), if_neg (fun h => hx0 h.1), if_neg (fun h => by have := h.1.1; omega)] at HR2
        subst h0
        have cx0 : wc.cell? ⟨b, off, none⟩ = _ := cx
        have hli : (0 : Int) < len := by omega
        go_wp2_with fail
        go_quiet (fail)
        rename_i nq
        have HN6 := hid (HN5.out.drewN nq)
        have HB6 := hid (HB5.out.drewN nq)
        have HP := hid (((HN6.out.put 0 (.int .i64 (xn : Nat))).put 1 (.int .i64 0)).put 2 (.int .u32 0))
        have HBW := hid (show Bw w _ from (Below.setCell (Below.setCell (Below.setCell HB6.out (p := ⟨w.heap.size, 0, none⟩) (Nat.le_refl _) (.int .i64 (xn : Nat))) (p := ⟨w.heap.size, 1, none⟩) (Nat.le_refl _) (.int .i64 0)) (p := ⟨w.heap.size, 2, none⟩) (Nat.le_refl _) (.int .u32 0)))
        go_wp2
        generalize (((wc.drewN nq).setCell ⟨w.heap.size, 0, none⟩ (.int .i64 (xn : Nat))).setCell ⟨w.heap.size, 1, none⟩ (.int .i64 0)).setCell ⟨w.heap.size, 2, none⟩ (.int .u32 0) = w9 at *
        have e0 : w9.cell? ⟨w.heap.size, 0, none⟩ = some (.int .i64 (xn : Nat)) := HP.out.cell 0
        have e1 : w9.cell? ⟨w.heap.size, 1, none⟩ = some (.int .i64 0) := HP.out.cell 1
        have e2 : w9.cell? ⟨w.heap.size, 2, none⟩ = some (.int .u32 0) := HP.out.cell 2
        (try simp only [Exit.inBlock, Exit.then])
        refine bodyPost_ret (by simp [results, Tryz.results97, go_sem, e0, e1, e2]; try rfl) rfl ?_
        exact ⟨by rw [HR2.out]; rfl, HBW.out⟩
      · obtain ⟨p, rfl⟩ : ∃ p, k = p + 1 := ⟨k - 1, by omega⟩
        have cz := HZP.out p rfl
        have ep : ((p + 1 : Nat) : Int) - 1 = (p : Nat) := by omega
        have hp0 : (0 : Int) < ((p + 1 : Nat) : Int) := by omega
        have hpl : (p : Int) < len := by omega
        rw [Nat.add_sub_cancel] at HR2
        generalize l.getD p 0 = z at *
        by_cases hz : (xn : Int) = z
        · subst hz
          by_cases h3 : 3 ≤ r
          · rw [if_neg (fun h => hx0 h.1), if_neg (fun h => hx0 h.1), if_pos ⟨⟨by omega, rfl⟩, h3⟩] at HR2
            obtain ⟨m, hm⟩ : ∃ m, min r 6 = m := ⟨_, rfl⟩
            have hm1 : 3 ≤ m ∧ m ≤ 6 := by omega
            have hmi : min (r : Int) 6 = (m : Nat) := by omega
            rw [hm] at HR2
            have hw1 : IntKind.i64.wrap ((m : Int) - 3) = (m : Int) - 3 := IntWalk.i64_in _ (by omega)
            have hw2 : IntKind.u32.wrap ((m : Int) - 3) = (m : Int) - 3 := IntWalk.u32_in _ (by omega)
            have h3i : (3 : Int) ≤ r := by omega
            clear hm
            go_wp2_with fail
            go_quiet (fail)
            rename_i nq
            have HN6 := hid (HN5.out.drewN nq)
            have HB6 := hid (HB5.out.drewN nq)
            have HP := hid (((HN6.out.put 0 (.int .i64 16)).put 1 (.int .i64 2)).put 2 (.int .u32 ((m : Int) - 3)))
            have HBW := hid (show Bw w _ from (Below.setCell (Below.setCell (Below.setCell HB6.out (p := ⟨w.heap.size, 0, none⟩) (Nat.le_refl _) (.int .i64 16)) (p := ⟨w.heap.size, 1, none⟩) (Nat.le_refl _) (.int .i64 2)) (p := ⟨w.heap.size, 2, none⟩) (Nat.le_refl _) (.int .u32 ((m : Int) - 3))))
            go_wp2
            generalize (((wc.drewN nq).setCell ⟨w.heap.size, 0, none⟩ (.int .i64 16)).setCell ⟨w.heap.size, 1, none⟩ (.int .i64 2)).setCell ⟨w.heap.size, 2, none⟩ (.int .u32 ((m : Int) - 3)) = w9 at *
            have e0 : w9.cell? ⟨w.heap.size, 0, none⟩ = some (.int .i64 16) := HP.out.cell 0
            have e1 : w9.cell? ⟨w.heap.size, 1, none⟩ = some (.int .i64 2) := HP.out.cell 1
            have e2 : w9.cell? ⟨w.heap.size, 2, none⟩ = some (.int .u32 ((m : Int) - 3)) := HP.out.cell 2
            (try simp only [Exit.inBlock, Exit.then])
            refine bodyPost_ret (by simp [results, Tryz.results97, go_sem, e0, e1, e2]; try rfl) rfl ?_
            exact ⟨by rw [HR2.out]; show _ = Ending.returned (.tuple #[.agg #[.int .i64 16, .int .i64 2, .int .u32 ((m - 3 : Nat) : Int)], .int .i64 m]); rw [show ((m - 3 : Nat) : Int) = (m : Int) - 3 by omega], HBW.out⟩
          · rw [if_neg (fun h => hx0 h.1), if_neg (fun h => hx0 h.1), if_neg (fun h => h3 h.2)] at HR2
            have h3i : decide ((3 : Int) ≤ r) = false := decide_eq_false (by omega)
            go_wp2_with fail
            go_quiet (fail)
            rename_i nq
            have HN6 := hid (HN5.out.drewN nq)
            have HB6 := hid (HB5.out.drewN nq)
            have HP := hid (((HN6.out.put 0 (.int .i64 (xn : Nat))).put 1 (.int .i64 0)).put 2 (.int .u32 0))
            have HBW := hid (show Bw w _ from (Below.setCell (Below.setCell (Below.setCell HB6.out (p := ⟨w.heap.size, 0, none⟩) (Nat.le_refl _) (.int .i64 (xn : Nat))) (p := ⟨w.heap.size, 1, none⟩) (Nat.le_refl _) (.int .i64 0)) (p := ⟨w.heap.size, 2, none⟩) (Nat.le_refl _) (.int .u32 0)))
            go_wp2
            generalize (((wc.drewN nq).setCell ⟨w.heap.size, 0, none⟩ (.int .i64 (xn : Nat))).setCell ⟨w.heap.size, 1, none⟩ (.int .i64 0)).setCell ⟨w.heap.size, 2, none⟩ (.int .u32 0) = w9 at *
            have e0 : w9.cell? ⟨w.heap.size, 0, none⟩ = some (.int .i64 (xn : Nat)) := HP.out.cell 0
            have e1 : w9.cell? ⟨w.heap.size, 1, none⟩ = some (.int .i64 0) := HP.out.cell 1
            have e2 : w9.cell? ⟨w.heap.size, 2, none⟩ = some (.int .u32 0) := HP.out.cell 2
            (try simp only [Exit.inBlock, Exit.then])
            refine bodyPost_ret (by simp [results, Tryz.results97, go_sem, e0, e1, e2]; try rfl) rfl ?_
            exact ⟨by rw [HR2.out]; rfl, HBW.out⟩
        · rw [if_neg (fun h => hx0 h.1), if_neg (fun h => hx0 h.1), if_neg (fun h => hz h.1.2)] at HR2
          have hzd : (((xn : Nat) : Int) == z) = false := by simp [hz]
          go_wp2_with fail
          go_quiet (fail)
          rename_i nq
          have HN6 := hid (HN5.out.drewN nq)
          have HB6 := hid (HB5.out.drewN nq)
          have HP := hid (((HN6.out.put 0 (.int .i64 (xn : Nat))).put 1 (.int .i64 0)).put 2 (.int .u32 0))
          have HBW := hid (show Bw w _ from (Below.setCell (Below.setCell (Below.setCell HB6.out (p := ⟨w.heap.size, 0, none⟩) (Nat.le_refl _) (.int .i64 (xn : Nat))) (p := ⟨w.heap.size, 1, none⟩) (Nat.le_refl _) (.int .i64 0)) (p := ⟨w.heap.size, 2, none⟩) (Nat.le_refl _) (.int .u32 0)))
          go_wp2
          generalize (((wc.drewN nq).setCell ⟨w.heap.size, 0, none⟩ (.int .i64 (xn : Nat))).setCell ⟨w.heap.size, 1, none⟩ (.int .i64 0)).setCell ⟨w.heap.size, 2, none⟩ (.int .u32 0) = w9 at *
          have e0 : w9.cell? ⟨w.heap.size, 0, none⟩ = some (.int .i64 (xn : Nat)) := HP.out.cell 0
          have e1 : w9.cell? ⟨w.heap.size, 1, none⟩ = some (.int .i64 0) := HP.out.cell 1
          have e2 : w9.cell? ⟨w.heap.size, 2, none⟩ = some (.int .u32 0) := HP.out.cell 2
          (try simp only [Exit.inBlock, Exit.then])
          refine bodyPost_ret (by simp [results, Tryz.results97, go_sem, e0, e1, e2]; try rfl) rfl ?_
          exact ⟨by rw [HR2.out]; rfl, HBW.out⟩
end Go.Proofs.YtkmbgkcpohchhaaGreatDoor
