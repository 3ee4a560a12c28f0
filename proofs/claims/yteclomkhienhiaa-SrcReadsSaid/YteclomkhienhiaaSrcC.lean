/- What ReadAt returns, and what it leaves. -/
import Derived.Test.YteclomkhienhiaaSrcB
import Derived.Deep.QuietTactic
import Derived.BigQuiet
import Derived.OwnWalk
import Derived.Deep.Cut
import Derived.Deep.AppendLies
import Derived.Lib.Strings
namespace Go.Proofs.Yteclomkhienhiaa
open Go.RowKit Go.Conc
set_option linter.unusedVariables false
theorem next_any (g c : Nat) (hgc : g ≠ c) (l : List (Int × Int)) (x0 x1 : Int) (hx : l.head?.getD (0, 0) = (x0, x1)) (w : World) (hg : g < w.heap.size) (hc : w.cell? ⟨g, 1, none⟩ = some (.chan (some c))) (hs : Script w c l) :
    Calls Try.prog 43 #[.pointer (some ⟨g, 0, none⟩)] w fun e w' => e = .returned (.agg #[.int .i64 x0, .int .i64 x1]) ∧ Script w' c l.tail ∧ Keeps (· = c) w w' := by
  cases l with
  | nil =>
    simp only [List.head?_nil, Option.getD_none, Prod.mk.injEq] at hx
    obtain ⟨rfl, rfl⟩ := hx
    exact next_none g c w hg hc hs
  | cons y l =>
    simp only [List.head?_cons, Option.getD_some] at hx
    subst hx
    exact next_some g c hgc x0 x1 l w hg hc hs
theorem readAt_nil (a n : Int) (w : World) :
    Calls Try.prog 14 #[.pointer none, .int .i64 a, .int .i64 n] w fun e w' => e = .returned (.tuple #[.string ⟨#[]⟩, .int .i64 1]) ∧ w = w' := by
  go_enter Try.func14, Try.ntmps14
  go_wp2
  go_returns
  exact ⟨rfl, rfl⟩
theorem readAt_bad (g : Nat) (a n : Int) (h : a < 0 ∨ n < 0 ∨ 1048576 < n) (w : World) :
    Calls Try.prog 14 #[.pointer (some ⟨g, 0, none⟩), .int .i64 a, .int .i64 n] w fun e w' => e = .returned (.tuple #[.string ⟨#[]⟩, .int .i64 1]) ∧ w = w' := by
  by_cases h1 : a < 0
  · go_enter Try.func14, Try.ntmps14
    go_wp2
    go_returns
    exact ⟨rfl, rfl⟩
  · by_cases h2 : n < 0
    · go_enter Try.func14, Try.ntmps14
      go_wp2
      go_returns
      exact ⟨rfl, rfl⟩
    · have h3 : 1048576 < n := by omega
      clear h
      go_enter Try.func14, Try.ntmps14
      go_wp2
      go_returns
      exact ⟨rfl, rfl⟩
theorem spanInfo : (Try.prog.info? 45).map (fun i => (i.zero, i.size, i.bytes)) = some (some (.agg #[.int .i64 0, .int .i64 0]), 2, 16) := by kernel_rfl
def spanCells (l : List (Nat × Nat)) : List Value := l.flatMap fun x => [.int .i64 x.1, .int .i64 x.2]
theorem spanCells_snoc (l : List (Nat × Nat)) (a b : Nat) : spanCells (l ++ [(a, b)]) = spanCells l ++ [.int .i64 a, .int .i64 b] := by simp [spanCells]
/-- A source in memory: its text, the steps that are left, the spans that were read; all its blocks are of F. -/
def SrcF (F : Nat → Prop) (w : World) (g : Nat) (s : ByteArray) (l : List (Int × Int)) (sp : List (Nat × Nat)) : Prop :=
  ∃ c rd, F g ∧ F c ∧ (∀ b, rd.ownBlock = some b → F b) ∧ g ≠ c ∧ Has w g 71 #[.string s, .chan (some c), rd] ∧ Script w c l ∧ w.ownsRow 0 45 2 rd sp.length (spanCells sp)
theorem own_at {w : World} {e : TypeId} {size n : Nat} {v : Value} {xs : List Value} (h : w.ownsRow 0 e size v n xs) {b : Nat} (hb : v.ownBlock = some b) : ∃ cur, w.heap[b]? = some (.cells cur e (0, 0)) := by
  rcases h.2 with ⟨rfl, _⟩ | ⟨g', cap, cur, rfl, _, hh, _⟩
  · simp [Value.ownBlock] at hb
  · have : g' = b := by simpa [Value.ownBlock] using hb
    subst this
    exact ⟨cur, hh⟩
theorem own_keep {w w' : World} {e : TypeId} {size n : Nat} {v : Value} {xs : List Value} (h : w.ownsRow 0 e size v n xs) (hk : ∀ b, v.ownBlock = some b → w'.heap[b]? = w.heap[b]?) : w'.ownsRow 0 e size v n xs := by
  refine ⟨h.1, ?_⟩
  rcases h.2 with ⟨rfl, h0⟩ | ⟨g', cap, cur, rfl, h1, hh, h2⟩
  · exact .inl ⟨rfl, h0⟩
  · exact .inr ⟨g', cap, cur, rfl, h1, (hk g' (by simp [Value.ownBlock])).trans hh, h2⟩
theorem own_lt {w : World} {e : TypeId} {size n : Nat} {v : Value} {xs : List Value} (h : w.ownsRow 0 e size v n xs) {b : Nat} (hb : v.ownBlock = some b) : b < w.heap.size := by
  obtain ⟨cur, hc⟩ := own_at h hb
  rcases Nat.lt_or_ge b w.heap.size with hl | hg
  · exact hl
  · rw [Array.getElem?_eq_none hg] at hc; cases hc
theorem own_ne_has {w : World} {e : TypeId} {size n : Nat} {v : Value} {xs : List Value} (h : w.ownsRow 0 e size v n xs) {g : Nat} {t : TypeId} {cs : Array Value} (hg : Has w g t cs) (hne : e ≠ t) : v.ownBlock ≠ some g := fun hb => by
  obtain ⟨cur, hc⟩ := own_at h hb
  unfold Has at hg
  rw [hg] at hc
  injection hc with hc
  injection hc with _ ht
  exact hne ht.symm
theorem own_ne_script {w : World} {e : TypeId} {size n : Nat} {v : Value} {xs : List Value} (h : w.ownsRow 0 e size v n xs) {c : Nat} {l : List (Int × Int)} (hs : Script w c l) : v.ownBlock ≠ some c := fun hb => by
  obtain ⟨cur, hc⟩ := own_at h hb
  obtain ⟨cap, s, r, hk⟩ := hs
  rw [hk] at hc
  cases hc
/-- How many bytes there are, at most q, from p on. -/
def rdK (z p q : Nat) : Nat := min q (z - p)
def rdV (s : ByteArray) (p q : Nat) (x0 : Int) (x1 : Nat) : ByteArray := if x0 = 1 ∧ x1 < rdK s.size p q then s.extract p (p + x1) else s.extract p (p + rdK s.size p q)
def rdE (z p q : Nat) (x0 : Int) (x1 : Nat) : Int := if x0 = 1 ∧ x1 < rdK z p q then 0 else if rdK z p q < q then 2 else 0
def rdSp (sp : List (Nat × Nat)) (p : Nat) (V : ByteArray) : List (Nat × Nat) := if V.size = 0 then sp else sp ++ [(p, p + V.size)]
/-- What a read leaves. -/
def ReadPost (F : Nat → Prop) (g : Nat) (s : ByteArray) (l : List (Int × Int)) (sp : List (Nat × Nat)) (p : Nat) (V : ByteArray) (E : Int) (w : World) (e : Ending) (w' : World) : Prop :=
  ∃ F', e = .returned (.tuple #[.string V, .int .i64 E]) ∧ SrcF F' w' g s l.tail (rdSp sp p V) ∧ Keeps F w w' ∧ ∀ i, F' i → F i ∨ (w.heap.size ≤ i ∧ i < w'.heap.size)

theorem own_two (w : World) (x y : Value) (t : TypeId) : ∀ j u, [x, y][j]? = some u → (w.alloc (.cells #[x, y] t)).cell? ((⟨w.heap.size, 0, none⟩ : Addr).add j) = some u := by
  intro j u hj
  have hn := Has.new w t #[x, y]
  match j, hj with
  | 0, hj =>
    simp at hj; subst hj
    exact hn.cell 0
  | 1, hj =>
    simp at hj; subst hj
    exact hn.cell 1
theorem Keeps.grown {F : Nat → Prop} {a w w' : World} (h : Keeps F a w) {row : Option Nat} (hg : w.grownBy w' row) (hr : ∀ b, row = some b → F b) : Keeps F a w' :=
  ⟨hg.os.trans h.os, hg.tape.trans h.tape, hg.output.trans h.output, Nat.le_trans h.size hg.size, fun i hi hn => (hg.block i (Nat.lt_of_lt_of_le hi h.size) (fun e => hn (hr i e.symm))).trans (h.block i hi hn)⟩
theorem V_empty {V : ByteArray} (h : (!V.toList.isEmpty) = false) : V.size = 0 := by
  simp only [Bool.not_eq_false'] at h
  have h1 : V.toList = [] := by simpa using h
  have h2 : V.data.toList = [] := by rw [← h1]; exact (Lib.toList_data V).symm
  have h3 : V.size = V.data.toList.length := by simp
  rw [h3, h2]; rfl
theorem V_some {V : ByteArray} (h : (!V.toList.isEmpty) = true) : V.size ≠ 0 := fun h0 => by
  have h3 : V.data.toList.length = 0 := by rw [← h0]; simp
  have h2 : V.toList = [] := by rw [Lib.toList_data]; exact List.length_eq_zero_iff.1 h3
  rw [h2] at h
  cases h
theorem finish_none {F : Nat → Prop} {g c : Nat} {s : ByteArray} {rd : Value} {sp : List (Nat × Nat)} {l : List (Int × Int)} {p : Nat} {V : ByteArray} {E : Int} {w W : World} (hgc : g ≠ c) (hFg : F g) (hFc : F c) (hFr : ∀ b, rd.ownBlock = some b → F b)
    (hH : Has W g 71 #[.string s, .chan (some c), rd]) (hS : Script W c l.tail) (hR : W.ownsRow 0 45 2 rd sp.length (spanCells sp)) (hK : Keeps F w W) (hV : V.size = 0) :
    ReadPost F g s l sp p V E w (.returned (.tuple #[.string V, .int .i64 E])) W :=
  ⟨F, rfl, ⟨c, rd, hFg, hFc, hFr, hgc, hH, hS, by rw [rdSp, if_pos hV]; exact hR⟩, hK, fun _ h => .inl h⟩
theorem finish_app {F : Nat → Prop} {g c : Nat} {s : ByteArray} {rd rd' : Value} {sp : List (Nat × Nat)} {l : List (Int × Int)} {p : Nat} {V : ByteArray} {E : Int} {w W w5 : World} (o : Obj) (hgc : g ≠ c) (hFg : F g) (hFc : F c) (hFr : ∀ b, rd.ownBlock = some b → F b)
    (hH : Has W g 71 #[.string s, .chan (some c), rd]) (hS : Script W c l.tail) (hR : W.ownsRow 0 45 2 rd sp.length (spanCells sp)) (hK : Keeps F w W) (hV : V.size ≠ 0)
    (hown5 : w5.ownsRow 0 45 2 rd' (sp.length + 1) (spanCells sp ++ [.int .i64 p, .int .i64 ((p : Int) + V.size)])) (hg : (W.alloc o).grownBy w5 rd.ownBlock) (hb : rd'.ownBlock = rd.ownBlock ∨ rd'.ownBlock = some (W.alloc o).heap.size) (hH5 : Has w5 g 71 #[.string s, .chan (some c), rd]) :
    ReadPost F g s l sp p V E w (.returned (.tuple #[.string V, .int .i64 E])) (w5.setCell ⟨g, 2, none⟩ rd') := by
  have hz : W.heap.size ≤ w5.heap.size := Nat.le_trans (by simp) hg.size
  refine ⟨fun i => F i ∨ (w.heap.size ≤ i ∧ i < w5.heap.size), rfl, ⟨c, rd', .inl hFg, .inl hFc, fun b hbb => ?_, hgc, ?_, ?_, ?_⟩, ?_, fun i h => ?_⟩
  · rcases hb with h | h
    · exact .inl (hFr b (by rw [← h]; exact hbb))
    · have e : (W.alloc o).heap.size = b := by rw [h] at hbb; exact Option.some.inj hbb
      have h1 : W.heap.size ≤ (W.alloc o).heap.size := by simp
      have h2 := hK.size
      exact .inr ⟨by omega, own_lt hown5 hbb⟩
  · have := hH5.put 2 rd'
    simpa using this
  · have h1 : Keeps (fun i => some i = rd.ownBlock ∨ i = g) W (w5.setCell ⟨g, 2, none⟩ rd') := (((Keeps.refl _ W).alloc o).grown hg (fun b h => .inl h.symm)).setCell (.inr rfl |> .inl) _
    refine h1.script hS (fun h => ?_)
    rcases h with h | h
    · exact own_ne_script hR hS h.symm
    · exact hgc h.symm
  · have e1 : (rdSp sp p V) = sp ++ [(p, p + V.size)] := if_neg hV
    rw [e1, spanCells_snoc, List.length_append]
    refine own_keep (w := w5) (by simpa using hown5) (fun b hbb => Below.heap_setCell w5 ⟨g, 2, none⟩ rd' b (fun e => ?_))
    subst e
    exact own_ne_has hown5 hH5 (by decide) hbb
  · exact ((hK.alloc o).grown hg hFr).setCell (.inl hFg) _
  · rcases h with h | h
    · exact .inl h
    · exact .inr ⟨h.1, by simpa [World.setCell] using h.2⟩

theorem rdV_short {s : ByteArray} {p q : Nat} {x0 : Int} {x1 : Nat} {X : ByteArray} (h : x0 = 1) (k : x1 < rdK s.size p q) (e : X = s.extract p (p + x1)) : X = rdV s p q x0 x1 := by rw [rdV, if_pos ⟨h, k⟩, e]
theorem rdV_long {s : ByteArray} {p q : Nat} {x0 : Int} {x1 : Nat} {X : ByteArray} (k : ¬ x1 < rdK s.size p q) (e : X = s.extract p (p + rdK s.size p q)) : X = rdV s p q x0 x1 := by rw [rdV, if_neg (fun h => k h.2), e]
theorem rdV_kind {s : ByteArray} {p q : Nat} {x0 : Int} {x1 : Nat} {X : ByteArray} (k : x0 ≠ 1) (e : X = s.extract p (p + rdK s.size p q)) : X = rdV s p q x0 x1 := by rw [rdV, if_neg (fun h => k h.1), e]
theorem rdE_short {z p q : Nat} {x0 : Int} {x1 : Nat} (h : x0 = 1) (k : x1 < rdK z p q) : rdE z p q x0 x1 = 0 := if_pos ⟨h, k⟩
theorem rdE_full {z p q : Nat} {x0 : Int} {x1 : Nat} (k : ¬ x1 < rdK z p q) (e : ¬ rdK z p q < q) : rdE z p q x0 x1 = 0 := by rw [rdE, if_neg (fun h => k h.2), if_neg e]
theorem rdE_cut {z p q : Nat} {x0 : Int} {x1 : Nat} (k : ¬ x1 < rdK z p q) (e : rdK z p q < q) : rdE z p q x0 x1 = 2 := by rw [rdE, if_neg (fun h => k h.2), if_pos e]
theorem rdE_kindfull {z p q : Nat} {x0 : Int} {x1 : Nat} (k : x0 ≠ 1) (e : ¬ rdK z p q < q) : rdE z p q x0 x1 = 0 := by rw [rdE, if_neg (fun h => k h.1), if_neg e]
theorem rdE_kindcut {z p q : Nat} {x0 : Int} {x1 : Nat} (k : x0 ≠ 1) (e : rdK z p q < q) : rdE z p q x0 x1 = 2 := by rw [rdE, if_neg (fun h => k h.1), if_pos e]
theorem cut2 {T s : ByteArray} {p k j : Nat} (h : ∀ j, j ≤ T.size → T.extract 0 j = s.extract p (p + j)) (hk : j ≤ k) (hj : j ≤ T.size) : (T.extract 0 k).extract 0 j = s.extract p (p + j) := by
  rw [ByteArray.extract_extract, ← h j hj]
  congr 1
  omega
set_option maxRecDepth 100000 in
set_option maxHeartbeats 2000000 in
theorem readAt_x (F : Nat → Prop) (g c : Nat) (hgc : g ≠ c) (s : ByteArray) (hs : s.size ≤ 140737488351232) (rd : Value) (sp : List (Nat × Nat)) (hsp : sp.length ≤ 1000000000) (l : List (Int × Int)) (x0 : Int) (x1 : Nat) (hx : Hid (l.head?.getD (0, 0) = (x0, (x1 : Int)))) (hx2 : (x0 == 2) = false)
    (p q : Nat) (hq : q ≤ 1048576) (hp : p ≤ s.size) (w : World) (hH : Has w g 71 #[.string s, .chan (some c), rd]) (hS : Script w c l) (hR : w.ownsRow 0 45 2 rd sp.length (spanCells sp)) (hFg : F g) (hFc : F c) (hFr : ∀ b, rd.ownBlock = some b → F b) :
    Calls Try.prog 14 #[.pointer (some ⟨g, 0, none⟩), .int .i64 p, .int .i64 q] w (ReadPost F g s l sp p (rdV s p q x0 x1) (rdE s.size p q x0 x1) w) := by
  have HH := hid hH
  have HS := hid hS
  have HR := hid hR
  have HF := hid hFr
  clear hH hS hR hFr
  obtain ⟨i0, hi, hz0, hz1, hz2⟩ := info_parts spanInfo
  have d1 : decide ((p : Int) < 0) = false := by simp
  have d2 : decide ((q : Int) < 0) = false := by simp
  have d3 : decide ((1048576 : Int) < q) = false := by simp; omega
  go_enter Try.func14, Try.ntmps14
  go_wp2_with fail
  refine (next_any g c hgc l x0 x1 hx.out _ HH.out.lt (HH.out.cell 1) HS.out).mono ?_
  rintro e w1 ⟨rfl, hS1, hK1⟩
  have hH1 := hK1.has HH.out hgc
  have hH2 := hH1.alloc (.cells #[.int .i64 x0, .int .i64 x1] 33)
  have t0 : (w1.alloc (.cells #[.int .i64 x0, .int .i64 x1] 33)).cell? ⟨g, 0, none⟩ = some (.string s) := hH2.cell 0
  go_wp2_with fail
  go_quiet (fail)
  have hTs : (s.extract p s.size).size = s.size - p := by simp
  obtain ⟨T, hTe⟩ : ∃ T, s.extract p s.size = T := ⟨_, rfl⟩
  rw [hTe] at hTs ⊢
  have hT := hid hTs
  have HTe := hid hTe
  clear hTe hTs
  have hT1 : T.size ≤ 140737488351232 := by rw [hT.out]; omega
  rename_i K hK
  refine hK _ _ ?_
  clear hK
  -- the k bytes
  have hcut : ∀ j, j ≤ T.size → T.extract 0 j = s.extract p (p + j) := fun j hj => by
    rw [← HTe.out]
    have := hT.out
    rw [ByteArray.extract_extract]
    congr 1 <;> omega
  have HC := hid hcut
  clear hcut
  have hW4 : Keeps F w ((w1.alloc (.cells #[.int .i64 x0, .int .i64 x1] 33)).drewN nq) := ((hK1.mono (fun i _ h => by rw [h]; exact hFc)).alloc _).drewN _
  have hS4 : Script ((w1.alloc (.cells #[.int .i64 x0, .int .i64 x1] 33)).drewN nq) c l.tail := (Keeps.of_bw (F := fun _ => False) (((Bw.refl w1).alloc _).drewN _)).script hS1 (fun h => h)
  have hH4 : Has ((w1.alloc (.cells #[.int .i64 x0, .int .i64 x1] 33)).drewN nq) g 71 #[.string s, .chan (some c), rd] := hH2.drewN nq
  have hX4 : Has ((w1.alloc (.cells #[.int .i64 x0, .int .i64 x1] 33)).drewN nq) w1.heap.size 33 #[.int .i64 x0, .int .i64 x1] := (Has.new w1 _ _).drewN nq
  have hR4 : ((w1.alloc (.cells #[.int .i64 x0, .int .i64 x1] 33)).drewN nq).ownsRow 0 45 2 rd sp.length (spanCells sp) := own_keep HR.out (fun b hb => by
    have hlt := own_lt HR.out hb
    have e1 := hK1.block b hlt (fun h => own_ne_script HR.out HS.out (by rw [hb, h]))
    have e2 := Below.block ((Bw.alloc (Bw.refl w1) (.cells #[.int .i64 x0, .int .i64 x1] 33)).drewN nq) b (Nat.lt_of_lt_of_le hlt hK1.size)
    exact e2.trans e1)
  generalize (w1.alloc (.cells #[.int .i64 x0, .int .i64 x1] 33)).drewN nq = W4 at *
  have HS4 := hid hS4
  have HR4 := hid hR4
  have HX4 := hid hX4
  have HK4 := hid hW4
  have y0 : W4.cell? ⟨w1.heap.size, 0, none⟩ = some (.int .i64 x0) := hX4.cell 0
  have y1 : W4.cell? ⟨w1.heap.size, 1, none⟩ = some (.int .i64 x1) := hX4.cell 1
  have y2 : W4.cell? ⟨g, 2, none⟩ = some rd := hH4.cell 2
  clear hS4 hR4 hX4 hW4 hS1 hK1 hH1 hH2 t0
  by_cases hqk : q ≤ T.size
  · go_upto_region 8 with (fail)
    have hk : rdK s.size p q = q := by unfold rdK; have := hT.out; omega
    have HKK := hid hk
    clear hk
    obtain ⟨U, hU0⟩ : ∃ U, T.extract 0 q = U := ⟨_, rfl⟩
    rw [hU0]
    have hUs : U.size = q := by rw [← hU0]; simp; omega
    have HU0 := hid hU0
    have hU := hid hUs
    have hU1 : U.size ≤ 1048576 := by rw [hU.out]; omega
    have hU2 : U.size ≤ T.size := by have := hU.out; omega
    have hU3 : U.size ≤ q := by have := hU.out; omega
    have hU4 : q ≤ U.size := by have := hU.out; omega
    clear hU0 hUs
    by_cases h1 : (x0 == 1) = true
    · have hx01 := hid (beq_iff_eq.1 h1)
      by_cases h2 : x1 < U.size
      · go_upto_region 13 with (fail)
        obtain ⟨V, hV⟩ : ∃ V, U.extract 0 x1 = V := ⟨_, rfl⟩
        rw [hV]
        have HV : Hid (rdV s p q x0 x1 = V) := hid (by rw [← hV]; exact (rdV_short hx01.out (by rw [HKK.out, ← hU.out]; exact h2) (by rw [← HU0.out]; exact cut2 HC.out (by have := hU.out; omega) (by omega))).symm)
        have HE : Hid (rdE s.size p q x0 x1 = 0) := hid (by exact rdE_short hx01.out (by rw [HKK.out, ← hU.out]; exact h2))
        have hVs : V.size ≤ 1048576 := by rw [← hV]; first | omega | (simp; omega)
        clear hV
        by_cases hv : (!V.toList.isEmpty) = true
        · go_wp2_with (at_builtin; refine wpList_append_own_at _ rfl (.tmp 72) (.tmp 79) 39 rfl 0 45 i0 (.agg #[.int .i64 0, .int .i64 0]) 2 16 Try.underlying39 hi hz0 hz1 hz2 rfl (by decide) rd sp.length (spanCells sp) rfl (own_keep HR4.out (fun b hb => Below.heap_alloc _ _ _ (own_lt HR4.out hb))) ⟨W4.heap.size, 0, none⟩ 1 1 [.int .i64 p, .int .i64 ((p : Int) + V.size)] rfl rfl (own_two _ _ _ _) (by intro u hu; simp at hu; rcases hu with rfl | rfl <;> rfl) (by unfold maxLen; omega) (by omega) (Nat.zero_le _) ?_; intro rd' w5 hown5 hgrow5 _ hblk5; obtain ⟨g5, cap5, rfl, _, _⟩ := hown5.form (by omega); have hH5 : Has w5 g 71 #[.string s, .chan (some c), rd] := (hgrow5.block g (by have := hH4.lt; simp; omega) (fun e => own_ne_has HR4.out hH4 (by decide) e.symm)).trans (hH4.alloc _); have y5 : w5.cell? ⟨g, 2, none⟩ = some rd := hH5.cell 2; have z5 := hH5.frozen 2)
          go_returns
          rw [HV.out, HE.out]
          exact finish_app _ hgc hFg hFc HF.out hH4 HS4.out HR4.out HK4.out (V_some hv) hown5 hgrow5 hblk5 hH5
        · have hv1 : (!V.toList.isEmpty) = false := by simpa using hv
          clear hv
          go_wp2
          go_returns
          rw [HV.out, HE.out]
          exact finish_none hgc hFg hFc HF.out hH4 HS4.out HR4.out HK4.out (V_empty hv1)
      · go_upto_region 13 with (fail)
        obtain ⟨V, hV⟩ : ∃ V, U = V := ⟨_, rfl⟩
        rw [hV]
        have HV : Hid (rdV s p q x0 x1 = V) := hid (by rw [← hV]; exact (rdV_long (by rw [HKK.out, ← hU.out]; omega) (by rw [HKK.out, ← HU0.out]; exact HC.out _ (by omega))).symm)
        have HE : Hid (rdE s.size p q x0 x1 = 0) := hid (by exact rdE_full (by rw [HKK.out, ← hU.out]; omega) (by rw [HKK.out]; omega))
        have hVs : V.size ≤ 1048576 := by rw [← hV]; first | omega | (simp; omega)
        clear hV
        by_cases hv : (!V.toList.isEmpty) = true
        · go_wp2_with (at_builtin; refine wpList_append_own_at _ rfl (.tmp 72) (.tmp 79) 39 rfl 0 45 i0 (.agg #[.int .i64 0, .int .i64 0]) 2 16 Try.underlying39 hi hz0 hz1 hz2 rfl (by decide) rd sp.length (spanCells sp) rfl (own_keep HR4.out (fun b hb => Below.heap_alloc _ _ _ (own_lt HR4.out hb))) ⟨W4.heap.size, 0, none⟩ 1 1 [.int .i64 p, .int .i64 ((p : Int) + V.size)] rfl rfl (own_two _ _ _ _) (by intro u hu; simp at hu; rcases hu with rfl | rfl <;> rfl) (by unfold maxLen; omega) (by omega) (Nat.zero_le _) ?_; intro rd' w5 hown5 hgrow5 _ hblk5; obtain ⟨g5, cap5, rfl, _, _⟩ := hown5.form (by omega); have hH5 : Has w5 g 71 #[.string s, .chan (some c), rd] := (hgrow5.block g (by have := hH4.lt; simp; omega) (fun e => own_ne_has HR4.out hH4 (by decide) e.symm)).trans (hH4.alloc _); have y5 : w5.cell? ⟨g, 2, none⟩ = some rd := hH5.cell 2; have z5 := hH5.frozen 2)
          go_returns
          rw [HV.out, HE.out]
          exact finish_app _ hgc hFg hFc HF.out hH4 HS4.out HR4.out HK4.out (V_some hv) hown5 hgrow5 hblk5 hH5
        · have hv1 : (!V.toList.isEmpty) = false := by simpa using hv
          clear hv
          go_wp2
          go_returns
          rw [HV.out, HE.out]
          exact finish_none hgc hFg hFc HF.out hH4 HS4.out HR4.out HK4.out (V_empty hv1)
    · have h1f : (x0 == 1) = false := by simpa using h1
      have hn1 := hid (beq_eq_false_iff_ne.1 h1f)
      clear h1
      go_upto_region 13 with (fail)
      obtain ⟨V, hV⟩ : ∃ V, U = V := ⟨_, rfl⟩
      rw [hV]
      have HV : Hid (rdV s p q x0 x1 = V) := hid (by rw [← hV]; exact (rdV_kind hn1.out (by rw [HKK.out, ← HU0.out]; exact HC.out _ (by omega))).symm)
      have HE : Hid (rdE s.size p q x0 x1 = 0) := hid (by exact rdE_kindfull hn1.out (by rw [HKK.out]; omega))
      have hVs : V.size ≤ 1048576 := by rw [← hV]; first | omega | (simp; omega)
      clear hV
      by_cases hv : (!V.toList.isEmpty) = true
      · go_wp2_with (at_builtin; refine wpList_append_own_at _ rfl (.tmp 72) (.tmp 79) 39 rfl 0 45 i0 (.agg #[.int .i64 0, .int .i64 0]) 2 16 Try.underlying39 hi hz0 hz1 hz2 rfl (by decide) rd sp.length (spanCells sp) rfl (own_keep HR4.out (fun b hb => Below.heap_alloc _ _ _ (own_lt HR4.out hb))) ⟨W4.heap.size, 0, none⟩ 1 1 [.int .i64 p, .int .i64 ((p : Int) + V.size)] rfl rfl (own_two _ _ _ _) (by intro u hu; simp at hu; rcases hu with rfl | rfl <;> rfl) (by unfold maxLen; omega) (by omega) (Nat.zero_le _) ?_; intro rd' w5 hown5 hgrow5 _ hblk5; obtain ⟨g5, cap5, rfl, _, _⟩ := hown5.form (by omega); have hH5 : Has w5 g 71 #[.string s, .chan (some c), rd] := (hgrow5.block g (by have := hH4.lt; simp; omega) (fun e => own_ne_has HR4.out hH4 (by decide) e.symm)).trans (hH4.alloc _); have y5 : w5.cell? ⟨g, 2, none⟩ = some rd := hH5.cell 2; have z5 := hH5.frozen 2)
        go_returns
        rw [HV.out, HE.out]
        exact finish_app _ hgc hFg hFc HF.out hH4 HS4.out HR4.out HK4.out (V_some hv) hown5 hgrow5 hblk5 hH5
      · have hv1 : (!V.toList.isEmpty) = false := by simpa using hv
        clear hv
        go_wp2
        go_returns
        rw [HV.out, HE.out]
        exact finish_none hgc hFg hFc HF.out hH4 HS4.out HR4.out HK4.out (V_empty hv1)
  · go_upto_region 8 with (fail)
    have hk : rdK s.size p q = T.size := by unfold rdK; have := hT.out; omega
    have HKK := hid hk
    clear hk
    have hU0 : T.extract 0 T.size = T := by simp
    have hUs : T.size = T.size := rfl
    have HU0 := hid hU0
    have hU := hid hUs
    have hU1 : T.size ≤ 1048576 := by omega
    have hU2 : T.size ≤ T.size := by have := hU.out; omega
    have hU3 : T.size ≤ T.size := by have := hU.out; omega
    have hU4 : T.size ≤ T.size := by have := hU.out; omega
    clear hU0 hUs
    by_cases h1 : (x0 == 1) = true
    · have hx01 := hid (beq_iff_eq.1 h1)
      by_cases h2 : x1 < T.size
      · go_upto_region 13 with (fail)
        obtain ⟨V, hV⟩ : ∃ V, T.extract 0 x1 = V := ⟨_, rfl⟩
        rw [hV]
        have HV : Hid (rdV s p q x0 x1 = V) := hid (by rw [← hV]; exact (rdV_short hx01.out (by rw [HKK.out, ← hU.out]; exact h2) (by rw [← HU0.out]; exact cut2 HC.out (by have := hU.out; omega) (by omega))).symm)
        have HE : Hid (rdE s.size p q x0 x1 = 0) := hid (by exact rdE_short hx01.out (by rw [HKK.out, ← hU.out]; exact h2))
        have hVs : V.size ≤ 1048576 := by rw [← hV]; first | omega | (simp; omega)
        clear hV
        by_cases hv : (!V.toList.isEmpty) = true
        · go_wp2_with (at_builtin; refine wpList_append_own_at _ rfl (.tmp 72) (.tmp 79) 39 rfl 0 45 i0 (.agg #[.int .i64 0, .int .i64 0]) 2 16 Try.underlying39 hi hz0 hz1 hz2 rfl (by decide) rd sp.length (spanCells sp) rfl (own_keep HR4.out (fun b hb => Below.heap_alloc _ _ _ (own_lt HR4.out hb))) ⟨W4.heap.size, 0, none⟩ 1 1 [.int .i64 p, .int .i64 ((p : Int) + V.size)] rfl rfl (own_two _ _ _ _) (by intro u hu; simp at hu; rcases hu with rfl | rfl <;> rfl) (by unfold maxLen; omega) (by omega) (Nat.zero_le _) ?_; intro rd' w5 hown5 hgrow5 _ hblk5; obtain ⟨g5, cap5, rfl, _, _⟩ := hown5.form (by omega); have hH5 : Has w5 g 71 #[.string s, .chan (some c), rd] := (hgrow5.block g (by have := hH4.lt; simp; omega) (fun e => own_ne_has HR4.out hH4 (by decide) e.symm)).trans (hH4.alloc _); have y5 : w5.cell? ⟨g, 2, none⟩ = some rd := hH5.cell 2; have z5 := hH5.frozen 2)
          go_returns
          rw [HV.out, HE.out]
          exact finish_app _ hgc hFg hFc HF.out hH4 HS4.out HR4.out HK4.out (V_some hv) hown5 hgrow5 hblk5 hH5
        · have hv1 : (!V.toList.isEmpty) = false := by simpa using hv
          clear hv
          go_wp2
          go_returns
          rw [HV.out, HE.out]
          exact finish_none hgc hFg hFc HF.out hH4 HS4.out HR4.out HK4.out (V_empty hv1)
      · go_upto_region 13 with (fail)
        obtain ⟨V, hV⟩ : ∃ V, T = V := ⟨_, rfl⟩
        rw [hV]
        have HV : Hid (rdV s p q x0 x1 = V) := hid (by rw [← hV]; exact (rdV_long (by rw [HKK.out, ← hU.out]; omega) (by rw [HKK.out]; exact HU0.out.symm.trans (HC.out _ (by omega)))).symm)
        have HE : Hid (rdE s.size p q x0 x1 = 2) := hid (by exact rdE_cut (by rw [HKK.out, ← hU.out]; omega) (by rw [HKK.out]; omega))
        have hVs : V.size ≤ 1048576 := by rw [← hV]; first | omega | (simp; omega)
        clear hV
        by_cases hv : (!V.toList.isEmpty) = true
        · go_wp2_with (at_builtin; refine wpList_append_own_at _ rfl (.tmp 72) (.tmp 79) 39 rfl 0 45 i0 (.agg #[.int .i64 0, .int .i64 0]) 2 16 Try.underlying39 hi hz0 hz1 hz2 rfl (by decide) rd sp.length (spanCells sp) rfl (own_keep HR4.out (fun b hb => Below.heap_alloc _ _ _ (own_lt HR4.out hb))) ⟨W4.heap.size, 0, none⟩ 1 1 [.int .i64 p, .int .i64 ((p : Int) + V.size)] rfl rfl (own_two _ _ _ _) (by intro u hu; simp at hu; rcases hu with rfl | rfl <;> rfl) (by unfold maxLen; omega) (by omega) (Nat.zero_le _) ?_; intro rd' w5 hown5 hgrow5 _ hblk5; obtain ⟨g5, cap5, rfl, _, _⟩ := hown5.form (by omega); have hH5 : Has w5 g 71 #[.string s, .chan (some c), rd] := (hgrow5.block g (by have := hH4.lt; simp; omega) (fun e => own_ne_has HR4.out hH4 (by decide) e.symm)).trans (hH4.alloc _); have y5 : w5.cell? ⟨g, 2, none⟩ = some rd := hH5.cell 2; have z5 := hH5.frozen 2)
          go_returns
          rw [HV.out, HE.out]
          exact finish_app _ hgc hFg hFc HF.out hH4 HS4.out HR4.out HK4.out (V_some hv) hown5 hgrow5 hblk5 hH5
        · have hv1 : (!V.toList.isEmpty) = false := by simpa using hv
          clear hv
          go_wp2
          go_returns
          rw [HV.out, HE.out]
          exact finish_none hgc hFg hFc HF.out hH4 HS4.out HR4.out HK4.out (V_empty hv1)
    · have h1f : (x0 == 1) = false := by simpa using h1
      have hn1 := hid (beq_eq_false_iff_ne.1 h1f)
      clear h1
      go_upto_region 13 with (fail)
      obtain ⟨V, hV⟩ : ∃ V, T = V := ⟨_, rfl⟩
      rw [hV]
      have HV : Hid (rdV s p q x0 x1 = V) := hid (by rw [← hV]; exact (rdV_kind hn1.out (by rw [HKK.out]; exact HU0.out.symm.trans (HC.out _ (by omega)))).symm)
      have HE : Hid (rdE s.size p q x0 x1 = 2) := hid (by exact rdE_kindcut hn1.out (by rw [HKK.out]; omega))
      have hVs : V.size ≤ 1048576 := by rw [← hV]; first | omega | (simp; omega)
      clear hV
      by_cases hv : (!V.toList.isEmpty) = true
      · go_wp2_with (at_builtin; refine wpList_append_own_at _ rfl (.tmp 72) (.tmp 79) 39 rfl 0 45 i0 (.agg #[.int .i64 0, .int .i64 0]) 2 16 Try.underlying39 hi hz0 hz1 hz2 rfl (by decide) rd sp.length (spanCells sp) rfl (own_keep HR4.out (fun b hb => Below.heap_alloc _ _ _ (own_lt HR4.out hb))) ⟨W4.heap.size, 0, none⟩ 1 1 [.int .i64 p, .int .i64 ((p : Int) + V.size)] rfl rfl (own_two _ _ _ _) (by intro u hu; simp at hu; rcases hu with rfl | rfl <;> rfl) (by unfold maxLen; omega) (by omega) (Nat.zero_le _) ?_; intro rd' w5 hown5 hgrow5 _ hblk5; obtain ⟨g5, cap5, rfl, _, _⟩ := hown5.form (by omega); have hH5 : Has w5 g 71 #[.string s, .chan (some c), rd] := (hgrow5.block g (by have := hH4.lt; simp; omega) (fun e => own_ne_has HR4.out hH4 (by decide) e.symm)).trans (hH4.alloc _); have y5 : w5.cell? ⟨g, 2, none⟩ = some rd := hH5.cell 2; have z5 := hH5.frozen 2)
        go_returns
        rw [HV.out, HE.out]
        exact finish_app _ hgc hFg hFc HF.out hH4 HS4.out HR4.out HK4.out (V_some hv) hown5 hgrow5 hblk5 hH5
      · have hv1 : (!V.toList.isEmpty) = false := by simpa using hv
        clear hv
        go_wp2
        go_returns
        rw [HV.out, HE.out]
        exact finish_none hgc hFg hFc HF.out hH4 HS4.out HR4.out HK4.out (V_empty hv1)

end Go.Proofs.Yteclomkhienhiaa
