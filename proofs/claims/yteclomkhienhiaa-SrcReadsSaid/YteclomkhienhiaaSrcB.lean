/- What New returns. -/
import Derived.Test.YteclomkhienhiaaSrcA
namespace Go.Proofs.Yteclomkhienhiaa
open Go.RowKit Go.Conc
set_option linter.unusedVariables false
set_option maxHeartbeats 400000 in
theorem isStep_any (x0 x1 : Int) (w : World) :
    Calls Try.prog 37 #[.agg #[.int .i64 x0, .int .i64 x1]] w fun e w' => e = .returned (.bool (decide ((x0 = 0 ∨ x0 = 2) ∧ x1 = 0 ∨ x0 = 1 ∧ 0 ≤ x1))) ∧ Bw w w' := by
  by_cases h0 : x0 = 0
  · subst h0
    go_enter Try.func37, Try.ntmps37
    go_wp2
    all_goals (go_returns; refine ⟨ret_bool ?_, by unfold Bw; go_grown⟩; rw [Bool.eq_iff_iff]; simp)
  · by_cases h2 : x0 = 2
    · subst h2
      go_enter Try.func37, Try.ntmps37
      go_wp2
      all_goals (go_returns; refine ⟨ret_bool ?_, by unfold Bw; go_grown⟩; rw [Bool.eq_iff_iff]; simp)
    · by_cases h1 : x0 = 1
      · subst h1
        go_enter Try.func37, Try.ntmps37
        go_wp2
        all_goals (go_returns; refine ⟨ret_bool ?_, by unfold Bw; go_grown⟩; rw [Bool.eq_iff_iff]; simp)
      · have t0 : (x0 == 0) = false := by simpa using h0
        have t1 : (x0 == 1) = false := by simpa using h1
        have t2 : (x0 == 2) = false := by simpa using h2
        have hz := hid (decide_eq_false (show ¬ ((x0 = 0 ∨ x0 = 2) ∧ x1 = 0 ∨ x0 = 1 ∧ 0 ≤ x1) by omega))
        clear h0 h1 h2
        go_enter Try.func37, Try.ntmps37
        go_wp2
        go_returns
        exact ⟨ret_bool hz.out.symm, by unfold Bw; go_grown⟩
theorem chan_make (w : World) (n : Nat) (hn : n ≤ 1000) : (Instr.makeChan 68 (.int .i64 n)).run Try.prog w = .ok (.chan (some w.heap.size)) (w.alloc (.chan n #[] false 0 0 false)) := by
  obtain ⟨i, hi, hb⟩ : ∃ i, Try.prog.info? 33 = some i ∧ i.bytes = 16 := by
    have h : (Try.prog.info? 33).map (·.bytes) = some 16 := by kernel_rfl
    obtain ⟨i, hi, hb⟩ := Option.map_eq_some_iff.1 h
    exact ⟨i, hi, hb⟩
  exact run_makeChan (P := Try.prog) (w := w) Try.underlying68 hi .i64 n (by omega) (by rw [hb]; omega)
def okStep (x : Int × Int) : Prop := (x.1 = 0 ∨ x.1 = 2) ∧ x.2 = 0 ∨ x.1 = 1 ∧ 0 ≤ x.2
instance (x : Int × Int) : Decidable (okStep x) := by unfold okStep; infer_instance
def OkAll (l : List (Int × Int)) : Prop := ∀ x ∈ l, okStep x
/-- What was sent, the first k. -/
def sent (l : List (Int × Int)) (k : Nat) : Array Value := (List.map stepV (List.take k l)).toArray
def newOk (l : List (Int × Int)) : Bool := decide (l.length ≤ 1000) && l.all fun x => decide (okStep x)
theorem isStep_yes (x0 x1 : Int) (h : okStep (x0, x1)) (w : World) : Calls Try.prog 37 #[.agg #[.int .i64 x0, .int .i64 x1]] w fun e w' => e = .returned (.bool true) ∧ Bw w w' := by
  have := isStep_any x0 x1 w
  rwa [decide_eq_true (show (x0 = 0 ∨ x0 = 2) ∧ x1 = 0 ∨ x0 = 1 ∧ 0 ≤ x1 from h)] at this
theorem isStep_no (x0 x1 : Int) (h : ¬ okStep (x0, x1)) (w : World) : Calls Try.prog 37 #[.agg #[.int .i64 x0, .int .i64 x1]] w fun e w' => e = .returned (.bool false) ∧ Bw w w' := by
  have := isStep_any x0 x1 w
  rwa [decide_eq_false (show ¬ ((x0 = 0 ∨ x0 = 2) ∧ x1 = 0 ∨ x0 = 1 ∧ 0 ≤ x1) from h)] at this
/-- The cells of a slice of steps. -/
def StepsAt (w : World) (a : Option Addr) (l : List (Int × Int)) : Prop :=
  ∀ i (h : i < l.length), ∃ b off, a = some ⟨b, off, none⟩ ∧ b < w.heap.size ∧ w.cell? ⟨b, off + i * 2, none⟩ = some (.int .i64 (l[i]'h).1) ∧ w.cell? ⟨b, off + i * 2 + 1, none⟩ = some (.int .i64 (l[i]'h).2)
theorem StepsAt.below {w w' : World} {a : Option Addr} {l : List (Int × Int)} (h : StepsAt w a l) (hb : Below w.heap.size w w') : StepsAt w' a l := fun i hi => by
  obtain ⟨b, off, e, hl, h0, h1⟩ := h i hi
  exact ⟨b, off, e, Nat.lt_of_lt_of_le hl hb.size, (hb.cell (p := ⟨b, _, none⟩) hl).trans h0, (hb.cell (p := ⟨b, _, none⟩) hl).trans h1⟩
/-- What New leaves where the steps may be. -/
def NewGood (s : ByteArray) (l : List (Int × Int)) (w : World) (e : Ending) (w' : World) : Prop :=
  ∃ g c, e = .returned (.tuple #[.pointer (some ⟨g, 0, none⟩), .int .i64 0]) ∧ w.heap.size ≤ g ∧ w.heap.size ≤ c ∧ g ≠ c ∧ Has w' g 71 #[.string s, .chan (some c), .slice none 0 0] ∧ Script w' c l ∧ Bw w w'
def NewBad (w : World) (e : Ending) (w' : World) : Prop := e = .returned (.tuple #[.pointer none, .int .i64 1]) ∧ Bw w w'
def NewPost (s : ByteArray) (l : List (Int × Int)) (w : World) (e : Ending) (w' : World) : Prop := if newOk l then NewGood s l w e w' else NewBad w e w'

set_option maxRecDepth 100000 in
set_option maxHeartbeats 1000000 in
theorem new_ok (s : ByteArray) (a : Option Addr) (len cap : Nat) (l : List (Int × Int)) (hll : Hid (l.length = len)) (hl : len ≤ 1000) (w : World) (hs : StepsAt w a l) :
    Calls Try.prog 10 #[.string s, .slice a len cap] w (NewPost s l w) := by
  have hmc := chan_make w len hl
  have hlt : decide ((1000 : Int) < len) = false := by simp; omega
  have HS := hid hs
  clear hs
  refine calls_of_wpN Try.func10 rfl ?_
  simp only [Try.ntmps10, List.size_toArray, List.length_cons, List.length_nil, Nat.reduceAdd, Nat.reduceSub, Array.replicate_succ, Array.replicate_zero, List.push_toArray, List.append_toArray, List.nil_append, List.cons_append]
  refine WpN.seq (WpN.of_wp ?_)
  go_wp2
  try simp only [Exit.then]
  refine WpN.seq (WpN.of_wp ?_)
  go_wp2
  try simp only [Exit.then]
  refine WpN.seq (WpN.of_wp ?_)
  go_wp2
  try simp only [Exit.then]
  refine WpN.seq (WpN.seq (WpN.of_wp ?_))
  go_wp2
  try simp only [Exit.then]
  refine WpN.block (WpN.loop (fun f W => ∃ k : Nat, ∃ u8 u18 u19 u20 u21 u22 u23 u24 u25 u26 u27 u28 u29 u30 u31 : Value, k ≤ len ∧ f = ⟨#[.string s, .slice a len cap, undef, undef, .pointer none, .int .i64 0, .chan (some w.heap.size), undef, u8, .slice a len cap, .int .i64 len, .bool false, .slice a len cap, .int .i64 len, .chan (some w.heap.size), .slice a len cap, .int .i64 len, .int .i64 k, u18, u19, u20, u21, u22, u23, u24, u25, u26, u27, u28, u29, u30, u31], []⟩ ∧
      W.heap[w.heap.size]? = some (.chan len (sent l k) false k 0 false) ∧ Bw w W ∧ OkAll (l.take k))
    (fun f _ => len - (intOf (f.tmps.getD 17 undef)).toNat) ?_ ?_)
  · exact ⟨0, undef, undef, undef, undef, undef, undef, undef, undef, undef, undef, undef, undef, undef, undef, undef, Nat.zero_le _, rfl, heap_alloc_new w _, (Bw.refl w).alloc _, fun x hx => by simp at hx⟩
  · rintro f W ⟨k, u8, u18, u19, u20, u21, u22, u23, u24, u25, u26, u27, u28, u29, u30, u31, hk, rfl, hch, hbw, hall⟩
    by_cases hkl : k < len
    · refine WpN.seq (WpN.of_wp ?_)
      go_wp2
      try simp only [Exit.then]
      refine WpN.seq (WpN.of_wp ?_)
      go_wp2
      try simp only [Exit.then]
      refine WpN.seq (WpN.block (WpN.seq (WpN.of_wp ?_)))
      obtain ⟨b, off, rfl, hb, hc0, hc1⟩ := (HS.out.below hbw) k (by rw [hll.out]; exact hkl)
      have hkl' : k < l.length := by rw [hll.out]; exact hkl
      obtain ⟨x0, x1, hx⟩ : ∃ x0 x1, l[k] = (x0, x1) := ⟨_, _, rfl⟩
      rw [hx] at hc0 hc1
      have HX := hid hx
      clear hx
      go_wp2
      by_cases hok : okStep (x0, x1)
      · have HK := hid hok
        clear hok
        refine WpN.seq (WpN.of_wp ?_)
        go_wp2_with (go_at_call 37; refine (isStep_yes _ _ HK.out _).mono ?_; rintro e w2 ⟨rfl, h2⟩)
        try simp only [Exit.then]
        have hWs : w.heap.size ≤ W.heap.size := hbw.size
        have hcl : w.heap.size < W.heap.size := by
          rcases Nat.lt_or_ge w.heap.size W.heap.size with h | h
          · exact h
          · rw [Array.getElem?_eq_none h] at hch; cases hch
        have hch2 : w2.heap[w.heap.size]? = some (.chan len (sent l k) false k 0 false) := by
          have e1 := Below.block h2 w.heap.size (by simp; omega)
          rw [e1, Below.heap_alloc _ _ _ hcl]; exact hch
        have hX := h2.has (Has.new W 33 #[.int .i64 x0, .int .i64 x1])
        have x0c : w2.cell? ⟨W.heap.size, 0, none⟩ = some (.int .i64 x0) := hX.cell 0
        have x1c : w2.cell? ⟨W.heap.size, 1, none⟩ = some (.int .i64 x1) := hX.cell 1
        refine WpN.region ?_
        simp only [List.size_toArray, List.length_cons, List.length_nil, Nat.reduceAdd, Nat.zero_add, List.range, List.range.loop]
        refine OpsN.value rfl rfl (by simp [go_sem, execOp, Act.eval]; exact ⟨rfl, rfl⟩) ?_
        refine OpsN.value rfl rfl (by simp [go_sem, execOp, Act.eval, Act.put, x0c, x1c]; exact ⟨rfl, rfl⟩) ?_
        refine OpsN.send (z := .tuple #[]) (v := stepV (x0, x1)) rfl rfl (by simp [go_sem, execOp, scase, Act.eval, Act.put, stepV]) hch2 (by simp [sent]; omega) ?_
        refine OpsN.nil ?_
        simp only [Exit.inBlock, Exit.then]
        have e3 : (sent l k).push (stepV (x0, x1)) = (sent l (k + 1)) := by
          unfold sent; rw [List.take_succ_eq_append_getElem hkl', HX.out]; simp
        have hch3 := heap_setChan w2 w.heap.size len ((sent l k).push (stepV (x0, x1))) false (k + 1) 0 false (by have := h2.size; simp at this; omega)
        rw [e3] at hch3
        have hb3 : Bw w (w2.setChan w.heap.size len ((sent l k).push (stepV (x0, x1))) false (k + 1) 0 false) :=
          below_setChan (Bw.trans (hbw.alloc _) h2) (Nat.le_refl _) _ _ _ _ _ _
        rw [e3] at hb3
        rw [e3]
        generalize w2.setChan w.heap.size len (sent l (k + 1)) false (k + 1) 0 false = W3 at *
        simp only [Act.put]
        have HA : OkAll (l.take (k + 1)) := by
          rw [List.take_succ_eq_append_getElem hkl', HX.out]
          intro x hx
          rcases List.mem_append.1 hx with h | h
          · exact hall x h
          · rw [List.mem_singleton.1 h]; exact HK.out
        clear hall e3 hch2 hX x0c x1c hc0 hc1
        refine WpN.of_wp ?_
        go_wp2
        exact ⟨⟨k + 1, by omega, ⟨_, _, _, _, _, _, _, _, _, _, _, _, _, _, _, rfl⟩, hch3, hb3, HA⟩, by simp [intOf]; omega⟩
      · have hbad : newOk l = false := by
          unfold newOk
          rw [Bool.and_eq_false_iff]
          right
          rw [List.all_eq_false]
          exact ⟨(x0, x1), by rw [← HX.out]; exact List.getElem_mem _, by simpa using hok⟩
        have HK := hid hok
        have HB := hid hbad
        clear hok hbad
        refine WpN.seq (WpN.of_wp ?_)
        go_wp2_with (go_at_call 37; refine (isStep_no _ _ HK.out _).mono ?_; rintro e w2 ⟨rfl, h2⟩)
        try simp only [Exit.then, Exit.inBlock]
        go_returns
        unfold NewPost
        rw [HB.out]
        exact ⟨rfl, Bw.trans (hbw.alloc _) h2⟩
    · have hkk : k = len := by omega
      subst hkk
      refine WpN.seq (WpN.of_wp ?_)
      go_wp2
      try simp only [Exit.then]
      refine WpN.seq (WpN.of_wp ?_)
      go_wp2
      try simp only [Exit.then, Exit.inBlock]
      have htk : l.take k = l := List.take_of_length_le (by rw [hll.out]; exact Nat.le_refl _)
      have hok : newOk l = true := by
        unfold newOk
        rw [Bool.and_eq_true]
        refine ⟨by rw [hll.out]; simpa using hl, List.all_eq_true.2 fun x hx => ?_⟩
        have := hall x (by rw [htk]; exact hx)
        simpa using this
      have htk2 : sent l k = (l.map stepV).toArray := by unfold sent; rw [htk]
      rw [htk2] at hch
      have hclt : w.heap.size < W.heap.size := by
        rcases Nat.lt_or_ge w.heap.size W.heap.size with h | h
        · exact h
        · rw [Array.getElem?_eq_none h] at hch; cases hch
      have hclo : ∀ ats ty, (Builtin.close_ ats ty #[.chan (some w.heap.size)]).run Try.prog W = .ok (.tuple #[]) (W.setChan w.heap.size k (l.map stepV).toArray true k 0 false) :=
        fun ats ty => run_close_open (P := Try.prog) (w := W) ats ty hch
      have hS : Script (W.setChan w.heap.size k (l.map stepV).toArray true k 0 false) w.heap.size l := ⟨k, k, 0, heap_setChan W _ _ _ _ _ _ _ hclt⟩
      have hB : Bw w (W.setChan w.heap.size k (l.map stepV).toArray true k 0 false) := below_setChan hbw (Nat.le_refl _) _ _ _ _ _ _
      have HOK := hid hok
      generalize W.setChan w.heap.size k (l.map stepV).toArray true k 0 false = W3 at *
      clear hall hch hok htk hkl hk hlt
      refine WpN.of_wp ?_
      go_wp2
      go_returns
      unfold NewPost
      rw [HOK.out]
      have hlt3 := hS.lt
      refine ⟨W3.heap.size, w.heap.size, rfl, hB.size, Nat.le_refl _, by omega, Has.new W3 _ _, ?_, hB.alloc _⟩
      exact (Keeps.of_bw (F := fun _ => False) ((Bw.refl W3).alloc _)).script hS (fun h => h)
theorem new_long (s : ByteArray) (a : Option Addr) (len cap : Nat) (l : List (Int × Int)) (hll : Hid (l.length = len)) (hl : ¬ len ≤ 1000) (w : World) :
    Calls Try.prog 10 #[.string s, .slice a len cap] w (NewPost s l w) := by
  have hbad : newOk l = false := by unfold newOk; rw [Bool.and_eq_false_iff]; left; rw [hll.out]; simpa using hl
  have HB := hid hbad
  clear hbad
  go_enter Try.func10, Try.ntmps10
  go_wp2
  go_returns
  unfold NewPost
  rw [HB.out]
  exact ⟨rfl, Bw.refl _⟩
theorem new_any (s : ByteArray) (a : Option Addr) (len cap : Nat) (l : List (Int × Int)) (hll : l.length = len) (w : World) (hs : StepsAt w a l) :
    Calls Try.prog 10 #[.string s, .slice a len cap] w (NewPost s l w) := by
  by_cases hl : len ≤ 1000
  · exact new_ok s a len cap l (hid hll) hl w hs
  · exact new_long s a len cap l (hid hll) hl w
end Go.Proofs.Yteclomkhienhiaa
