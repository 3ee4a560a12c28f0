/- MatchJoined returns true for every two texts, and changes nothing that was there; no condition. -/
import Derived.Test.YthegehgjpehfkaaMapF
import Derived.Test.YthegehgjpehfkaaMatO
import Derived.Test.YthegehgjpehfkaaMatG
import Derived.Test.YthegehgjpehfkaaMatJ
import Derived.SizedLaws
import Derived.ChangeMaps5
import Derived.Laws.MakeOwn
import Derived.Laws.AppendOwnNone
import Derived.ProofKit
import Derived.OpenShut
import Derived.ShutString
import Derived.ChangeOld
namespace Go.Proofs.Ythegehgjpehfkaa.matchJoined
open Go.RowKit Go.ChangeShapes Go.ChangeMaps Go.WideShapes Go.ChangeAt
set_option linter.unusedVariables false

/-- append(v, tokens...) -/
theorem wpList_app_toks {w : World} {ops : Array Oper} {rest : List Oper} {o : Oper} {a : Act} {Q : Exit → Act → World → Prop} (hgd : o.guard = none) (s x : Operand)
    (ho : o.op = .call { callee := .builtin .append, args := #[s, x], argTypes := #[22, 22] }) {B n : Nat} {v : Value} {xs : List Value} {A : Option Addr} {len cap : Nat} {l : List TokR} (hs : a.eval s = v) (hown : w.ownsRow B 37 3 v n xs) (hx : a.eval x = .slice A len cap)
    (hA : A = none → cap = 0) (hst : ToksAt w A l) (hll : l.length = len) (hb : (n + len) * 24 ≤ 140737488355328) (hB : B ≤ w.heap.size)
    (h : ∀ v' w', w'.ownsRow B 37 3 v' (n + len) (xs ++ tokCells l) → Below B w w' → wpList Try.prog ops Q rest (a.put o.dst v') w') : wpList Try.prog ops Q (o :: rest) a w := by
  obtain ⟨i0, hi, hz0, hz1, hz2⟩ := info_parts tokInfo
  cases A with
  | none =>
    have hl0 : l = [] := by
      cases l with
      | nil => rfl
      | cons y l => obtain ⟨b, off, e, _⟩ := hst 0 (by simp); cases e
    subst hl0
    have : len = 0 := by rw [← hll]; rfl
    subst this
    rw [hA rfl] at hx
    exact wpList_append_own_none hgd s x _ ho B _ i0 3 Try.underlying22 hi v n xs hs hown hx (by
      refine h _ _ ?_ (Below.refl _ _)
      rw [show tokCells [] = [] from rfl, List.append_nil, Nat.add_zero]
      exact hown)
  | some ad =>
    refine wpList_append_own_at _ hgd s x _ ho B _ i0 (.agg #[.int .u8 0, .int .i64 0, .int .i64 0]) 3 24 Try.underlying22 hi hz0 hz1 hz2 rfl (by decide) v n xs hs hown ad len cap (tokCells l) hx (by rw [tokCells_len, hll]) (fun j u hj => ?_) (fun u hu => ?_) (by unfold maxLen; omega) hb hB ?_
    · have hj2 : j / 3 < l.length := by
        have := (List.getElem?_eq_some_iff.1 hj).1
        rw [tokCells_len] at this
        omega
      obtain ⟨b, off, e, _, c0, c1, c2, _⟩ := hst (j / 3) hj2
      obtain rfl : ad = ⟨b, off, none⟩ := Option.some.inj e
      have gg := fun q hq => tokCells_get l (j / 3) hj2 q hq
      have ea : (Addr.add ⟨b, off, none⟩ j) = ⟨b, off + j, none⟩ := by
        unfold Addr.add; by_cases hz : j = 0 <;> simp [hz]
      rw [ea]
      have hm : j % 3 = 0 ∨ j % 3 = 1 ∨ j % 3 = 2 := by omega
      rcases hm with hm | hm | hm
      · have e2 : j = j / 3 * 3 + 0 := by omega
        have g0 := gg 0 (by omega)
        rw [← e2, hj] at g0
        rw [show off + j = off + j / 3 * 3 by omega, c0, g0]
        rfl
      · have e2 : j = j / 3 * 3 + 1 := by omega
        have g0 := gg 1 (by omega)
        rw [← e2, hj] at g0
        rw [show off + j = off + j / 3 * 3 + 1 by omega, c1, g0]
        rfl
      · have e2 : j = j / 3 * 3 + 2 := by omega
        have g0 := gg 2 (by omega)
        rw [← e2, hj] at g0
        rw [show off + j = off + j / 3 * 3 + 2 by omega, c2, g0]
        rfl
    · simp only [tokCells, List.mem_flatMap] at hu
      obtain ⟨y, _, hy⟩ := hu
      simp [tokCell] at hy
      rcases hy with rfl | rfl | rfl <;> rfl
    · intro v' w' ho' hg' _ _
      exact h v' w' ho' (own_grown hB (fun b hb => own_ge hown hb) hg')
theorem rep1_pre (pre out : List UInt8) (d : Nat) (h1 : 1 ≤ d) (h2 : d ≤ out.length) : rep1 (pre ++ out) d = pre ++ rep1 out d := by
  unfold rep1
  rw [List.append_assoc]
  congr 2
  rw [List.getD_eq_getElem?_getD, List.getD_eq_getElem?_getD, List.length_append, List.getElem?_append_right (by omega)]
  congr 3
  omega
theorem rep_pre (pre out : List UInt8) (d : Nat) (h1 : 1 ≤ d) (h2 : d ≤ out.length) : ∀ n, rep (pre ++ out) d n = pre ++ rep out d n
  | 0 => rfl
  | n + 1 => by
    rw [rep, rep_pre pre out d h1 h2 n, rep, rep1_pre _ _ _ h1 (by rw [rep_len]; omega)]
theorem tokE_ok {t : TokR} {k : Nat} {lim : Int} (h : tokE t k lim = 0) : (isB t = true ∧ (k : Int) + 1 ≤ lim) ∨ (isB t = false ∧ isM t = true ∧ t.dist ≤ k ∧ (k : Int) + t.len ≤ lim) := by
  unfold tokE at h
  cases hb : isB t with
  | true =>
    rw [hb] at h
    simp only [if_true] at h
    split at h
    · omega
    · exact .inl ⟨rfl, by omega⟩
  | false =>
    rw [hb] at h
    simp only [Bool.false_eq_true, if_false] at h
    cases hm : isM t with
    | false => rw [hm] at h; simp at h
    | true =>
      rw [hm] at h
      simp only [if_true] at h
      split at h
      · omega
      · split at h
        · omega
        · exact .inr ⟨rfl, rfl, by omega, by omega⟩
theorem tokE_of {t : TokR} {k : Nat} {lim : Int} (h : (isB t = true ∧ (k : Int) + 1 ≤ lim) ∨ (isB t = false ∧ isM t = true ∧ t.dist ≤ k ∧ (k : Int) + t.len ≤ lim)) : tokE t k lim = 0 := by
  unfold tokE
  rcases h with ⟨h1, h2⟩ | ⟨h1, h2, h3, h4⟩
  · rw [h1, if_pos rfl, if_neg (by omega)]
  · rw [h1, h2, if_neg (by decide), if_pos rfl, if_neg (by omega), if_neg (by omega)]
theorem expGo_shift {lim lim2 : Int} {pre : List UInt8} (hl : lim + pre.length ≤ lim2) : ∀ (l : List TokR) (out res : List UInt8), expGo lim l out = (0, res) → expGo lim2 l (pre ++ out) = (0, pre ++ res)
  | [], out, res, h => by
    have : out = res := by simpa [expGo] using h
    rw [this]; rfl
  | t :: l, out, res, h => by
    rw [expGo] at h
    by_cases e : tokE t out.length lim = 0
    · rw [if_pos e] at h
      have e1 := tokE_ok e
      have e2 : tokE t (pre ++ out).length lim2 = 0 := tokE_of (by
        rw [List.length_append]
        rcases e1 with ⟨a, b⟩ | ⟨a, b, c, d⟩
        · exact .inl ⟨a, by omega⟩
        · exact .inr ⟨a, b, by omega, by omega⟩)
      have e3 : tokX t (pre ++ out) = pre ++ tokX t out := by
        unfold tokX
        rcases e1 with ⟨a, b⟩ | ⟨a, b, c, d⟩
        · rw [a, if_pos rfl, if_pos rfl, List.append_assoc]
        · rw [a, if_neg (by decide), if_neg (by decide)]
          have := isM_iff.1 b
          exact rep_pre pre out _ (by omega) (by omega) _
      rw [expGo, if_pos e2, e3]
      exact expGo_shift hl l _ res h
    · rw [if_neg e] at h
      have h1 : tokE t out.length lim = 0 := by injection h
      exact absurd h1 e
theorem expGo_costOk {lim : Int} : ∀ (l : List TokR) (out res : List UInt8), expGo lim l out = (0, res) → costOk l = true
  | [], _, _, _ => rfl
  | t :: l, out, res, h => by
    rw [expGo] at h
    by_cases e : tokE t out.length lim = 0
    · rw [if_pos e] at h
      have h1 := expGo_costOk l _ res h
      have h2 : tokOk t = true := by
        rcases tokE_ok e with ⟨a, _⟩ | ⟨_, a, _⟩ <;> simp [tokOk, a]
      unfold costOk at h1 ⊢
      rw [List.all_cons, h2, h1]; rfl
    · rw [if_neg e] at h
      have h1 : tokE t out.length lim = 0 := by injection h
      exact absurd h1 e
theorem costGo_app (a b : List TokR) : costGo (a ++ b) = costGo a + costGo b - 7 := by
  have key : ∀ (l : List TokR) (x y : Int), l.foldl (fun n t => n + tokC t) (x + y) = l.foldl (fun n t => n + tokC t) x + y := by
    intro l
    induction l with
    | nil => intro x y; rfl
    | cons t l ih =>
      intro x y
      rw [List.foldl_cons, List.foldl_cons, show x + y + tokC t = x + tokC t + y by omega, ih]
  unfold costGo
  rw [List.foldl_append]
  have h1 := key b 7 (a.foldl (fun n t => n + tokC t) 7 - 7)
  rw [show 7 + (a.foldl (fun n t => n + tokC t) 7 - 7) = a.foldl (fun n t => n + tokC t) 7 by omega] at h1
  rw [h1]; omega
theorem joined {s t : ByteArray} {la lb : List TokR} (hs : s.size ≤ 5000) (ht : t.size ≤ 5000) (ha : FindOk s la) (hb : FindOk t lb) :
    expS (la ++ lb) ((s.size : Int) + t.size) = s ++ t ∧ expE (la ++ lb) ((s.size : Int) + t.size) = 0 ∧ costV la = costGo la ∧ costE la = 0 ∧ costV lb = costGo lb ∧ costE lb = 0 ∧ costV (la ++ lb) = costGo la + costGo lb - 7 ∧ costE (la ++ lb) = 0 := by
  have h1 : expGo ((s.size : Int) + t.size) la [] = (0, s.data.toList) := by
    have := expGo_shift (lim2 := (s.size : Int) + t.size) (pre := []) (by simp only [List.length_nil]; omega) la [] _ ha.2.1
    simpa using this
  have hsl : s.data.toList.length = s.size := by simp
  have h2 : expGo ((s.size : Int) + t.size) lb s.data.toList = (0, s.data.toList ++ t.data.toList) := by
    have := expGo_shift (lim2 := (s.size : Int) + t.size) (pre := s.data.toList) (by rw [hsl]; omega) lb [] _ hb.2.1
    rwa [List.append_nil] at this
  have h3 := (expGo_app la lb [] _ h1).trans h2
  have h4 := exp_end (show lmB ((s.size : Int) + t.size) = true from decide_eq_true ⟨by omega, by omega⟩) h3
  have ca := expGo_costOk la _ _ ha.2.1
  have cb := expGo_costOk lb _ _ hb.2.1
  have cab := expGo_costOk (la ++ lb) _ _ h3
  refine ⟨?_, h4.2, if_pos ca, if_pos ca, if_pos cb, if_pos cb, ?_, if_pos cab⟩
  · rw [h4.1]
    apply ByteArray.ext
    simp
  · have : costV (la ++ lb) = costGo (la ++ lb) := if_pos cab
    rw [this, costGo_app]
set_option maxRecDepth 100000 in
set_option maxHeartbeats 4000000 in
theorem walk (s t : ByteArray) (w : World) (hs9 : s.size ≤ 9223372036854775807) (ht9 : t.size ≤ 9223372036854775807) :
    Calls Try.prog 7 #[.string s, .string t] w fun e w' => e = .returned (.bool true) ∧ Bw w w' := by
  have HL := hid live_any
  have hor : 5000 < s.size ∨ (s.size ≤ 5000 ∧ 5000 < t.size) ∨ (s.size ≤ 5000 ∧ t.size ≤ 5000) := by omega
  rcases hor with h1 | ⟨h1, h2⟩ | ⟨h1, h2⟩
  · have h1' : (5000 : Int) < s.size := by omega
    go_enter Try.func7, Try.ntmps7
    go_wp2_with fail
    refine (HL.out _).mono ?_
    rintro e w2 ⟨rfl, hb⟩
    go_wp2
    go_returns
    exact ⟨rfl, hb⟩
  · have h1' : ¬ (5000 : Int) < s.size := by omega
    have h2' : (5000 : Int) < t.size := by omega
    go_enter Try.func7, Try.ntmps7
    go_wp2_with fail
    refine (HL.out _).mono ?_
    rintro e w2 ⟨rfl, hb⟩
    go_wp2
    go_returns
    exact ⟨rfl, hb⟩
  · have h1' : ¬ (5000 : Int) < s.size := by omega
    have h2' : ¬ (5000 : Int) < t.size := by omega
    have HF := hid (fun W => find_any s (by omega) W)
    have HG := hid (fun W => find_any t (by omega) W)
    go_enter Try.func7, Try.ntmps7
    go_wp2_with fail
    refine (HF.out _).mono ?_
    rintro e w2 ⟨la, aa, ca, rfl, hoka, htka, hb2, hna⟩
    have HB2 := hid hb2
    have HTA2 := hid htka
    have HNA := hid hna
    clear hb2 htka hna
    go_wp2_with fail
    refine (HG.out _).mono ?_
    rintro e w3 ⟨lb, ab, cb, rfl, hokb, htkb, hb3, hnb⟩
    have HB3 := hid (HB2.out.trans hb3)
    have HTA := hid (HTA2.out.below hb3)
    have HTB := hid htkb
    have HNB := hid hnb
    have hla : la.length ≤ 5000 := by have := hoka.2.2.1; omega
    have hlb : lb.length ≤ 5000 := by have := hokb.2.2.1; omega
    have HJ := hid (joined h1 h2 hoka hokb)
    have hlita := hoka.1
    have hlitb := hokb.1
    have HLIT := hid (show ∀ o ∈ la ++ lb, o.lit < 256 from fun o ho => by
      rcases List.mem_append.1 ho with h | h
      · exact hlita o h
      · exact hlitb o h)
    have hca := costGo_le la (expGo_costOk la _ _ hoka.2.1)
    have hcb := costGo_le lb (expGo_costOk lb _ _ hokb.2.1)
    obtain ⟨ma, hma⟩ : ∃ m, la.length = m := ⟨_, rfl⟩
    obtain ⟨mb, hmb⟩ : ∃ m, lb.length = m := ⟨_, rfl⟩
    rw [hma] at hla hca
    rw [hmb] at hlb hcb
    rw [hma, hmb]
    have HMA := hid hma
    have HMB := hid hmb
    obtain ⟨hca0, hca1⟩ := hca
    obtain ⟨hcb0, hcb1⟩ := hcb
    clear hoka hokb htkb hb3 hnb hlita hlitb hma hmb HTA2
    go_wp2_with (first | (at_builtin; refine wpList_app_toks rfl (.tmp 29) (.tmp 30) rfl rfl (World.ownsRow_nil w3 w3.heap.size _ _) rfl HNA.out HTA.out HMA.out (by omega) (Nat.le_refl _) ?_; intro v4 w4 hown4 hbel4; rw [Nat.zero_add, List.nil_append] at hown4; obtain ⟨vo4, vc4, rfl⟩ := own_slice hown4; have HO4 := hid hown4; have HB4 := hid hbel4; have hz4 := hbel4.size; have HTB4 := hid (HTB.out.below hbel4); clear hown4 hbel4) | (at_builtin; refine wpList_app_toks rfl (.tmp 32) (.tmp 33) rfl rfl HO4.out rfl HNB.out HTB4.out HMB.out (by omega) hz4 ?_; intro v5 w5 hown5 hbel5; obtain ⟨vo5, vc5, rfl⟩ := own_slice hown5; have HO5 := hid hown5; have HB5 := hid (Below.trans HB4.out hbel5); clear hown5 hbel5))
    have hst : ToksAt w5 vo5 (la ++ lb) := toksAt_own (n := ma + mb) (cap := vc5) (by rw [tokCells_app, List.length_append, HMA.out, HMB.out]; exact HO5.out) HLIT.out
    have HST := hid hst
    have HTA5 := hid (HTA.out.below HB5.out)
    have HTB5 := hid (HTB.out.below HB5.out)
    have HE := hid (exp_any vo5 (ma + mb) vc5 (by omega) (la ++ lb) (hid (by rw [List.length_append, HMA.out, HMB.out])) ((s.size : Int) + t.size) w5 hst)
    have HCA := hid (fun (W : World) (h : Bw w5 W) => cost_any aa ma ca (by omega) la HMA W (HTA5.out.below h))
    have HCB := hid (fun (W : World) (h : Bw w5 W) => cost_any ab mb cb (by omega) lb HMB W (HTB5.out.below h))
    have HCC := hid (fun (W : World) (h : Bw w5 W) => cost_any vo5 (ma + mb) vc5 (by omega) (la ++ lb) (hid (by rw [List.length_append, HMA.out, HMB.out])) W (HST.out.below h))
    generalize costGo la = xa at *
    generalize costGo lb = xb at *
    obtain ⟨j1, j2, j3, j4, j5, j6, j7, j8⟩ := HJ.out
    have HJ1 := hid (⟨j1, j2⟩ : expS (la ++ lb) ((s.size : Int) + t.size) = s ++ t ∧ _)
    have HJ2 := hid (⟨j3, j4⟩ : costV la = xa ∧ _)
    have HJ3 := hid (⟨j5, j6⟩ : costV lb = xb ∧ _)
    have HJ4 := hid (⟨j7, j8⟩ : costV (la ++ lb) = xa + xb - 7 ∧ _)
    clear j1 j2 j3 j4 j5 j6 j7 j8 hst
    go_wp2_with fail
    refine HE.out.mono ?_
    rintro e w6 ⟨rfl, hb6⟩
    rw [HJ1.out.1, HJ1.out.2]
    have HB6 := hid hb6
    clear hb6
    go_wp2_with fail
    refine (HCA.out _ HB6.out).mono ?_
    rintro e w7 ⟨rfl, hb7⟩
    rw [HJ2.out.1, HJ2.out.2]
    have HB7 := hid (HB6.out.trans hb7)
    clear hb7
    go_wp2_with fail
    refine (HCB.out _ HB7.out).mono ?_
    rintro e w8 ⟨rfl, hb8⟩
    rw [HJ3.out.1, HJ3.out.2]
    have HB8 := hid (HB7.out.trans hb8)
    clear hb8
    go_wp2_with fail
    refine (HCC.out _ HB8.out).mono ?_
    rintro e w9 ⟨rfl, hb9⟩
    rw [HJ4.out.1, HJ4.out.2]
    have HB9 := hid (HB8.out.trans hb9)
    clear hb9
    go_wp2_with fail
    refine (HL.out _).mono ?_
    rintro e w10 ⟨rfl, hb10⟩
    have HB10 := hid (HB9.out.trans hb10)
    clear hb10
    go_wp2
    go_returns
    exact ⟨rfl, (HB3.out.trans HB5.out).trans HB10.out⟩

/-! The frame: from the walk to the statement. -/
theorem own : ownKnob Try.prog.godebug = none := by kernel_rfl
theorem laidOut : laidOutB Try.prog = true := by kernel_rfl
set_option maxRecDepth 100000 in
theorem lifted (os : Os) (started : os.Started) (H : Type) (enc : TypeId × Value → H) :
    ReturnsInHanded {} Try.checked os 7 .any (Rows.matchJoinedSpec.pre6 enc Try.prog Try.f7 Rows.matchJoinedRow.domain false) (Rows.matchJoinedSpec.post enc Try.prog Try.f7 false true false false) := by
  refine returnsInHanded_of_change_sized (C := Try.checked) own started (by kernel_rfl) Try.func7
    (ChangeSpec.witness6 (enc := enc) (C := Try.checked) false ⟨#[], #[.string ⟨#[]⟩, .string ⟨#[]⟩], []⟩ 8 (by kernel_rfl) (by kernel_rfl) (by kernel_rfl) (by kernel_rfl)) ?_
  intro W base args ds gs before hval0 hW hcnd hsz0 _
  have hval : ∀ (j : Nat) t v, Try.f7.params[j]? = some t → args[j]? = some v → Value.okWide Try.prog W .any base t v := hval0
  have hW' := hW
  obtain ⟨p, q, hA0, hV, rfl, hfz, hnd⟩ := hW
  have hA : DataW.TrodAll enc Try.prog W 0 (fun _ => true) true Try.f7.params.toList args.toList ds p := hA0
  have hsz : (DataW.weightsEach Try.prog (Try.f7.params.toList ++ Rows.matchJoinedSpec.plain.varTypes Try.prog) (ds ++ gs)).all (· ≤ reachBytes) = true := hsz0
  rw [Try.params7] at hA hval hsz
  obtain ⟨v0, vs0, d0, ds0, p0, q0, hargs, rfl, rfl, h0, r0⟩ := trodAll_cons hA
  obtain ⟨v1, vs1, d1, ds1, p1, q1, rfl, rfl, rfl, h1, r1⟩ := trodAll_cons r0
  obtain ⟨rfl, rfl, rfl⟩ := trodAll_nil r1
  obtain rfl : args = #[v0, v1] := by cases args; simp_all
  obtain ⟨rfl, rfl⟩ := trodVars_none hV
  obtain ⟨a0, rfl, rfl, rfl, w0⟩ := open_string Try.underlying9 (hval 0 9 v0 rfl rfl) h0
  have z0 := sized_string hsz (j := 0) (t := 9) (bytes := a0.data.toList) rfl rfl
  obtain ⟨a1, rfl, rfl, rfl, w1⟩ := open_string Try.underlying9 (hval 1 9 v1 rfl rfl) h1
  have z1 := sized_string hsz (j := 1) (t := 9) (bytes := a1.data.toList) rfl rfl
  clear hA0 hval0
  try simp only [List.append_nil] at hW'
  refine (walk a0 a1 W (by have := z0; unfold reachBytes at this; simp at this; omega) (by have := z1; unfold reachBytes at this; simp at this; omega)).mono fun e W' ⟨he, bel⟩ => ?_
  subst he
  exact ⟨_, rfl, _, _, _, [], _, [], hW', trodAll_mk1 (shut_bool Try.underlying4 _), (trodAll_cons_mk (shut_string Try.underlying9 w0) (trodAll_cons_mk (shut_string Try.underlying9 w1) trodAll_mk0)), rfl, Below.frame bel _, fun h => by cases h⟩

theorem proved : Rows.MatchJoinedSaid :=
  OpenClaim.holds_of_wide 7 Try.f7 rfl rfl rfl rfl rfl rfl rfl ⟨rfl, rfl, rfl, rfl, rfl⟩ rfl rfl rfl rfl rfl (by kernel_rfl) Try.func7 (by kernel_rfl)
    (of_decide_eq_true (by kernel_rfl)) (by unfold Func.isWrapper; first | (rw [if_pos (by decide +kernel)]; kernel_rfl) | (rw [if_neg (by decide +kernel)]; exact ⟨rfl, rfl⟩))
    (fun os started H enc _ => lifted os started H enc)
end Go.Proofs.Ythegehgjpehfkaa.matchJoined
