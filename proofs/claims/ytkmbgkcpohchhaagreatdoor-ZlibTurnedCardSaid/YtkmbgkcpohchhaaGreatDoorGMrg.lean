import Derived.Test.YtkmbgkcpohchhaaGreatDoorGHufZ
import Derived.Test.YtkmbgkcpohchhaaGreatDoorGDefN
import Derived.IntWalk
namespace Go.Proofs.YtkmbgkcpohchhaaGreatDoor
open Go.RowKit Go.Conc
set_option linter.unusedVariables false
def mergeL {α : Type} (lt : α → α → Bool) : List α → List α → List α
  | [], v => v
  | x :: u, [] => x :: u
  | x :: u, y :: v => if lt y x then y :: mergeL lt (x :: u) v else x :: mergeL lt u (y :: v)
theorem mergeL_none {α : Type} (lt : α → α → Bool) (u : List α) : mergeL lt u [] = u := by cases u <;> simp [mergeL]
theorem mergeL_nil {α : Type} (lt : α → α → Bool) (v : List α) : mergeL lt [] v = v := by simp [mergeL]
theorem merge_split {α : Type} (lt : α → α → Bool) (u2 v2 : List α) : ∀ u1 v1 : List α, (∀ y ∈ v1, ∀ x ∈ u2, lt y x = true) → (∀ x ∈ u1, ∀ y ∈ v2, lt y x = false) → mergeL lt (u1 ++ u2) (v1 ++ v2) = mergeL lt u1 v1 ++ mergeL lt u2 v2
  | [], [], _, _ => by rw [mergeL_nil]; rfl
  | [], y :: v1, h1, h2 => by
    have ih := merge_split lt u2 v2 [] v1 (fun z hz => h1 z (List.mem_cons_of_mem _ hz)) h2
    rw [mergeL_nil] at ih
    rw [mergeL_nil]
    cases u2 with
    | nil => rw [List.nil_append, mergeL_nil, mergeL_nil]
    | cons x u2 =>
      show mergeL lt (x :: u2) (y :: (v1 ++ v2)) = y :: (v1 ++ mergeL lt (x :: u2) v2)
      rw [mergeL, if_pos (h1 y (List.mem_cons_self ..) x (List.mem_cons_self ..)), ← ih]; rfl
  | x :: u1, [], h1, h2 => by
    have ih := merge_split lt u2 v2 u1 [] h1 (fun z hz => h2 z (List.mem_cons_of_mem _ hz))
    rw [mergeL_none] at ih ⊢
    cases v2 with
    | nil => rw [List.append_nil, mergeL_none, mergeL_none]
    | cons y v2 =>
      show mergeL lt (x :: (u1 ++ u2)) (y :: v2) = x :: (u1 ++ mergeL lt u2 (y :: v2))
      rw [mergeL, if_neg (by rw [h2 x (List.mem_cons_self ..) y (List.mem_cons_self ..)]; decide), ← ih]; rfl
  | x :: u1, y :: v1, h1, h2 => by
    show mergeL lt (x :: (u1 ++ u2)) (y :: (v1 ++ v2)) = mergeL lt (x :: u1) (y :: v1) ++ _
    rw [mergeL, mergeL]
    split
    · have ih := merge_split lt u2 v2 (x :: u1) v1 (fun z hz => h1 z (List.mem_cons_of_mem _ hz)) h2
      rw [List.cons_append]
      exact congrArg (y :: ·) ih
    · have ih := merge_split lt u2 v2 u1 (y :: v1) h1 (fun z hz => h2 z (List.mem_cons_of_mem _ hz))
      rw [List.cons_append]
      exact congrArg (x :: ·) ih
theorem mergeL_mem {α : Type} (lt : α → α → Bool) : ∀ (u v : List α) (z : α), z ∈ mergeL lt u v ↔ z ∈ u ∨ z ∈ v
  | [], v, z => by rw [mergeL_nil]; simp
  | x :: u, [], z => by rw [mergeL_none]; simp
  | x :: u, y :: v, z => by
    rw [mergeL]
    split
    · have ih := mergeL_mem lt (x :: u) v z
      simp only [List.mem_cons] at ih ⊢
      rw [ih]
      constructor
      · rintro (h | (h | h) | h) <;> simp [h]
      · rintro ((h | h) | h | h) <;> simp [h]
    · have ih := mergeL_mem lt u (y :: v) z
      simp only [List.mem_cons] at ih ⊢
      rw [ih, or_assoc]
theorem insRev_app {α : Type} (lt : α → α → Bool) (p : α) (Q : List α) : ∀ R : List α, insRev lt p (R ++ Q) = if R.all (lt p) then R ++ insRev lt p Q else insRev lt p R ++ Q
  | [] => rfl
  | z :: R => by
    show (if lt p z then z :: insRev lt p (R ++ Q) else p :: z :: (R ++ Q)) = _
    cases h : lt p z with
    | true =>
      rw [if_pos rfl, insRev_app lt p Q R, List.all_cons, h, Bool.true_and]
      split
      · rfl
      · rw [insRev, h]; rfl
    | false =>
      rw [if_neg (by decide), List.all_cons, h, Bool.false_and, if_neg (by decide), insRev, h]; rfl
end Go.Proofs.YtkmbgkcpohchhaaGreatDoor
namespace Go.Proofs.YtkmbgkcpohchhaaGreatDoor
open Go.Sort
set_option linter.unusedVariables false
theorem merge_left1 {α : Type} (lt : α → α → Bool) (x : α) (v1 v2 : List α) (h1 : ∀ y ∈ v1, lt y x = true) (h2 : ∀ y ∈ v2, lt y x = false) : mergeL lt [x] (v1 ++ v2) = v1 ++ x :: v2 := by
  have e1 := merge_split lt [x] v2 [] v1 (fun y hy z hz => by rw [List.mem_singleton.1 hz]; exact h1 y hy) (fun z hz => by simp at hz)
  have e2 := merge_split lt [] v2 [x] [] (fun y hy => by simp at hy) (fun z hz y hy => by rw [List.mem_singleton.1 hz]; exact h2 y hy)
  rw [mergeL_nil] at e1
  rw [mergeL_nil, mergeL_none] at e2
  exact e1.trans (congrArg (v1 ++ ·) e2)
theorem merge_right1 {α : Type} (lt : α → α → Bool) (y : α) (u1 u2 : List α) (h1 : ∀ x ∈ u1, lt y x = false) (h2 : ∀ x ∈ u2, lt y x = true) : mergeL lt (u1 ++ u2) [y] = u1 ++ y :: u2 := by
  have e1 := merge_split lt u2 [y] u1 [] (fun z hz => by simp at hz) (fun x hx z hz => by rw [List.mem_singleton.1 hz]; exact h1 x hx)
  have e2 := merge_split lt u2 [] [] [y] (fun z hz x hx => by rw [List.mem_singleton.1 hz]; exact h2 x hx) (fun x hx => by simp at hx)
  rw [mergeL_none] at e1
  rw [mergeL_nil, mergeL_none] at e2
  exact e1.trans (congrArg (u1 ++ ·) e2)
section
variable {α : Type} [Inhabited α]
theorem swp_next (P R : List α) (x y : α) : swp (P ++ x :: y :: R).toArray P.length (P.length + 1) = (P ++ y :: x :: R).toArray := by
  have := swp_far P [] R x y
  simpa using this
theorem swp_last (P R : List α) (x y : α) : swp (P ++ x :: y :: R).toArray (P.length + 1) P.length = (P ++ y :: x :: R).toArray := swp_mid P R y x
structure GoesR (d : Array α) (T : List α) (k e : Nat) : Prop where
  at_ : ∃ (P S R : List α) (x : α), d = (P ++ x :: (S ++ R)).toArray ∧ P ++ S ++ x :: R = T ∧ P.length = k ∧ k + S.length = e
theorem goesR_step {d : Array α} {T : List α} {k e : Nat} (h : GoesR d T k e) (hk : k < e) : GoesR (swp d k (k + 1)) T (k + 1) e ∧ k + 1 < d.size := by
  obtain ⟨P, S, R, x, rfl, hT, hP, hS⟩ := h.at_
  cases S with
  | nil => simp at hS; omega
  | cons y S =>
    refine ⟨⟨P ++ [y], S, R, x, ?_, by rw [← hT]; simp, by simp; omega, by simp at hS ⊢; omega⟩, by simp; omega⟩
    have := swp_next P (S ++ R) x y
    rw [hP] at this
    rw [List.cons_append, this]
    simp
omit [Inhabited α] in
theorem goesR_end {d : Array α} {T : List α} {e : Nat} (h : GoesR d T e e) : d = T.toArray := by
  obtain ⟨P, S, R, x, rfl, hT, hP, hS⟩ := h.at_
  obtain rfl : S = [] := List.length_eq_zero_iff.1 (by omega)
  rw [← hT]; simp
structure GoesL (d : Array α) (T : List α) (k e : Nat) : Prop where
  at_ : ∃ (P S R : List α) (x : α), d = (P ++ S ++ x :: R).toArray ∧ P ++ x :: (S ++ R) = T ∧ (P ++ S).length = k ∧ P.length = e
theorem goesL_step {d : Array α} {T : List α} {k e : Nat} (h : GoesL d T k e) (hk : e < k) : GoesL (swp d k (k - 1)) T (k - 1) e ∧ k < d.size := by
  obtain ⟨P, S, R, x, rfl, hT, hP, hS⟩ := h.at_
  have hne : S ≠ [] := fun e => by subst e; simp at hP; omega
  obtain ⟨S', y, rfl⟩ : ∃ C p, S = C ++ [p] := ⟨S.dropLast, S.getLast hne, (List.dropLast_concat_getLast hne).symm⟩
  have hlen : (P ++ S').length + 1 = k := by simp at hP ⊢; omega
  refine ⟨⟨P, S', y :: R, x, ?_, by rw [← hT]; simp, by omega, hS⟩, by simp at hP ⊢; omega⟩
  have := swp_last (P ++ S') R y x
  rw [hlen, show (P ++ S').length = k - 1 by omega] at this
  have e1 : P ++ (S' ++ [y]) ++ x :: R = P ++ S' ++ y :: x :: R := by simp
  rw [e1, this]
omit [Inhabited α] in
theorem goesL_end {d : Array α} {T : List α} {e : Nat} (h : GoesL d T e e) : d = T.toArray := by
  obtain ⟨P, S, R, x, rfl, hT, hP, hS⟩ := h.at_
  obtain rfl : S = [] := List.length_eq_zero_iff.1 (by simp at hP; omega)
  rw [← hT]; simp
end
end Go.Proofs.YtkmbgkcpohchhaaGreatDoor
namespace Go.Proofs.YtkmbgkcpohchhaaGreatDoor
open Go.RowKit Go.Shelf Go.Lib Go.Sort
set_option linter.unusedVariables false
variable {α : Type} [Inhabited α]
theorem swk_back {enc : α → List Value} {k : Nat} {W W1 w : World} {o : Obj} {blk off : Nat} {T : Array α} (e : W.alloc o = W1) (hblk : blk < W.heap.size) (h : SWK enc k W1 blk off T w) : SWK enc k W blk off T w := by
  subst e
  obtain ⟨n3, os3, rfl⟩ := h
  refine ⟨n3, #[o] ++ os3, ?_⟩
  unfold sortWorldK
  rw [alloc_eq_grow, ahead_grow, putRowK_grow enc k (Sort.ahead W n3) _ blk off _ hblk, grow_grow]
set_option maxHeartbeats 1600000 in
set_option maxRecDepth 100000 in
theorem symL_ok (enc : α → List Value) (k : Nat) (hk : ∀ x, (enc x).length = k) (lt : α → α → Bool) (g : Nat) (lb : Array Value) (sf : Nat) (sb : Array Value) (blk off : Nat) (d : Array α) (X v Z : List α) (x : α) (a m b : Nat) (hm : Hid (m = a + 1)) (W : World)
    (eg : ∀ args w, (callFunc g args).run Tryz.prog w = .ok (.enter g args) w) (hless : LessReadsK Tryz.prog g lb enc k lt blk off d.size W)
    (hswap : SwapSwapsK Tryz.prog sf sb enc k blk off d.size) (hH : HoldsK enc k W blk off d) (hblk : blk < W.heap.size) (hd : d = (X ++ x :: (v ++ Z)).toArray) (hX : X.length = a) (hv : m + v.length = b)
    (hmono : ∀ i j, i ≤ j → j < v.length → lt v[j]! x = true → lt v[i]! x = true) (hsz : d.size < 4611686018427387904) :
    Calls Tryz.prog 162 #[.agg #[.func (.func g) #[] lb, .func (.func sf) #[] sb], .int .i64 a, .int .i64 m, .int .i64 b] W fun e w' => e = .returned (.tuple #[]) ∧ SWK enc k W blk off (X ++ mergeL lt [x] v ++ Z).toArray w' := by
  have ham : a < m := by have := hm.out; omega
  have hw : IntKind.i64.wrap ((m : Int) - (a : Int)) = 1 := by have := hm.out; rw [IntWalk.i64_in _ (by omega)]; omega
  have HLS := hid (Has.new W 220 #[.func (.func g) #[] lb, .func (.func sf) #[] sb])
  have HH := hid hH
  have HMO := hid hmono
  have hsd : b ≤ d.size := by have := hm.out; rw [hd]; simp; omega
  have hget : ∀ h, m ≤ h → h < b → d[h]! = v[h - m]! := fun h h1 h2 => by
    have hm1 := hm.out
    have hq : (X ++ x :: (v ++ Z))[h]? = v[h - m]? := by
      rw [List.getElem?_append_right (by omega), show h - X.length = (h - m) + 1 by omega, List.getElem?_cons_succ, List.getElem?_append_left (by omega)]
    rw [hd]
    simp only [getElem!_def, List.getElem?_toArray, hq]
  have hgeta : d[a]! = x := by rw [hd, ← hX]; exact get_mid X (v ++ Z) x
  have HG := hid hget
  have HGA := hid hgeta
  have HD := hid hd
  clear hH hmono hget hgeta hd
  obtain ⟨W1, hW1⟩ : ∃ w, W.alloc (.cells #[.func (.func g) #[] lb, .func (.func sf) #[] sb] 220) = w := ⟨_, rfl⟩
  have hge : W.heap.size < W1.heap.size := by rw [← hW1]; simp
  have HH1 := hid (show HoldsK enc k W1 blk off d by rw [← hW1, alloc_eq_grow]; exact holdsK_grow enc k W _ blk off d hblk HH.out)
  have HL1 := hid (show LessReadsK Tryz.prog g lb enc k lt blk off d.size W1 by rw [← hW1, alloc_eq_grow]; exact hless.grow hblk _)
  have HSP := hid hswap
  clear hless hswap
  have hbk : blk < W1.heap.size := by omega
  go_enter Tryz.func162, Tryz.ntmps162
  go_wp2
  rw [hW1] at HLS
  have HW1 := hid hW1
  clear hW1
  go_loopw [8, 9] (fun vi vj wr => ∃ (i j : Nat), vi = .int .i64 i ∧ vj = .int .i64 j ∧ m ≤ i ∧ i ≤ j ∧ j ≤ b ∧ (∀ h, m ≤ h → h < i → lt d[h]! d[a]! = true) ∧ (∀ h, j ≤ h → h < b → lt d[h]! d[a]! = false) ∧ SWK enc k W1 blk off d wr) (fun vi vj _ => (intOf vj).toNat - (intOf vi).toNat)
  case atStart => exact ⟨m, b, rfl, rfl, Nat.le_refl _, by omega, Nat.le_refl _, fun h h1 h2 => by omega, fun h h1 h2 => by omega, SWK.start HH1.out⟩
  case round =>
    obtain ⟨i, j, rfl, rfl, hai, hij, hjb, h1, h2, hsw⟩ := hrel
    rename World => wr
    have hls := swk_has hsw HLS.out (by omega)
    have c0 := hls.cell 0
    have c1 := hls.cell 1
    have H1 := hid h1
    have H2 := hid h2
    have HSW := hid hsw
    clear hls h1 h2 hsw
    by_cases hlt : i < j
    · have hlti : (i : Int) < j := by omega
      obtain ⟨c, hc⟩ : ∃ c, (i + j) / 2 = c := ⟨_, rfl⟩
      have hc2 : ((i : Int) + j) / 2 = c := by omega
      have hic : i ≤ c := by omega
      have hcj : c < j := by omega
      have hl := HSW.out.less HL1.out rfl c a (by omega) (by omega)
      clear hc
      cases hlv : lt d[c]! d[a]! with
      | true =>
        rw [hlv] at hl
        have HLV := hid hlv
        clear hlv
        go_wp2_with (go_at_fn g; refine hl.mono ?_; rintro e w' ⟨rfl, q, rfl⟩)
        go_roundw
        case rel =>
          refine ⟨c + 1, j, by go_num, rfl, by omega, by omega, hjb, fun h e1 e2 => ?_, H2.out, HSW.out.drewN q⟩
          rw [HG.out h e1 (by omega), HGA.out]
          refine HMO.out (h - m) (c - m) (by omega) (by omega) ?_
          rw [← HG.out c (by omega) (by omega), ← HGA.out]
          exact HLV.out
        case measure => simp [intOf] <;> omega
      | false =>
        rw [hlv] at hl
        have HLV := hid hlv
        clear hlv
        go_wp2_with (go_at_fn g; refine hl.mono ?_; rintro e w' ⟨rfl, q, rfl⟩)
        go_roundw
        case rel =>
          refine ⟨i, c, rfl, rfl, hai, hic, by omega, H1.out, fun h e1 e2 => ?_, HSW.out.drewN q⟩
          cases hx : lt d[h]! d[a]! with
          | false => rfl
          | true =>
            exfalso
            rw [HG.out h (by omega) e2, HGA.out] at hx
            have := HMO.out (c - m) (h - m) (by omega) (by omega) hx
            rw [← HG.out c (by omega) (by omega), ← HGA.out] at this
            rw [HLV.out] at this
            cases this
        case measure => simp [intOf] <;> omega
    · obtain rfl : i = j := by omega
      have hnlt : ¬ (i : Int) < i := by omega
      have hT : X ++ mergeL lt [x] v ++ Z = X ++ v.take (i - m) ++ x :: (v.drop (i - m) ++ Z) := by
        have hm := merge_left1 lt x (v.take (i - m)) (v.drop (i - m)) (fun y hy => by
          obtain ⟨n, hn, rfl⟩ := List.getElem_of_mem hy
          rw [List.length_take] at hn
          have := H1.out (n + m) (by omega) (by omega)
          rw [HG.out _ (by omega) (by omega), HGA.out, Nat.add_sub_cancel, getElem!_pos v n (by omega)] at this
          rw [List.getElem_take]
          exact this) (fun y hy => by
          obtain ⟨n, hn, rfl⟩ := List.getElem_of_mem hy
          rw [List.length_drop] at hn
          have := H2.out (i + n) (by omega) (by omega)
          rw [HG.out _ (by omega) (by omega), HGA.out, show i + n - m = i - m + n by omega, getElem!_pos v _ (by omega)] at this
          rw [List.getElem_drop]
          exact this)
        rw [List.take_append_drop] at hm
        rw [hm]
        simp
      have hgo : GoesR d (X ++ mergeL lt [x] v ++ Z) a (i - 1) := by
        refine ⟨X, v.take (i - m), v.drop (i - m) ++ Z, x, ?_, hT.symm, hX, by have := hm.out; rw [List.length_take]; omega⟩
        rw [HD.out, ← List.append_assoc, List.take_append_drop]
      obtain ⟨T, hTe⟩ : ∃ T, X ++ mergeL lt [x] v ++ Z = T := ⟨_, rfl⟩
      rw [hTe] at hgo
      have HTE := hid hTe
      clear hTe
      have HGO := hid hgo
      clear hgo hT
      go_wp2_with fail
      go_loopw [11] (fun vk wq => ∃ (n : Nat) (dk : Array α), vk = .int .i64 n ∧ a ≤ n ∧ n ≤ i - 1 ∧ dk.size = d.size ∧ GoesR dk T n (i - 1) ∧ SWK enc k W1 blk off dk wq) (fun vk _ => i - (intOf vk).toNat)
      case atStart => exact ⟨a, d, rfl, Nat.le_refl _, by omega, rfl, HGO.out, HSW.out⟩
      case round =>
        obtain ⟨n, dk, rfl, han, hni, hds, hgk, hsw⟩ := hrel
        rename World => wq
        have hls := swk_has hsw HLS.out (by omega)
        have e0 := hls.cell 0
        have e1 := hls.cell 1
        have HGK := hid hgk
        have HSQ := hid hsw
        clear hls hgk hsw
        by_cases hn : n < i - 1
        · have hni2 : (n : Int) < (i : Int) - 1 := by omega
          have hs := HSP.out wq dk (HSQ.out.holds hbk HH1.out hds) hds n (n + 1) (by omega) (by have := (goesR_step HGK.out hn).2; omega)
          rw [show ((n + 1 : Nat) : Int) = (n : Int) + 1 by omega] at hs
          go_wp2
          go_roundw
          case rel => exact ⟨n + 1, swp dk n (n + 1), by go_num, by omega, by omega, by rw [size_swp]; exact hds, (goesR_step HGK.out hn).1, HSQ.out.swap hk hbk n (n + 1) (by omega) (by have := (goesR_step HGK.out hn).2; omega)⟩
          case measure => simp [intOf] <;> omega
        · have hni2 : ¬ (n : Int) < (i : Int) - 1 := by omega
          obtain rfl : n = i - 1 := by omega
          go_wp2
          go_returns
          refine ⟨rfl, swk_back HW1.out hblk ?_⟩
          rw [show X ++ (mergeL lt [x] v ++ Z) = T by rw [← List.append_assoc]; exact HTE.out, ← goesR_end HGK.out]
          exact HSQ.out
end Go.Proofs.YtkmbgkcpohchhaaGreatDoor
namespace Go.Proofs.YtkmbgkcpohchhaaGreatDoor
open Go.RowKit Go.Shelf Go.Lib Go.Sort
set_option linter.unusedVariables false
variable {α : Type} [Inhabited α]
set_option maxHeartbeats 1600000 in
set_option maxRecDepth 100000 in
theorem symRt_ok (enc : α → List Value) (k : Nat) (hk : ∀ x, (enc x).length = k) (lt : α → α → Bool) (g : Nat) (lb : Array Value) (sf : Nat) (sb : Array Value) (blk off : Nat) (d : Array α) (X u Z : List α) (y : α) (a m b : Nat) (hb : Hid (b = m + 1)) (hne : Hid (m ≠ a + 1)) (W : World)
    (eg : ∀ args w, (callFunc g args).run Tryz.prog w = .ok (.enter g args) w) (hless : LessReadsK Tryz.prog g lb enc k lt blk off d.size W)
    (hswap : SwapSwapsK Tryz.prog sf sb enc k blk off d.size) (hH : HoldsK enc k W blk off d) (hblk : blk < W.heap.size) (hd : d = (X ++ (u ++ y :: Z)).toArray) (hX : X.length = a) (hu : a + u.length = m) (ham : a < m)
    (hmono : ∀ i j, i ≤ j → j < u.length → lt y u[i]! = true → lt y u[j]! = true) (hsz : d.size < 4611686018427387904) :
    Calls Tryz.prog 162 #[.agg #[.func (.func g) #[] lb, .func (.func sf) #[] sb], .int .i64 a, .int .i64 m, .int .i64 b] W fun e w' => e = .returned (.tuple #[]) ∧ SWK enc k W blk off (X ++ mergeL lt u [y] ++ Z).toArray w' := by
  have hsd : b ≤ d.size := by have := hb.out; rw [hd]; simp; omega
  have hmd : m < d.size := by have := hb.out; omega
  obtain ⟨x0, hx0⟩ : ∃ x : Int, IntKind.i64.wrap ((m : Int) - (a : Int)) = x := ⟨_, rfl⟩
  have hw0 : (x0 == 1) = false := by have := hne.out; have := hb.out; rw [← hx0, IntWalk.i64_in _ (by omega)]; simp; omega
  have hw : IntKind.i64.wrap ((b : Int) - (m : Int)) = 1 := by have := hb.out; rw [IntWalk.i64_in _ (by omega)]; omega
  have HLS := hid (Has.new W 220 #[.func (.func g) #[] lb, .func (.func sf) #[] sb])
  have HH := hid hH
  have HMO := hid hmono
  have hget : ∀ h, a ≤ h → h < m → d[h]! = u[h - a]! := fun h h1 h2 => by
    have hq : (X ++ (u ++ y :: Z))[h]? = u[h - a]? := by
      rw [List.getElem?_append_right (by omega), hX, List.getElem?_append_left (by omega)]
    rw [hd]
    simp only [getElem!_def, List.getElem?_toArray, hq]
  have hgetm : d[m]! = y := by
    have := get_mid (X ++ u) Z y
    rw [List.append_assoc, List.length_append, hX, hu, ← hd] at this
    exact this
  have HG := hid hget
  have HGM := hid hgetm
  have HD := hid hd
  clear hH hmono hget hgetm hd
  obtain ⟨W1, hW1⟩ : ∃ w, W.alloc (.cells #[.func (.func g) #[] lb, .func (.func sf) #[] sb] 220) = w := ⟨_, rfl⟩
  have hge : W.heap.size < W1.heap.size := by rw [← hW1]; simp
  have HH1 := hid (show HoldsK enc k W1 blk off d by rw [← hW1, alloc_eq_grow]; exact holdsK_grow enc k W _ blk off d hblk HH.out)
  have HL1 := hid (show LessReadsK Tryz.prog g lb enc k lt blk off d.size W1 by rw [← hW1, alloc_eq_grow]; exact hless.grow hblk _)
  have HSP := hid hswap
  clear hless hswap
  have hbk : blk < W1.heap.size := by omega
  go_enter Tryz.func162, Tryz.ntmps162
  go_wp2
  rw [hW1] at HLS
  have HW1 := hid hW1
  clear hW1
  go_loopw [12, 13] (fun vi vj wr => ∃ (i j : Nat), vi = .int .i64 i ∧ vj = .int .i64 j ∧ a ≤ i ∧ i ≤ j ∧ j ≤ m ∧ (∀ h, a ≤ h → h < i → lt d[m]! d[h]! = false) ∧ (∀ h, j ≤ h → h < m → lt d[m]! d[h]! = true) ∧ SWK enc k W1 blk off d wr) (fun vi vj _ => (intOf vj).toNat - (intOf vi).toNat)
  case atStart => exact ⟨a, m, rfl, rfl, Nat.le_refl _, by omega, Nat.le_refl _, fun h h1 h2 => by omega, fun h h1 h2 => by omega, SWK.start HH1.out⟩
  case round =>
    obtain ⟨i, j, rfl, rfl, hai, hij, hjb, h1, h2, hsw⟩ := hrel
    rename World => wr
    have hls := swk_has hsw HLS.out (by omega)
    have c0 := hls.cell 0
    have c1 := hls.cell 1
    have H1 := hid h1
    have H2 := hid h2
    have HSW := hid hsw
    clear hls h1 h2 hsw
    by_cases hlt : i < j
    · have hlti : (i : Int) < j := by omega
      obtain ⟨c, hc⟩ : ∃ c, (i + j) / 2 = c := ⟨_, rfl⟩
      have hc2 : ((i : Int) + j) / 2 = c := by omega
      have hic : i ≤ c := by omega
      have hcj : c < j := by omega
      have hl := HSW.out.less HL1.out rfl m c (by omega) (by omega)
      clear hc
      cases hlv : lt d[m]! d[c]! with
      | false =>
        rw [hlv] at hl
        have HLV := hid hlv
        clear hlv
        go_wp2_with (go_at_fn g; refine hl.mono ?_; rintro e w' ⟨rfl, q, rfl⟩)
        go_roundw
        case rel =>
          refine ⟨c + 1, j, by go_num, rfl, by omega, by omega, hjb, fun h e1 e2 => ?_, H2.out, HSW.out.drewN q⟩
          cases hx : lt d[m]! d[h]! with
          | false => rfl
          | true =>
            exfalso
            rw [HG.out h e1 (by omega), HGM.out] at hx
            have := HMO.out (h - a) (c - a) (by omega) (by omega) hx
            rw [← HG.out c (by omega) (by omega), ← HGM.out] at this
            rw [HLV.out] at this
            cases this
        case measure => simp [intOf] <;> omega
      | true =>
        rw [hlv] at hl
        have HLV := hid hlv
        clear hlv
        go_wp2_with (go_at_fn g; refine hl.mono ?_; rintro e w' ⟨rfl, q, rfl⟩)
        go_roundw
        case rel =>
          refine ⟨i, c, rfl, rfl, hai, hic, by omega, H1.out, fun h e1 e2 => ?_, HSW.out.drewN q⟩
          rw [HG.out h (by omega) e2, HGM.out]
          refine HMO.out (c - a) (h - a) (by omega) (by omega) ?_
          rw [← HG.out c (by omega) (by omega), ← HGM.out]
          exact HLV.out
        case measure => simp [intOf] <;> omega
    · obtain rfl : i = j := by omega
      have hnlt : ¬ (i : Int) < i := by omega
      have hT : X ++ mergeL lt u [y] ++ Z = X ++ u.take (i - a) ++ y :: (u.drop (i - a) ++ Z) := by
        have hm := merge_right1 lt y (u.take (i - a)) (u.drop (i - a)) (fun x hx => by
          obtain ⟨n, hn, rfl⟩ := List.getElem_of_mem hx
          rw [List.length_take] at hn
          have := H1.out (n + a) (by omega) (by omega)
          rw [HGM.out, HG.out _ (by omega) (by omega), Nat.add_sub_cancel, getElem!_pos u n (by omega)] at this
          rw [List.getElem_take]
          exact this) (fun x hx => by
          obtain ⟨n, hn, rfl⟩ := List.getElem_of_mem hx
          rw [List.length_drop] at hn
          have := H2.out (i + n) (by omega) (by omega)
          rw [HGM.out, HG.out _ (by omega) (by omega), show i + n - a = i - a + n by omega, getElem!_pos u _ (by omega)] at this
          rw [List.getElem_drop]
          exact this)
        rw [List.take_append_drop] at hm
        rw [hm]
        simp
      have hgo : GoesL d (X ++ mergeL lt u [y] ++ Z) m i := by
        refine ⟨X ++ u.take (i - a), u.drop (i - a), Z, y, ?_, hT.symm, ?_, ?_⟩
        · rw [HD.out, List.append_assoc X, List.take_append_drop, List.append_assoc]
        · rw [List.append_assoc, List.take_append_drop, List.length_append]; omega
        · rw [List.length_append, List.length_take]; omega
      obtain ⟨T, hTe⟩ : ∃ T, X ++ mergeL lt u [y] ++ Z = T := ⟨_, rfl⟩
      rw [hTe] at hgo
      have HTE := hid hTe
      clear hTe
      have HGO := hid hgo
      clear hgo hT
      go_wp2_with fail
      go_loopw [15] (fun vk wq => ∃ (n : Nat) (dk : Array α), vk = .int .i64 n ∧ i ≤ n ∧ n ≤ m ∧ dk.size = d.size ∧ GoesL dk T n i ∧ SWK enc k W1 blk off dk wq) (fun vk _ => (intOf vk).toNat - i)
      case atStart => exact ⟨m, d, rfl, by omega, Nat.le_refl _, rfl, HGO.out, HSW.out⟩
      case round =>
        obtain ⟨n, dk, rfl, han, hni, hds, hgk, hsw⟩ := hrel
        rename World => wq
        have hls := swk_has hsw HLS.out (by omega)
        have e0 := hls.cell 0
        have e1 := hls.cell 1
        have HGK := hid hgk
        have HSQ := hid hsw
        clear hls hgk hsw
        by_cases hn : i < n
        · have hni2 : (i : Int) < (n : Int) := by omega
          have hs := HSP.out wq dk (HSQ.out.holds hbk HH1.out hds) hds n (n - 1) (by have := (goesL_step HGK.out hn).2; omega) (by have := (goesL_step HGK.out hn).2; omega)
          rw [show ((n - 1 : Nat) : Int) = (n : Int) - 1 by omega] at hs
          go_wp2
          go_roundw
          case rel => exact ⟨n - 1, swp dk n (n - 1), by go_num, by omega, by omega, by rw [size_swp]; exact hds, (goesL_step HGK.out hn).1, HSQ.out.swap hk hbk n (n - 1) (by have := (goesL_step HGK.out hn).2; omega) (by have := (goesL_step HGK.out hn).2; omega)⟩
          case measure => simp [intOf] <;> omega
        · have hni2 : ¬ (i : Int) < (n : Int) := by omega
          obtain rfl : n = i := by omega
          go_wp2
          go_returns
          refine ⟨rfl, swk_back HW1.out hblk ?_⟩
          rw [show X ++ (mergeL lt u [y] ++ Z) = T by rw [← List.append_assoc]; exact HTE.out, ← goesL_end HGK.out]
          exact HSQ.out
end Go.Proofs.YtkmbgkcpohchhaaGreatDoor
namespace Go.Proofs.YtkmbgkcpohchhaaGreatDoor
set_option linter.unusedVariables false
def symLo (a m b : Nat) : Nat := if (a + b) / 2 < m then (a + b) / 2 + m - b else a
def symHi (a m b : Nat) : Nat := if (a + b) / 2 < m then (a + b) / 2 else m
structure SymAt (w : Nat → Int) (a m b s r : Nat) : Prop where
  lo : symLo a m b ≤ s
  sr : s ≤ r
  hi : r ≤ symHi a m b
  up : r < symHi a m b → w ((a + b) / 2 + m - 1 - r) < w r
  dn : symLo a m b < s → w (s - 1) ≤ w ((a + b) / 2 + m - 1 - (s - 1))
theorem sym_bounds {a m b : Nat} (h1 : a < m) (h2 : m < b) : a ≤ symLo a m b ∧ symLo a m b ≤ symHi a m b ∧ symHi a m b ≤ m ∧ symHi a m b ≤ (a + b) / 2 ∧ symHi a m b < b := by
  unfold symLo symHi
  split <;> omega
theorem sym_start {w : Nat → Int} {a m b : Nat} (h1 : a < m) (h2 : m < b) : SymAt w a m b (symLo a m b) (symHi a m b) :=
  ⟨Nat.le_refl _, (sym_bounds h1 h2).2.1, Nat.le_refl _, fun h => absurd h (Nat.lt_irrefl _), fun h => absurd h (Nat.lt_irrefl _)⟩
theorem sym_in {w : Nat → Int} {a m b s r : Nat} (h1 : a < m) (h2 : m < b) (h : SymAt w a m b s r) {c : Nat} (hc : s ≤ c) (hr : c < r) : a ≤ c ∧ c < m ∧ m ≤ (a + b) / 2 + m - 1 - c ∧ (a + b) / 2 + m - 1 - c < b := by
  obtain ⟨k1, k2, k3, k4⟩ := sym_bounds h1 h2
  have hl := h.lo
  have hh := h.hi
  unfold symLo at hl k1
  unfold symHi at hh k3 k4
  split at hl <;> simp_all <;> omega
theorem sym_right {w : Nat → Int} {a m b s r c : Nat} (h : SymAt w a m b s r) (hc : s ≤ c) (hr : c < r) (hw : ¬ w ((a + b) / 2 + m - 1 - c) < w c) : SymAt w a m b (c + 1) r :=
  ⟨Nat.le_trans h.lo (by omega), hr, h.hi, h.up, fun _ => by rw [Nat.add_sub_cancel]; omega⟩
theorem sym_left {w : Nat → Int} {a m b s r c : Nat} (h : SymAt w a m b s r) (hc : s ≤ c) (hr : c < r) (hw : w ((a + b) / 2 + m - 1 - c) < w c) : SymAt w a m b s c :=
  ⟨h.lo, hc, Nat.le_trans (Nat.le_of_lt hr) h.hi, fun _ => hw, h.dn⟩
theorem sym_found {w : Nat → Int} {a m b s : Nat} (h1 : a < m) (h2 : m < b) (h : SymAt w a m b s s) (hu : ∀ i j, a ≤ i → i ≤ j → j < m → w i ≤ w j) (hv : ∀ i j, m ≤ i → i ≤ j → j < b → w i ≤ w j) :
    a ≤ s ∧ s ≤ m ∧ s ≤ (a + b) / 2 ∧ m ≤ (a + b) / 2 + m - s ∧ (a + b) / 2 + m - s ≤ b ∧ (∀ x y, s ≤ x → x < m → m ≤ y → y < (a + b) / 2 + m - s → w y < w x) ∧ (∀ x y, a ≤ x → x < s → (a + b) / 2 + m - s ≤ y → y < b → w x ≤ w y) := by
  obtain ⟨k1, k2, k3, k4, k5⟩ := sym_bounds h1 h2
  have hlo := h.lo
  have hhi := h.hi
  have hup := h.up
  have hdn := h.dn
  refine ⟨by omega, by omega, by omega, by omega, ?_, fun x y e1 e2 e3 e4 => ?_, fun x y e1 e2 e3 e4 => ?_⟩
  · unfold symLo at hlo
    split at hlo <;> omega
  · by_cases e : s < symHi a m b
    · have t1 := hup e
      have t2 := hu s x (by omega) e1 e2
      have t3 := hv y ((a + b) / 2 + m - 1 - s) e3 (by omega) (by unfold symLo at hlo; split at hlo <;> omega)
      omega
    · exfalso
      have e' : s = symHi a m b := by omega
      unfold symHi at e'
      split at e' <;> omega
  · by_cases e : symLo a m b < s
    · have t1 := hdn e
      have t2 := hu x (s - 1) e1 (by omega) (by omega)
      have t3 := hv ((a + b) / 2 + m - 1 - (s - 1)) y (by omega) (by omega) e4
      omega
    · exfalso
      have e' : s = symLo a m b := by omega
      unfold symLo at e'
      split at e' <;> omega
end Go.Proofs.YtkmbgkcpohchhaaGreatDoor
namespace Go.Proofs.YtkmbgkcpohchhaaGreatDoor
open Go.RowKit Go.Conc
set_option linter.unusedVariables false
def wLt {α : Type} (wt : α → Int) (x y : α) : Bool := decide (wt x < wt y)
def AscW {α : Type} (wt : α → Int) (L : List α) : Prop := L.Pairwise fun x y => wt x ≤ wt y
def sortW {α : Type} (wt : α → Int) (L : List α) : List α := sortL (wLt wt) L
def insFW {α : Type} (wt : α → Int) (p : α) (S : List α) : List α := (insRev (wLt wt) p S.reverse).reverse
theorem insRev_descW {α : Type} (wt : α → Int) (x : α) : ∀ r : List α, r.Pairwise (fun x y => wt y ≤ wt x) → (insRev (wLt wt) x r).Pairwise (fun x y => wt y ≤ wt x)
  | [], _ => by simp [insRev]
  | y :: r, h => by
    have h' := h
    rw [List.pairwise_cons] at h
    unfold insRev
    split
    · rename_i hxy
      have hxy : wt x < wt y := of_decide_eq_true hxy
      rw [List.pairwise_cons]
      refine ⟨fun z hz => ?_, insRev_descW wt x r h.2⟩
      rcases (insRev_mem (wLt wt) x r z).1 hz with e | e
      · rw [e]; omega
      · exact h.1 z e
    · rename_i hxy
      have hxy : ¬ wt x < wt y := fun hh => hxy (decide_eq_true hh)
      rw [List.pairwise_cons]
      refine ⟨fun z hz => ?_, h'⟩
      rcases List.mem_cons.1 hz with e | e
      · rw [e]; omega
      · have := h.1 z e; omega
theorem fold_descW {α : Type} (wt : α → Int) : ∀ (l r : List α), r.Pairwise (fun x y => wt y ≤ wt x) → (l.foldl (fun r x => insRev (wLt wt) x r) r).Pairwise (fun x y => wt y ≤ wt x)
  | [], r, h => h
  | x :: l, r, h => fold_descW wt l _ (insRev_descW wt x r h)
theorem sortW_asc {α : Type} (wt : α → Int) (M : List α) : AscW wt (sortW wt M) := by
  unfold AscW sortW sortL
  rw [List.pairwise_reverse]
  exact fold_descW wt M [] List.Pairwise.nil
theorem merge_ascW {α : Type} (wt : α → Int) : ∀ u v : List α, AscW wt u → AscW wt v → AscW wt (mergeL (wLt wt) u v)
  | [], v, _, h => by rw [mergeL_nil]; exact h
  | x :: u, [], h, _ => by rw [mergeL_none]; exact h
  | x :: u, y :: v, hu, hv => by
    have hu' := hu
    have hv' := hv
    unfold AscW at hu' hv'
    rw [List.pairwise_cons] at hu' hv'
    rw [mergeL]
    split
    · rename_i hxy
      have hxy : wt y < wt x := of_decide_eq_true hxy
      unfold AscW
      rw [List.pairwise_cons]
      refine ⟨fun z hz => ?_, merge_ascW wt (x :: u) v hu hv'.2⟩
      rcases (mergeL_mem (wLt wt) _ _ z).1 hz with e | e
      · rcases List.mem_cons.1 e with rfl | e
        · omega
        · have := hu'.1 z e; omega
      · exact hv'.1 z e
    · rename_i hxy
      have hxy : ¬ wt y < wt x := fun h => hxy (decide_eq_true h)
      unfold AscW
      rw [List.pairwise_cons]
      refine ⟨fun z hz => ?_, merge_ascW wt u (y :: v) hu'.2 hv⟩
      rcases (mergeL_mem (wLt wt) _ _ z).1 hz with e | e
      · exact hu'.1 z e
      · rcases List.mem_cons.1 e with rfl | e
        · omega
        · have := hv'.1 z e; omega
theorem insFW_nil {α : Type} (wt : α → Int) (p : α) : insFW wt p [] = [p] := rfl
theorem insFW_cons {α : Type} (wt : α → Int) (p y : α) (S : List α) (h : AscW wt (y :: S)) : insFW wt p (y :: S) = if wt p < wt y then p :: y :: S else y :: insFW wt p S := by
  unfold AscW at h
  rw [List.pairwise_cons] at h
  unfold insFW
  rw [List.reverse_cons, insRev_app]
  by_cases hp : wt p < wt y
  · have ha : S.reverse.all ((wLt wt) p) = true := by
      rw [List.all_eq_true]
      intro z hz
      have := h.1 z (List.mem_reverse.1 hz)
      exact decide_eq_true (by omega)
    rw [if_pos hp, if_pos ha]
    have : insRev (wLt wt) p [y] = [y, p] := by unfold insRev; rw [if_pos (show (wLt wt) p y = true from decide_eq_true hp)]; rfl
    rw [this]
    simp
  · rw [if_neg hp]
    split
    · have : insRev (wLt wt) p [y] = [p, y] := by unfold insRev; rw [if_neg (show ¬ (wLt wt) p y = true from fun e => hp (of_decide_eq_true e))]
      rw [this]
      rename_i ha
      have hall : insRev (wLt wt) p S.reverse = S.reverse ++ [p] := by
        have := insRev_app (wLt wt) p [] S.reverse
        rw [List.append_nil, if_pos ha] at this
        exact this
      rw [hall]
      simp
    · simp
theorem merge_insW {α : Type} (wt : α → Int) (p : α) : ∀ u v : List α, AscW wt u → AscW wt v → mergeL (wLt wt) u (insFW wt p v) = insFW wt p (mergeL (wLt wt) u v)
  | [], v, _, _ => by rw [mergeL_nil, mergeL_nil]
  | x :: u, [], hu, _ => by
    have hu' := hu
    unfold AscW at hu'
    rw [List.pairwise_cons] at hu'
    have ih := merge_insW wt p u [] hu'.2 List.Pairwise.nil
    rw [mergeL_none, insFW_nil wt] at ih
    rw [mergeL_none, insFW_cons wt p x u hu, insFW_nil wt, mergeL, mergeL_none, ih]
    by_cases h : wt p < wt x
    · rw [if_pos h, if_pos (show (wLt wt) p x = true from decide_eq_true h)]
    · rw [if_neg h, if_neg (show ¬ (wLt wt) p x = true from fun e => h (of_decide_eq_true e))]
  | x :: u, y :: v, hu, hv => by
    have hu' := hu
    have hv' := hv
    unfold AscW at hu' hv'
    rw [List.pairwise_cons] at hu' hv'
    have hM := merge_ascW wt _ _ hu hv
    have ih1 := merge_insW wt p u (y :: v) hu'.2 hv
    have ih2 := merge_insW wt p (x :: u) v hu hv'.2
    rw [insFW_cons wt p y v hv] at ih1 ⊢
    have hL : mergeL (wLt wt) (x :: u) (y :: v) = if (wLt wt) y x then y :: mergeL (wLt wt) (x :: u) v else x :: mergeL (wLt wt) u (y :: v) := by rw [mergeL]
    by_cases hyx : wt y < wt x
    · have b1 : (wLt wt) y x = true := decide_eq_true hyx
      rw [hL, if_pos b1] at hM
      rw [hL, if_pos b1, insFW_cons wt p y _ hM]
      by_cases hp : wt p < wt y
      · rw [if_pos hp, if_pos hp, mergeL, if_pos (show (wLt wt) p x = true from decide_eq_true (by omega)), hL, if_pos b1]
      · rw [if_neg hp, if_neg hp, mergeL, if_pos b1, ih2]
    · have b1 : ¬ (wLt wt) y x = true := fun e => hyx (of_decide_eq_true e)
      rw [hL, if_neg b1] at hM
      rw [hL, if_neg b1, insFW_cons wt p x _ hM]
      by_cases hp : wt p < wt y
      · rw [if_pos hp] at ih1 ⊢
        rw [mergeL, hL, if_neg b1]
        by_cases hpx : wt p < wt x
        · rw [if_pos hpx, if_pos (show (wLt wt) p x = true from decide_eq_true hpx)]
        · rw [if_neg hpx, if_neg (show ¬ (wLt wt) p x = true from fun e => hpx (of_decide_eq_true e)), ih1]
      · rw [if_neg hp] at ih1 ⊢
        rw [mergeL, if_neg b1, if_neg (by omega), ih1]
theorem sortW_snoc {α : Type} (wt : α → Int) (L : List α) (p : α) : sortW wt (L ++ [p]) = insFW wt p (sortW wt L) := by
  unfold sortW sortL insFW
  rw [List.foldl_append, List.reverse_reverse]; rfl
theorem sort_mergeW {α : Type} (wt : α → Int) (A : List α) : ∀ n (B : List α), B.length = n → sortW wt (A ++ B) = mergeL (wLt wt) (sortW wt A) (sortW wt B)
  | 0, B, h => by
    obtain rfl : B = [] := List.length_eq_zero_iff.1 h
    rw [List.append_nil]
    exact (mergeL_none (wLt wt) _).symm
  | n + 1, B, h => by
    obtain ⟨C, p, rfl⟩ : ∃ C p, B = C ++ [p] := by
      have hne : B ≠ [] := fun e => by rw [e] at h; simp at h
      exact ⟨B.dropLast, B.getLast hne, (List.dropLast_concat_getLast hne).symm⟩
    rw [← List.append_assoc, sortW_snoc wt, sortW_snoc wt, sort_mergeW wt A n C (by simpa using h), merge_insW wt p _ _ (sortW_asc wt A) (sortW_asc wt C)]
end Go.Proofs.YtkmbgkcpohchhaaGreatDoor
namespace Go.Proofs.YtkmbgkcpohchhaaGreatDoor
open Go.Sort
set_option linter.unusedVariables false
section
variable {α : Type} [Inhabited α]
theorem inner_at (lt : α → α → Bool) (x : α) (Q : List α) : ∀ (P S : List α), insInner lt Q.length (Q.length + P.length) (Q ++ (P.reverse ++ x :: S)).toArray = (Q ++ ((insRev lt x P).reverse ++ S)).toArray
  | [], S => by
    cases hq : Q.length with
    | zero => rfl
    | succ k =>
      show insInner lt (k + 1) (k + 1) _ = _
      unfold insInner
      rw [if_neg (by simp)]
      rfl
  | y :: P, S => by
    have e0 : Q ++ ((y :: P).reverse ++ x :: S) = (Q ++ P.reverse) ++ y :: x :: S := by simp
    have hl : (Q ++ P.reverse).length = Q.length + P.length := by simp
    have h1 : ((Q ++ P.reverse) ++ y :: x :: S).toArray[Q.length + P.length + 1]! = x := by
      have e5 : (Q ++ P.reverse) ++ y :: x :: S = ((Q ++ P.reverse) ++ [y]) ++ x :: S := by simp
      have l5 : ((Q ++ P.reverse) ++ [y]).length = Q.length + P.length + 1 := by simp; omega
      rw [e5, ← l5]
      exact get_mid _ _ _
    have h2 : ((Q ++ P.reverse) ++ y :: x :: S).toArray[Q.length + P.length]! = y := by
      rw [← hl]
      exact get_mid (Q ++ P.reverse) (x :: S) y
    have h3 : swp ((Q ++ P.reverse) ++ y :: x :: S).toArray (Q.length + P.length + 1) (Q.length + P.length) = ((Q ++ P.reverse) ++ x :: y :: S).toArray := by
      rw [← hl]
      exact swp_mid (Q ++ P.reverse) S x y
    rw [e0]
    show insInner lt Q.length (Q.length + P.length + 1) _ = _
    unfold insInner insRev
    rw [h1, h2, h3]
    by_cases hx : lt x y = true
    · rw [if_pos (by simp [hx]; omega), if_pos hx, List.append_assoc, inner_at lt x Q P (y :: S)]
      simp
    · rw [if_neg (by simp [hx]), if_neg hx]
      simp
theorem outer_at (lt : α → α → Bool) (Q Z : List α) : ∀ (S R : List α) (b : Nat), b = Q.length + R.length + S.length → insOuter lt Q.length b (Q.length + R.length) (Q ++ (R.reverse ++ (S ++ Z))).toArray = (Q ++ ((S.foldl (fun r x => insRev lt x r) R).reverse ++ Z)).toArray
  | [], R, b, h => by
    unfold insOuter
    rw [if_neg (by simp at h; omega)]
    simp
  | x :: S, R, b, h => by
    unfold insOuter
    rw [if_pos (by simp at h; omega), List.cons_append, inner_at lt x Q R (S ++ Z), List.foldl_cons]
    have := outer_at lt Q Z S (insRev lt x R) b (by rw [insRev_len]; simp at h; omega)
    rw [insRev_len] at this
    exact this
theorem sort_at (lt : α → α → Bool) (Q Z : List α) : ∀ (S : List α), Sort.insertionSort lt (Q ++ (S ++ Z)).toArray Q.length (Q.length + S.length) = (Q ++ (sortL lt S ++ Z)).toArray
  | [] => by
    unfold Sort.insertionSort insOuter
    rw [if_neg (by simp)]
    rfl
  | x :: S => by
    have := outer_at lt Q Z S [x] (Q.length + (x :: S).length) (by simp; omega)
    exact this
end
section
variable {α : Type}
def preS (wt : α → Int) (B : Nat) : Nat → List α → List α
  | 0, _ => []
  | q + 1, l => sortW wt (l.take B) ++ preS wt B q (l.drop B)
theorem sortW_len (wt : α → Int) (l : List α) : (sortW wt l).length = l.length := sortL_len _ l
theorem preS_len (wt : α → Int) (B : Nat) : ∀ (q : Nat) (l : List α), B * q ≤ l.length → (preS wt B q l).length = B * q
  | 0, l, _ => by simp [preS]
  | q + 1, l, h => by
    rw [Nat.mul_succ] at h ⊢
    rw [preS, List.length_append, sortW_len, List.length_take, preS_len wt B q (l.drop B) (by rw [List.length_drop]; omega), Nat.min_eq_left (by omega)]
    omega
theorem preS_snoc (wt : α → Int) (B : Nat) : ∀ (q : Nat) (l : List α), preS wt B (q + 1) l = preS wt B q l ++ sortW wt ((l.drop (B * q)).take B)
  | 0, l => by simp [preS]
  | q + 1, l => by
    have ih := preS_snoc wt B q (l.drop B)
    rw [preS, ih, preS, List.append_assoc, List.drop_drop, Nat.mul_succ, Nat.add_comm B]
theorem two_sort (wt : α → Int) (B : Nat) (m : List α) : mergeL (wLt wt) (sortW wt (m.take B)) (sortW wt ((m.drop B).take B)) = sortW wt (m.take (2 * B)) := by
  rw [← sort_mergeW wt _ _ _ rfl, ← List.take_add, Nat.two_mul]
theorem rest_sort (wt : α → Int) (B : Nat) (m : List α) : mergeL (wLt wt) (sortW wt (m.take B)) (sortW wt (m.drop B)) = sortW wt m := by
  rw [← sort_mergeW wt _ _ _ rfl, List.take_append_drop]
def blkS (wt : α → Int) (B q : Nat) (l : List α) : List α := preS wt B q l ++ sortW wt (l.drop (B * q))
def rowS (wt : α → Int) (B q r : Nat) (l : List α) : List α := preS wt (2 * B) r l ++ (preS wt B (q - 2 * r) (l.drop (2 * B * r)) ++ sortW wt (l.drop (B * q)))
theorem row_first (wt : α → Int) (B q : Nat) (l : List α) : rowS wt B q 0 l = blkS wt B q l := by simp [rowS, blkS, preS]
theorem row_step (wt : α → Int) (B q r : Nat) (l : List α) (hq : 2 * r + 2 ≤ q) (hl : B * q ≤ l.length) :
    ∃ X u v Z : List α, rowS wt B q r l = X ++ (u ++ (v ++ Z)) ∧ X.length = 2 * B * r ∧ u.length = B ∧ v.length = B ∧ AscW wt u ∧ AscW wt v ∧ X ++ (mergeL (wLt wt) u v ++ Z) = rowS wt B q (r + 1) l := by
  obtain ⟨k, hk⟩ : ∃ k, q - 2 * r = k + 2 := ⟨q - 2 * r - 2, by omega⟩
  have h2 : 2 * B * r + 2 * B ≤ B * q := by
    have e : 2 * B * r + 2 * B = B * (2 * r + 2) := by rw [Nat.mul_add, Nat.mul_comm 2 B, Nat.mul_assoc]
    rw [e]
    exact Nat.mul_le_mul_left _ hq
  refine ⟨preS wt (2 * B) r l, sortW wt ((l.drop (2 * B * r)).take B), sortW wt (((l.drop (2 * B * r)).drop B).take B), preS wt B k (((l.drop (2 * B * r)).drop B).drop B) ++ sortW wt (l.drop (B * q)), ?_, ?_, ?_, ?_, sortW_asc wt _, sortW_asc wt _, ?_⟩
  · rw [rowS, hk, preS, preS]
    simp
  · exact preS_len wt (2 * B) r l (by omega)
  · rw [sortW_len, List.length_take, List.length_drop]; omega
  · rw [sortW_len, List.length_take, List.length_drop, List.length_drop]; omega
  · rw [two_sort, rowS, preS_snoc, show q - 2 * (r + 1) = k by omega, List.drop_drop, List.drop_drop]
    have e : 2 * B * (r + 1) = 2 * B * r + (B + B) := by rw [Nat.mul_succ]; omega
    rw [e]
    simp only [List.append_assoc]
theorem row_last (wt : α → Int) (B q r : Nat) (l : List α) (hq : q = 2 * r + 1) (hl : B * q ≤ l.length) :
    ∃ X u v : List α, rowS wt B q r l = X ++ (u ++ (v ++ [])) ∧ X.length = 2 * B * r ∧ u.length = B ∧ v.length = l.length - B * q ∧ AscW wt u ∧ AscW wt v ∧ X ++ (mergeL (wLt wt) u v ++ []) = blkS wt (2 * B) r l := by
  have h2 : B * q = 2 * B * r + B := by rw [hq, Nat.mul_add, Nat.mul_one, Nat.mul_comm 2 B, Nat.mul_assoc]
  refine ⟨preS wt (2 * B) r l, sortW wt ((l.drop (2 * B * r)).take B), sortW wt ((l.drop (2 * B * r)).drop B), ?_, ?_, ?_, ?_, sortW_asc wt _, sortW_asc wt _, ?_⟩
  · rw [rowS, show q - 2 * r = 1 by omega, preS, preS, h2, List.drop_drop]
    simp
  · exact preS_len wt (2 * B) r l (by omega)
  · rw [sortW_len, List.length_take, List.length_drop]; omega
  · rw [sortW_len, List.length_drop, List.length_drop]; omega
  · rw [rest_sort, blkS, List.append_nil]
theorem row_none (wt : α → Int) (B q r : Nat) (l : List α) (hq : q = 2 * r ∨ q = 2 * r + 1 ∧ B * q = l.length) : rowS wt B q r l = blkS wt (2 * B) r l := by
  rcases hq with rfl | ⟨rfl, hl⟩
  · rw [rowS, blkS, Nat.sub_self, preS, List.nil_append, Nat.mul_comm 2 B, Nat.mul_assoc]
  · have h2 : B * (2 * r + 1) = 2 * B * r + B := by rw [Nat.mul_add, Nat.mul_one, Nat.mul_comm 2 B, Nat.mul_assoc]
    have h3 : l.drop (B * (2 * r + 1)) = [] := List.drop_eq_nil_of_le (by omega)
    have h4 : (l.drop (2 * B * r)).take B = l.drop (2 * B * r) := List.take_of_length_le (by rw [List.length_drop]; omega)
    rw [rowS, blkS, show 2 * r + 1 - 2 * r = 1 by omega, preS, preS, h3, h4]
    simp [sortW, sortL]
theorem blk_end (wt : α → Int) (B q : Nat) (l : List α) (h1 : B * q ≤ l.length) (h2 : l.length ≤ B) (h3 : l.length < B * (q + 1)) : blkS wt B q l = sortW wt l := by
  match q, h1, h3 with
  | 0, _, _ => simp [blkS, preS]
  | 1, h1, _ =>
    have e : l.length = B := by omega
    rw [blkS, preS, preS, Nat.mul_one, List.take_of_length_le (by omega), List.drop_eq_nil_of_le (by omega)]
    simp [sortW, sortL]
  | q + 2, h1, h3 =>
    exfalso
    have : B * 2 ≤ B * (q + 2) := Nat.mul_le_mul_left _ (by omega)
    have hB : B = 0 := by omega
    subst hB
    simp at h3
def insS (wt : α → Int) (B q : Nat) (l : List α) : List α := preS wt B q l ++ l.drop (B * q)
theorem ins_step (wt : α → Int) (B q : Nat) (l : List α) (hl : B * (q + 1) ≤ l.length) :
    ∃ Q S Z : List α, insS wt B q l = Q ++ (S ++ Z) ∧ Q.length = B * q ∧ S.length = B ∧ Q ++ (sortW wt S ++ Z) = insS wt B (q + 1) l := by
  rw [Nat.mul_succ] at hl
  refine ⟨preS wt B q l, (l.drop (B * q)).take B, (l.drop (B * q)).drop B, ?_, preS_len wt B q l (by omega), ?_, ?_⟩
  · rw [List.take_append_drop]; rfl
  · rw [List.length_take, List.length_drop]; omega
  · rw [insS, preS_snoc, List.append_assoc, List.drop_drop, Nat.mul_succ]
theorem ins_last (wt : α → Int) (B q : Nat) (l : List α) (hl : B * q ≤ l.length) :
    ∃ Q S : List α, insS wt B q l = Q ++ (S ++ []) ∧ Q.length = B * q ∧ S.length = l.length - B * q ∧ Q ++ (sortW wt S ++ []) = blkS wt B q l :=
  ⟨preS wt B q l, l.drop (B * q), by rw [List.append_nil]; rfl, preS_len wt B q l hl, List.length_drop, by rw [List.append_nil]; rfl⟩
end
end Go.Proofs.YtkmbgkcpohchhaaGreatDoor
