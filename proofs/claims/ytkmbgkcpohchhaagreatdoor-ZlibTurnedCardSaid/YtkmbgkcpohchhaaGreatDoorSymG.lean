import Derived.Test.YtkmbgkcpohchhaaGreatDoorGMrg
/- sort.symMerge_func at any two parts (contract of the function). -/
namespace Go.Proofs.YtkmbgkcpohchhaaGreatDoor
open Go.RowKit Go.Shelf Go.Lib Go.Sort
set_option linter.unusedVariables false
variable {α : Type} [Inhabited α]
theorem swk_trans {enc : α → List Value} {k : Nat} {w0 W w : World} {blk off : Nat} {d T : Array α} (h : SWK enc k w0 blk off d W) (hblk : blk < w0.heap.size) (h2 : SWK enc k W blk off T w) (hs : T.size = d.size) : SWK enc k w0 blk off T w := by
  obtain ⟨n, os, rfl⟩ := h2
  exact h.on hblk n T os hs
theorem asc_get {wt : α → Int} {u : List α} (h : AscW wt u) {i j : Nat} (hij : i ≤ j) (hj : j < u.length) : wt u[i]! ≤ wt u[j]! := by
  rw [getElem!_pos u i (by omega), getElem!_pos u j hj]
  rcases Nat.lt_or_ge i j with h1 | h1
  · exact List.pairwise_iff_getElem.1 h i j (by omega) hj h1
  · obtain rfl : i = j := by omega
    exact Int.le_refl _
/-- What symMerge does with two parts of at most N elements together. -/
def SymSays (enc : α → List Value) (k : Nat) (wt : α → Int) (g : Nat) (lb : Array Value) (sf : Nat) (sb : Array Value) (blk off size N : Nat) : Prop :=
  ∀ (X u v Z : List α) (a m b : Nat) (W : World), b - a ≤ N → X.length = a → a + u.length = m → m + v.length = b → a < m → m < b → (X ++ (u ++ (v ++ Z))).length = size → AscW wt u → AscW wt v →
    LessReadsK Tryz.prog g lb enc k (wLt wt) blk off size W → HoldsK enc k W blk off (X ++ (u ++ (v ++ Z))).toArray → blk < W.heap.size →
    Calls Tryz.prog 162 #[.agg #[.func (.func g) #[] lb, .func (.func sf) #[] sb], .int .i64 a, .int .i64 m, .int .i64 b] W fun e w' => e = .returned (.tuple #[]) ∧ SWK enc k W blk off (X ++ (mergeL (wLt wt) u v ++ Z)).toArray w'
omit [Inhabited α] in
theorem merge_len {lt : α → α → Bool} : ∀ u v : List α, (mergeL lt u v).length = u.length + v.length
  | [], v => by rw [mergeL_nil]; simp
  | x :: u, [] => by rw [mergeL_none]; simp
  | x :: u, y :: v => by
    rw [mergeL]
    split
    · have := merge_len (lt := lt) (x :: u) v
      simp only [List.length_cons] at this ⊢; omega
    · have := merge_len (lt := lt) u (y :: v)
      simp only [List.length_cons] at this ⊢; omega
/-- The row's four parts, and what each step of symMerge makes of them. -/
structure SymPt (wt : α → Int) (X u v Z L1 L2 L3 : List α) (a m b s mid e : Nat) : Prop where
  e1 : ¬ (s < m ∧ m < e) → X ++ (u ++ (v ++ Z)) = L1
  e2 : ¬ (a < s ∧ s < mid) → L1 = L2
  e3 : ¬ (mid < e ∧ e < b) → L2 = L3
  e4 : L3 = X ++ (mergeL (wLt wt) u v ++ Z)
  l1 : L1.length = (X ++ (u ++ (v ++ Z))).length
  l2 : L2.length = (X ++ (u ++ (v ++ Z))).length
  l3 : L3.length = (X ++ (u ++ (v ++ Z))).length
  rot : s < m → m < e → RotAt (X ++ (u ++ (v ++ Z))).toArray L1 m (m - s) (e - m)
  c1 : ∃ u1 v1 Y, L1 = X ++ (u1 ++ (v1 ++ Y)) ∧ L2 = X ++ (mergeL (wLt wt) u1 v1 ++ Y) ∧ a + u1.length = s ∧ s + v1.length = mid ∧ AscW wt u1 ∧ AscW wt v1
  c2 : ∃ Y u2 v2, L2 = Y ++ (u2 ++ (v2 ++ Z)) ∧ L3 = Y ++ (mergeL (wLt wt) u2 v2 ++ Z) ∧ Y.length = mid ∧ mid + u2.length = e ∧ e + v2.length = b ∧ AscW wt u2 ∧ AscW wt v2
theorem sym_parts {wt : α → Int} {X u v Z : List α} {a m b s mid e : Nat} (hX : X.length = a) (hu : a + u.length = m) (hv : m + v.length = b) (au : AscW wt u) (av : AscW wt v) (hm : (a + b) / 2 = mid) (he : mid + m - s = e)
    (h1 : a ≤ s) (h2 : s ≤ m) (h3 : s ≤ mid) (h4 : m ≤ e) (h5 : e ≤ b)
    (f1 : ∀ x y, s ≤ x → x < m → m ≤ y → y < e → wt (X ++ (u ++ (v ++ Z))).toArray[y]! < wt (X ++ (u ++ (v ++ Z))).toArray[x]!)
    (f2 : ∀ x y, a ≤ x → x < s → e ≤ y → y < b → wt (X ++ (u ++ (v ++ Z))).toArray[x]! ≤ wt (X ++ (u ++ (v ++ Z))).toArray[y]!) : ∃ L1 L2 L3, SymPt wt X u v Z L1 L2 L3 a m b s mid e := by
  obtain ⟨u1, u2, rfl, hu1⟩ : ∃ u1 u2, u = u1 ++ u2 ∧ a + u1.length = s := ⟨u.take (s - a), u.drop (s - a), (List.take_append_drop _ _).symm, by rw [List.length_take]; omega⟩
  obtain ⟨v1, v2, rfl, hv1⟩ : ∃ v1 v2, v = v1 ++ v2 ∧ m + v1.length = e := ⟨v.take (e - m), v.drop (e - m), (List.take_append_drop _ _).symm, by rw [List.length_take]; omega⟩
  rw [List.length_append] at hu hv
  have gu : ∀ i, i < (u1 ++ u2).length → (X ++ ((u1 ++ u2) ++ ((v1 ++ v2) ++ Z))).toArray[a + i]! = (u1 ++ u2)[i]! := fun i hi => by
    have hq : (X ++ ((u1 ++ u2) ++ ((v1 ++ v2) ++ Z)))[a + i]? = (u1 ++ u2)[i]? := by
      rw [List.getElem?_append_right (by omega), hX, Nat.add_sub_cancel_left, List.getElem?_append_left hi]
    simp only [getElem!_def, List.getElem?_toArray, hq]
  have gv : ∀ i, i < (v1 ++ v2).length → (X ++ ((u1 ++ u2) ++ ((v1 ++ v2) ++ Z))).toArray[m + i]! = (v1 ++ v2)[i]! := fun i hi => by
    have hq : (X ++ ((u1 ++ u2) ++ ((v1 ++ v2) ++ Z)))[m + i]? = (v1 ++ v2)[i]? := by
      rw [List.getElem?_append_right (by omega), List.getElem?_append_right (by rw [List.length_append]; omega), show m + i - X.length - (u1 ++ u2).length = i by rw [List.length_append]; omega, List.getElem?_append_left hi]
    simp only [getElem!_def, List.getElem?_toArray, hq]
  have k1 : ∀ y ∈ v1, ∀ x ∈ u2, wLt wt y x = true := fun y hy x hx => by
    obtain ⟨i, hi, rfl⟩ := List.getElem_of_mem hy
    obtain ⟨j, hj, rfl⟩ := List.getElem_of_mem hx
    have := f1 (a + (u1.length + j)) (m + i) (by omega) (by omega) (by omega) (by omega)
    rw [gu _ (by rw [List.length_append]; omega), gv _ (by rw [List.length_append]; omega), getElem!_pos _ _ (by rw [List.length_append]; omega), getElem!_pos _ _ (by rw [List.length_append]; omega), List.getElem_append_left hi, List.getElem_append_right (by omega)] at this
    simp only [Nat.add_sub_cancel_left] at this
    exact decide_eq_true this
  have k2 : ∀ x ∈ u1, ∀ y ∈ v2, wLt wt y x = false := fun x hx y hy => by
    obtain ⟨i, hi, rfl⟩ := List.getElem_of_mem hx
    obtain ⟨j, hj, rfl⟩ := List.getElem_of_mem hy
    have := f2 (a + i) (m + (v1.length + j)) (by omega) (by omega) (by omega) (by omega)
    rw [gu _ (by rw [List.length_append]; omega), gv _ (by rw [List.length_append]; omega), getElem!_pos _ _ (by rw [List.length_append]; omega), getElem!_pos _ _ (by rw [List.length_append]; omega), List.getElem_append_left hi, List.getElem_append_right (by omega)] at this
    simp only [Nat.add_sub_cancel_left] at this
    exact decide_eq_false (by omega)
  have hs := merge_split (wLt wt) u2 v2 u1 v1 k1 k2
  unfold AscW at au av
  rw [List.pairwise_append] at au av
  refine ⟨X ++ (u1 ++ (v1 ++ (u2 ++ (v2 ++ Z)))), X ++ (mergeL (wLt wt) u1 v1 ++ (u2 ++ (v2 ++ Z))), X ++ (mergeL (wLt wt) u1 v1 ++ (mergeL (wLt wt) u2 v2 ++ Z)), ?_, ?_, ?_, ?_, ?_, ?_, ?_, ?_, ?_, ?_⟩
  · intro hn
    rcases (show s = m ∨ e = m by omega) with h | h
    · obtain rfl : u2 = [] := List.length_eq_zero_iff.1 (by omega)
      simp
    · obtain rfl : v1 = [] := List.length_eq_zero_iff.1 (by omega)
      simp
  · intro hn
    rcases (show s = a ∨ s = mid by omega) with h | h
    · obtain rfl : u1 = [] := List.length_eq_zero_iff.1 (by omega)
      rw [mergeL_nil]; simp
    · obtain rfl : v1 = [] := List.length_eq_zero_iff.1 (by omega)
      rw [mergeL_none]; simp
  · intro hn
    rcases (show e = mid ∨ e = b by omega) with h | h
    · obtain rfl : u2 = [] := List.length_eq_zero_iff.1 (by omega)
      rw [mergeL_nil]; simp
    · obtain rfl : v2 = [] := List.length_eq_zero_iff.1 (by omega)
      rw [mergeL_none]; simp
  · rw [hs]; simp
  · simp only [List.length_append]; omega
  · simp only [List.length_append, merge_len]; omega
  · simp only [List.length_append, merge_len]; omega
  · intro hsm hme
    exact ⟨X ++ u1, u2, v1, v2 ++ Z, by simp, by simp, by rw [List.length_append]; omega, by omega, by omega⟩
  · exact ⟨u1, v1, u2 ++ (v2 ++ Z), rfl, rfl, hu1, by omega, au.1, av.1⟩
  · exact ⟨X ++ mergeL (wLt wt) u1 v1, u2, v2, by simp, by simp, by rw [List.length_append, merge_len]; omega, by omega, by omega, au.2.1, av.2.1⟩
set_option maxHeartbeats 8000000 in
set_option maxRecDepth 100000 in
theorem symG_a (enc : α → List Value) (k : Nat) (hk : ∀ x, (enc x).length = k) (wt : α → Int) (g : Nat) (lb : Array Value) (sf : Nat) (sb : Array Value) (blk off size N : Nat) (X u v Z : List α) (a m b : Nat) (W : World)
    (ih : SymSays enc k wt g lb sf sb blk off size N) (hN : b - a ≤ N + 1) (hX : X.length = a) (hu : a + u.length = m) (hv : m + v.length = b) (ham : a < m) (hmb : m < b) (hn1 : Hid (m ≠ a + 1)) (hn2 : Hid (b ≠ m + 1)) (hsz : (X ++ (u ++ (v ++ Z))).length = size) (au : AscW wt u) (av : AscW wt v)
    (mid : Nat) (hmd : (a + b) / 2 = mid) (hmm : mid < m)
    (eg : ∀ args w, (callFunc g args).run Tryz.prog w = .ok (.enter g args) w) (hless : LessReadsK Tryz.prog g lb enc k (wLt wt) blk off size W)
    (hswap : SwapSwapsK Tryz.prog sf sb enc k blk off size) (hH : HoldsK enc k W blk off (X ++ (u ++ (v ++ Z))).toArray) (hblk : blk < W.heap.size) (hbig : size < 4611686018427387904) :
    Calls Tryz.prog 162 #[.agg #[.func (.func g) #[] lb, .func (.func sf) #[] sb], .int .i64 a, .int .i64 m, .int .i64 b] W fun e w' => e = .returned (.tuple #[]) ∧ SWK enc k W blk off (X ++ (mergeL (wLt wt) u v ++ Z)).toArray w' := by
  obtain ⟨d, hd⟩ : ∃ d, (X ++ (u ++ (v ++ Z))).toArray = d := ⟨_, rfl⟩
  have hds : d.size = size := by rw [← hd]; simpa using hsz
  have hbs : b ≤ size := by rw [← hsz]; simp only [List.length_append]; omega
  obtain ⟨x0, hx0⟩ : ∃ x : Int, IntKind.i64.wrap ((m : Int) - (a : Int)) = x := ⟨_, rfl⟩
  have hw0 : (x0 == 1) = false := by have := hn1.out; rw [← hx0, IntWalk.i64_in _ (by omega)]; simp; omega
  obtain ⟨x1, hx1⟩ : ∃ x : Int, IntKind.i64.wrap ((b : Int) - (m : Int)) = x := ⟨_, rfl⟩
  have hw1 : (x1 == 1) = false := by have := hn2.out; rw [← hx1, IntWalk.i64_in _ (by omega)]; simp; omega
  have hmid : ((a : Int) + (b : Int)) / 2 = mid := by omega
  have hmidb : mid < b := by omega
  have hamid : a < mid := by have := hn1.out; have := hn2.out; omega
  have hwu : ∀ i j, a ≤ i → i ≤ j → j < m → wt d[i]! ≤ wt d[j]! := fun i j h1 h2 h3 => by
    have gu : ∀ i, i < u.length → d[a + i]! = u[i]! := fun i hi => by
      have hq : (X ++ (u ++ (v ++ Z)))[a + i]? = u[i]? := by rw [List.getElem?_append_right (by omega), hX, Nat.add_sub_cancel_left, List.getElem?_append_left hi]
      rw [← hd]; simp only [getElem!_def, List.getElem?_toArray, hq]
    have e1 := gu (i - a) (by omega)
    have e2 := gu (j - a) (by omega)
    rw [show a + (i - a) = i by omega] at e1
    rw [show a + (j - a) = j by omega] at e2
    rw [e1, e2]
    exact asc_get au (by omega) (by omega)
  have hwv : ∀ i j, m ≤ i → i ≤ j → j < b → wt d[i]! ≤ wt d[j]! := fun i j h1 h2 h3 => by
    have gv : ∀ i, i < v.length → d[m + i]! = v[i]! := fun i hi => by
      have hq : (X ++ (u ++ (v ++ Z)))[m + i]? = v[i]? := by
        rw [List.getElem?_append_right (by omega), List.getElem?_append_right (by omega), show m + i - X.length - u.length = i by omega, List.getElem?_append_left hi]
      rw [← hd]; simp only [getElem!_def, List.getElem?_toArray, hq]
    have e1 := gv (i - m) (by omega)
    have e2 := gv (j - m) (by omega)
    rw [show m + (i - m) = i by omega] at e1
    rw [show m + (j - m) = j by omega] at e2
    rw [e1, e2]
    exact asc_get av (by omega) (by omega)
  have HLS := hid (Has.new W 220 #[.func (.func g) #[] lb, .func (.func sf) #[] sb])
  have HH := hid (show HoldsK enc k W blk off d by rw [← hd]; exact hH)
  have HD := hid hd
  have HDS := hid hds
  have HPT := hid (fun s (e : Nat) he h1 h2 h3 h4 h5 f1 f2 => sym_parts (wt := wt) (X := X) (u := u) (v := v) (Z := Z) (a := a) (m := m) (b := b) (s := s) (mid := mid) (e := e) hX hu hv au av hmd he h1 h2 h3 h4 h5 f1 f2)
  have HSA := hid (sym_start (w := fun i => wt d[i]!) ham hmb)
  have HIN := hid (fun (s r c : Nat) (h : SymAt (fun i => wt d[i]!) a m b s r) (hc : s ≤ c) (hr : c < r) => sym_in ham hmb h hc hr)
  have HFD := hid (fun (s : Nat) (h : SymAt (fun i => wt d[i]!) a m b s s) => sym_found ham hmb h hwu hwv)
  have HIH := hid ih
  have HXL := hid hX
  have HNN := hid hN
  have hlo : mid + m - b = symLo a m b := by unfold symLo; split <;> omega
  have hhi : symHi a m b = mid := by unfold symHi; split <;> omega
  have HMD := hid hmd
  have HLO := hid hlo
  have HHI := hid hhi
  clear hH hd hds hwu hwv au av ih hX hu hv hN hsz hlo hhi hmd
  obtain ⟨W1, hW1⟩ : ∃ w, W.alloc (.cells #[.func (.func g) #[] lb, .func (.func sf) #[] sb] 220) = w := ⟨_, rfl⟩
  have hge : W.heap.size < W1.heap.size := by rw [← hW1]; simp
  have HH1 := hid (show HoldsK enc k W1 blk off d by rw [← hW1, alloc_eq_grow]; exact holdsK_grow enc k W _ blk off d hblk HH.out)
  have HL1 := hid (show LessReadsK Tryz.prog g lb enc k (wLt wt) blk off size W1 by rw [← hW1, alloc_eq_grow]; exact hless.grow hblk _)
  have HSP := hid hswap
  clear hless hswap
  have hbk : blk < W1.heap.size := by omega
  have hsl : (mid : Int) + m - b = (symLo a m b : Nat) := by have := HLO.out; omega
  go_enter Tryz.func162, Tryz.ntmps162
  go_wp2
  rw [hW1] at HLS
  have HW1 := hid hW1
  clear hW1
  go_loopw [18, 19] (fun vi vj wr => ∃ (s r : Nat), vi = .int .i64 s ∧ vj = .int .i64 r ∧ SymAt (fun i => wt d[i]!) a m b s r ∧ SWK enc k W1 blk off d wr) (fun vi vj _ => (intOf vj).toNat - (intOf vi).toNat)
  case atStart => exact ⟨symLo a m b, symHi a m b, by first | rfl | (rw [hsl]), by rw [HHI.out], HSA.out, SWK.start HH1.out⟩
  case round =>
    obtain ⟨s, r, rfl, rfl, hsy, hsw⟩ := hrel
    rename World => wr
    have hls := swk_has hsw HLS.out (by omega)
    have c0 := hls.cell 0
    have c1 := hls.cell 1
    have HSY := hid hsy
    have HSW := hid hsw
    have hsr := hsy.sr
    have hrm : r ≤ m := by have := (sym_bounds ham hmb).2.2.1; have := hsy.hi; omega
    clear hls hsy hsw
    by_cases hlt : s < r
    · have hlti : (s : Int) < r := by omega
      obtain ⟨c, hc⟩ : ∃ c, (s + r) / 2 = c := ⟨_, rfl⟩
      have hc2 : ((s : Int) + r) / 2 = c := by omega
      have hic : s ≤ c := by omega
      have hcj : c < r := by omega
      obtain ⟨i1, i2, i3, i4⟩ := HIN.out s r c HSY.out hic hcj
      rw [HMD.out] at i3 i4
      obtain ⟨q, hq⟩ : ∃ q, mid + m - 1 - c = q := ⟨_, rfl⟩
      rw [hq] at i3 i4
      have hq2 : (mid : Int) + m - 1 - c = q := by omega
      have hl := HSW.out.less HL1.out HDS.out q c (by omega) (by omega)
      have HQ := hid hq
      clear hc hq
      cases hlv : wLt wt d[q]! d[c]! with
      | true =>
        rw [hlv] at hl
        have HLV := hid (show wt d[q]! < wt d[c]! from of_decide_eq_true hlv)
        clear hlv
        go_wp2_with (go_at_fn g; refine hl.mono ?_; rintro e w' ⟨rfl, q, rfl⟩)
        go_roundw
        case rel => exact ⟨s, c, rfl, rfl, sym_left HSY.out hic hcj (by rw [HMD.out, HQ.out]; exact HLV.out), HSW.out.drewN _⟩
        case measure => simp [intOf] <;> omega
      | false =>
        rw [hlv] at hl
        have HLV := hid (show wt d[c]! ≤ wt d[q]! from Int.not_lt.1 (of_decide_eq_false hlv))
        clear hlv
        go_wp2_with (go_at_fn g; refine hl.mono ?_; rintro e w' ⟨rfl, q, rfl⟩)
        go_roundw
        case rel => exact ⟨c + 1, r, by go_num, rfl, sym_right HSY.out hic hcj (by rw [HMD.out, HQ.out]; exact Int.not_lt.2 HLV.out), HSW.out.drewN _⟩
        case measure => simp [intOf] <;> omega
    · obtain rfl : s = r := by omega
      have hnlt : ¬ (s : Int) < s := by omega
      obtain ⟨j1, j2, j3, j4, j5, j6, j7⟩ := HFD.out s HSY.out
      rw [HMD.out] at j3 j4 j5 j6 j7
      obtain ⟨e, he⟩ : ∃ e, mid + m - s = e := ⟨_, rfl⟩
      rw [he] at j4 j5 j6 j7
      have he2 : (mid : Int) + m - s = e := by omega
      obtain ⟨L1, L2, L3, pt⟩ := HPT.out s e he j1 j2 j3 j4 j5 (by rw [HD.out]; exact j6) (by rw [HD.out]; exact j7)
      have hdl : (X ++ (u ++ (v ++ Z))).length = size := by rw [← HDS.out, ← HD.out]; simp
      have C1 := hid (fun (w2 : World) (hw : SWK enc k W1 blk off d w2) (h1 : s < m) (h2 : m < e) => rotate_ok enc k hk g lb sf sb blk off d L1 s m e w2 (HDS.out ▸ HSP.out) (hw.holds hbk HH1.out rfl) (hw.lt hbk) h1 h2 (by rw [← HD.out]; exact pt.rot h1 h2) (by rw [HDS.out]; omega))
      have C2 := hid (show ∀ (w2 : World), SWK enc k W1 blk off L1.toArray w2 → a < s → s < mid → Calls Tryz.prog 162 #[.agg #[.func (.func g) #[] lb, .func (.func sf) #[] sb], .int .i64 a, .int .i64 s, .int .i64 mid] w2 fun e w' => e = .returned (.tuple #[]) ∧ SWK enc k w2 blk off L2.toArray w' from fun w2 hw h1 h2 => by
        obtain ⟨u1, v1, Y, rfl, rfl, z1, z2, z3, z4⟩ := pt.c1
        have hl := pt.l1
        rw [hdl] at hl
        have hsz1 : (X ++ (u1 ++ (v1 ++ Y))).toArray.size = d.size := by rw [HDS.out, ← hl]; simp
        exact HIH.out X u1 v1 Y a s mid w2 (by have := HNN.out; omega) HXL.out z1 z2 h1 h2 hl z3 z4 (hw.lessReads HL1.out hbk (by rw [hsz1, HDS.out])) (hw.holds hbk HH1.out hsz1) (hw.lt hbk))
      have C3 := hid (show ∀ (w2 : World), SWK enc k W1 blk off L2.toArray w2 → mid < e → e < b → Calls Tryz.prog 162 #[.agg #[.func (.func g) #[] lb, .func (.func sf) #[] sb], .int .i64 mid, .int .i64 e, .int .i64 b] w2 fun e w' => e = .returned (.tuple #[]) ∧ SWK enc k w2 blk off L3.toArray w' from fun w2 hw h1 h2 => by
        obtain ⟨Y, u2, v2, rfl, rfl, z0, z1, z2, z3, z4⟩ := pt.c2
        have hl := pt.l2
        rw [hdl] at hl
        have hsz1 : (Y ++ (u2 ++ (v2 ++ Z))).toArray.size = d.size := by rw [HDS.out, ← hl]; simp
        exact HIH.out Y u2 v2 Z mid e b w2 (by have := HNN.out; omega) z0 z1 z2 h1 h2 hl z3 z4 (hw.lessReads HL1.out hbk (by rw [hsz1, HDS.out])) (hw.holds hbk HH1.out hsz1) (hw.lt hbk))
      have hz1 : L1.toArray.size = d.size := by rw [HDS.out, ← hdl, ← pt.l1]; simp
      have hz2 : L2.toArray.size = L1.toArray.size := by rw [hz1, HDS.out, ← hdl, ← pt.l2]; simp
      have hz3 : L3.toArray.size = L2.toArray.size := by rw [hz2, hz1, HDS.out, ← hdl, ← pt.l3]; simp
      have HZ := hid (And.intro hz1 (And.intro hz2 hz3))
      have E1 := hid (show ¬ (s < m ∧ m < e) → d = L1.toArray from fun h => by rw [← HD.out, pt.e1 h])
      have E2 := hid pt.e2
      have E3 := hid pt.e3
      have E4 := hid pt.e4
      have HEN := hid he
      clear j6 j7 pt hdl hz1 hz2 hz3 he
      by_cases hB : s < m
      · by_cases hA : a < s
        · by_cases hC : m < e
          · by_cases hD : e < b
            · have q1 : (a : Int) < s := by omega
              have q2 : (s : Int) < m := by omega
              have q3 : (m : Int) < e := by omega
              have q4 : (e : Int) < b := by omega
              have q5 : (s : Int) < mid := by omega
              have q6 : (mid : Int) < e := by omega
              go_wp2_with fail
              refine (C1.out _ HSW.out (by omega) (by omega)).mono ?_
              rintro e1 w2 ⟨rfl, hs1⟩
              have S1 := hid (swk_trans HSW.out hbk hs1 HZ.out.1)
              clear hs1
              have hls1 := swk_has S1.out HLS.out (by omega)
              have d0 := hls1.cell 0
              have d1 := hls1.cell 1
              clear hls1
              go_wp2_with fail
              refine (C2.out _ S1.out (by omega) (by omega)).mono ?_
              rintro e2 w3 ⟨rfl, hs2⟩
              have S2 := hid (swk_trans S1.out hbk hs2 HZ.out.2.1)
              clear hs2
              have hls2 := swk_has S2.out HLS.out (by omega)
              have f0 := hls2.cell 0
              have f1 := hls2.cell 1
              clear hls2
              go_wp2_with fail
              refine (C3.out _ S2.out (by omega) (by omega)).mono ?_
              rintro e3 w4 ⟨rfl, hs3⟩
              have S3 := hid (swk_trans S2.out hbk hs3 HZ.out.2.2)
              clear hs3
              go_wp2
              all_goals
                go_returns
                refine ⟨rfl, swk_back HW1.out hblk ?_⟩
                rw [← E4.out]
                exact S3.out
            · have q1 : (a : Int) < s := by omega
              have q2 : (s : Int) < m := by omega
              have q3 : (m : Int) < e := by omega
              have q4 : ¬ (e : Int) < b := by omega
              have q5 : (s : Int) < mid := by omega
              have q6 : (mid : Int) < e := by omega
              go_wp2_with fail
              refine (C1.out _ HSW.out (by omega) (by omega)).mono ?_
              rintro e1 w2 ⟨rfl, hs1⟩
              have S1 := hid (swk_trans HSW.out hbk hs1 HZ.out.1)
              clear hs1
              have hls1 := swk_has S1.out HLS.out (by omega)
              have d0 := hls1.cell 0
              have d1 := hls1.cell 1
              clear hls1
              go_wp2_with fail
              refine (C2.out _ S1.out (by omega) (by omega)).mono ?_
              rintro e2 w3 ⟨rfl, hs2⟩
              have S2 := hid (swk_trans S1.out hbk hs2 HZ.out.2.1)
              clear hs2
              have S3 := hid (show SWK enc k W1 blk off L3.toArray _ by rw [← E3.out (by omega)]; exact S2.out)
              go_wp2
              all_goals
                go_returns
                refine ⟨rfl, swk_back HW1.out hblk ?_⟩
                rw [← E4.out]
                exact S3.out
          · have hD : e < b := by omega
            have q1 : (a : Int) < s := by omega
            have q2 : (s : Int) < m := by omega
            have q3 : ¬ (m : Int) < e := by omega
            have q4 : (e : Int) < b := by omega
            have q5 : ¬ (s : Int) < mid := by omega
            have q6 : (mid : Int) < e := by omega
            have S1 := hid (show SWK enc k W1 blk off L1.toArray wr by rw [← E1.out (by omega)]; exact HSW.out)
            have S2 := hid (show SWK enc k W1 blk off L2.toArray _ by rw [← E2.out (by omega)]; exact S1.out)
            go_wp2_with fail
            refine (C3.out _ S2.out (by omega) (by omega)).mono ?_
            rintro e3 w4 ⟨rfl, hs3⟩
            have S3 := hid (swk_trans S2.out hbk hs3 HZ.out.2.2)
            clear hs3
            go_wp2
            all_goals
              go_returns
              refine ⟨rfl, swk_back HW1.out hblk ?_⟩
              rw [← E4.out]
              exact S3.out
        · by_cases hC : m < e
          · by_cases hD : e < b
            · have q1 : ¬ (a : Int) < s := by omega
              have q2 : (s : Int) < m := by omega
              have q3 : (m : Int) < e := by omega
              have q4 : (e : Int) < b := by omega
              have q5 : (s : Int) < mid := by omega
              have q6 : (mid : Int) < e := by omega
              go_wp2_with fail
              refine (C1.out _ HSW.out (by omega) (by omega)).mono ?_
              rintro e1 w2 ⟨rfl, hs1⟩
              have S1 := hid (swk_trans HSW.out hbk hs1 HZ.out.1)
              clear hs1
              have S2 := hid (show SWK enc k W1 blk off L2.toArray _ by rw [← E2.out (by omega)]; exact S1.out)
              have hls2 := swk_has S2.out HLS.out (by omega)
              have f0 := hls2.cell 0
              have f1 := hls2.cell 1
              clear hls2
              go_wp2_with fail
              refine (C3.out _ S2.out (by omega) (by omega)).mono ?_
              rintro e3 w4 ⟨rfl, hs3⟩
              have S3 := hid (swk_trans S2.out hbk hs3 HZ.out.2.2)
              clear hs3
              go_wp2
              all_goals
                go_returns
                refine ⟨rfl, swk_back HW1.out hblk ?_⟩
                rw [← E4.out]
                exact S3.out
            · have q1 : ¬ (a : Int) < s := by omega
              have q2 : (s : Int) < m := by omega
              have q3 : (m : Int) < e := by omega
              have q4 : ¬ (e : Int) < b := by omega
              have q5 : (s : Int) < mid := by omega
              have q6 : (mid : Int) < e := by omega
              go_wp2_with fail
              refine (C1.out _ HSW.out (by omega) (by omega)).mono ?_
              rintro e1 w2 ⟨rfl, hs1⟩
              have S1 := hid (swk_trans HSW.out hbk hs1 HZ.out.1)
              clear hs1
              have S2 := hid (show SWK enc k W1 blk off L2.toArray _ by rw [← E2.out (by omega)]; exact S1.out)
              have S3 := hid (show SWK enc k W1 blk off L3.toArray _ by rw [← E3.out (by omega)]; exact S2.out)
              go_wp2
              all_goals
                go_returns
                refine ⟨rfl, swk_back HW1.out hblk ?_⟩
                rw [← E4.out]
                exact S3.out
          · have hD : e < b := by omega
            have q1 : ¬ (a : Int) < s := by omega
            have q2 : (s : Int) < m := by omega
            have q3 : ¬ (m : Int) < e := by omega
            have q4 : (e : Int) < b := by omega
            have q5 : ¬ (s : Int) < mid := by omega
            have q6 : (mid : Int) < e := by omega
            have S1 := hid (show SWK enc k W1 blk off L1.toArray wr by rw [← E1.out (by omega)]; exact HSW.out)
            have S2 := hid (show SWK enc k W1 blk off L2.toArray _ by rw [← E2.out (by omega)]; exact S1.out)
            go_wp2_with fail
            refine (C3.out _ S2.out (by omega) (by omega)).mono ?_
            rintro e3 w4 ⟨rfl, hs3⟩
            have S3 := hid (swk_trans S2.out hbk hs3 HZ.out.2.2)
            clear hs3
            go_wp2
            all_goals
              go_returns
              refine ⟨rfl, swk_back HW1.out hblk ?_⟩
              rw [← E4.out]
              exact S3.out
      · have hA : a < s := by omega
        by_cases hC : m < e
        · by_cases hD : e < b
          · have q1 : (a : Int) < s := by omega
            have q2 : ¬ (s : Int) < m := by omega
            have q3 : (m : Int) < e := by omega
            have q4 : (e : Int) < b := by omega
            have q5 : (s : Int) < mid := by omega
            have q6 : ¬ (mid : Int) < e := by omega
            have S1 := hid (show SWK enc k W1 blk off L1.toArray wr by rw [← E1.out (by omega)]; exact HSW.out)
            go_wp2_with fail
            refine (C2.out _ S1.out (by omega) (by omega)).mono ?_
            rintro e2 w3 ⟨rfl, hs2⟩
            have S2 := hid (swk_trans S1.out hbk hs2 HZ.out.2.1)
            clear hs2
            have S3 := hid (show SWK enc k W1 blk off L3.toArray _ by rw [← E3.out (by omega)]; exact S2.out)
            go_wp2
            all_goals
              go_returns
              refine ⟨rfl, swk_back HW1.out hblk ?_⟩
              rw [← E4.out]
              exact S3.out
          · have q1 : (a : Int) < s := by omega
            have q2 : ¬ (s : Int) < m := by omega
            have q3 : (m : Int) < e := by omega
            have q4 : ¬ (e : Int) < b := by omega
            have q5 : (s : Int) < mid := by omega
            have q6 : ¬ (mid : Int) < e := by omega
            have S1 := hid (show SWK enc k W1 blk off L1.toArray wr by rw [← E1.out (by omega)]; exact HSW.out)
            go_wp2_with fail
            refine (C2.out _ S1.out (by omega) (by omega)).mono ?_
            rintro e2 w3 ⟨rfl, hs2⟩
            have S2 := hid (swk_trans S1.out hbk hs2 HZ.out.2.1)
            clear hs2
            have S3 := hid (show SWK enc k W1 blk off L3.toArray _ by rw [← E3.out (by omega)]; exact S2.out)
            go_wp2
            all_goals
              go_returns
              refine ⟨rfl, swk_back HW1.out hblk ?_⟩
              rw [← E4.out]
              exact S3.out
        · have hD : e < b := by omega
          have q1 : (a : Int) < s := by omega
          have q2 : ¬ (s : Int) < m := by omega
          have q3 : ¬ (m : Int) < e := by omega
          have q4 : (e : Int) < b := by omega
          have q5 : ¬ (s : Int) < mid := by omega
          have q6 : ¬ (mid : Int) < e := by omega
          have S1 := hid (show SWK enc k W1 blk off L1.toArray wr by rw [← E1.out (by omega)]; exact HSW.out)
          have S2 := hid (show SWK enc k W1 blk off L2.toArray _ by rw [← E2.out (by omega)]; exact S1.out)
          have S3 := hid (show SWK enc k W1 blk off L3.toArray _ by rw [← E3.out (by omega)]; exact S2.out)
          go_wp2
          all_goals
            go_returns
            refine ⟨rfl, swk_back HW1.out hblk ?_⟩
            rw [← E4.out]
            exact S3.out
set_option maxHeartbeats 8000000 in
set_option maxRecDepth 100000 in
theorem symG_b (enc : α → List Value) (k : Nat) (hk : ∀ x, (enc x).length = k) (wt : α → Int) (g : Nat) (lb : Array Value) (sf : Nat) (sb : Array Value) (blk off size N : Nat) (X u v Z : List α) (a m b : Nat) (W : World)
    (ih : SymSays enc k wt g lb sf sb blk off size N) (hN : b - a ≤ N + 1) (hX : X.length = a) (hu : a + u.length = m) (hv : m + v.length = b) (ham : a < m) (hmb : m < b) (hn1 : Hid (m ≠ a + 1)) (hn2 : Hid (b ≠ m + 1)) (hsz : (X ++ (u ++ (v ++ Z))).length = size) (au : AscW wt u) (av : AscW wt v)
    (mid : Nat) (hmd : (a + b) / 2 = mid) (hmm : ¬ mid < m)
    (eg : ∀ args w, (callFunc g args).run Tryz.prog w = .ok (.enter g args) w) (hless : LessReadsK Tryz.prog g lb enc k (wLt wt) blk off size W)
    (hswap : SwapSwapsK Tryz.prog sf sb enc k blk off size) (hH : HoldsK enc k W blk off (X ++ (u ++ (v ++ Z))).toArray) (hblk : blk < W.heap.size) (hbig : size < 4611686018427387904) :
    Calls Tryz.prog 162 #[.agg #[.func (.func g) #[] lb, .func (.func sf) #[] sb], .int .i64 a, .int .i64 m, .int .i64 b] W fun e w' => e = .returned (.tuple #[]) ∧ SWK enc k W blk off (X ++ (mergeL (wLt wt) u v ++ Z)).toArray w' := by
  obtain ⟨d, hd⟩ : ∃ d, (X ++ (u ++ (v ++ Z))).toArray = d := ⟨_, rfl⟩
  have hds : d.size = size := by rw [← hd]; simpa using hsz
  have hbs : b ≤ size := by rw [← hsz]; simp only [List.length_append]; omega
  obtain ⟨x0, hx0⟩ : ∃ x : Int, IntKind.i64.wrap ((m : Int) - (a : Int)) = x := ⟨_, rfl⟩
  have hw0 : (x0 == 1) = false := by have := hn1.out; rw [← hx0, IntWalk.i64_in _ (by omega)]; simp; omega
  obtain ⟨x1, hx1⟩ : ∃ x : Int, IntKind.i64.wrap ((b : Int) - (m : Int)) = x := ⟨_, rfl⟩
  have hw1 : (x1 == 1) = false := by have := hn2.out; rw [← hx1, IntWalk.i64_in _ (by omega)]; simp; omega
  have hmid : ((a : Int) + (b : Int)) / 2 = mid := by omega
  have hmidb : mid < b := by omega
  have hamid : a < mid := by have := hn1.out; have := hn2.out; omega
  have hwu : ∀ i j, a ≤ i → i ≤ j → j < m → wt d[i]! ≤ wt d[j]! := fun i j h1 h2 h3 => by
    have gu : ∀ i, i < u.length → d[a + i]! = u[i]! := fun i hi => by
      have hq : (X ++ (u ++ (v ++ Z)))[a + i]? = u[i]? := by rw [List.getElem?_append_right (by omega), hX, Nat.add_sub_cancel_left, List.getElem?_append_left hi]
      rw [← hd]; simp only [getElem!_def, List.getElem?_toArray, hq]
    have e1 := gu (i - a) (by omega)
    have e2 := gu (j - a) (by omega)
    rw [show a + (i - a) = i by omega] at e1
    rw [show a + (j - a) = j by omega] at e2
    rw [e1, e2]
    exact asc_get au (by omega) (by omega)
  have hwv : ∀ i j, m ≤ i → i ≤ j → j < b → wt d[i]! ≤ wt d[j]! := fun i j h1 h2 h3 => by
    have gv : ∀ i, i < v.length → d[m + i]! = v[i]! := fun i hi => by
      have hq : (X ++ (u ++ (v ++ Z)))[m + i]? = v[i]? := by
        rw [List.getElem?_append_right (by omega), List.getElem?_append_right (by omega), show m + i - X.length - u.length = i by omega, List.getElem?_append_left hi]
      rw [← hd]; simp only [getElem!_def, List.getElem?_toArray, hq]
    have e1 := gv (i - m) (by omega)
    have e2 := gv (j - m) (by omega)
    rw [show m + (i - m) = i by omega] at e1
    rw [show m + (j - m) = j by omega] at e2
    rw [e1, e2]
    exact asc_get av (by omega) (by omega)
  have HLS := hid (Has.new W 220 #[.func (.func g) #[] lb, .func (.func sf) #[] sb])
  have HH := hid (show HoldsK enc k W blk off d by rw [← hd]; exact hH)
  have HD := hid hd
  have HDS := hid hds
  have HPT := hid (fun s (e : Nat) he h1 h2 h3 h4 h5 f1 f2 => sym_parts (wt := wt) (X := X) (u := u) (v := v) (Z := Z) (a := a) (m := m) (b := b) (s := s) (mid := mid) (e := e) hX hu hv au av hmd he h1 h2 h3 h4 h5 f1 f2)
  have HSA := hid (sym_start (w := fun i => wt d[i]!) ham hmb)
  have HIN := hid (fun (s r c : Nat) (h : SymAt (fun i => wt d[i]!) a m b s r) (hc : s ≤ c) (hr : c < r) => sym_in ham hmb h hc hr)
  have HFD := hid (fun (s : Nat) (h : SymAt (fun i => wt d[i]!) a m b s s) => sym_found ham hmb h hwu hwv)
  have HIH := hid ih
  have HXL := hid hX
  have HNN := hid hN
  have hlo : symLo a m b = a := by unfold symLo; split <;> omega
  have hhi : symHi a m b = m := by unfold symHi; split <;> omega
  have HMD := hid hmd
  have HLO := hid hlo
  have HHI := hid hhi
  clear hH hd hds hwu hwv au av ih hX hu hv hN hsz hlo hhi hmd
  obtain ⟨W1, hW1⟩ : ∃ w, W.alloc (.cells #[.func (.func g) #[] lb, .func (.func sf) #[] sb] 220) = w := ⟨_, rfl⟩
  have hge : W.heap.size < W1.heap.size := by rw [← hW1]; simp
  have HH1 := hid (show HoldsK enc k W1 blk off d by rw [← hW1, alloc_eq_grow]; exact holdsK_grow enc k W _ blk off d hblk HH.out)
  have HL1 := hid (show LessReadsK Tryz.prog g lb enc k (wLt wt) blk off size W1 by rw [← hW1, alloc_eq_grow]; exact hless.grow hblk _)
  have HSP := hid hswap
  clear hless hswap
  have hbk : blk < W1.heap.size := by omega
  go_enter Tryz.func162, Tryz.ntmps162
  go_wp2
  rw [hW1] at HLS
  have HW1 := hid hW1
  clear hW1
  go_loopw [18, 19] (fun vi vj wr => ∃ (s r : Nat), vi = .int .i64 s ∧ vj = .int .i64 r ∧ SymAt (fun i => wt d[i]!) a m b s r ∧ SWK enc k W1 blk off d wr) (fun vi vj _ => (intOf vj).toNat - (intOf vi).toNat)
  case atStart => exact ⟨symLo a m b, symHi a m b, by rw [HLO.out], by rw [HHI.out], HSA.out, SWK.start HH1.out⟩
  case round =>
    obtain ⟨s, r, rfl, rfl, hsy, hsw⟩ := hrel
    rename World => wr
    have hls := swk_has hsw HLS.out (by omega)
    have c0 := hls.cell 0
    have c1 := hls.cell 1
    have HSY := hid hsy
    have HSW := hid hsw
    have hsr := hsy.sr
    have hrm : r ≤ m := by have := (sym_bounds ham hmb).2.2.1; have := hsy.hi; omega
    clear hls hsy hsw
    by_cases hlt : s < r
    · have hlti : (s : Int) < r := by omega
      obtain ⟨c, hc⟩ : ∃ c, (s + r) / 2 = c := ⟨_, rfl⟩
      have hc2 : ((s : Int) + r) / 2 = c := by omega
      have hic : s ≤ c := by omega
      have hcj : c < r := by omega
      obtain ⟨i1, i2, i3, i4⟩ := HIN.out s r c HSY.out hic hcj
      rw [HMD.out] at i3 i4
      obtain ⟨q, hq⟩ : ∃ q, mid + m - 1 - c = q := ⟨_, rfl⟩
      rw [hq] at i3 i4
      have hq2 : (mid : Int) + m - 1 - c = q := by omega
      have hl := HSW.out.less HL1.out HDS.out q c (by omega) (by omega)
      have HQ := hid hq
      clear hc hq
      cases hlv : wLt wt d[q]! d[c]! with
      | true =>
        rw [hlv] at hl
        have HLV := hid (show wt d[q]! < wt d[c]! from of_decide_eq_true hlv)
        clear hlv
        go_wp2_with (go_at_fn g; refine hl.mono ?_; rintro e w' ⟨rfl, q, rfl⟩)
        go_roundw
        case rel => exact ⟨s, c, rfl, rfl, sym_left HSY.out hic hcj (by rw [HMD.out, HQ.out]; exact HLV.out), HSW.out.drewN _⟩
        case measure => simp [intOf] <;> omega
      | false =>
        rw [hlv] at hl
        have HLV := hid (show wt d[c]! ≤ wt d[q]! from Int.not_lt.1 (of_decide_eq_false hlv))
        clear hlv
        go_wp2_with (go_at_fn g; refine hl.mono ?_; rintro e w' ⟨rfl, q, rfl⟩)
        go_roundw
        case rel => exact ⟨c + 1, r, by go_num, rfl, sym_right HSY.out hic hcj (by rw [HMD.out, HQ.out]; exact Int.not_lt.2 HLV.out), HSW.out.drewN _⟩
        case measure => simp [intOf] <;> omega
    · obtain rfl : s = r := by omega
      have hnlt : ¬ (s : Int) < s := by omega
      obtain ⟨j1, j2, j3, j4, j5, j6, j7⟩ := HFD.out s HSY.out
      rw [HMD.out] at j3 j4 j5 j6 j7
      obtain ⟨e, he⟩ : ∃ e, mid + m - s = e := ⟨_, rfl⟩
      rw [he] at j4 j5 j6 j7
      have he2 : (mid : Int) + m - s = e := by omega
      obtain ⟨L1, L2, L3, pt⟩ := HPT.out s e he j1 j2 j3 j4 j5 (by rw [HD.out]; exact j6) (by rw [HD.out]; exact j7)
      have hdl : (X ++ (u ++ (v ++ Z))).length = size := by rw [← HDS.out, ← HD.out]; simp
      have C1 := hid (fun (w2 : World) (hw : SWK enc k W1 blk off d w2) (h1 : s < m) (h2 : m < e) => rotate_ok enc k hk g lb sf sb blk off d L1 s m e w2 (HDS.out ▸ HSP.out) (hw.holds hbk HH1.out rfl) (hw.lt hbk) h1 h2 (by rw [← HD.out]; exact pt.rot h1 h2) (by rw [HDS.out]; omega))
      have C2 := hid (show ∀ (w2 : World), SWK enc k W1 blk off L1.toArray w2 → a < s → s < mid → Calls Tryz.prog 162 #[.agg #[.func (.func g) #[] lb, .func (.func sf) #[] sb], .int .i64 a, .int .i64 s, .int .i64 mid] w2 fun e w' => e = .returned (.tuple #[]) ∧ SWK enc k w2 blk off L2.toArray w' from fun w2 hw h1 h2 => by
        obtain ⟨u1, v1, Y, rfl, rfl, z1, z2, z3, z4⟩ := pt.c1
        have hl := pt.l1
        rw [hdl] at hl
        have hsz1 : (X ++ (u1 ++ (v1 ++ Y))).toArray.size = d.size := by rw [HDS.out, ← hl]; simp
        exact HIH.out X u1 v1 Y a s mid w2 (by have := HNN.out; omega) HXL.out z1 z2 h1 h2 hl z3 z4 (hw.lessReads HL1.out hbk (by rw [hsz1, HDS.out])) (hw.holds hbk HH1.out hsz1) (hw.lt hbk))
      have C3 := hid (show ∀ (w2 : World), SWK enc k W1 blk off L2.toArray w2 → mid < e → e < b → Calls Tryz.prog 162 #[.agg #[.func (.func g) #[] lb, .func (.func sf) #[] sb], .int .i64 mid, .int .i64 e, .int .i64 b] w2 fun e w' => e = .returned (.tuple #[]) ∧ SWK enc k w2 blk off L3.toArray w' from fun w2 hw h1 h2 => by
        obtain ⟨Y, u2, v2, rfl, rfl, z0, z1, z2, z3, z4⟩ := pt.c2
        have hl := pt.l2
        rw [hdl] at hl
        have hsz1 : (Y ++ (u2 ++ (v2 ++ Z))).toArray.size = d.size := by rw [HDS.out, ← hl]; simp
        exact HIH.out Y u2 v2 Z mid e b w2 (by have := HNN.out; omega) z0 z1 z2 h1 h2 hl z3 z4 (hw.lessReads HL1.out hbk (by rw [hsz1, HDS.out])) (hw.holds hbk HH1.out hsz1) (hw.lt hbk))
      have hz1 : L1.toArray.size = d.size := by rw [HDS.out, ← hdl, ← pt.l1]; simp
      have hz2 : L2.toArray.size = L1.toArray.size := by rw [hz1, HDS.out, ← hdl, ← pt.l2]; simp
      have hz3 : L3.toArray.size = L2.toArray.size := by rw [hz2, hz1, HDS.out, ← hdl, ← pt.l3]; simp
      have HZ := hid (And.intro hz1 (And.intro hz2 hz3))
      have E1 := hid (show ¬ (s < m ∧ m < e) → d = L1.toArray from fun h => by rw [← HD.out, pt.e1 h])
      have E2 := hid pt.e2
      have E3 := hid pt.e3
      have E4 := hid pt.e4
      have HEN := hid he
      clear j6 j7 pt hdl hz1 hz2 hz3 he
      by_cases hB : s < m
      · by_cases hA : a < s
        · by_cases hC : m < e
          · by_cases hD : e < b
            · have q1 : (a : Int) < s := by omega
              have q2 : (s : Int) < m := by omega
              have q3 : (m : Int) < e := by omega
              have q4 : (e : Int) < b := by omega
              have q5 : (s : Int) < mid := by omega
              have q6 : (mid : Int) < e := by omega
              go_wp2_with fail
              refine (C1.out _ HSW.out (by omega) (by omega)).mono ?_
              rintro e1 w2 ⟨rfl, hs1⟩
              have S1 := hid (swk_trans HSW.out hbk hs1 HZ.out.1)
              clear hs1
              have hls1 := swk_has S1.out HLS.out (by omega)
              have d0 := hls1.cell 0
              have d1 := hls1.cell 1
              clear hls1
              go_wp2_with fail
              refine (C2.out _ S1.out (by omega) (by omega)).mono ?_
              rintro e2 w3 ⟨rfl, hs2⟩
              have S2 := hid (swk_trans S1.out hbk hs2 HZ.out.2.1)
              clear hs2
              have hls2 := swk_has S2.out HLS.out (by omega)
              have f0 := hls2.cell 0
              have f1 := hls2.cell 1
              clear hls2
              go_wp2_with fail
              refine (C3.out _ S2.out (by omega) (by omega)).mono ?_
              rintro e3 w4 ⟨rfl, hs3⟩
              have S3 := hid (swk_trans S2.out hbk hs3 HZ.out.2.2)
              clear hs3
              go_wp2
              all_goals
                go_returns
                refine ⟨rfl, swk_back HW1.out hblk ?_⟩
                rw [← E4.out]
                exact S3.out
            · have q1 : (a : Int) < s := by omega
              have q2 : (s : Int) < m := by omega
              have q3 : (m : Int) < e := by omega
              have q4 : ¬ (e : Int) < b := by omega
              have q5 : (s : Int) < mid := by omega
              have q6 : (mid : Int) < e := by omega
              go_wp2_with fail
              refine (C1.out _ HSW.out (by omega) (by omega)).mono ?_
              rintro e1 w2 ⟨rfl, hs1⟩
              have S1 := hid (swk_trans HSW.out hbk hs1 HZ.out.1)
              clear hs1
              have hls1 := swk_has S1.out HLS.out (by omega)
              have d0 := hls1.cell 0
              have d1 := hls1.cell 1
              clear hls1
              go_wp2_with fail
              refine (C2.out _ S1.out (by omega) (by omega)).mono ?_
              rintro e2 w3 ⟨rfl, hs2⟩
              have S2 := hid (swk_trans S1.out hbk hs2 HZ.out.2.1)
              clear hs2
              have S3 := hid (show SWK enc k W1 blk off L3.toArray _ by rw [← E3.out (by omega)]; exact S2.out)
              go_wp2
              all_goals
                go_returns
                refine ⟨rfl, swk_back HW1.out hblk ?_⟩
                rw [← E4.out]
                exact S3.out
          · have hD : e < b := by omega
            have q1 : (a : Int) < s := by omega
            have q2 : (s : Int) < m := by omega
            have q3 : ¬ (m : Int) < e := by omega
            have q4 : (e : Int) < b := by omega
            have q5 : ¬ (s : Int) < mid := by omega
            have q6 : (mid : Int) < e := by omega
            have S1 := hid (show SWK enc k W1 blk off L1.toArray wr by rw [← E1.out (by omega)]; exact HSW.out)
            have S2 := hid (show SWK enc k W1 blk off L2.toArray _ by rw [← E2.out (by omega)]; exact S1.out)
            go_wp2_with fail
            refine (C3.out _ S2.out (by omega) (by omega)).mono ?_
            rintro e3 w4 ⟨rfl, hs3⟩
            have S3 := hid (swk_trans S2.out hbk hs3 HZ.out.2.2)
            clear hs3
            go_wp2
            all_goals
              go_returns
              refine ⟨rfl, swk_back HW1.out hblk ?_⟩
              rw [← E4.out]
              exact S3.out
        · by_cases hC : m < e
          · by_cases hD : e < b
            · have q1 : ¬ (a : Int) < s := by omega
              have q2 : (s : Int) < m := by omega
              have q3 : (m : Int) < e := by omega
              have q4 : (e : Int) < b := by omega
              have q5 : (s : Int) < mid := by omega
              have q6 : (mid : Int) < e := by omega
              go_wp2_with fail
              refine (C1.out _ HSW.out (by omega) (by omega)).mono ?_
              rintro e1 w2 ⟨rfl, hs1⟩
              have S1 := hid (swk_trans HSW.out hbk hs1 HZ.out.1)
              clear hs1
              have S2 := hid (show SWK enc k W1 blk off L2.toArray _ by rw [← E2.out (by omega)]; exact S1.out)
              have hls2 := swk_has S2.out HLS.out (by omega)
              have f0 := hls2.cell 0
              have f1 := hls2.cell 1
              clear hls2
              go_wp2_with fail
              refine (C3.out _ S2.out (by omega) (by omega)).mono ?_
              rintro e3 w4 ⟨rfl, hs3⟩
              have S3 := hid (swk_trans S2.out hbk hs3 HZ.out.2.2)
              clear hs3
              go_wp2
              all_goals
                go_returns
                refine ⟨rfl, swk_back HW1.out hblk ?_⟩
                rw [← E4.out]
                exact S3.out
            · have q1 : ¬ (a : Int) < s := by omega
              have q2 : (s : Int) < m := by omega
              have q3 : (m : Int) < e := by omega
              have q4 : ¬ (e : Int) < b := by omega
              have q5 : (s : Int) < mid := by omega
              have q6 : (mid : Int) < e := by omega
              go_wp2_with fail
              refine (C1.out _ HSW.out (by omega) (by omega)).mono ?_
              rintro e1 w2 ⟨rfl, hs1⟩
              have S1 := hid (swk_trans HSW.out hbk hs1 HZ.out.1)
              clear hs1
              have S2 := hid (show SWK enc k W1 blk off L2.toArray _ by rw [← E2.out (by omega)]; exact S1.out)
              have S3 := hid (show SWK enc k W1 blk off L3.toArray _ by rw [← E3.out (by omega)]; exact S2.out)
              go_wp2
              all_goals
                go_returns
                refine ⟨rfl, swk_back HW1.out hblk ?_⟩
                rw [← E4.out]
                exact S3.out
          · have hD : e < b := by omega
            have q1 : ¬ (a : Int) < s := by omega
            have q2 : (s : Int) < m := by omega
            have q3 : ¬ (m : Int) < e := by omega
            have q4 : (e : Int) < b := by omega
            have q5 : ¬ (s : Int) < mid := by omega
            have q6 : (mid : Int) < e := by omega
            have S1 := hid (show SWK enc k W1 blk off L1.toArray wr by rw [← E1.out (by omega)]; exact HSW.out)
            have S2 := hid (show SWK enc k W1 blk off L2.toArray _ by rw [← E2.out (by omega)]; exact S1.out)
            go_wp2_with fail
            refine (C3.out _ S2.out (by omega) (by omega)).mono ?_
            rintro e3 w4 ⟨rfl, hs3⟩
            have S3 := hid (swk_trans S2.out hbk hs3 HZ.out.2.2)
            clear hs3
            go_wp2
            all_goals
              go_returns
              refine ⟨rfl, swk_back HW1.out hblk ?_⟩
              rw [← E4.out]
              exact S3.out
      · have hA : a < s := by omega
        by_cases hC : m < e
        · by_cases hD : e < b
          · have q1 : (a : Int) < s := by omega
            have q2 : ¬ (s : Int) < m := by omega
            have q3 : (m : Int) < e := by omega
            have q4 : (e : Int) < b := by omega
            have q5 : (s : Int) < mid := by omega
            have q6 : ¬ (mid : Int) < e := by omega
            have S1 := hid (show SWK enc k W1 blk off L1.toArray wr by rw [← E1.out (by omega)]; exact HSW.out)
            go_wp2_with fail
            refine (C2.out _ S1.out (by omega) (by omega)).mono ?_
            rintro e2 w3 ⟨rfl, hs2⟩
            have S2 := hid (swk_trans S1.out hbk hs2 HZ.out.2.1)
            clear hs2
            have S3 := hid (show SWK enc k W1 blk off L3.toArray _ by rw [← E3.out (by omega)]; exact S2.out)
            go_wp2
            all_goals
              go_returns
              refine ⟨rfl, swk_back HW1.out hblk ?_⟩
              rw [← E4.out]
              exact S3.out
          · have q1 : (a : Int) < s := by omega
            have q2 : ¬ (s : Int) < m := by omega
            have q3 : (m : Int) < e := by omega
            have q4 : ¬ (e : Int) < b := by omega
            have q5 : (s : Int) < mid := by omega
            have q6 : ¬ (mid : Int) < e := by omega
            have S1 := hid (show SWK enc k W1 blk off L1.toArray wr by rw [← E1.out (by omega)]; exact HSW.out)
            go_wp2_with fail
            refine (C2.out _ S1.out (by omega) (by omega)).mono ?_
            rintro e2 w3 ⟨rfl, hs2⟩
            have S2 := hid (swk_trans S1.out hbk hs2 HZ.out.2.1)
            clear hs2
            have S3 := hid (show SWK enc k W1 blk off L3.toArray _ by rw [← E3.out (by omega)]; exact S2.out)
            go_wp2
            all_goals
              go_returns
              refine ⟨rfl, swk_back HW1.out hblk ?_⟩
              rw [← E4.out]
              exact S3.out
        · have hD : e < b := by omega
          have q1 : (a : Int) < s := by omega
          have q2 : ¬ (s : Int) < m := by omega
          have q3 : ¬ (m : Int) < e := by omega
          have q4 : (e : Int) < b := by omega
          have q5 : ¬ (s : Int) < mid := by omega
          have q6 : ¬ (mid : Int) < e := by omega
          have S1 := hid (show SWK enc k W1 blk off L1.toArray wr by rw [← E1.out (by omega)]; exact HSW.out)
          have S2 := hid (show SWK enc k W1 blk off L2.toArray _ by rw [← E2.out (by omega)]; exact S1.out)
          have S3 := hid (show SWK enc k W1 blk off L3.toArray _ by rw [← E3.out (by omega)]; exact S2.out)
          go_wp2
          all_goals
            go_returns
            refine ⟨rfl, swk_back HW1.out hblk ?_⟩
            rw [← E4.out]
            exact S3.out
theorem sym_all (enc : α → List Value) (k : Nat) (hk : ∀ x, (enc x).length = k) (wt : α → Int) (g : Nat) (lb : Array Value) (sf : Nat) (sb : Array Value) (blk off size : Nat)
    (eg : ∀ args w, (callFunc g args).run Tryz.prog w = .ok (.enter g args) w) (hswap : SwapSwapsK Tryz.prog sf sb enc k blk off size) (hbig : size < 4611686018427387904) : ∀ N, SymSays enc k wt g lb sf sb blk off size N
  | 0 => fun X u v Z a m b W h0 _ _ _ h1 h2 => by omega
  | N + 1 => fun X u v Z a m b W hN hX hu hv ham hmb hsz au av hL hH hblk => by
    have hds : (X ++ (u ++ (v ++ Z))).toArray.size = size := by simpa using hsz
    by_cases h1 : m = a + 1
    · match u, hu with
      | [x], hu =>
        have := symL_ok enc k hk (wLt wt) g lb sf sb blk off _ X v Z x a m b (hid h1) W eg (by rw [hds]; exact hL) (by rw [hds]; exact hswap) hH hblk rfl hX hv (fun i j hij hj h => by
          have h3 := asc_get av hij hj
          have h4 : wt v[j]! < wt x := of_decide_eq_true h
          exact decide_eq_true (by omega)) (by rw [hds]; exact hbig)
        rw [List.append_assoc] at this
        exact this
      | [], hu => simp at hu; omega
      | x :: y :: r, hu => simp at hu; omega
    · by_cases h2 : b = m + 1
      · match v, hv with
        | [y], hv =>
          have := symRt_ok enc k hk (wLt wt) g lb sf sb blk off _ X u Z y a m b (hid h2) (hid h1) W eg (by rw [hds]; exact hL) (by rw [hds]; exact hswap) hH hblk rfl hX hu ham (fun i j hij hj h => by
            have h3 := asc_get au hij hj
            have h4 : wt y < wt u[i]! := of_decide_eq_true h
            exact decide_eq_true (by omega)) (by rw [hds]; exact hbig)
          rw [List.append_assoc] at this
          exact this
        | [], hv => simp at hv; omega
        | x :: y :: r, hv => simp at hv; omega
      · have ih := sym_all enc k hk wt g lb sf sb blk off size eg hswap hbig N
        by_cases hm : (a + b) / 2 < m
        · exact symG_a enc k hk wt g lb sf sb blk off size N X u v Z a m b W ih hN hX hu hv ham hmb (hid h1) (hid h2) hsz au av _ rfl hm eg hL hswap hH hblk hbig
        · exact symG_b enc k hk wt g lb sf sb blk off size N X u v Z a m b W ih hN hX hu hv ham hmb (hid h1) (hid h2) hsz au av _ rfl hm eg hL hswap hH hblk hbig
end Go.Proofs.YtkmbgkcpohchhaaGreatDoor
