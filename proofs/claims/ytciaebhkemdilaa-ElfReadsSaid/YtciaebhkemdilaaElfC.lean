/- The name at a place of the names (contract of the function). -/
import Derived.Test.YtciaebhkemdilaaElfB
import Derived.Test.YtciaebhkemdilaaShelfEl
namespace Go.Proofs.Ytciaebhkemdilaa
open Go.RowKit
set_option linter.unusedVariables false
set_option linter.unusedSimpArgs false
theorem zGo_spec {d : ByteArray} : ∀ {f p : Nat}, p ≤ zGo d f p ∧ zGo d f p ≤ p + f ∧ (∀ j, p ≤ j → j < zGo d f p → bt d j ≠ 0) ∧ (zGo d f p < p + f → bt d (zGo d f p) = 0)
  | 0, p => by rw [zGo]; exact ⟨Nat.le_refl _, Nat.le_refl _, fun j a b => by omega, fun h => by omega⟩
  | f + 1, p => by
    rw [zGo]
    by_cases h : bt d p = 0
    · rw [if_pos h]; exact ⟨Nat.le_refl _, by omega, fun j a b => by omega, fun _ => h⟩
    · rw [if_neg h]
      obtain ⟨a, b, c, e⟩ := zGo_spec (d := d) (f := f) (p := p + 1)
      refine ⟨by omega, by omega, fun j x y => ?_, fun x => e (by omega)⟩
      by_cases k : j = p
      · rw [k]; exact h
      · exact c j (by omega) y
theorem zAt_spec {d : ByteArray} {p : Nat} (hp : p ≤ d.size) : p ≤ zAt d p ∧ zAt d p ≤ d.size ∧ (∀ j, p ≤ j → j < zAt d p → bt d j ≠ 0) ∧ (zAt d p < d.size → bt d (zAt d p) = 0) := by
  obtain ⟨a, b, c, e⟩ := zGo_spec (d := d) (f := d.size - p) (p := p)
  exact ⟨a, by unfold zAt; omega, c, fun h => e (by unfold zAt at h; omega)⟩
theorem ixb_at {c : UInt8} : ∀ {l : List UInt8} {n : Nat}, l[n]? = some c → (∀ j, j < n → l[j]? ≠ some c) → Lib.indexByte l c = (n : Int)
  | [], n, h, _ => by simp at h
  | x :: l, 0, h, _ => by
    have h2 : x = c := by simpa using h
    rw [Lib.indexByte, if_pos (by rw [h2]; exact beq_self_eq_true c)]
    rfl
  | x :: l, n + 1, h, k => by
    have h0 : ¬ x = c := fun e => k 0 (by omega) (by rw [e]; rfl)
    have ih := ixb_at (c := c) (l := l) (n := n) (by simpa using h) (fun j hj => by have := k (j + 1) (by omega); simpa using this)
    rw [Lib.indexByte, if_neg (by simpa using h0), ih, if_neg (by simp)]
    rfl
theorem ixb_no {c : UInt8} : ∀ {l : List UInt8}, (∀ x ∈ l, x ≠ c) → Lib.indexByte l c = -1
  | [], _ => rfl
  | x :: l, h => by
    have ih := ixb_no (c := c) (l := l) (fun y hy => h y (by simp [hy]))
    rw [Lib.indexByte, if_neg (by simpa using h x (by simp)), ih, if_pos (by decide)]
theorem list_bt {d : ByteArray} {p j : Nat} (h : p + j < d.size) : (d.data.toList.drop p)[j]? = some (d[p + j]'h) := by
  rw [List.getElem?_drop, List.getElem?_eq_getElem (by simpa using h)]
  simp [ByteArray.getElem_eq_getElem_data]
theorem bt_0 {d : ByteArray} {i : Nat} (h : i < d.size) : bt d i = 0 ↔ d[i]'h = 0 := by
  rw [bt_eq d i h]
  exact ⟨fun e => UInt8.toNat_inj.1 (by rw [e]; rfl), fun e => by rw [e]; rfl⟩
/-- Where the first byte 0 of the rest stands. -/
theorem ixb_zero {d : ByteArray} {p : Nat} (hp : p ≤ d.size) : Lib.indexByte (d.extract p d.size).data.toList 0 = if zAt d p < d.size then ((zAt d p - p : Nat) : Int) else -1 := by
  obtain ⟨a, b, c, e⟩ := zAt_spec hp
  have el : (d.extract p d.size).data.toList = d.data.toList.drop p := by
    rw [ext_list, List.take_of_length_le]
    simp
  rw [el]
  by_cases h : zAt d p < d.size
  · rw [if_pos h]
    refine ixb_at ?_ fun j hj => ?_
    · rw [list_bt (by omega), ← (bt_0 (by omega)).1 (show bt d (p + (zAt d p - p)) = 0 by rw [show p + (zAt d p - p) = zAt d p by omega]; exact e h)]
    · rw [list_bt (by omega)]
      intro h2
      exact c (p + j) (by omega) (by omega) ((bt_0 (by omega)).2 (Option.some.inj h2))
  · rw [if_neg h]
    refine ixb_no fun x hx => ?_
    obtain ⟨j, hj, rfl⟩ := List.getElem_of_mem hx
    have hj2 : p + j < d.size := by simp at hj; omega
    have := list_bt hj2
    rw [List.getElem?_eq_getElem hj] at this
    rw [Option.some.inj this]
    intro h2
    exact c (p + j) (by omega) (by omega) ((bt_0 hj2).2 h2)
set_option maxRecDepth 100000 in
set_option maxHeartbeats 2000000 in
theorem lcut_yes (s : ByteArray) (hs : s.size ≤ 281474976710656) (n : Nat) (hn : n < s.size) (hi : Hid (Lib.indexByte s.data.toList 0 = (n : Int))) (w : World) :
    Calls Try.prog 99 #[.string s, .string ⟨#[0]⟩] w fun e w' => ∃ r, e = .returned (.tuple #[.string (s.extract 0 n), .string r, .bool true]) ∧ Bw w w' := by
  have HI := hid (fun W => sh_stringslite_Index_one s 0 W)
  rw [hi.out] at HI
  have HD := hid ((Bw.refl w).drewN 1)
  have v1 : IntKind.i64.wrap ((n : Int) + 1) = (n : Int) + 1 := IntWalk.i64_in _ (by omega)
  go_enter Try.func99, Try.ntmps99
  go_wp2_with fail
  refine (HI.out _).mono ?_
  rintro e w2 ⟨rfl, rfl⟩
  go_wp2_with fail
  go_region
  all_goals go_wp2
  all_goals go_returns
  all_goals exact ⟨_, rfl, HD.out⟩
set_option maxRecDepth 100000 in
set_option maxHeartbeats 2000000 in
theorem lcut_no (s : ByteArray) (hs : s.size ≤ 281474976710656) (hi : Hid (Lib.indexByte s.data.toList 0 = -1)) (w : World) :
    Calls Try.prog 99 #[.string s, .string ⟨#[0]⟩] w fun e w' => ∃ r, e = .returned (.tuple #[.string s, .string r, .bool false]) ∧ Bw w w' := by
  have HI := hid (fun W => sh_stringslite_Index_one s 0 W)
  rw [hi.out] at HI
  go_enter Try.func99, Try.ntmps99
  go_wp2_with fail
  refine (HI.out _).mono ?_
  rintro e w2 ⟨rfl, rfl⟩
  go_wp2
  go_returns
  exact ⟨_, rfl, Bw.refl _⟩
set_option maxRecDepth 100000 in
set_option maxHeartbeats 2000000 in
theorem cut_lift (s : ByteArray) (x : ByteArray) (k : Bool) (w : World) (h : Calls Try.prog 99 #[.string s, .string ⟨#[0]⟩] w fun e w' => ∃ r, e = .returned (.tuple #[.string x, .string r, .bool k]) ∧ Bw w w') :
    Calls Try.prog 94 #[.string s, .string ⟨#[0]⟩] w fun e w' => ∃ r, e = .returned (.tuple #[.string x, .string r, .bool k]) ∧ Bw w w' := by
  have H := hid h
  clear h
  go_enter Try.func94, Try.ntmps94
  go_wp2_with fail
  refine H.out.mono ?_
  rintro e w2 ⟨r, rfl, hb⟩
  have HB := hid hb
  clear hb
  go_wp2
  go_returns
  exact ⟨_, rfl, HB.out⟩
/-- What nameAt does. -/
def NameQ (d : ByteArray) (p : Nat) (w : World) (e : Ending) (w' : World) : Prop :=
  Bw w w' ∧ ((namK d p = true ∧ e = .returned (.string (namT d p))) ∨ (namK d p = false ∧ e = pan 3))
theorem nam_parts {d : ByteArray} {p : Nat} : namK d p = (decide (zAt d p < d.size) && decide (zAt d p - p ≤ 200)) := rfl
set_option maxRecDepth 100000 in
set_option maxHeartbeats 2000000 in
theorem nameAt_any (d : ByteArray) (hd : d.size ≤ lim) (p : Nat) (hp : p < 4294967296) (w : World) :
    Calls Try.prog 78 #[.string d, .int .i64 p] w (NameQ d p w) := by
  have hl : d.size ≤ 281474976710656 := hd
  unfold NameQ
  by_cases hps : p ≤ d.size
  · have h1 : (p : Int) ≤ d.size := by omega
    obtain ⟨za, zb, -, -⟩ := zAt_spec hps
    have hx := ixb_zero hps
    have hz : (d.extract p d.size).size = d.size - p := by simp
    by_cases hf : zAt d p < d.size
    · rw [if_pos hf] at hx
      have HC := hid (fun W => cut_lift _ _ _ W (lcut_yes (d.extract p d.size) (by rw [hz]; omega) (zAt d p - p) (by rw [hz]; omega) (hid hx) W))
      have he : (d.extract p d.size).extract 0 (zAt d p - p) = namT d p := by
        rw [ext_ext _ _ _ _ (by omega), namT]
        congr 1
        omega
      have hn : (namT d p).size = zAt d p - p := by rw [namT]; simp; omega
      rw [he] at HC
      by_cases hk : zAt d p - p ≤ 200
      · have HK := hid (show namK d p = true by rw [nam_parts, decide_eq_true hf, decide_eq_true hk]; rfl)
        have hz2 : ((namT d p).size : Int) ≤ 200 := by omega
        clear hx he hf hk hn za zb hz
        generalize namT d p = nm at *
        generalize zAt d p = z at *
        go_enter Try.func78, Try.ntmps78
        go_wp2_with fail
        refine (demand_ok 3 _).mono ?_
        rintro e w2 ⟨rfl, rfl⟩
        go_wp2_with fail
        refine (HC.out _).mono ?_
        rintro e w3 ⟨r, rfl, hb3⟩
        have HB3 := hid hb3
        clear hb3
        go_wp2_with fail
        refine (demand_ok 3 _).mono ?_
        rintro e w4 ⟨rfl, rfl⟩
        go_wp2
        go_returns
        exact ⟨HB3.out, .inl ⟨HK.out, rfl⟩⟩
      · have HK := hid (show namK d p = false by rw [nam_parts, decide_eq_true hf, decide_eq_false hk]; rfl)
        have hz2 : decide (((namT d p).size : Int) ≤ 200) = false := decide_eq_false (by omega)
        clear hx he hf hk hn za zb hz
        generalize namT d p = nm at *
        generalize zAt d p = z at *
        go_enter Try.func78, Try.ntmps78
        go_wp2_with fail
        refine (demand_ok 3 _).mono ?_
        rintro e w2 ⟨rfl, rfl⟩
        go_wp2_with fail
        refine (HC.out _).mono ?_
        rintro e w3 ⟨r, rfl, hb3⟩
        have HB3 := hid hb3
        clear hb3
        go_wp2_with fail
        refine (demand_bad 3 _).mono ?_
        rintro e w4 ⟨rfl, rfl⟩
        exact ⟨rfl, HB3.out, .inr ⟨HK.out, rfl⟩⟩
    · rw [if_neg hf] at hx
      have HC := hid (fun W => cut_lift _ _ _ W (lcut_no (d.extract p d.size) (by rw [hz]; omega) (hid hx) W))
      have HK := hid (show namK d p = false by rw [nam_parts, decide_eq_false hf]; rfl)
      clear hx hf za zb hz
      go_enter Try.func78, Try.ntmps78
      go_wp2_with fail
      refine (demand_ok 3 _).mono ?_
      rintro e w2 ⟨rfl, rfl⟩
      go_wp2_with fail
      refine (HC.out _).mono ?_
      rintro e w3 ⟨r, rfl, hb3⟩
      have HB3 := hid hb3
      clear hb3
      go_wp2_with fail
      refine (demand_bad 3 _).mono ?_
      rintro e w4 ⟨rfl, rfl⟩
      exact ⟨rfl, HB3.out, .inr ⟨HK.out, rfl⟩⟩
  · have HK := hid (show namK d p = false by rw [nam_parts, zAt_far (by omega), decide_eq_false (by omega)]; rfl)
    have h1 : decide ((p : Int) ≤ d.size) = false := decide_eq_false (by omega)
    go_enter Try.func78, Try.ntmps78
    go_wp2_with fail
    refine (demand_bad 3 _).mono ?_
    rintro e w2 ⟨rfl, rfl⟩
    exact ⟨rfl, Bw.refl _, .inr ⟨HK.out, rfl⟩⟩
end Go.Proofs.Ytciaebhkemdilaa
