/- Where the sections' data lie (contract of the function). -/
import Derived.Test.YtciaebhkemdilaaElfYb
import Derived.Test.YtciaebhkemdilaaElfV
namespace Go.Proofs.Ytciaebhkemdilaa
open Go.RowKit Go.Conc
set_option linter.unusedVariables false
set_option linter.unusedSimpArgs false
/-- A section with its name's place, and its data's. -/
def plaCell (y : (SecR × Nat) × Nat) : List Value := [.string y.1.1.nam, .int .i64 y.1.1.typ, .int .u64 y.1.1.flg, .int .u64 y.1.1.adr, .string y.1.1.dat, .int .i64 y.1.1.siz, .int .i64 y.1.1.lnk, .int .i64 y.1.1.inf, .int .u64 y.1.1.aln, .int .u64 y.1.1.eac, .int .i64 y.1.2, .int .i64 y.2]
def plaCells (l : List ((SecR × Nat) × Nat)) : List Value := l.flatMap plaCell
theorem plaCells_app (l m : List ((SecR × Nat) × Nat)) : plaCells (l ++ m) = plaCells l ++ plaCells m := by simp [plaCells]
theorem plaCells_cons (x : (SecR × Nat) × Nat) (m : List ((SecR × Nat) × Nat)) : plaCells (x :: m) = plaCell x ++ plaCells m := by simp [plaCells]
theorem pla_len (l : List ((SecR × Nat) × Nat)) : (plaCells l).length = l.length * 12 := by
  induction l with
  | nil => rfl
  | cons x r ih => rw [plaCells_cons, List.length_append, ih, List.length_cons, Nat.succ_mul]; simp [plaCell]; omega
theorem pla_of (l : List (SecR × Nat)) : plaCells (l.map fun x => (x, 0)) = plcCells l := by
  induction l with
  | nil => rfl
  | cons x r ih => rw [List.map_cons, plaCells_cons, ih]; simp [plcCells, plcCell, plaCell]
def atG : List (SecR × Nat) → Nat → List ((SecR × Nat) × Nat)
  | [], _ => []
  | x :: r, p => if x.1.dat.size = 0 then (x, 0) :: atG r p else (x, al8 p) :: atG r (al8 p + x.1.dat.size)
def endG : List (SecR × Nat) → Nat → Nat
  | [], p => p
  | x :: r, p => if x.1.dat.size = 0 then endG r p else endG r (al8 p + x.1.dat.size)
theorem endG_app (l m : List (SecR × Nat)) (p : Nat) : endG (l ++ m) p = endG m (endG l p) := by
  induction l generalizing p with
  | nil => rfl
  | cons x r ih => rw [List.cons_append, endG, endG, ih, ih]; split <;> rfl
theorem atG_app (l m : List (SecR × Nat)) (p : Nat) : atG (l ++ m) p = atG l p ++ atG m (endG l p) := by
  induction l generalizing p with
  | nil => rfl
  | cons x r ih => rw [List.cons_append, atG, atG, endG, ih, ih]; split <;> rfl
theorem atG_len (l : List (SecR × Nat)) (p : Nat) : (atG l p).length = l.length := by
  induction l generalizing p with
  | nil => rfl
  | cons x r ih => rw [atG]; split <;> rw [List.length_cons, List.length_cons, ih]
theorem al8_le (p : Nat) : p ≤ al8 p := by unfold al8; omega
theorem endG_le (l : List (SecR × Nat)) (p : Nat) : p ≤ endG l p := by
  induction l generalizing p with
  | nil => exact Nat.le_refl _
  | cons x r ih =>
    rw [endG]
    split
    · exact ih p
    · have := ih (al8 p + x.1.dat.size); have := al8_le p; omega
theorem endG_part (l : List (SecR × Nat)) (k p : Nat) : endG (l.take k) p ≤ endG l p := by
  have h := endG_app (l.take k) (l.drop k) p
  rw [List.take_append_drop] at h
  rw [h]
  exact endG_le _ _
theorem own_cell {w : World} {B g z n cp : Nat} {t : TypeId} {xs : List Value} (h : w.ownsRow B t z (.slice (some ⟨g, 0, none⟩) n cp) n xs) {i : Nat} (hi : i < n * z) : w.cell? ⟨g, i, none⟩ = xs[i]? := by
  rcases h.2 with ⟨h1, _⟩ | ⟨g', cap, cur, h1, h2, h3, h4, h5, h6, h7⟩
  · simp at h1
  · injection h1 with h8 _ h9
    injection h8 with h8
    injection h8 with h8
    subst h8
    have k : Has w g t cur := h3
    rw [k.cell i, ← h7, List.getElem?_take, if_pos hi, Array.getElem?_toList]
theorem row_range {w : World} {B g n cp : Nat} {t : TypeId} {P R : List ((SecR × Nat) × Nat)} {y : (SecR × Nat) × Nat} (h : w.ownsRow B t 12 (.slice (some ⟨g, 0, none⟩) n cp) n (plaCells (P ++ y :: R))) {k : Nat} (hk : P.length = k) (hn : k < n) : w.rangeAt g (k * 12) (plaCell y) := fun j v hv => by
  have hj : j < 12 := (List.getElem?_eq_some_iff.1 hv).1
  rw [own_cell h (by have := Nat.mul_le_mul_right 12 (show k + 1 ≤ n from hn); omega), plaCells_app, plaCells_cons, List.getElem?_append_right (by rw [pla_len, hk]; omega), pla_len, hk, Nat.add_sub_cancel_left, List.getElem?_append_left (by exact hj)]
  exact hv
theorem row_set {P R : List ((SecR × Nat) × Nat)} {x : SecR × Nat} {k b a : Nat} (hk : P.length = k) : (plaCells (P ++ (x, b) :: R)).set (k * 12 + 11) (.int .i64 a) = plaCells (P ++ (x, a) :: R) := by
  rw [plaCells_app, plaCells_app, plaCells_cons, plaCells_cons, List.set_append_right _ _ (by rw [pla_len, hk]; omega), pla_len, hk, Nat.add_sub_cancel_left]
  rfl
set_option maxRecDepth 100000 in
set_option maxHeartbeats 8000000 in
theorem place_any (B g cp n : Nat) (L : List (SecR × Nat)) (hn : L.length = n) (hn2 : n ≤ 2000) (p : Nat) (hp : endG L p ≤ 900000000) (w : World) (hB : B ≤ w.heap.size) (ho : w.ownsRow B 74 12 (.slice (some ⟨g, 0, none⟩) n cp) n (plcCells L)) :
    Calls Try.prog 30 #[.slice (some ⟨g, 0, none⟩) n cp, .int .i64 p] w fun e w' => e = .returned (.int .i64 (al8 (endG L p) : Nat)) ∧ w'.ownsRow B 74 12 (.slice (some ⟨g, 0, none⟩) n cp) n (plaCells (atG L p)) ∧ Keeps (· = g) w w' := by
  have HO := hid ho
  have HN := hid hn
  have HGW := hid (own_lt ho rfl)
  clear ho hn
  go_enter Try.func30, Try.ntmps30
  go_wp2
  go_loopw [12, 6] (fun vk va wr => ∃ k : Nat, k ≤ n ∧ vk = .int .i64 k ∧ va = .int .i64 (endG (L.take k) p : Nat) ∧ wr.ownsRow B 74 12 (.slice (some ⟨g, 0, none⟩) n cp) n (plaCells (atG (L.take k) p ++ (L.drop k).map fun x => (x, 0))) ∧ Keeps (· = g) w wr) (fun vk _ _ => n - (intOf vk).toNat)
  case atStart => exact ⟨0, by omega, rfl, rfl, by rw [List.take_zero, List.drop_zero, atG, List.nil_append, pla_of]; exact HO.out, Keeps.refl _ _⟩
  case round =>
    rename World => wr
    obtain ⟨k, hk, rfl, rfl, hown, hke⟩ := hrel
    have HKE := hid hke
    by_cases hlt : k < n
    · have c0 : (k : Int) < n := by omega
      have hkl : k < L.length := by rw [HN.out]; exact hlt
      have HLT := hid hlt
      have HV := hid (show wrap64 ((k : Int) + 1) = ((k + 1 : Nat) : Int) by unfold wrap64; omega)
      have HEN := hid (Nat.le_trans (endG_part L (k + 1) p) hp)
      have HTK := hid (List.take_succ_eq_append_getElem hkl)
      have HDK := hid (List.drop_eq_getElem_cons hkl)
      rw [HDK.out, List.map_cons] at hown
      have HPL := hid (show (atG (L.take k) p).length = k from by rw [atG_len, List.length_take]; omega)
      have HE1 := hid (endG_app (L.take k) [L[k]] p)
      have HA1 := hid (atG_app (L.take k) [L[k]] p)
      rw [← HTK.out] at HE1 HA1
      obtain ⟨x, hx⟩ : ∃ x, L[k] = x := ⟨_, rfl⟩
      obtain ⟨a, ha⟩ : ∃ a, endG (L.take k) p = a := ⟨_, rfl⟩
      obtain ⟨P, hP⟩ : ∃ P, atG (L.take k) p = P := ⟨_, rfl⟩
      obtain ⟨R, hR⟩ : ∃ R, ((L.drop (k + 1)).map fun x => (x, 0)) = R := ⟨_, rfl⟩
      rw [hx, ha] at HE1 HA1
      rw [hP] at HA1 HPL
      rw [hx, hP, hR] at hown
      rw [ha]
      have HRR := hid hR
      have HOWN := hid hown
      have HRG := hid (row_range hown HPL.out hlt)
      unfold plaCell at HRG
      clear hown hke hx ha hP hR hkl HTK HDK
      have HX1 := hid (Has.new wr 74 #[.string x.1.nam, .int .i64 x.1.typ, .int .u64 x.1.flg, .int .u64 x.1.adr, .string x.1.dat, .int .i64 x.1.siz, .int .i64 x.1.lnk, .int .i64 x.1.inf, .int .u64 x.1.aln, .int .u64 x.1.eac, .int .i64 x.2, .int .i64 0])
      have HB1 := hid ((Bw.refl wr).alloc (.cells #[.string x.1.nam, .int .i64 x.1.typ, .int .u64 x.1.flg, .int .u64 x.1.adr, .string x.1.dat, .int .i64 x.1.siz, .int .i64 x.1.lnk, .int .i64 x.1.inf, .int .u64 x.1.aln, .int .u64 x.1.eac, .int .i64 x.2, .int .i64 0] 74))
      have HOW1 := hid (HB1.out.own HOWN.out)
      have HK1 := hid (HKE.out.trans (.of_bw HB1.out))
      have HXG := hid (show wr.heap.size ≠ g from fun e => by have := own_lt HOWN.out (b := g) rfl; omega)
      go_upto_region 5 with fail
      refine wp_region_list ?_
      refine wpList_plain rfl fun K hK => ?_
      go_simp
      refine hK _ _ ?_
      clear hK K
      refine wpList_plain rfl fun K hK => ?_
      go_simp
      refine hK _ _ ?_
      clear hK K
      refine wpList_load_mid rfl 74 (.tmp 15) rfl g (k * 12) (by simp [Act.eval]) [.string x.1.nam, .int .i64 x.1.typ, .int .u64 x.1.flg, .int .u64 x.1.adr, .string x.1.dat, .int .i64 x.1.siz, .int .i64 x.1.lnk, .int .i64 x.1.inf, .int .u64 x.1.aln, .int .u64 x.1.eac, .int .i64 x.2, .int .i64 0] _ HRG.out Try.underlying74 rfl inf_placed ?_
      go_upto_region 6 with fail
      obtain ⟨xb, hxb⟩ : ∃ xb, wr.heap.size = xb := ⟨_, rfl⟩
      rw [hxb] at HX1 HXG ⊢
      generalize wr.alloc (.cells #[.string x.1.nam, .int .i64 x.1.typ, .int .u64 x.1.flg, .int .u64 x.1.adr, .string x.1.dat, .int .i64 x.1.siz, .int .i64 x.1.lnk, .int .i64 x.1.inf, .int .u64 x.1.aln, .int .u64 x.1.eac, .int .i64 x.2, .int .i64 0] 74) = w1 at *
      clear HB1 HOWN HRG HKE hxb
      have c4 : w1.cell? ⟨xb, 4, none⟩ = some (.string x.1.dat) := HX1.out.cell 4
      by_cases hd : x.1.dat.size = 0
      · have e0 := emp_yes hd
        have HE2 := hid (show endG (L.take (k + 1)) p = a from by rw [HE1.out]; simp [endG, hd])
        have HA2 := hid (show atG (L.take (k + 1)) p = P ++ [(x, 0)] from by rw [HA1.out]; simp [atG, hd])
        clear hd
        go_wp2
        refine ⟨⟨k + 1, HLT.out, by first | rw [HV.out] | rfl, by rw [HE2.out], ?_, HK1.out⟩, by have h1 := HLT.out; first | rw [HV.out] | skip; simp only [intOf]; omega⟩
        rw [HA2.out, List.append_assoc, HRR.out]
        exact HOW1.out
      · have e0 := emp_no hd
        have HE2 := hid (show endG (L.take (k + 1)) p = al8 a + x.1.dat.size from by rw [HE1.out]; simp [endG, hd])
        have HA2 := hid (show atG (L.take (k + 1)) p = P ++ [(x, al8 a)] from by rw [HA1.out]; simp [atG, hd])
        have HBD := hid (show al8 a + x.1.dat.size ≤ 900000000 from by rw [← HE2.out]; exact HEN.out)
        have HAL := hid ((aligned_any a (by have h1 := HBD.out; have h2 := al8_le a; omega) w1).mono (R' := fun e w' => e = .returned (.int .i64 (al8 a : Nat)) ∧ w1 = w') (fun e w' h => ⟨h.1, h.2.symm⟩))
        obtain ⟨q, hq⟩ : ∃ q, al8 a = q := ⟨_, rfl⟩
        rw [hq] at HE2 HA2 HBD HAL
        obtain ⟨d, hdd⟩ : ∃ d, x.1.dat.size = d := ⟨_, rfl⟩
        rw [hdd] at HE2 HBD
        clear hd hq
        obtain ⟨⟨vz, z8⟩, z9⟩ := own_there HOW1.out (i := k * 12 + 11) (by omega)
        have HOW2 := hid (own_set HOW1.out (i := k * 12 + 11) (.int .i64 q))
        rw [row_set HPL.out] at HOW2
        have HX2 := hid (Has.far HX1.out (p := ⟨g, k * 12 + 11, none⟩) HXG.out (.int .i64 q))
        have HK2 := hid (HK1.out.setCell (p := ⟨g, k * 12 + 11, none⟩) (.inl rfl) (.int .i64 q))
        go_wp2_with fail
        refine HAL.out.mono ?_
        rintro e w2 ⟨rfl, rfl⟩
        go_upto_region 8 with fail
        generalize World.setCell w1 _ _ = w2 at *
        clear z8 z9 c4 HOW1 HX1 HK1 HAL
        have d4 : w2.cell? ⟨xb, 4, none⟩ = some (.string x.1.dat) := HX2.out.cell 4
        have d11 : w2.cell? ⟨g, k * 12 + 11, none⟩ = some (.int .i64 q) := row_range HOW2.out HPL.out HLT.out 11 _ rfl
        have v3 : IntKind.i64.wrap ((q : Int) + d) = ((q + d : Nat) : Int) := by rw [IntWalk.i64_in _ (by have := HBD.out; omega)]; omega
        go_region
        have HOW3 := hid (((Bw.refl w2).drewN 1).own HOW2.out)
        have HK3 := hid (HK2.out.drewN 1)
        clear d4 d11 v3
        go_wp2
        refine ⟨⟨k + 1, HLT.out, by first | rw [HV.out] | rfl, by rw [HE2.out]; simp, ?_, HK3.out⟩, by have h1 := HLT.out; first | rw [HV.out] | skip; simp only [intOf]; omega⟩
        rw [HA2.out, List.append_assoc, HRR.out]
        exact HOW3.out
    · obtain rfl : k = n := by omega
      have c0 : ¬ (k : Int) < k := by omega
      have HFT := hid (show L.take k = L from by rw [← HN.out, List.take_length])
      have HFD := hid (show L.drop k = [] from by rw [← HN.out, List.drop_length])
      rw [HFT.out, HFD.out, List.map_nil, List.append_nil] at hown
      rw [HFT.out]
      have HOWN := hid hown
      have HAL := hid (fun W => aligned_any (endG L p) hp W)
      clear hown hke
      go_wp2_with fail
      refine (HAL.out _).mono ?_
      rintro e w2 ⟨rfl, rfl⟩
      go_wp2
      go_returns
      exact ⟨rfl, HOWN.out, HKE.out⟩
end Go.Proofs.Ytciaebhkemdilaa
