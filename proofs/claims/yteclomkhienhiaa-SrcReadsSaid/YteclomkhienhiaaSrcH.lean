/- What Full returns, and what it leaves. -/
import Derived.Test.YteclomkhienhiaaSrcG
import Derived.Test.YteclomkhienhiaaStepKit
import Derived.Deep.LoopGhost
namespace Go.Proofs.Yteclomkhienhiaa
open Go.RowKit Go.Conc
set_option linter.unusedVariables false

def Typed (o : Obj) : Prop := ∃ cs t fr, o = .cells cs t fr ∧ (t = 76 ∨ t = 5)
def TKeeps (w w' : World) : Prop := ∀ (i : Nat) (o : Obj), w.heap[i]? = some o → Typed o → w'.heap[i]? = some o
theorem Bld.keep {B b : Nat} {u : Bool} {s : ByteArray} {w w' : World} (h : Bld B b u s w) (k : TKeeps w w') : Bld B b u s w' := by
  obtain ⟨hB, v, hH, hR⟩ := h
  refine ⟨hB, v, k b _ hH ⟨_, _, _, rfl, .inl rfl⟩, ownsRow_other hR fun i hi => ?_⟩
  obtain ⟨_, cs, fr, hx⟩ := own_u8 hR hi
  rw [hx]
  exact k i _ hx ⟨_, _, _, rfl, .inr rfl⟩
theorem readAt_T (F : Nat → Prop) (g : Nat) (s : ByteArray) (hs : s.size ≤ 140737488351232) (sp : List (Nat × Nat)) (hsp : sp.length ≤ 1000000000) (l : List (Int × Int)) (hok : OkAll l) (a n : Int) (V : ByteArray) (E : Int) (l' : List (Int × Int)) (hr : rdAll s l a n = (V, E, l')) (w : World) (hup : ∀ i, w.heap.size ≤ i → F i) (h : SrcF F w g s l sp) :
    Calls Try.prog 14 #[.pointer (some ⟨g, 0, none⟩), .int .i64 a, .int .i64 n] w fun e w' => e = .returned (.tuple #[.string V, .int .i64 E]) ∧ SrcF F w' g s l' (rdSp sp a.toNat V) ∧ Keeps F w w' ∧ TKeeps w w' := by
  obtain ⟨c, rd, h1, h2, h3, hgc, hH, hS, hR⟩ := h
  refine (readAt_any (fun i => i = g ∨ i = c ∨ rd.ownBlock = some i) g s hs sp hsp l hok a n w ⟨c, rd, .inl rfl, .inr (.inl rfl), fun b hb => .inr (.inr hb), hgc, hH, hS, hR⟩).mono fun e w' h => ?_
  unfold RdAny at h
  rw [hr] at h
  obtain ⟨F', he, hF, hK, hsub⟩ := h
  have hsubF : ∀ i, i = g ∨ i = c ∨ rd.ownBlock = some i → F i := fun i hi => by
    rcases hi with rfl | rfl | hi
    · exact h1
    · exact h2
    · exact h3 i hi
  refine ⟨he, hF.mono fun i hi => ?_, hK.mono fun i _ hi => hsubF i hi, fun i o ho ht => ?_⟩
  · rcases hsub i hi with h | h
    · exact hsubF i h
    · exact hup i h.1
  · have hil : i < w.heap.size := by
      rcases Nat.lt_or_ge i w.heap.size with h | h
      · exact h
      · rw [Array.getElem?_eq_none h] at ho; cases ho
    obtain ⟨cs, t, fr, rfl, ht⟩ := ht
    refine (hK.block i hil fun hi => ?_).trans ho
    rcases hi with rfl | rfl | hi
    · unfold Has at hH
      rw [hH] at ho
      injection ho with ho
      injection ho with _ e
      rcases ht with h | h <;> rw [h] at e <;> exact absurd e (by decide)
    · obtain ⟨cap, sn, rn, hc⟩ := hS
      rw [hc] at ho
      cases ho
    · obtain ⟨cur, hc⟩ := own_at hR hi
      rw [hc] at ho
      injection ho with ho
      injection ho with _ e
      rcases ht with h | h <;> rw [h] at e <;> exact absurd e (by decide)
theorem SrcF.bkeep {F : Nat → Prop} {g : Nat} {s : ByteArray} {l : List (Int × Int)} {sp : List (Nat × Nat)} {B b : Nat} {u : Bool} {acc : ByteArray} {w w' : World} (h : SrcF F w g s l sp) (hb : Bld B b u acc w) (k : BKeeps B b w w') : SrcF F w' g s l sp := by
  obtain ⟨c, rd, h1, h2, h3, hgc, hH, hS, hR⟩ := h
  obtain ⟨_, v, hHb, _⟩ := hb
  have hgb : g ≠ b := fun e => by
    subst e
    unfold Has at hH hHb
    rw [hH] at hHb
    injection hHb with e
    injection e with _ e
    exact absurd e (by decide)
  have hS0 := hS
  obtain ⟨cap, sn, rn, hc⟩ := hS0
  have hcb : c ≠ b := fun e => by
    subst e
    unfold Has at hHb
    rw [hc] at hHb
    cases hHb
  refine ⟨c, rd, h1, h2, h3, hgc, ?_, ⟨cap, sn, rn, ?_⟩, own_keep hR fun i hi => ?_⟩
  · refine (k.2.2 g hH.lt hgb fun cs fr e => ?_).trans hH
    unfold Has at hH
    rw [hH] at e
    injection e with e
    injection e with _ e
    exact absurd e (by decide)
  · refine (k.2.2 c hS.lt hcb fun cs fr e => ?_).trans hc
    rw [hc] at e
    cases e
  · obtain ⟨cur, hx⟩ := own_at hR hi
    refine k.2.2 i (own_lt hR hi) (fun e => ?_) (fun cs fr e => ?_)
    · subst e
      exact own_ne_has hR hHb (by decide) hi
    · rw [hx] at e
      injection e with e
      injection e with _ e
      exact absurd e (by decide)
/-- Full, as the chapter has it: k reads at most. -/
def fullGo (s : ByteArray) (p n : Nat) : Nat → List (Int × Int) → ByteArray → List (Nat × Nat) → ByteArray × Int × List (Int × Int) × List (Nat × Nat)
  | 0, l, _, sp => (⟨#[]⟩, 99, l, sp)
  | k + 1, l, acc, sp =>
    if (rdAll s l (p + acc.size : Nat) (n - acc.size : Nat)).2.1 ≠ 0 then (⟨#[]⟩, (rdAll s l (p + acc.size : Nat) (n - acc.size : Nat)).2.1, (rdAll s l (p + acc.size : Nat) (n - acc.size : Nat)).2.2, rdSp sp (p + acc.size) (rdAll s l (p + acc.size : Nat) (n - acc.size : Nat)).1)
    else if acc.size + (rdAll s l (p + acc.size : Nat) (n - acc.size : Nat)).1.size = n then (acc ++ (rdAll s l (p + acc.size : Nat) (n - acc.size : Nat)).1, 0, (rdAll s l (p + acc.size : Nat) (n - acc.size : Nat)).2.2, rdSp sp (p + acc.size) (rdAll s l (p + acc.size : Nat) (n - acc.size : Nat)).1)
    else fullGo s p n k (rdAll s l (p + acc.size : Nat) (n - acc.size : Nat)).2.2 (acc ++ (rdAll s l (p + acc.size : Nat) (n - acc.size : Nat)).1) (rdSp sp (p + acc.size) (rdAll s l (p + acc.size : Nat) (n - acc.size : Nat)).1)
theorem fullGo_step {s : ByteArray} {p n k : Nat} {l l2 : List (Int × Int)} {acc V : ByteArray} {E : Int} {sp : List (Nat × Nat)} (hr : rdAll s l (p + acc.size : Nat) (n - acc.size : Nat) = (V, E, l2)) :
    fullGo s p n (k + 1) l acc sp = if E ≠ 0 then (⟨#[]⟩, E, l2, rdSp sp (p + acc.size) V) else if acc.size + V.size = n then (acc ++ V, 0, l2, rdSp sp (p + acc.size) V) else fullGo s p n k l2 (acc ++ V) (rdSp sp (p + acc.size) V) := by
  rw [fullGo, hr]
theorem rdAll_facts (s : ByteArray) (l : List (Int × Int)) (a n : Int) :
    ((rdAll s l a n).1 = ⟨#[]⟩ ∧ ((rdAll s l a n).2.1 = 1 ∨ (rdAll s l a n).2.1 = 7)) ∨
    (((rdAll s l a n).2.1 = 0 ∨ (rdAll s l a n).2.1 = 2) ∧ 0 ≤ a ∧ 0 ≤ n ∧ (((rdAll s l a n).1.size : Int) ≤ n) ∧ ((rdAll s l a n).1 = ⟨#[]⟩ ∨ (rdAll s l a n).1.size ≠ 0 ∧ a.toNat + (rdAll s l a n).1.size ≤ s.size ∧ (rdAll s l a n).1 = s.extract a.toNat (a.toNat + (rdAll s l a n).1.size))) := by
  unfold rdAll
  split
  · exact .inl ⟨rfl, .inl rfl⟩
  · rename_i hb
    split
    · exact .inl ⟨rfl, .inr rfl⟩
    · right
      generalize (l.head?.getD (0, 0)).1 = x0
      generalize (l.head?.getD (0, 0)).2.toNat = x1
      refine ⟨?_, by omega, by omega, ?_, ?_⟩
      · show rdE s.size a.toNat n.toNat x0 x1 = 0 ∨ rdE s.size a.toNat n.toNat x0 x1 = 2
        unfold rdE
        split
        · exact .inl rfl
        · split
          · exact .inr rfl
          · exact .inl rfl
      · show ((rdV s a.toNat n.toNat x0 x1).size : Int) ≤ n
        unfold rdV rdK
        split <;> simp <;> omega
      · show rdV s a.toNat n.toNat x0 x1 = ⟨#[]⟩ ∨ (rdV s a.toNat n.toNat x0 x1).size ≠ 0 ∧ a.toNat + (rdV s a.toNat n.toNat x0 x1).size ≤ s.size ∧ rdV s a.toNat n.toNat x0 x1 = s.extract a.toNat (a.toNat + (rdV s a.toNat n.toNat x0 x1).size)
        have hk : rdK s.size a.toNat n.toNat ≤ s.size - a.toNat := by unfold rdK; omega
        have key : ∀ j, j ≤ s.size - a.toNat → s.extract a.toNat (a.toNat + j) = ⟨#[]⟩ ∨ (s.extract a.toNat (a.toNat + j)).size ≠ 0 ∧ a.toNat + (s.extract a.toNat (a.toNat + j)).size ≤ s.size ∧ s.extract a.toNat (a.toNat + j) = s.extract a.toNat (a.toNat + (s.extract a.toNat (a.toNat + j)).size) := fun j hj => by
          by_cases hz : (s.extract a.toNat (a.toNat + j)).size = 0
          · left
            have h2 : (s.extract a.toNat (a.toNat + j)).data = #[] := Array.eq_empty_of_size_eq_zero hz
            show (⟨(s.extract a.toNat (a.toNat + j)).data⟩ : ByteArray) = ⟨#[]⟩
            rw [h2]
          · have e : (s.extract a.toNat (a.toNat + j)).size = j := by
              simp only [ByteArray.size_extract] at hz ⊢
              omega
            exact .inr ⟨hz, by rw [e]; simp only [ByteArray.size_extract] at hz; omega, by rw [e]⟩
        unfold rdV
        split
        · rename_i h
          exact key x1 (by omega)
        · exact key _ hk
theorem rdAll_good {s : ByteArray} {l l2 : List (Int × Int)} {a q : Nat} {V : ByteArray} {E : Int} (hq : q ≤ 1048576) (hr : rdAll s l a q = (V, E, l2)) : l2 = l.tail := by
  unfold rdAll at hr
  rw [if_neg (by omega)] at hr
  split at hr
  · simp only [Prod.mk.injEq] at hr; exact hr.2.2.symm
  · simp only [Prod.mk.injEq] at hr; exact hr.2.2.symm
theorem rdAll_end {s : ByteArray} {l2 : List (Int × Int)} {a q : Nat} {V : ByteArray} (hq : q ≤ 1048576) (hr : rdAll s [] a q = (V, 0, l2)) : V.size = q := by
  have e : rdAll s [] a q = (rdV s a q 0 0, rdE s.size a q 0 0, []) := by
    unfold rdAll
    rw [if_neg (by omega)]
    rfl
  rw [e] at hr
  simp only [Prod.mk.injEq] at hr
  obtain ⟨hV, hE, _⟩ := hr
  unfold rdE at hE
  rw [if_neg (by omega)] at hE
  have hk : ¬ rdK s.size a q < q := fun h => by rw [if_pos h] at hE; cases hE
  rw [← hV]
  unfold rdV
  rw [if_neg (by omega)]
  unfold rdK at hk ⊢
  simp only [ByteArray.size_extract]
  omega
/-- What Full leaves. -/
def FullPost (F : Nat → Prop) (g : Nat) (s : ByteArray) (r : ByteArray × Int × List (Int × Int) × List (Nat × Nat)) (w : World) (e : Ending) (w' : World) : Prop :=
  e = .returned (.tuple #[.string r.1, .int .i64 r.2.1]) ∧ SrcF (fun i => F i ∨ w.heap.size ≤ i) w' g s r.2.2.1 r.2.2.2 ∧ Keeps F w w'
theorem Keeps.trans_up {F : Nat → Prop} {B : Nat} {a b c : World} (h : Keeps F a b) (k : Keeps (fun i => F i ∨ B ≤ i) b c) (hB : a.heap.size ≤ B) : Keeps F a c :=
  ⟨k.os.trans h.os, k.tape.trans h.tape, k.output.trans h.output, Nat.le_trans h.size k.size, fun i hi hf => (k.block i (Nat.lt_of_lt_of_le hi h.size) (fun hh => by
    rcases hh with hh | hh
    · exact hf hh
    · omega)).trans (h.block i hi hf)⟩
theorem rdSp_len (sp : List (Nat × Nat)) (p : Nat) (V : ByteArray) : (rdSp sp p V).length ≤ sp.length + 1 := by
  unfold rdSp
  split <;> simp
set_option maxRecDepth 100000 in
set_option maxHeartbeats 1000000 in
theorem full_ok (F : Nat → Prop) (g : Nat) (s : ByteArray) (hs : s.size ≤ 140737488351232) (sp : List (Nat × Nat)) (l0 : List (Int × Int)) (hsp : sp.length + l0.length ≤ 999999999) (hok : OkAll l0) (p n : Nat) (hp : p ≤ 9223372036854775807) (hn : n ≤ 1048576) (w : World) (h : SrcF F w g s l0 sp) :
    Calls Try.prog 12 #[.pointer (some ⟨g, 0, none⟩), .int .i64 p, .int .i64 n] w (FullPost F g s (fullGo s p n (l0.length + 1) l0 ⟨#[]⟩ sp) w) := by
  have HF := hid h
  have HO := hid hok
  clear h hok
  go_enter Try.func12, Try.ntmps12
  go_wp2_with fail
  go_loopg [9] (l0.length) (fun k v wr => ∃ (u : Bool) (acc : ByteArray) (l : List (Int × Int)) (sp1 : List (Nat × Nat)), l.length = k ∧ Bld w.heap.size w.heap.size u acc wr ∧ SrcF (fun i => F i ∨ w.heap.size ≤ i) wr g s l sp1 ∧ Keeps F w wr ∧ OkAll l ∧ w.heap.size ≤ wr.heap.size ∧ acc.size ≤ n ∧ (acc.size = 0 ∨ p + acc.size ≤ s.size) ∧ sp1.length + l.length ≤ 999999999 ∧ fullGo s p n (k + 1) l acc sp1 = fullGo s p n (l0.length + 1) l0 ⟨#[]⟩ sp)
  case atStart =>
    have hbw : Bw w (w.alloc (.cells #[.pointer none, .slice none 0 0] 76)) := (Bw.refl w).alloc _
    refine ⟨false, ⟨#[]⟩, l0, sp, rfl, ⟨Nat.le_refl _, .slice none 0 0, Has.new w _ _, World.ownsRow_nil _ _ _ _⟩, ?_, .of_bw hbw, HO.out, by simp, Nat.zero_le _, .inl rfl, hsp, rfl⟩
    obtain ⟨c, rd, h1, h2, h3, hgc, hH, hS, hR⟩ := HF.out
    exact ⟨c, rd, .inl h1, .inl h2, fun b hb => .inl (h3 b hb), hgc, hH.alloc _, (Keeps.of_bw (F := fun _ => False) hbw).script hS (fun h => h), own_keep hR fun b hb => Below.heap_alloc w _ b (own_lt hR hb)⟩
  case round =>
    obtain ⟨u, acc, l, sp1, hl, hB, hS, hK, hO, hz, ha, hpa, hspl, hg⟩ := hrel
    have HB := hid hB
    have HS := hid hS
    have HO1 := hid hO
    have HG := hid hg
    have HL := hid hl
    have HKK := hid hK
    obtain ⟨V, E, l2, hr⟩ : ∃ V E l2, rdAll s l (p + acc.size : Nat) (n - acc.size : Nat) = (V, E, l2) := ⟨_, _, _, rfl⟩
    have hfacts := rdAll_facts s l (p + acc.size : Nat) (n - acc.size : Nat)
    rw [hr] at hfacts
    simp only [Int.toNat_natCast] at hfacts
    have hr2 : rdAll s l ((p : Int) + acc.size) ((n : Int) - acc.size) = (V, E, l2) := by
      rw [show ((p : Int) + acc.size) = ((p + acc.size : Nat) : Int) by omega, show ((n : Int) - acc.size) = ((n - acc.size : Nat) : Int) by omega]
      exact hr
    have hl2 := rdAll_good (by omega) hr
    have hO2 : OkAll l2 := fun x hx => by rw [hl2] at hx; exact HO1.out x (List.mem_of_mem_tail hx)
    have HR := hid hr
    have HR2 := hid hr2
    have HL2 := hid hl2
    have HO2 := hid hO2
    have HFA := hid hfacts
    have hto : ((p : Int) + acc.size).toNat = p + acc.size := by omega
    have HTO := hid hto
    clear hl hB hS hO hg hK hr hr2 hl2 hO2 hfacts hto
    go_wp2_with fail
    refine (bld_len _ _ u acc _ HB.out).mono ?_
    rintro e wa ⟨rfl, rfl⟩
    go_wp2_with fail
    refine (bld_len _ _ u acc _ HB.out).mono ?_
    rintro e wa ⟨rfl, rfl⟩
    go_wp2_with fail
    refine (readAt_T (fun i => F i ∨ w.heap.size ≤ i) g s hs sp1 (by omega) l HO1.out _ _ V E l2 HR2.out _ (fun i hi => .inr (by omega)) HS.out).mono ?_
    rintro e w2 ⟨rfl, hS2, hK2, hT2⟩
    rw [HTO.out] at hS2
    have HS2 := hid hS2
    have HB2 := hid (HB.out.keep hT2)
    have HK2 := hid (HKK.out.trans_up hK2 (Nat.le_refl _))
    have hz2 : w.heap.size ≤ w2.heap.size := Nat.le_trans hz hK2.size
    clear hS2 hK2 hT2
    by_cases hE : E = 0
    · have hVs : V.size ≤ n - acc.size := by
        rcases HFA.out with ⟨h, _⟩ | ⟨_, _, _, h, _⟩
        · rw [h]; exact Nat.zero_le _
        · omega
      have hVp : V.size = 0 ∨ p + acc.size + V.size ≤ s.size := by
        rcases HFA.out with ⟨h, _⟩ | ⟨_, _, _, _, h | h⟩
        · exact .inl (by rw [h]; rfl)
        · exact .inl (by rw [h]; rfl)
        · exact .inr h.2.1
      subst hE
      go_wp2_with fail
      refine (write_any w.heap.size w.heap.size u acc V (by omega) _ hz2 HB2.out).mono ?_
      rintro e w3 ⟨rfl, hB3, hK3⟩
      have HS3 := hid (HS2.out.bkeep HB2.out hK3)
      have HB3 := hid hB3
      have HK3 := hid (HK2.out.trans_up (⟨hK3.1.os, hK3.1.tape, hK3.1.output, hK3.2.1, fun i hi hn => hK3.1.block i (by
        rcases Nat.lt_or_ge i w.heap.size with h | h
        · exact h
        · exact absurd (.inr h) hn)⟩ : Keeps (fun i => F i ∨ w.heap.size ≤ i) w2 w3) (Nat.le_refl _))
      have hz3 : w.heap.size ≤ w3.heap.size := Nat.le_trans hz2 hK3.2.1
      clear hB3 hK3
      go_wp2_with fail
      refine (bld_len _ _ true (acc ++ V) _ HB3.out).mono ?_
      rintro e wb ⟨rfl, rfl⟩
      have hsz : (acc ++ V).size = acc.size + V.size := ByteArray.size_append
      have HSZ := hid hsz
      clear hsz
      by_cases hfin : acc.size + V.size = n
      · have t1 : (((acc ++ V).size : Int) == (n : Int)) = true := by rw [beq_iff_eq, HSZ.out]; omega
        have t2 : ((acc.size : Int) + (V.size : Int) == (n : Int)) = true := by rw [beq_iff_eq]; omega
        have HFIN := hid hfin
        clear hfin
        go_wp2_with fail
        refine (string_any w.heap.size w.heap.size true (acc ++ V) _ hz3 HB3.out).mono ?_
        rintro e w4 ⟨rfl, hK4⟩
        go_wp2
        go_returns
        rw [← HG.out, fullGo_step HR.out, if_neg (by decide), if_pos HFIN.out]
        refine ⟨rfl, HS3.out.bkeep HB3.out hK4, HK3.out.trans_up (⟨hK4.1.os, hK4.1.tape, hK4.1.output, hK4.2.1, fun i hi hn => hK4.1.block i (by
          rcases Nat.lt_or_ge i w.heap.size with h | h
          · exact h
          · exact absurd (.inr h) hn)⟩ : Keeps (fun i => F i ∨ w.heap.size ≤ i) w3 w4) (Nat.le_refl _)⟩
      · have t1 : (((acc ++ V).size : Int) == (n : Int)) = false := by rw [beq_eq_false_iff_ne, HSZ.out]; omega
        have t2 : ((acc.size : Int) + (V.size : Int) == (n : Int)) = false := by rw [beq_eq_false_iff_ne]; omega
        have hlne : l ≠ [] := fun e => by
          have h := HR.out
          rw [e] at h
          have := rdAll_end (by omega) h
          omega
        obtain ⟨k', hk'⟩ : ∃ k', gk = k' + 1 := by
          cases l with
          | nil => exact absurd rfl hlne
          | cons y l => exact ⟨l.length, by rw [← HL.out]; rfl⟩
        have HKP := hid hk'
        have HFIN := hid hfin
        clear hfin hk' hlne
        go_wp2
        go_roundg k'
        case measure => rw [HKP.out]; omega
        case rel =>
          have hlen2 : l2.length = k' := by
            rw [HL2.out, List.length_tail, HL.out, HKP.out]; rfl
          refine ⟨true, acc ++ V, l2, rdSp sp1 (p + acc.size) V, hlen2, HB3.out, HS3.out, HK3.out, HO2.out, hz3, by rw [HSZ.out]; omega, ?_, ?_, ?_⟩
          · rw [HSZ.out]
            rcases hVp with h | h
            · rw [h, Nat.add_zero]; exact hpa
            · exact .inr (by omega)
          · have h1 := rdSp_len sp1 (p + acc.size) V
            have h2 := HL.out
            have h3 := HKP.out
            omega
          · have h := HG.out
            rw [HKP.out, fullGo_step HR.out, if_neg (by decide), if_neg HFIN.out] at h
            exact h
    · have hEb : (E != 0) = true := by simpa using hE
      have HE := hid hE
      clear hE
      go_wp2
      go_returns
      rw [← HG.out, fullGo_step HR.out, if_pos HE.out]
      exact ⟨rfl, HS2.out, HK2.out⟩
end Go.Proofs.Yteclomkhienhiaa
