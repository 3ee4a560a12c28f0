/- The document's plain text of a leaf, or behind a full text (contract of the function). -/
import Derived.Test.YtlilmidffcmkjaaDoorExpS
import Derived.Test.YtlilmidffcmkjaaDoorExpQc
import Derived.Test.YtlilmidffcmkjaaDoorExpJ
namespace Go.Proofs.YtlilmidffcmkjaaDoor
open Go.RowKit
set_option linter.unusedVariables false
set_option linter.unusedSimpArgs false
/-- What the document's text answers. -/
def TxP (w0 w : World) (s t : List UInt8) (mx : Nat) (e : Ending) (w' : World) : Prop :=
  ∃ v' s', e = .returned v' ∧ w'.ownsRow w0.heap.size 5 1 v' s'.length (bcs s') ∧ KT TX w0.heap.size w w' ∧ Grown s t mx s'
/-- A row that a text was appended to. -/
theorem row_text {w0 w w1 : World} {v v' : Value} {s : List UInt8} (hb : Bw w0 w) (h : w.ownsRow w0.heap.size 5 1 v s.length (bcs s)) (x : ByteArray) (ho : w1.ownsRow 0 5 1 v' (s.length + x.size) (bcs s ++ Lib.strCells x)) (hg : w.grownBy w1 v.ownBlock) (hn : v'.ownBlock = v.ownBlock ∨ ∀ b, v'.ownBlock = some b → w.heap.size ≤ b) :
    w1.ownsRow w0.heap.size 5 1 v' (s ++ x.data.toList).length (bcs (s ++ x.data.toList)) ∧ KT TX w0.heap.size w w1 := by
  have e1 : (s ++ x.data.toList).length = s.length + x.size := by rw [List.length_append, Array.length_toList]; rfl
  have e2 : bcs (s ++ x.data.toList) = bcs s ++ Lib.strCells x := by rw [strCells_bcs]; simp [bcs]
  rw [e1, e2]
  refine ⟨own_lift ho fun b hbb => ?_, KT.of_grown h (Nat.le_refl _) hg (by decide)⟩
  rcases hn with hn | hn
  · exact own_ge h (hn ▸ hbb)
  · exact Nat.le_trans hb.size (hn b hbb)
set_option maxRecDepth 100000 in
set_option maxHeartbeats 4000000 in
theorem text_leaf (w0 : World) (a : Option Addr) (len cap : Nat) (hlen : len ≤ 400) (l : List ExpR) (hcB : checkB l = true) (hll : Hid (l.length = len)) (hst : ExpAt w0 a l) (i : Nat) (hi : i < l.length) (level : Nat) (hle : level ≤ 7)
    (w : World) (hbw : Bw w0 w) (v : Value) (s : List UInt8) (h : w.ownsRow w0.heap.size 5 1 v s.length (bcs s)) (hsz : s.length ≤ 1000000) (hop : 20000 < s.length ∨ (l[i]'hi).op = ⟨#[]⟩) :
    Calls Tryd.prog 26 #[v, .slice a len cap, .int .i64 i, .int .i64 level] w (TxP w0 w s (prt l i level) (max s.length (20000 + 40 * (i + 1)))) := by
  obtain ⟨i0, hinf, hz0, hz1, hz2⟩ := info_parts byteInfo
  obtain ⟨ao, ca, rfl⟩ := own_slice h
  have i2 : (i : Int) < len := by have := hll.out; omega
  have hi4 : i < 400 := by have := hll.out; omega
  have HR := hid h
  have HBW := hid hbw
  by_cases hf : 20000 < s.length
  · have t0 : (20000 : Int) < s.length := by omega
    clear h hbw hop
    go_enter Tryd.func26, Tryd.ntmps26
    go_wp2
    go_returns
    exact ⟨_, s, rfl, HR.out, KT.refl _, Nat.le_refl _, Or.inr ⟨hf, by omega, by omega⟩⟩
  · have t0 : ¬ (20000 : Int) < s.length := by omega
    have hit := check_item hcB hi
    have hgx : l.getD i ⟨nilS, nilS, 0, 0, 0⟩ = l[i] := by rw [List.getD_eq_getElem?_getD, List.getElem?_eq_getElem hi]; rfl
    obtain ⟨b, off, rfl, hbb, c0, c1, c2, c3, c4, hv'⟩ := hst.below hbw i hi
    obtain ⟨⟨o, nm, n, x, y⟩, hx⟩ : ∃ q, l[i] = q := ⟨_, rfl⟩
    rw [hx] at c0 c1 c2 c3 c4 hv' hit hgx hop
    simp only at c0 c1 c2 c3 c4 hop
    obtain ⟨u0, u1, u2, u3, u4⟩ := hv'
    simp only at u0 u1 u2 u3 u4
    have o0 : o = ⟨#[]⟩ := hop.elim (fun h => absurd h hf) id
    have HP := hid (show prt l i level = txt l i from by unfold prt; rw [hgx]; exact if_pos (Or.inl o0))
    unfold itemB leafB operB at hit
    simp only [Bool.or_eq_true, Bool.and_eq_true, decide_eq_true_eq] at hit
    have HB := hid ((Bw.refl w).alloc (.cells #[.string o, .string nm, .int .u64 n, .int .i64 x, .int .i64 y] 42))
    have HRA := hid (HB.out.own HR.out)
    have HBA := hid (HBW.out.trans HB.out)
    clear hx h hbb hop hbw
    by_cases c1' : nm = ⟨#[]⟩
    · have HT := hid (txt_num (l := l) (i := i) hgx o0 c1')
      have hn : n ≤ mostN := by
        rcases hit with ⟨_, h1 | h1⟩ | h1
        · exact h1.2
        · rw [h1.1]; exact Nat.zero_le _
        · rw [h1.1.1.1.1.2]; exact Nat.zero_le _
      have hdl := decB_len hn
      have HD := hid (fun W => rdigits_any n hn W)
      have hds : (⟨(decB n).toArray⟩ : ByteArray).size ≤ 19 := by show (decB n).toArray.size ≤ 19; simpa using hdl
      clear hit hgx hn u2
      subst o0 c1'
      go_enter Tryd.func26, Tryd.ntmps26
      go_wp2_with fail
      refine (HD.out _).mono ?_
      rintro e w2 ⟨rfl, hb2⟩
      have HR2 := hid (hb2.own HRA.out)
      have HB2 := hid (HBA.out.trans hb2)
      have HK2 := hid (KT.of_bw (T := TX) (B := w0.heap.size) (HB.out.trans hb2))
      clear hb2
      go_wp2_with (at_builtin; refine wpList_app_str rfl (.tmp 29) (.tmp 32) 49 9 rfl Tryd.underlying49 Tryd.underlying9 hinf hz0 hz1 hz2 (.slice ao s.length ca) s.length (bcs s) rfl (own_down HR2.out (Nat.zero_le _)) ⟨(decB n).toArray⟩ rfl (by omega) ?_; intro v5 w5 hown5 hgrow5 hnb5; have HAP := hid (row_text HB2.out HR2.out _ hown5 hgrow5 hnb5); clear hown5 hgrow5 hnb5)
      go_returns
      refine ⟨_, _, rfl, HAP.out.1, HK2.out.trans HAP.out.2, ?_⟩
      rw [HP.out, HT.out]
      exact Grown.one (by rw [List.length_append]; omega)
    · have HT := hid (txt_name (l := l) (i := i) hgx o0 c1')
      have t1 := toList_ne nm c1'
      have t11 : (nm.toList == nilS.toList) = false := str_ne c1'
      have hnm : nm.size ≤ 16 := by
        rcases hit with ⟨_, h1 | h1⟩ | h1
        · exact absurd h1.1 c1'
        · have := h1.2
          unfold nameB at this
          simp only [Bool.and_eq_true, decide_eq_true_eq] at this
          exact this.1.1.2
        · exact absurd h1.1.1.1.1.1.2 c1'
      clear hit hgx c1'
      subst o0
      go_enter Tryd.func26, Tryd.ntmps26
      go_wp2_with (at_builtin; refine wpList_app_str rfl (.tmp 25) (.tmp 27) 49 9 rfl Tryd.underlying49 Tryd.underlying9 hinf hz0 hz1 hz2 (.slice ao s.length ca) s.length (bcs s) rfl (own_down HRA.out (Nat.zero_le _)) nm rfl (by omega) ?_; intro v5 w5 hown5 hgrow5 hnb5; have HAP := hid (row_text HBA.out HRA.out _ hown5 hgrow5 hnb5); clear hown5 hgrow5 hnb5)
      go_returns
      refine ⟨_, _, rfl, HAP.out.1, (KT.of_bw HB.out).trans HAP.out.2, ?_⟩
      rw [HP.out, HT.out]
      refine Grown.one ?_
      have : nm.data.toList.length = nm.size := by rw [Array.length_toList]; rfl
      rw [List.length_append]
      omega
end Go.Proofs.YtlilmidffcmkjaaDoor
