/- The document's: does it occur, and two made one. -/
import Derived.Test.YtjbihammbmiieaaDoorRb
namespace Go.Proofs.YtjbihammbmiieaaDoor
open Go.RowKit Un

set_option maxRecDepth 100000 in
set_option maxHeartbeats 1000000 in
theorem rin_any (B bt : Nat) (T : Ts) (v : Value) (a : Nat) (w : World) (h : TermAt B w bt T v) (hka : (tm T a).kind = 0) (hna : (tm T a).is_ = none) (ha : a ≤ 1000000) :
    ∀ (t : Ty) (x : Nat), x < T.length → Val T x t → Calls Tryd.prog 26 #[.pointer (some ⟨bt, 0, none⟩), .int .i64 a, .int .i64 x] w fun e w' => e = .returned (.bool (decide (t.Occ a))) ∧ w = w' := by
  have hf := h.few
  intro t
  induction t with
  | pair s u ih1 ih2 =>
    intro x hx hv
    obtain ⟨m, y, hto, hvy⟩ := hv.to
    have hyl := hto.lt h.good.wf hx
    obtain ⟨k4, hs, hu⟩ : (tm T y).kind = 4 ∧ Val T (tm T y).a s ∧ Val T (tm T y).b u := by
      cases hvy with
      | is_ q _ => rw [hto.root] at q; cases q
      | pair _ q l r => exact ⟨q, l, r⟩
    have hne : ¬ y = a := fun e => by rw [e, hka] at k4; cases k4
    obtain ⟨p1, p2⟩ := h.good.wf.parts y hyl k4
    have i1 := ih1 _ p1 hs
    have i2 := ih2 _ p2 hu
    obtain ⟨g, cap, rfl, hg, hne2, hcap⟩ := h.row (by omega)
    have hc := h.cell
    obtain ⟨c0, c1, c2, _⟩ := h.term hyl
    rw [k4] at c0
    have H := Lib.hid h; have I1 := Lib.hid i1; have I2 := Lib.hid i2; have TO := Lib.hid hto
    clear h i1 i2 hto hv hvy hs hu ih1 ih2 k4 hka hna
    go_enter Tryd.func26, Tryd.ntmps26
    go_wp2_with fail
    refine (rfind_any B bt T _ x y m w H.out hx TO.out).mono ?_
    rintro e w1 ⟨rfl, rfl⟩
    go_wp2_with fail
    refine I1.out.mono ?_
    rintro e w1 ⟨rfl, rfl⟩
    go_wp2_with fail
    refine I2.out.mono ?_
    rintro e w1 ⟨rfl, rfl⟩
    have ho : decide (Ty.Occ a (.pair s u)) = (decide (s.Occ a) || decide (u.Occ a)) := by
      rw [Bool.eq_iff_iff, decide_eq_true_iff, Bool.or_eq_true, decide_eq_true_iff, decide_eq_true_iff]; exact Iff.rfl
    have HO := Lib.hid ho
    clear ho
    cases hd1 : decide (s.Occ a) with
    | true =>
      have H1 := Lib.hid hd1
      clear hd1
      go_wp2
      go_ret
      exact ⟨ret_bool (by rw [HO.out, H1.out]; rfl), rfl⟩
    | false =>
      have H1 := Lib.hid hd1
      clear hd1
      cases hd2 : decide (u.Occ a) with
      | true =>
        have H2 := Lib.hid hd2
        clear hd2
        go_wp2
        go_ret
        exact ⟨ret_bool (by rw [HO.out, H1.out, H2.out]; rfl), rfl⟩
      | false =>
        have H2 := Lib.hid hd2
        clear hd2
        go_wp2
        go_ret
        exact ⟨ret_bool (by rw [HO.out, H1.out, H2.out]; rfl), rfl⟩
  | var n =>
    intro x hx hv
    obtain ⟨m, y, hto, hvy⟩ := hv.to
    have hyl := hto.lt h.good.wf hx
    obtain ⟨e, k0⟩ : n = y ∧ (tm T y).kind = 0 := by
      cases hvy with
      | is_ q _ => rw [hto.root] at q; cases q
      | var _ q => exact ⟨rfl, q⟩
    subst e
    obtain ⟨g, cap, rfl, hg, hne2, hcap⟩ := h.row (by omega)
    have hc := h.cell
    obtain ⟨c0, _, _, _⟩ := h.term hyl
    rw [k0] at c0
    have H := Lib.hid h; have TO := Lib.hid hto
    clear h hto hv hvy k0 hka hna
    go_enter Tryd.func26, Tryd.ntmps26
    go_wp2_with fail
    refine (rfind_any B bt T _ x n m w H.out hx TO.out).mono ?_
    rintro e w1 ⟨rfl, rfl⟩
    by_cases he : n = a
    · subst he
      go_wp2
      go_ret
      exact ⟨ret_bool (by rw [decide_eq_true (show Ty.Occ n (.var n) from rfl)]), rfl⟩
    · have HE := Lib.hid he
      go_wp2
      go_ret
      exact ⟨ret_bool (by rw [decide_eq_false (show ¬ Ty.Occ a (.var n) from fun e => HE.out (show a = n from e).symm)]), rfl⟩
  | int =>
    intro x hx hv
    obtain ⟨m, y, hto, hvy⟩ := hv.to
    have hyl := hto.lt h.good.wf hx
    have k1 : (tm T y).kind = 1 := by
      cases hvy with
      | is_ q _ => rw [hto.root] at q; cases q
      | int _ q => exact q
    have hne : ¬ y = a := fun e => by rw [e, hka] at k1; cases k1
    obtain ⟨g, cap, rfl, hg, hne2, hcap⟩ := h.row (by omega)
    have hc := h.cell
    obtain ⟨c0, _, _, _⟩ := h.term hyl
    rw [k1] at c0
    have H := Lib.hid h; have TO := Lib.hid hto
    clear h hto hv hvy k1 hka hna
    go_enter Tryd.func26, Tryd.ntmps26
    go_wp2_with fail
    refine (rfind_any B bt T _ x y m w H.out hx TO.out).mono ?_
    rintro e w1 ⟨rfl, rfl⟩
    go_wp2
    go_ret
    exact ⟨rfl, rfl⟩
  | bool =>
    intro x hx hv
    obtain ⟨m, y, hto, hvy⟩ := hv.to
    have hyl := hto.lt h.good.wf hx
    have k1 : (tm T y).kind = 2 := by
      cases hvy with
      | is_ q _ => rw [hto.root] at q; cases q
      | bool _ q => exact q
    have hne : ¬ y = a := fun e => by rw [e, hka] at k1; cases k1
    obtain ⟨g, cap, rfl, hg, hne2, hcap⟩ := h.row (by omega)
    have hc := h.cell
    obtain ⟨c0, _, _, _⟩ := h.term hyl
    rw [k1] at c0
    have H := Lib.hid h; have TO := Lib.hid hto
    clear h hto hv hvy k1 hka hna
    go_enter Tryd.func26, Tryd.ntmps26
    go_wp2_with fail
    refine (rfind_any B bt T _ x y m w H.out hx TO.out).mono ?_
    rintro e w1 ⟨rfl, rfl⟩
    go_wp2
    go_ret
    exact ⟨rfl, rfl⟩
  | unit =>
    intro x hx hv
    obtain ⟨m, y, hto, hvy⟩ := hv.to
    have hyl := hto.lt h.good.wf hx
    have k1 : (tm T y).kind = 3 := by
      cases hvy with
      | is_ q _ => rw [hto.root] at q; cases q
      | unit _ q => exact q
    have hne : ¬ y = a := fun e => by rw [e, hka] at k1; cases k1
    obtain ⟨g, cap, rfl, hg, hne2, hcap⟩ := h.row (by omega)
    have hc := h.cell
    obtain ⟨c0, _, _, _⟩ := h.term hyl
    rw [k1] at c0
    have H := Lib.hid h; have TO := Lib.hid hto
    clear h hto hv hvy k1 hka hna
    go_enter Tryd.func26, Tryd.ntmps26
    go_wp2_with fail
    refine (rfind_any B bt T _ x y m w H.out hx TO.out).mono ?_
    rintro e w1 ⟨rfl, rfl⟩
    go_wp2
    go_ret
    exact ⟨rfl, rfl⟩
end Go.Proofs.YtjbihammbmiieaaDoor
