/- The document's: two made one. -/
import Derived.Test.YtjbihammbmiieaaDoorRo
namespace Go.Proofs.YtjbihammbmiieaaDoor
open Go.RowKit Un

def ROneP (B bt : Nat) (T : Ts) (v : Value) (a b : Nat) (w : World) (e : Ending) (w' : World) : Prop :=
  ∃ (ok : Bool) (T' : Ts), e = .returned (.bool ok) ∧ TermAt B w' bt T' v ∧ OneP T a b ok T' ∧ Ow v w w'
set_option maxRecDepth 100000 in
set_option maxHeartbeats 1000000 in
theorem rone_open (B bt : Nat) (T : Ts) (v : Value) (a b ya ma : Nat) (w : World) (h : TermAt B w bt T v) (ha : a < T.length) (hb : b < T.length) (toa : To T ma a ya) (ka : (tm T ya).kind = 0) :
    Calls Tryd.prog 14 #[.pointer (some ⟨bt, 0, none⟩), .int .i64 a, .int .i64 b] w (ROneP B bt T v a b w) := by
  obtain ⟨tb, hvb⟩ := h.good.full b hb
  obtain ⟨mb, yb, tob, hvyb⟩ := hvb.to
  have hya := toa.lt h.good.wf ha
  have hyb := tob.lt h.good.wf hb
  obtain ⟨g, cap, rfl, hg, hne2, hcap⟩ := h.row (by omega)
  have hc := h.cell
  have hf := h.few
  have hna := toa.root
  obtain ⟨c0, _, _, c3⟩ := h.term hya
  obtain ⟨d0, _, _, _⟩ := h.term hyb
  have hfz := h.frozen
  have hin := rin_any B bt T _ ya w h ka hna (by omega) tb yb hyb hvyb
  rw [ka] at c0
  have H := Lib.hid h; have TA := Lib.hid toa; have TB := Lib.hid tob; have VB := Lib.hid hvyb; have KA := Lib.hid ka; have NA := Lib.hid hna; have IN := Lib.hid hin
  clear h toa tob hvyb hvb ka hna hin
  go_enter Tryd.func14, Tryd.ntmps14
  go_wp2_with fail
  refine (rfind_any B bt T _ a ya ma w H.out ha TA.out).mono ?_
  rintro e w1 ⟨rfl, rfl⟩
  go_wp2_with fail
  refine (rfind_any B bt T _ b yb mb w H.out hb TB.out).mono ?_
  rintro e w1 ⟨rfl, rfl⟩
  by_cases hne : ya = yb
  · subst hne
    have hres : ROneP B bt T (.slice (some ⟨g, 0, none⟩) T.length cap) a b w (.returned (.bool true)) w := ⟨true, T, rfl, H.out, one_same H.out.good ha hb TA.out TB.out, Ow.refl _ _⟩
    have HRES := Lib.hid hres
    clear hres
    go_wp2
    go_ret
    exact HRES.out
  · have HNE := Lib.hid hne
    by_cases hkb : (tm T yb).kind = 0
    all_goals
      (try rw [hkb] at d0)
      go_wp2_with fail
      refine IN.out.mono ?_
      rintro e w1 ⟨rfl, rfl⟩
      by_cases ho : tb.Occ ya
      · rw [decide_eq_true ho]
        have hone : OneP T a b false T := (one_occ H.out.good hyb VB.out ho (fun e => by
          subst e
          cases VB.out with
          | is_ q _ => rw [TB.out.root] at q; cases q
          | var _ _ => exact HNE.out rfl)).at_ H.out.good ha hb TA.out TB.out
        have hres : ROneP B bt T (.slice (some ⟨g, 0, none⟩) T.length cap) a b w (.returned (.bool false)) w := ⟨false, T, rfl, H.out, hone, Ow.refl _ _⟩
        have HRES := Lib.hid hres
        clear hres hone ho
        go_wp2
        go_ret
        exact HRES.out
      · rw [decide_eq_false ho]
        have hone := one_bind H.out.good hya hyb KA.out NA.out VB.out ho
        have hs := H.out.set (b := yb) hya hone.good
        have hres : ROneP B bt T (.slice (some ⟨g, 0, none⟩) T.length cap) a b w (.returned (.bool true)) (w.setCell ⟨g, ya * 4 + 3, none⟩ (.int .i64 yb)) := ⟨true, bind T ya yb, rfl, hs.1, hone.at_ H.out.good ha hb TA.out TB.out, hs.2⟩
        have HRES := Lib.hid hres
        clear hres hone hs ho
        go_wp2
        go_ret
        exact HRES.out
end Go.Proofs.YtjbihammbmiieaaDoor
