/- The document's: two made one, all of it. -/
import Derived.Test.YtjbihammbmiieaaDoorRn1
namespace Go.Proofs.YtjbihammbmiieaaDoor
open Go.RowKit Un

set_option maxRecDepth 100000 in
set_option maxHeartbeats 2000000 in
theorem rone_any (B bt : Nat) (v : Value) : ∀ (n : Nat) (T : Ts), opens T = n → ∀ (z : Nat) (a b : Nat) (ta tb : Ty) (w : World), TermAt B w bt T v → a < T.length → b < T.length → Val T a ta → Val T b tb → ta.size + tb.size ≤ z →
    Calls Tryd.prog 14 #[.pointer (some ⟨bt, 0, none⟩), .int .i64 a, .int .i64 b] w (ROneP B bt T v a b w) := by
  intro n
  induction n using Nat.strongRecOn with
  | _ n ihn =>
  intro T hopens z
  induction z with
  | zero => intro a b ta tb w _ _ _ _ _ hz; have := ta.size_pos; omega
  | succ z ihz =>
    intro a b ta tb w h ha hb hva hvb hz
    obtain ⟨ma, ya, toa, hvya⟩ := hva.to
    obtain ⟨mb, yb, tob, hvyb⟩ := hvb.to
    have hya := toa.lt h.good.wf ha
    have hyb := tob.lt h.good.wf hb
    by_cases hka : (tm T ya).kind = 0
    · exact rone_open B bt T v a b ya ma w h ha hb toa hka
    obtain ⟨g, cap, rfl, hg, hne2, hcap⟩ := h.row (by omega)
    have hc := h.cell
    have hf := h.few
    obtain ⟨c0, c1, c2, _⟩ := h.term hya
    obtain ⟨d0, d1, d2, _⟩ := h.term hyb
    have H := Lib.hid h; have TA := Lib.hid toa; have TB := Lib.hid tob
    by_cases hne : ya = yb
    · subst hne
      have hres : ROneP B bt T (.slice (some ⟨g, 0, none⟩) T.length cap) a b w (.returned (.bool true)) w := ⟨true, T, rfl, H.out, one_same H.out.good ha hb TA.out TB.out, Ow.refl _ _⟩
      have HRES := Lib.hid hres
      clear hres ihn ihz h toa tob hva hvb hvya hvyb
      go_enter Tryd.func14, Tryd.ntmps14
      go_wp2_with fail
      refine (rfind_any B bt T _ a ya ma w H.out ha TA.out).mono ?_
      rintro e w1 ⟨rfl, rfl⟩
      go_wp2_with fail
      refine (rfind_any B bt T _ b ya mb w H.out hb TB.out).mono ?_
      rintro e w1 ⟨rfl, rfl⟩
      go_wp2
      go_ret
      exact HRES.out
    by_cases hkb : (tm T yb).kind = 0
    · have ho := rone_open B bt T _ yb ya yb 0 w h hyb hya (.here tob.root) hkb
      have HO := Lib.hid ho; have NA := Lib.hid toa.root; have KB := Lib.hid hkb
      rw [hkb] at d0
      clear ihn ihz h toa tob hva hvb hvya hvyb ho hkb
      go_enter Tryd.func14, Tryd.ntmps14
      go_wp2_with fail
      refine (rfind_any B bt T _ a ya ma w H.out ha TA.out).mono ?_
      rintro e w1 ⟨rfl, rfl⟩
      go_wp2_with fail
      refine (rfind_any B bt T _ b yb mb w H.out hb TB.out).mono ?_
      rintro e w1 ⟨rfl, rfl⟩
      go_wp2_with fail
      refine HO.out.mono ?_
      rintro e w1 ⟨ok, T', rfl, h1, h2, h3⟩
      have hres : ROneP B bt T (.slice (some ⟨g, 0, none⟩) T.length cap) a b w (.returned (.bool ok)) w1 := ⟨ok, T', rfl, h1, h2.symm.at_ H.out.good ha hb TA.out TB.out, h3⟩
      have HRES := Lib.hid hres
      clear hres h1 h2 h3
      go_wp2
      go_ret
      exact HRES.out
    by_cases hkk : (tm T ya).kind = (tm T yb).kind
    · by_cases h4 : (tm T ya).kind = 4
      · have k4 : (tm T yb).kind = 4 := by rw [← hkk]; exact h4
        obtain ⟨pa, qa⟩ := h.good.wf.parts ya hya h4
        obtain ⟨pb, qb⟩ := h.good.wf.parts yb hyb k4
        obtain ⟨sa, ua, rfl, hsa, hua⟩ : ∃ s u, ta = .pair s u ∧ Val T (tm T ya).a s ∧ Val T (tm T ya).b u := by
          cases hvya with
          | is_ q _ => rw [toa.root] at q; cases q
          | pair _ q l r => exact ⟨_, _, rfl, l, r⟩
          | var _ q => omega
          | int _ q => omega
          | bool _ q => omega
          | unit _ q => omega
        obtain ⟨sb, ub, rfl, hsb, hub⟩ : ∃ s u, tb = .pair s u ∧ Val T (tm T yb).a s ∧ Val T (tm T yb).b u := by
          cases hvyb with
          | is_ q _ => rw [tob.root] at q; cases q
          | pair _ q l r => exact ⟨_, _, rfl, l, r⟩
          | var _ q => omega
          | int _ q => omega
          | bool _ q => omega
          | unit _ q => omega
        have hz1 : sa.size + sb.size ≤ z := by simp only [Ty.size] at hz; omega
        have hz2 : ua.size + ub.size ≤ z := by simp only [Ty.size] at hz; omega
        have i1 := fun (w' : World) (h' : TermAt B w' bt T (.slice (some ⟨g, 0, none⟩) T.length cap)) => ihz _ _ sa sb w' h' pa pb hsa hsb hz1
        have i2 : ∀ (T1 : Ts) (w1 : World), TermAt B w1 bt T1 (.slice (some ⟨g, 0, none⟩) T.length cap) → OneP T (tm T ya).a (tm T yb).a true T1 → Calls Tryd.prog 14 #[.pointer (some ⟨bt, 0, none⟩), .int .i64 (tm T ya).b, .int .i64 (tm T yb).b] w1 (ROneP B bt T1 (.slice (some ⟨g, 0, none⟩) T.length cap) (tm T ya).b (tm T yb).b w1) := by
          intro T1 w1 h1 ho
          have e := ho.like.len
          rcases ho.less with e1 | e1
          · subst e1
            exact ihz _ _ ua ub w1 h1 qa qb hua hub hz2
          · obtain ⟨x, hx⟩ := h1.good.full (tm T ya).b (by rw [e]; exact qa)
            obtain ⟨y, hy⟩ := h1.good.full (tm T yb).b (by rw [e]; exact qb)
            exact ihn (opens T1) (by omega) T1 rfl (x.size + y.size) _ _ x y w1 h1 (by rw [e]; exact qa) (by rw [e]; exact qb) hx hy (Nat.le_refl _)
        have I1 := Lib.hid i1; have I2 := Lib.hid i2; have K4 := Lib.hid h4; have K4' := Lib.hid k4
        rw [h4] at c0
        rw [k4] at d0
        clear ihn ihz h toa tob hva hvb hvya hvyb i1 i2 h4 k4 hkk hka hkb hsa hua hsb hub
        go_enter Tryd.func14, Tryd.ntmps14
        go_wp2_with fail
        refine (rfind_any B bt T _ a ya ma w H.out ha TA.out).mono ?_
        rintro e w1 ⟨rfl, rfl⟩
        go_wp2_with fail
        refine (rfind_any B bt T _ b yb mb w H.out hb TB.out).mono ?_
        rintro e w1 ⟨rfl, rfl⟩
        go_wp2_with fail
        go_cut [80] (fun q wz => q = .bool false ∧ wz = w.drew)
        case first =>
          go_region
          all_goals
            go_wp2
            go_meet
            case rel => exact ⟨rfl, rfl⟩
        case rest =>
          obtain ⟨rfl, rfl⟩ := hcut
          have HD := Lib.hid (H.out.below (Below.drew (Below.refl _ w)))
          have HDD := Lib.hid (HD.out.below (Below.drew (Below.refl _ w.drew)))
          go_wp2_with fail
          go_cut [8] (fun q wz => ∃ (ok : Bool) (T1 : Ts), q = .bool ok ∧ TermAt B wz bt T1 (.slice (some ⟨g, 0, none⟩) T.length cap) ∧ OneP T (tm T ya).a (tm T yb).a ok T1 ∧ Ow (.slice (some ⟨g, 0, none⟩) T.length cap) w wz)
          case first =>
            go_region_with (go_at_call 14; refine (I1.out _ (by exact HDD.out)).mono ?_; rintro e w1 ⟨ok, T1, rfl, h1, ho1, hw1⟩)
            all_goals
              have H1 := Lib.hid h1; have O1 := Lib.hid ho1; have W1 := Lib.hid (Ow.undrew (Ow.undrew hw1))
              clear h1 ho1 hw1
              go_wp2
              go_meet
              case rel => exact ⟨ok, T1, rfl, H1.out, O1.out, W1.out⟩
          case rest =>
            obtain ⟨ok, T1, rfl, h1, ho1, hw1⟩ := hcut
            cases ok with
            | false =>
              have hone := one_first hya hyb K4.out K4'.out ho1
              have hres : ROneP B bt T (.slice (some ⟨g, 0, none⟩) T.length cap) a b w (.returned (.bool false)) wc := ⟨false, T1, rfl, h1, hone.at_ H.out.good ha hb TA.out TB.out, hw1⟩
              have HRES := Lib.hid hres
              clear hres hone h1 ho1 hw1
              go_wp2
              go_ret
              exact HRES.out
            | true =>
              have e := ho1.like.len
              have hc1 := h1.cell
              have h1' := h1
              rw [← e] at h1'
              have t2 := (h1'.term (x := ya) (by omega)).2.2.1
              have u2 := (h1'.term (x := yb) (by omega)).2.2.1
              rw [(ho1.like.kind ya).2.2] at t2
              rw [(ho1.like.kind yb).2.2] at u2
              have H1 := Lib.hid h1; have O1 := Lib.hid ho1; have W1 := Lib.hid hw1
              have H1D := Lib.hid (h1.below (Below.drew (Below.refl _ wc)))
              clear h1 ho1 hw1 h1' c0 c1 c2 d0 d1 d2 hc e
              go_wp2_with fail
              go_cut [6] (fun q wz => ∃ ok, q = .bool ok ∧ ROneP B bt T (.slice (some ⟨g, 0, none⟩) T.length cap) a b w (.returned (.bool ok)) wz)
              case first =>
                go_region_with (go_at_call 14; refine (I2.out T1 _ (by exact H1D.out) O1.out).mono ?_; rintro e w2 ⟨ok, T2, rfl, h2, ho2, hw2⟩)
                all_goals
                  have hone : OneP T ya yb ok T2 := one_pair hya hyb K4.out K4'.out O1.out ho2
                  have hres : ROneP B bt T (.slice (some ⟨g, 0, none⟩) T.length cap) a b w (.returned (.bool ok)) w2 := ⟨ok, T2, rfl, h2, hone.at_ H.out.good ha hb TA.out TB.out, W1.out.trans (Ow.undrew hw2)⟩
                  have HRES := Lib.hid hres
                  clear hres hone h2 ho2 hw2
                  go_wp2
                  go_meet
                  case rel => exact ⟨ok, rfl, HRES.out⟩
              case rest =>
                obtain ⟨ok, rfl, hres⟩ := hcut
                have HRES := Lib.hid hres
                clear hres
                go_wp2
                go_ret
                exact HRES.out
      · have hone := one_leaf h.good hya hyb hka h4 hkk
        have hres : ROneP B bt T (.slice (some ⟨g, 0, none⟩) T.length cap) a b w (.returned (.bool true)) w.drew := ⟨true, T, rfl, h.below (Below.drew (Below.refl _ w)), hone.at_ h.good ha hb toa tob, (Ow.refl _ _).drew⟩
        have HRES := Lib.hid hres
        rw [← hkk] at d0
        clear hres hone ihn ihz h toa tob hva hvb hvya hvyb hkk hkb
        go_enter Tryd.func14, Tryd.ntmps14
        go_wp2_with fail
        refine (rfind_any B bt T _ a ya ma w H.out ha TA.out).mono ?_
        rintro e w1 ⟨rfl, rfl⟩
        go_wp2_with fail
        refine (rfind_any B bt T _ b yb mb w H.out hb TB.out).mono ?_
        rintro e w1 ⟨rfl, rfl⟩
        go_wp2
        go_region
        all_goals
          go_wp2
          go_ret
          exact HRES.out
    · have hone := one_clash h.good hya hyb hka hkb hkk
      have hres : ROneP B bt T (.slice (some ⟨g, 0, none⟩) T.length cap) a b w (.returned (.bool false)) w.drew := ⟨false, T, rfl, h.below (Below.drew (Below.refl _ w)), hone.at_ h.good ha hb toa tob, (Ow.refl _ _).drew⟩
      have HRES := Lib.hid hres
      clear hres hone ihn ihz h toa tob hva hvb hvya hvyb
      go_enter Tryd.func14, Tryd.ntmps14
      go_wp2_with fail
      refine (rfind_any B bt T _ a ya ma w H.out ha TA.out).mono ?_
      rintro e w1 ⟨rfl, rfl⟩
      go_wp2_with fail
      refine (rfind_any B bt T _ b yb mb w H.out hb TB.out).mono ?_
      rintro e w1 ⟨rfl, rfl⟩
      go_wp2
      go_region
      all_goals
        go_wp2
        go_ret
        exact HRES.out
end Go.Proofs.YtjbihammbmiieaaDoor
