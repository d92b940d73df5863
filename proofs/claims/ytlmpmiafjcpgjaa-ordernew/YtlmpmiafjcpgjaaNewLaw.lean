/- The walk of the law OrderNew. -/
import Derived.Test.YtlmpmiafjcpgjaaOf
import Derived.Test.YtlmpmiafjcpgjaaLater
namespace Go.Proofs.Ytlmpmiafjcpgjaa
open Go.RowKit

set_option maxHeartbeats 2000000 in
set_option maxRecDepth 100000 in
theorem newlaw_any (w : World) (n : Int) (hn1 : -128 ≤ n) (hn2 : n ≤ 127) (ao : Option Addr) (len cap : Nat) (p q : Nat → Int) (hps : PairsAt w ao len p q) :
    Calls Try.prog 3 #[.int .i8 n, .slice ao len cap] w fun e w' => e = .returned (.bool true) ∧ Below w.heap.size w w' := by
  have HPS := Lib.hid hps; clear hps
  go_enter Try.func3, Try.ntmps3
  go_wp2_with fail
  refine (lives_any _).mono ?_
  rintro e w1 ⟨rfl, hbw⟩
  by_cases h200 : len ≤ 200
  · have t1 : decide ((200 : Int) < (len : Int)) = false := by simp; omega
    have hof : ∀ w', Below w.heap.size w w' → Calls Try.prog 6 #[.int .i64 n, .slice ao len cap] w' (OfPost w') := by
      intro w' hb
      by_cases hN : n < 1 ∨ 32 < n
      · exact of_out w' n ao len cap hN
      · obtain ⟨N, rfl⟩ := Int.eq_ofNat_of_zero_le (show 0 ≤ n by omega)
        exact of_in w' N ao len cap p q (by omega) (by omega) (by omega) (HPS.out.below hb)
    have HOF := Lib.hid hof; clear hof
    go_wp2_with fail
    refine (HOF.out _ hbw).mono ?_
    rintro e w2 ⟨hb2, hres⟩
    have hbw2 : Below w.heap.size w w2 := hbw.trans (hb2.mono hbw.size)
    rcases hres with ⟨k, a, l, c, rfl⟩ | ⟨N, o, ba, bu, g, cap2, f, u, rows, R, h1N, rfl, ho, hg, s1, s2⟩
    · go_wp2_with fail
      refine (len_nil _).mono ?_
      rintro e w3 ⟨rfl, rfl⟩
      go_wp2
      go_ret
      exact ⟨rfl, hbw2.alloc hbw2.size _⟩
    · have hbl2 := (Below.refl w2.heap.size w2).alloc (Nat.le_refl _) (.cells #[.int .i64 (N : Int), .slice (some ⟨g, 0, none⟩) N cap2] 28)
      have c0 : (w2.alloc (.cells #[.int .i64 (N : Int), .slice (some ⟨g, 0, none⟩) N cap2] 28)).cell? ⟨w2.heap.size, 0, none⟩ = some (.int .i64 (N : Int)) := by rw [World.cell?_alloc_new]; rfl
      have c1 : (w2.alloc (.cells #[.int .i64 (N : Int), .slice (some ⟨g, 0, none⟩) N cap2] 28)).cell? ⟨w2.heap.size, 1, none⟩ = some (.slice (some ⟨g, 0, none⟩) N cap2) := by rw [World.cell?_alloc_new]; rfl
      have ho3 := ho.below hbl2
      have hg3 := hg.below hbl2
      have hbw3 : Below w.heap.size w (w2.alloc (.cells #[.int .i64 (N : Int), .slice (some ⟨g, 0, none⟩) N cap2] 28)) := hbw2.alloc hbw2.size _
      have h32 := ho.n32
      go_wp2
      generalize w2.alloc (.cells #[.int .i64 (N : Int), .slice (some ⟨g, 0, none⟩) N cap2] 28) = w3 at *
      generalize w2.heap.size = bm at *
      have HC0 := Lib.hid c0; clear c0
      have HC1 := Lib.hid c1; clear c1
      clear ho hg hbl2 hbw2 hb2 hbw
      go_loopw [8] (fun i wr => ∃ a : Int, -1 ≤ a ∧ a ≤ (N : Int) + 1 ∧ i = .int .i64 a ∧ Below w3.heap.size w3 wr) (fun i _ => ((N : Int) + 1 - intOf i).toNat)
      case atStart => exact ⟨-1, by omega, by omega, rfl, Below.refl _ _⟩
      case round =>
        obtain ⟨a, ha1, ha2, rfl, hbr⟩ := hrel
        have x0 : wr.cell? ⟨bm, 0, none⟩ = some (.int .i64 (N : Int)) := by rw [hbr.cell (World.block_lt_of_cell? _ _ HC0.out)]; exact HC0.out
        by_cases hla : a ≤ (N : Int)
        · go_wp2
          go_loopw [9] (fun i wr => ∃ b : Int, -1 ≤ b ∧ b ≤ (N : Int) + 1 ∧ i = .int .i64 b ∧ Below w3.heap.size w3 wr) (fun i _ => ((N : Int) + 1 - intOf i).toNat)
          case atStart => exact ⟨-1, by omega, by omega, rfl, hbr⟩
          case round =>
            clear hbr x0
            obtain ⟨b, hb1, hb2, rfl, hbr⟩ := hrel
            have x0 : wr.cell? ⟨bm, 0, none⟩ = some (.int .i64 (N : Int)) := by rw [hbr.cell (World.block_lt_of_cell? _ _ HC0.out)]; exact HC0.out
            have x1 : wr.cell? ⟨bm, 1, none⟩ = some (.slice (some ⟨g, 0, none⟩) N cap2) := by rw [hbr.cell (World.block_lt_of_cell? _ _ HC1.out)]; exact HC1.out
            have hor := ho3.below hbr
            have hgr := hg3.below hbr
            by_cases hlb : b ≤ (N : Int)
            · go_upto_region 12 with fail
              go_cut [10] (fun s wx => s = .bool (hasB N a && hasB N b) ∧ wx = wr)
              case first =>
                by_cases u1 : 0 ≤ a
                · by_cases u2 : 0 ≤ b
                  · by_cases u3 : a < (N : Int)
                    · by_cases u4 : b < (N : Int)
                      · go_wp2_with fail
                        go_meet
                        exact ⟨by rw [hasB_true u1 u3, hasB_true u2 u4]; rfl, rfl⟩
                      · have u4' : decide (b < (N : Int)) = false := by simpa using u4
                        go_wp2_with fail
                        go_meet
                        exact ⟨by rw [hasB_false (n := N) (a := b) (Or.inr (by omega)), Bool.and_false], rfl⟩
                    · have u3' : decide (a < (N : Int)) = false := by simpa using u3
                      go_wp2_with fail
                      go_meet
                      exact ⟨by rw [hasB_false (n := N) (a := a) (Or.inr (by omega)), Bool.false_and], rfl⟩
                  · have u2' : decide (0 ≤ b) = false := by simpa using u2
                    go_wp2_with fail
                    go_meet
                    exact ⟨by rw [hasB_false (n := N) (a := b) (Or.inl (by omega)), Bool.and_false], rfl⟩
                · have u1' : decide (0 ≤ a) = false := by simpa using u1
                  go_wp2_with fail
                  go_meet
                  exact ⟨by rw [hasB_false (n := N) (a := a) (Or.inl (by omega)), Bool.false_and], rfl⟩
              case rest =>
                obtain ⟨hs, hw⟩ := hcut
                subst hw
                cases hin : hasB N a && hasB N b with
                | false =>
                  have hout : hasB N a = false ∨ hasB N b = false := by
                    cases e : hasB N a with
                    | false => exact Or.inl rfl
                    | true => rw [e] at hin; exact Or.inr (by simpa using hin)
                  have HO := Lib.hid hout; clear hout
                  rw [hin] at hs
                  subst hs
                  clear hin
                  go_wp2_with fail
                  refine (below_out _ o N ba bu f u a b hor HO.out).mono ?_
                  rintro e w4 ⟨rfl, rfl⟩
                  go_wp2_with fail
                  refine (join_out _ o N ba bu f u a b hor HO.out).mono ?_
                  rintro e w4 ⟨rfl, rfl⟩
                  go_wp2_with fail
                  refine (meet_out _ o N ba bu f u a b hor HO.out).mono ?_
                  rintro e w4 ⟨rfl, rfl⟩
                  go_upto_region 15 with fail
                  go_quiet (fail)
                  go_wp2
                  go_roundw
                  case rel => exact ⟨b + 1, by omega, by omega, rfl, below_drewN hbr _⟩
                  case measure => simp [intOf]; omega
                | true =>
                  rw [hin] at hs
                  subst hs
                  obtain ⟨hia, hib⟩ := Bool.and_eq_true_iff.1 hin
                  clear hin
                  obtain ⟨ha0, ha3⟩ := of_hasB hia
                  obtain ⟨hb0, hb3⟩ := of_hasB hib
                  clear hia hib
                  obtain ⟨A, rfl⟩ := Int.eq_ofNat_of_zero_le ha0
                  obtain ⟨B, rfl⟩ := Int.eq_ofNat_of_zero_le hb0
                  have hA : A < N := by omega
                  have hB : B < N := by omega
                  go_upto_region 15 with fail
                  have y0 : ∀ x : Later wc, x.wx.cell? ⟨bm, 0, none⟩ = some (.int .i64 (N : Int)) := Later.cell x0
                  have y1 : ∀ x : Later wc, x.wx.cell? ⟨bm, 1, none⟩ = some (.slice (some ⟨g, 0, none⟩) N cap2) := Later.cell x1
                  have y2 : ∀ x : Later wc, x.wx.cell? ⟨g, A, none⟩ = some (.slice (some ⟨rows A, 0, none⟩) N N) := Later.cell (hgr.head A hA)
                  have y3 : ∀ x : Later wc, x.wx.cell? ⟨rows A, B, none⟩ = some (.bool ((f A).testBit B)) := Later.cell (by rw [hgr.row A B hA hB, s1.eq A B hA hB])
                  have k1 : ∀ x : Later wc, Calls Try.prog 8 #[.pointer (some ⟨o, 0, none⟩), .int .i64 (A : Int), .int .i64 (B : Int)] x.wx fun e w'' => e = .returned (.bool ((f A).testBit B)) ∧ ∃ y : Later wc, w'' = y.wx := fun x => calls_later_same (below_lat x.wx o N ba bu f u A B (hor.below x.le) hA hB)
                  have k2 : ∀ x : Later wc, Calls Try.prog 9 #[.pointer (some ⟨o, 0, none⟩), .int .i64 (A : Int), .int .i64 (B : Int)] x.wx fun e w'' => e = .returned (.int .i64 (M.findN f (f A &&& f B) N)) ∧ ∃ y : Later wc, w'' = y.wx := fun x => calls_later_drew (join_in x.wx o N ba bu f u A B (hor.below x.le) (by omega) (by omega) (by omega) (by omega))
                  have k3 : ∀ x : Later wc, Calls Try.prog 11 #[.agg #[.int .i64 (N : Int), .slice (some ⟨g, 0, none⟩) N cap2], .int .i64 (A : Int), .int .i64 (B : Int)] x.wx fun e w'' => e = .returned (.int .i64 (M.findN f (f A &&& f B) N)) ∧ ∃ y : Later wc, w'' = y.wx := fun x => by
                    rw [← s1.join hA hB]; exact calls_later (rjoin_any x.wx g N cap2 rows R A B (hgr.below x.le) hA hB)
                  have k4 : ∀ x : Later wc, Calls Try.prog 10 #[.pointer (some ⟨o, 0, none⟩), .int .i64 (A : Int), .int .i64 (B : Int)] x.wx fun e w'' => e = .returned (.int .i64 (M.findN u (u A &&& u B) N)) ∧ ∃ y : Later wc, w'' = y.wx := fun x => calls_later_drew (meet_in x.wx o N ba bu f u A B (hor.below x.le) (by omega) (by omega) (by omega) (by omega))
                  have k5 : ∀ x : Later wc, Calls Try.prog 12 #[.agg #[.int .i64 (N : Int), .slice (some ⟨g, 0, none⟩) N cap2], .int .i64 (A : Int), .int .i64 (B : Int)] x.wx fun e w'' => e = .returned (.int .i64 (M.findN u (u A &&& u B) N)) ∧ ∃ y : Later wc, w'' = y.wx := fun x => by
                    rw [← s2.join hA hB]; exact calls_later (rmeet_any x.wx g N cap2 rows R A B (hgr.below x.le) hA hB)
                  have K1 := Lib.hid k1; clear k1
                  have K2 := Lib.hid k2; clear k2
                  have K3 := Lib.hid k3; clear k3
                  have K4 := Lib.hid k4; clear k4
                  have K5 := Lib.hid k5; clear k5
                  generalize M.findN f (f A &&& f B) N = fj at *
                  generalize M.findN u (u A &&& u B) N = fm at *
                  generalize (f A).testBit B = tb at *
                  refine wp_region_later (by kernel_rfl) (by kernel_rfl) ?_
                  repeat (go_big_quiet_step (first | (go_at_call 8; exact K1.out _) | (go_at_call 9; exact K2.out _) | (go_at_call 11; exact K3.out _) | (go_at_call 10; exact K4.out _) | (go_at_call 12; exact K5.out _)))
                  refine wpQuiet_nil ?_
                  intro _ hw'
                  obtain ⟨x, rfl⟩ := hw'
                  go_wp2
                  go_roundw
                  case rel => exact ⟨(B : Int) + 1, by omega, by omega, rfl, hbr.trans (x.le.mono hbr.size)⟩
                  case measure => simp [intOf]; omega
            · go_wp2
              go_roundw
              case rel => exact ⟨a + 1, by omega, by omega, rfl, hbr⟩
              case measure => simp [intOf]; omega
        · have x1 : wr.cell? ⟨bm, 1, none⟩ = some (.slice (some ⟨g, 0, none⟩) N cap2) := by rw [hbr.cell (World.block_lt_of_cell? _ _ HC1.out)]; exact HC1.out
          have hor := ho3.below hbr
          have hgr := hg3.below hbr
          have hla' : decide (a ≤ (N : Int)) = false := by simpa using hla
          go_upto_region 18 with fail
          have y0 : ∀ x : Later wr, x.wx.cell? ⟨bm, 0, none⟩ = some (.int .i64 (N : Int)) := Later.cell x0
          have y1 : ∀ x : Later wr, x.wx.cell? ⟨bm, 1, none⟩ = some (.slice (some ⟨g, 0, none⟩) N cap2) := Later.cell x1
          have k1 : ∀ x : Later wr, Calls Try.prog 7 #[.pointer (some ⟨o, 0, none⟩)] x.wx fun e w'' => e = .returned (.int .i64 (N : Int)) ∧ ∃ y : Later wr, w'' = y.wx := fun x => calls_later_same (len_any x.wx o N ba (hor.below x.le).c0)
          have k2 : ∀ x : Later wr, Calls Try.prog 13 #[.pointer (some ⟨o, 0, none⟩)] x.wx fun e w'' => e = .returned (.int .i64 (M.findN f (M.full N) N)) ∧ ∃ y : Later wr, w'' = y.wx := fun x => calls_later_drew (bottom_any x.wx o N ba bu f u (hor.below x.le))
          have k3 : ∀ x : Later wr, Calls Try.prog 14 #[.agg #[.int .i64 (N : Int), .slice (some ⟨g, 0, none⟩) N cap2]] x.wx fun e w'' => e = .returned (.int .i64 (M.findN f (M.full N) N)) ∧ ∃ y : Later wr, w'' = y.wx := fun x => by
            rw [← s1.bottom]; exact calls_later (rbottom_any x.wx g N cap2 rows R (hgr.below x.le))
          have k4 : ∀ x : Later wr, Calls Try.prog 15 #[.pointer (some ⟨o, 0, none⟩)] x.wx fun e w'' => e = .returned (.int .i64 (M.findN u (M.full N) N)) ∧ ∃ y : Later wr, w'' = y.wx := fun x => calls_later_drew (top_any x.wx o N ba bu f u (hor.below x.le))
          have k5 : ∀ x : Later wr, Calls Try.prog 16 #[.agg #[.int .i64 (N : Int), .slice (some ⟨g, 0, none⟩) N cap2]] x.wx fun e w'' => e = .returned (.int .i64 (M.findN u (M.full N) N)) ∧ ∃ y : Later wr, w'' = y.wx := fun x => by
            rw [← s2.bottom]; exact calls_later (rtop_any x.wx g N cap2 rows R (hgr.below x.le))
          have k6 : ∀ x : Later wr, Calls Try.prog 13 #[.pointer none] x.wx fun e w'' => e = .returned (.int .i64 (-1)) ∧ ∃ y : Later wr, w'' = y.wx := fun x => calls_later_same (bottom_nil x.wx)
          have k7 : ∀ x : Later wr, Calls Try.prog 15 #[.pointer none] x.wx fun e w'' => e = .returned (.int .i64 (-1)) ∧ ∃ y : Later wr, w'' = y.wx := fun x => calls_later_same (top_nil x.wx)
          have k8 : ∀ x : Later wr, Calls Try.prog 9 #[.pointer none, .int .i64 0, .int .i64 0] x.wx fun e w'' => e = .returned (.int .i64 (-1)) ∧ ∃ y : Later wr, w'' = y.wx := fun x => calls_later_same (join_nil x.wx 0 0)
          have k9 : ∀ x : Later wr, Calls Try.prog 10 #[.pointer none, .int .i64 0, .int .i64 0] x.wx fun e w'' => e = .returned (.int .i64 (-1)) ∧ ∃ y : Later wr, w'' = y.wx := fun x => calls_later_same (meet_nil x.wx 0 0)
          have k10 : ∀ x : Later wr, Calls Try.prog 8 #[.pointer none, .int .i64 0, .int .i64 0] x.wx fun e w'' => e = .returned (.bool false) ∧ ∃ y : Later wr, w'' = y.wx := fun x => calls_later_same (below_nil x.wx 0 0)
          have K1 := Lib.hid k1; clear k1
          have K2 := Lib.hid k2; clear k2
          have K3 := Lib.hid k3; clear k3
          have K4 := Lib.hid k4; clear k4
          have K5 := Lib.hid k5; clear k5
          have K6 := Lib.hid k6; clear k6
          have K7 := Lib.hid k7; clear k7
          have K8 := Lib.hid k8; clear k8
          have K9 := Lib.hid k9; clear k9
          have K10 := Lib.hid k10; clear k10
          generalize M.findN f (M.full N) N = fb at *
          generalize M.findN u (M.full N) N = ft at *
          refine wp_region_later (by kernel_rfl) (by kernel_rfl) ?_
          repeat (go_big_quiet_step (first | (go_at_call 7; with_reducible exact K1.out _) | (go_at_call 13; with_reducible exact K2.out _) | (go_at_call 13; with_reducible exact K6.out _) | (go_at_call 14; with_reducible exact K3.out _) | (go_at_call 15; with_reducible exact K4.out _) | (go_at_call 15; with_reducible exact K7.out _) | (go_at_call 16; with_reducible exact K5.out _) | (go_at_call 9; with_reducible exact K8.out _) | (go_at_call 10; with_reducible exact K9.out _) | (go_at_call 8; with_reducible exact K10.out _)))
          refine wpQuiet_nil ?_
          intro _ hw'
          obtain ⟨x, rfl⟩ := hw'
          go_wp2
          go_ret
          have hb4 : Below w.heap.size w wr := hbw3.trans (hbr.mono hbw3.size)
          exact ⟨rfl, hb4.trans (x.le.mono hb4.size)⟩
  · have t1 : decide ((200 : Int) < (len : Int)) = true := by simp; omega
    go_wp2_with fail
    refine (lives_any _).mono ?_
    rintro e w2 ⟨rfl, hb2⟩
    go_wp2
    go_ret
    exact ⟨rfl, hbw.trans (hb2.mono hbw.size)⟩
end Go.Proofs.Ytlmpmiafjcpgjaa
