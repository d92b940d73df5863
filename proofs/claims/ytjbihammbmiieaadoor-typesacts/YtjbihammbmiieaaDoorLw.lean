/- TypesActs, walked. -/
import Derived.Test.YtjbihammbmiieaaDoorLv
import Derived.Test.YtjbihammbmiieaaDoorRn2
import Derived.Test.YtjbihammbmiieaaDoorRs
import Derived.Deep.CutBlock
namespace Go.Proofs.YtjbihammbmiieaaDoor
open Go.RowKit Un

/-- pairs, told or not -/
def kp (T : Ts) : Nat := T.countP (fun r => r.kind == 4)
theorem pairs_kp (T : Ts) : pairs T ≤ kp T := List.countP_mono_left fun r _ h => by simp at h ⊢; exact h.1
theorem kp_range (T : Ts) : kp T = (List.range T.length).countP (fun x => (tm T x).kind == 4) := by
  have h := range_count T (fun r => r.kind == 4) T.length (Nat.le_refl _)
  rw [List.take_length] at h
  exact h.symm
theorem like_kp {T S : Ts} (h : Like T S) : kp S = kp T := by
  rw [kp_range, kp_range, h.len]
  congr 1
  funext x
  rw [(h.kind x).1]
theorem kp_snoc (T : Ts) (n : Tm) : kp (T ++ [n]) = kp T + (if n.kind = 4 then 1 else 0) := by
  rw [kp, kp, List.countP_append]
  by_cases h : n.kind = 4 <;> simp [h]
theorem size_ren (ρ : Nat → Nat) : ∀ t : Ty, (t.sub fun n => .var (ρ n)).size = t.size
  | .var _ => rfl
  | .int => rfl
  | .bool => rfl
  | .unit => rfl
  | .pair a b => by rw [Ty.sub, Ty.size, Ty.size, size_ren ρ a, size_ren ρ b]
theorem twins_size {T S : Ts} (h : Twins T S) {σ τ : Nat → Ty} (hσ : ∀ x, x < T.length → Val T x (σ x)) (hτ : ∀ x, x < S.length → Val S x (τ x)) {n : Nat} (hn : kp S ≤ n) : (∀ x, x < T.length → (σ x).size ≤ 2 ^ (n + 1)) ∧ ∀ x, x < S.length → (τ x).size ≤ 2 ^ (n + 1) := by
  have h2 : ∀ x, x < S.length → (τ x).size ≤ 2 ^ (n + 1) := fun x hx =>
    Nat.le_trans (Nat.le_of_lt (size_pairs h.good'.wf (hτ x hx) hx)) (Nat.pow_le_pow_right (by omega) (by have := pairs_kp S; omega))
  refine ⟨fun x hx => ?_, h2⟩
  obtain ⟨ρ, hρ⟩ := renamed h.good.wf h.good'.wf h.len h.sol hσ hτ
  have e := (hρ x hx).1
  have := h2 x (by rw [← h.len]; exact hx)
  rw [e, size_ren] at this
  exact this
theorem TermAt.kept {B bt : Nat} {T : Ts} {v : Value} {w w' : World} {p : Nat → Obj → Prop} (h : TermAt B w bt T v) (k : Fr p w w') (h1 : ∀ j cs, B ≤ j → ¬ p j (.cells cs 34 (0, 0))) (h2 : ∀ j cs, B ≤ j → ¬ p j (.cells cs 62 (0, 0))) : TermAt B w' bt T v :=
  ⟨Nat.le_trans h.hB k.size, h.lo, k.heap h.blk (h1 _ _ h.lo), k.own h.own h2, h.few, h.good⟩
theorem ft_no_terms (B : Nat) : (∀ j cs, B ≤ j → ¬ FT B j (.cells cs 34 (0, 0))) ∧ (∀ j cs, B ≤ j → ¬ FT B j (.cells cs 62 (0, 0))) := by
  constructor
  · rintro j cs _ ⟨_, cs', t, e, h⟩
    injection e with _ e; subst e
    rcases h with h | h <;> exact absurd h (by decide)
  · rintro j cs _ ⟨_, cs', t, e, h⟩
    injection e with _ e; subst e
    rcases h with h | h <;> exact absurd h (by decide)
theorem fr_no_types (B : Nat) : (∀ j cs, B ≤ j → ¬ FR B j (.cells cs 60 (0, 0))) ∧ (∀ j cs, B ≤ j → ¬ FR B j (.cells cs 66 (0, 0))) := by
  constructor
  · rintro j cs _ ⟨_, cs', t, e, h⟩
    injection e with _ e; subst e
    rcases h with h | h <;> exact absurd h (by decide)
  · rintro j cs _ ⟨_, cs', t, e, h⟩
    injection e with _ e; subst e
    rcases h with h | h <;> exact absurd h (by decide)
/-- behind so many acts -/
structure LSt (bt mb : Nat) (A : List Ac) (w0 : World) (k : Nat) (R : List Nx) (v : Value) (T : Ts) (v2 : Value) (wr : World) : Prop where
  tab : TabAt w0.heap.size wr bt R v
  tok : Tok R
  clear : ∀ n ∈ R, n.s = false
  term : TermAt w0.heap.size wr mb T v2
  twins : Twins (abs R) T
  few : R.length ≤ k
  kp : kp T ≤ cnt A k
  below : Below w0.heap.size w0 wr
theorem LSt.len {bt mb : Nat} {A : List Ac} {w0 : World} {k : Nat} {R : List Nx} {v : Value} {T : Ts} {v2 : Value} {wr : World} (h : LSt bt mb A w0 k R v T v2 wr) : T.length = R.length + 3 := by rw [← h.twins.len, abs_len]
theorem LSt.later {bt mb : Nat} {A : List Ac} {w0 : World} {k : Nat} {R : List Nx} {v : Value} {T : Ts} {v2 : Value} {wr w' : World} (h : LSt bt mb A w0 k R v T v2 wr) (hb : Below wr.heap.size wr w') : LSt bt mb A w0 k R v T v2 w' :=
  ⟨h.tab.below hb, h.tok, h.clear, h.term.below hb, h.twins, h.few, h.kp, h.below.trans (hb.mono h.below.size)⟩
set_option maxRecDepth 100000 in
set_option maxHeartbeats 4000000 in
theorem acts_any (ao : Option Addr) (cap : Nat) (A : List Ac) (w : World) (hA : ActsAt w.heap.size w ao A) (hl : A.length ≤ 140737488355328) : Calls Tryd.prog 3 #[.slice ao A.length cap] w fun e w' => e = .returned (.bool true) ∧ Below w.heap.size w w' := by
  have HA := Lib.hid hA
  clear hA
  go_enter Tryd.func3, Tryd.ntmps3
  go_wp2_with fail
  refine (lives_any w).mono ?_
  rintro e w1 ⟨rfl, hb1⟩
  have HA1 := Lib.hid (HA.out.below hb1)
  have HB1 := Lib.hid hb1
  clear hb1
  by_cases h40 : A.length ≤ 40
  · go_wp2_with fail
    refine (big_any w.heap.size ao cap A w1 HA1.out HB1.out.size h40).mono ?_
    rintro e w2 ⟨rfl, hb2⟩
    have HB2 := Lib.hid (HB1.out.trans (hb2.mono HB1.out.size))
    clear hb2
    by_cases hbig : 14 < cnt A A.length
    · rw [decide_eq_true hbig]
      go_wp2_with fail
      refine (lives_any w2).mono ?_
      rintro e w3 ⟨rfl, hb3⟩
      have HB3 := Lib.hid (HB2.out.trans (hb3.mono HB2.out.size))
      clear hb3
      go_wp2
      go_ret
      exact ⟨rfl, HB3.out⟩
    · rw [decide_eq_false hbig]
      go_wp2_with fail
      refine (tnew_any w.heap.size w2 HB2.out.size).mono ?_
      rintro e w3 ⟨rfl, h3, hb3⟩
      have H3 := Lib.hid h3; have HB3 := Lib.hid (HB2.out.trans (hb3.mono HB2.out.size))
      clear h3 hb3
      go_wp2_with fail
      refine (rnew_any w.heap.size w3 HB3.out.size).mono ?_
      rintro e w4 ⟨mb, v2, rfl, hmb, h4, hb4⟩
      have hst : LSt w2.heap.size mb A w 0 [] (.slice none 0 0) base3 v2 w4 := ⟨H3.out.below hb4, tok_nil, fun n hn => (by cases hn), h4, Twins.refl good_base, Nat.le_refl _, Nat.zero_le _, HB3.out.trans (hb4.mono HB3.out.size)⟩
      have ST := Lib.hid hst
      clear hst h4 hb4 hmb
      generalize w2.heap.size = bt at *
      clear H3
      go_wp2
      go_loopw [32] (fun iv wr => ∃ (k : Nat) (R : List Nx) (v : Value) (T : Ts) (v2 : Value), k ≤ A.length ∧ iv = .int .i64 k ∧ LSt bt mb A w k R v T v2 wr) (fun iv _ => A.length - (intOf iv).toNat)
      case atStart => exact ⟨0, [], _, _, _, Nat.zero_le _, rfl, ST.out⟩
      case round =>
        obtain ⟨k, R, v, T, v2, hk, rfl, hs⟩ := hrel
        have HS := Lib.hid hs
        have HAk := Lib.hid (HA.out.below hs.below)
        clear hs
        by_cases hlt : k < A.length
        · obtain ⟨ab, ao', rfl, hbN, c0, c1, c2, hkd, hx0, hx1, hy0, hy1⟩ := HAk.out k hlt
          have HCS := Lib.hid (cnt_succ hlt)
          have HCL := Lib.hid (Nat.le_trans (cnt_le (A := A) (k := k + 1) (m := A.length) hlt) (Nat.le_of_not_lt hbig))
          obtain ⟨⟨kd, x, y⟩, hac⟩ : ∃ q, ac A k = q := ⟨_, rfl⟩
          rw [hac] at c0 c1 c2 hkd hx0 hx1 hy0 hy1 HCS
          simp only at c0 c1 c2 hkd hx0 hx1 hy0 hy1 HCS
          have hw5 := (Below.refl wr.heap.size wr).alloc (Nat.le_refl _) (.cells #[.int .u8 kd, .int .i8 x, .int .i8 y] 31)
          have HS5 := Lib.hid (HS.out.later hw5)
          have hab := blk_new wr (.cells #[.int .u8 kd, .int .i8 x, .int .i8 y] 31)
          clear hw5 hac
          go_wp2
          go_cut [7, 8] (fun p q wz => p = .int .i64 x ∧ q = .int .i64 y ∧ LSt bt mb A w k R v T v2 wz ∧ wz.cell? ⟨wr.heap.size, 0, none⟩ = some (.int .u8 kd))
          case first =>
            go_region
            all_goals
              go_wp2
              go_meet
              case rel => exact ⟨rfl, rfl, HS5.out.later (Below.drew (Below.refl _ _)), (blk_cell (w := World.drew _) hab 0).trans rfl⟩
          case rest =>
            obtain ⟨rfl, rfl, hs6, d0⟩ := hcut
            obtain ⟨ta, tc, rfl⟩ := own_form hs6.term.own
            have tcell := hs6.term.cell
            have htl := hs6.len
            have HS6 := Lib.hid hs6
            clear hs6 hab c0 c1 c2
            go_upto_region 8 with fail
            go_cut [9] (fun q wz => q = .bool (decide ((0 ≤ x ∧ x < (R.length : Int) + 3) ∧ (0 ≤ y ∧ y < (R.length : Int) + 3))) ∧ wz = wc)
            case first =>
              by_cases a0 : 0 ≤ x
              · by_cases b0 : 0 ≤ y
                · by_cases a1 : x < (T.length : Int)
                  · by_cases b1 : y < (T.length : Int)
                    · go_wp2
                      go_meet
                      case rel => exact ⟨congrArg Value.bool (by first | exact (decide_eq_true (by omega)).symm | exact (decide_eq_false (by omega)).symm | (rw [Bool.eq_iff_iff, decide_eq_true_iff, decide_eq_true_iff]; omega)), rfl⟩
                    · go_wp2
                      go_meet
                      case rel => exact ⟨congrArg Value.bool (by first | exact (decide_eq_true (by omega)).symm | exact (decide_eq_false (by omega)).symm | (rw [Bool.eq_iff_iff, decide_eq_true_iff, decide_eq_true_iff]; omega)), rfl⟩
                  · go_wp2
                    go_meet
                    case rel => exact ⟨congrArg Value.bool (by first | exact (decide_eq_true (by omega)).symm | exact (decide_eq_false (by omega)).symm | (rw [Bool.eq_iff_iff, decide_eq_true_iff, decide_eq_true_iff]; omega)), rfl⟩
                · go_wp2
                  go_meet
                  case rel => exact ⟨congrArg Value.bool (by first | exact (decide_eq_true (by omega)).symm | exact (decide_eq_false (by omega)).symm | (rw [Bool.eq_iff_iff, decide_eq_true_iff, decide_eq_true_iff]; omega)), rfl⟩
              · go_wp2
                go_meet
                case rel => exact ⟨congrArg Value.bool (by first | exact (decide_eq_true (by omega)).symm | exact (decide_eq_false (by omega)).symm | (rw [Bool.eq_iff_iff, decide_eq_true_iff, decide_eq_true_iff]; omega)), rfl⟩
            case rest =>
              obtain ⟨rfl, rfl⟩ := hcut
              have hrf := HS6.out.few
              have HTL := Lib.hid htl
              clear htl
              go_upto_block 2 with fail
              go_cut [9, 10, 11, 12] (fun o p q r wz => ∃ R' v' T' v2', LSt bt mb A w (k + 1) R' v' T' v2' wz)
              case first =>
                by_cases k0 : kd % 3 = 0
                · have hcs := HCS.out
                  rw [if_pos k0] at hcs
                  go_wp2_with fail
                  refine (var_any w.heap.size bt R v wc HS6.out.tab (by omega)).mono ?_
                  rintro e w7 ⟨he, ⟨v7, h7⟩, hf7⟩
                  rw [show (R ++ [(⟨1, false, 0, 0⟩ : Nx)]).length + 2 = T.length by have := HTL.out; simp; omega] at he
                  subst he
                  have ht7 := HS6.out.term.kept hf7 (ft_no_terms _).1 (ft_no_terms _).2
                  have H7 := Lib.hid h7; have T7 := Lib.hid ht7; have F7 := Lib.hid hf7
                  clear h7 ht7 hf7
                  go_wp2_with fail
                  refine (rvar_any w.heap.size mb T _ w7 T7.out (by have := HTL.out; omega)).mono ?_
                  rintro e w8 ⟨rfl, ⟨v8, h8⟩, hf8⟩
                  have hs8 : LSt bt mb A w (k + 1) (R ++ [⟨1, false, 0, 0⟩]) v7 (T ++ [⟨0, 0, 0, none⟩]) v8 w8 :=
                    ⟨H7.out.kept hf8 (fr_no_types _).1 (fr_no_types _).2, tok_var HS6.out.tok, clear_snoc HS6.out.clear rfl, h8, by rw [abs_snoc]; exact HS6.out.twins.app (new_var _), by have := HS6.out.few; simp; omega, by rw [kp_snoc]; have := HS6.out.kp; simp; omega,
                      HS6.out.below.trans ((F7.out.below HS6.out.below.size (fun k o e => e.1)).trans (hf8.below (Nat.le_trans HS6.out.below.size F7.out.size) (fun k o e => e.1)))⟩
                  have HS8 := Lib.hid hs8
                  clear hs8 h8 hf8 hcs
                  go_wp2
                  go_meet
                  case rel => exact ⟨_, _, _, _, HS8.out⟩
                · have hcs := HCS.out
                  rw [if_neg k0] at hcs
                  have HCS2 := Lib.hid hcs
                  clear hcs
                  by_cases hin : (0 ≤ x ∧ x < (R.length : Int) + 3) ∧ (0 ≤ y ∧ y < (R.length : Int) + 3)
                  · rw [decide_eq_true hin]
                    obtain ⟨x, rfl⟩ : ∃ a : Nat, x = a := ⟨x.toNat, by omega⟩
                    obtain ⟨y, rfl⟩ : ∃ a : Nat, y = a := ⟨y.toNat, by omega⟩
                    have hxr : x < R.length + 3 := by omega
                    have hyr : y < R.length + 3 := by omega
                    clear hin hx0 hx1 hy0 hy1
                    by_cases k1 : kd % 3 = 1
                    · go_wp2_with fail
                      refine (pair_yes w.heap.size bt R v x y wc HS6.out.tab (by omega) hxr hyr).mono ?_
                      rintro e w7 ⟨he, ⟨v7, h7⟩, hf7⟩
                      rw [show R.length + 3 = T.length from HTL.out.symm] at he
                      subst he
                      have ht7 := HS6.out.term.kept hf7 (ft_no_terms _).1 (ft_no_terms _).2
                      have H7 := Lib.hid h7; have T7 := Lib.hid ht7; have F7 := Lib.hid hf7
                      clear h7 ht7 hf7
                      go_wp2_with fail
                      refine (rpair_any w.heap.size mb T _ x y w7 T7.out (by have := HTL.out; omega) (by have := HTL.out; omega) (by have := HTL.out; omega)).mono ?_
                      rintro e w8 ⟨rfl, ⟨v8, h8⟩, hf8⟩
                      have hs8 : LSt bt mb A w (k + 1) (R ++ [⟨2, false, x, y⟩]) v7 (T ++ [⟨4, x, y, none⟩]) v8 w8 :=
                        ⟨H7.out.kept hf8 (fr_no_types _).1 (fr_no_types _).2, tok_pair HS6.out.tok hxr hyr, clear_snoc HS6.out.clear rfl, h8, by rw [abs_snoc]; exact HS6.out.twins.app (new_pair (by rw [abs_len]; exact hxr) (by rw [abs_len]; exact hyr)), by have := HS6.out.few; simp; omega, by rw [kp_snoc]; have := HS6.out.kp; have := HCS2.out; simp; omega,
                          HS6.out.below.trans ((F7.out.below HS6.out.below.size (fun k o e => e.1)).trans (hf8.below (Nat.le_trans HS6.out.below.size F7.out.size) (fun k o e => e.1)))⟩
                      have HS8 := Lib.hid hs8
                      clear hs8 h8 hf8
                      go_wp2
                      go_meet
                      case rel => exact ⟨_, _, _, _, HS8.out⟩
                    · go_wp2_with fail
                      refine (unify_any w.heap.size bt R v x y wc HS6.out.tab HS6.out.tok HS6.out.clear hxr hyr).mono ?_
                      rintro e w7 ⟨ok, R', rfl, h7, k7, c7, l7, q7, f7⟩
                      generalize hER : (if ok = true then (0 : Int) else 10) = er
                      have HER := Lib.hid hER
                      clear hER
                      have hf7 := f7.fr HS6.out.tab
                      have ht7 := HS6.out.term.kept hf7 (ft_no_terms _).1 (ft_no_terms _).2
                      have hb7 := hf7.below HS6.out.below.size (fun k o e => e.1)
                      have H7 := Lib.hid h7; have T7 := Lib.hid ht7; have K7 := Lib.hid k7; have C7 := Lib.hid c7; have L7 := Lib.hid l7; have Q7 := Lib.hid q7; have B7 := Lib.hid hb7
                      clear h7 ht7 k7 c7 l7 q7 f7 hf7 hb7
                      obtain ⟨tx, htx⟩ := HS6.out.term.good.full x (by have := HTL.out; omega)
                      obtain ⟨ty, hty⟩ := HS6.out.term.good.full y (by have := HTL.out; omega)
                      have VX := Lib.hid htx; have VY := Lib.hid hty
                      clear htx hty
                      go_wp2_with fail
                      refine (rone_any w.heap.size mb _ _ T rfl _ x y tx ty w7 T7.out (by have := HTL.out; omega) (by have := HTL.out; omega) VX.out VY.out (Nat.le_refl _)).mono ?_
                      rintro e w8 ⟨ok', T', rfl, h8, q8, f8⟩
                      have hfl := HS6.out.twins.flagQ Q7.out q8.q
                      subst hfl
                      have hf8 := f8.fr10 T7.out
                      have hb8 := hf8.below (Nat.le_trans HS6.out.below.size B7.out.size) (fun k o e => e.1)
                      cases ok with
                      | true =>
                        obtain rfl : er = 0 := HER.out.symm
                        have hs8 : LSt bt mb A w (k + 1) R' v T' _ w8 :=
                          ⟨H7.out.kept hf8 (fr_no_types _).1 (fr_no_types _).2, K7.out, C7.out, h8, HS6.out.twins.oneQ Q7.out q8.q, by have := HS6.out.few; have := L7.out; omega, by rw [like_kp q8.like]; have := HS6.out.kp; have := HCS2.out; omega, HS6.out.below.trans (B7.out.trans hb8)⟩
                        have HS8 := Lib.hid hs8
                        clear hs8 h8 f8 hf8 hb8 q8
                        go_wp2
                        go_meet
                        case rel => exact ⟨_, _, _, _, HS8.out⟩
                      | false =>
                        obtain rfl : er = 10 := HER.out.symm
                        have hend := HS6.out.below.trans (B7.out.trans hb8)
                        have HE := Lib.hid hend
                        clear hend h8 f8 hf8 hb8 q8
                        go_wp2
                        go_ret
                        exact ⟨rfl, HE.out⟩
                  · have NI := Lib.hid hin
                    have hs9 : LSt bt mb A w (k + 1) R v T _ wc := ⟨HS6.out.tab, HS6.out.tok, HS6.out.clear, HS6.out.term, HS6.out.twins, by have := HS6.out.few; omega, by have := HS6.out.kp; have := HCS2.out; omega, HS6.out.below⟩
                    have HS9 := Lib.hid hs9
                    clear hs9
                    rw [decide_eq_false hin]
                    by_cases k1 : kd % 3 = 1
                    · go_wp2_with fail
                      refine (pair_no w.heap.size bt R v x y wc HS6.out.tab (by omega) (by omega) NI.out).mono ?_
                      rintro e w7 ⟨rfl, rfl⟩
                      clear hin
                      go_wp2
                      go_roundw
                      case rel => exact ⟨k + 1, _, _, _, _, by omega, by go_num, HS9.out⟩
                      case measure => simp [intOf]; omega
                    · go_wp2_with fail
                      refine (unify_no w.heap.size bt R v x y wc HS6.out.tab (by omega) (by omega) NI.out).mono ?_
                      rintro e w7 ⟨rfl, rfl⟩
                      clear hin
                      go_wp2
                      go_roundw
                      case rel => exact ⟨k + 1, _, _, _, _, by omega, by go_num, HS9.out⟩
                      case measure => simp [intOf]; omega
              case rest =>
                obtain ⟨R', v', T', v2', hs8⟩ := hcut
                obtain ⟨ma, mc, rfl⟩ := own_form hs8.term.own
                have HS8 := Lib.hid hs8
                have hr40 : R'.length ≤ 40 := by have := hs8.few; omega
                have ht43 : T'.length ≤ 43 := by have := hs8.len; omega
                obtain ⟨i1, hi1, z1, z11, z12⟩ := info_parts Tryd.info35
                obtain ⟨i2, hi2, z2, z21, z22⟩ := info_parts Tryd.info3
                have I1 := Lib.hid hi1; have I2 := Lib.hid hi2; have Z1 := Lib.hid z1; have Z11 := Lib.hid z11; have Z12 := Lib.hid z12; have Z2 := Lib.hid z2; have Z21 := Lib.hid z21; have Z22 := Lib.hid z22
                clear hs8 hi1 hi2 z1 z11 z12 z2 z21 z22 d0 tcell
                go_wp2
                go_loopw [13, 14, 15] (fun av cv iv wz => ∃ (j : Nat) (i : Int), j ≤ T'.length + 2 ∧ i = (j : Int) - 1 ∧ iv = .int .i64 i ∧ UpAt wc (upto j) (upto j) av cv wz) (fun _ _ iv _ => T'.length + 2 - (intOf iv + 1).toNat)
                case atStart => exact ⟨0, -1, Nat.zero_le _, rfl, rfl, World.ownsRow_nil _ _ _ _, World.ownsRow_nil _ _ _ _, Below.refl _ _⟩
                case round =>
                  obtain ⟨j, i, hj, hij, rfl, hu⟩ := hrel
                  obtain ⟨aa, ac1, rfl⟩ := own_form hu.a
                  obtain ⟨ca, cc1, rfl⟩ := own_form hu.c
                  have hm := (HS8.out.later hu.below).term.cell
                  have HU := Lib.hid hu
                  have HIJ := Lib.hid hij
                  have ul := upto_len j
                  have uE : Hid ((upto (j + 1)) = upto j ++ [i]) := Lib.hid (by rw [upto_succ, hij])
                  have UL := Lib.hid ul
                  clear hu ul
                  have i0 : -1 ≤ i := by omega
                  have i9 : i ≤ 44 := by omega
                  by_cases hlt : j < T'.length + 2
                  · have hle : i ≤ (T'.length : Int) := by omega
                    clear hij
                    go_wp2_with (at_builtin; refine wpList_append_own _ rfl _ _ 44 rfl wc.heap.size 35 i1 _ 1 8 Tryd.underlying44 I1.out Z1.out Z11.out Z12.out rfl (by decide) _ (upto j).length (zs (upto j)) rfl (own_below HU.out.a ((Below.refl _ _).alloc (Nat.le_refl _) _)) ⟨wr.heap.size, 0, none⟩ 1 1 [.int .i64 i] rfl rfl ?c1 ?c2 ?c3 ?c4 ?c5 ?_)
                    case c1 => exact World.news_of_block (heap_alloc_new wr _)
                    case c2 => intro u hu; simp at hu; subst hu; rfl
                    case c3 => have := UL.out; unfold maxLen; omega
                    case c4 => have := UL.out; omega
                    case c5 => have := HU.out.below.size; simp; omega
                    intro v5 w5 hown hgrow _
                    have hu5 := HU.out.more1 hown hgrow
                    obtain ⟨aa5, ac5, rfl⟩ := own_form hu5.a
                    have HU5 := Lib.hid hu5
                    have hm5 := (HS8.out.later hu5.below).term.cell
                    clear hown hgrow hu5
                    go_wp2_with (at_builtin; refine wpList_append_own _ rfl _ _ 45 rfl wc.heap.size 3 i2 _ 1 8 Tryd.underlying45 I2.out Z2.out Z21.out Z22.out rfl (by decide) _ (upto j).length (zs (upto j)) rfl (own_below HU5.out.c ((Below.refl _ _).alloc (Nat.le_refl _) _)) ⟨w5.heap.size, 0, none⟩ 1 1 [.int .i64 i] rfl rfl ?c1 ?c2 ?c3 ?c4 ?c5 ?_)
                    case c1 => exact World.news_of_block (heap_alloc_new w5 _)
                    case c2 => intro u hu; simp at hu; subst hu; rfl
                    case c3 => have := UL.out; unfold maxLen; omega
                    case c4 => have := UL.out; omega
                    case c5 => have := HU5.out.below.size; simp; omega
                    intro v6 w6 hown hgrow _
                    have hu6 := HU5.out.more2 hown hgrow
                    have HU6 := Lib.hid hu6
                    clear hown hgrow hu6
                    go_wp2
                    go_roundw
                    case rel => exact ⟨j + 1, i + 1, by omega, by have := HIJ.out; omega, by go_num, by rw [uE.out]; have h6 := HU6.out; rw [List.length_append] at h6; exact h6⟩
                    case measure => have := HIJ.out; simp [intOf]; omega
                  · have hle : ¬ i ≤ (T'.length : Int) := by omega
                    obtain rfl : j = T'.length + 2 := by omega
                    clear hij
                    obtain ⟨σ, _, vσ⟩ := HS8.out.tok.good.some
                    obtain ⟨τ, _, vτ⟩ := HS8.out.term.good.some
                    rw [abs_len] at vσ
                    have hkp := HS8.out.kp
                    have h14 := HCL.out
                    obtain ⟨sσ, sτ⟩ := twins_size HS8.out.twins (σ := σ) (τ := τ) (by rw [abs_len]; exact vσ) vτ (n := 14) (by omega)
                    rw [abs_len] at sσ
                    have hsh := shows_any w.heap.size bt R' v' σ wc.heap.size _ (upto (T'.length + 2)) wr (HS8.out.later HU.out.below).tab HS8.out.tok HS8.out.clear vσ (fun x hx => Nat.le_trans (sσ x hx) (by decide)) (by omega) HU.out.a (by rw [upto_len]; omega) (fun x hx => by have := upto_mem hx; omega)
                    have hrs := fun w' lv h1 h2 => rshow_any w.heap.size mb T' (.slice ma T'.length mc) τ wc.heap.size lv (upto (T'.length + 2)) w' h1 vτ (fun x hx => Nat.le_trans (sτ x hx) (by decide)) (by omega) h2 (by rw [upto_len]; omega)
                    have hsame := HS8.out.twins.shows (by rw [abs_len]; exact vσ) vτ (upto (T'.length + 2))
                    rw [abs_len] at hsame
                    have HSH := Lib.hid hsh; have HRS := Lib.hid hrs; have HSA := Lib.hid hsame; have VS := Lib.hid vσ
                    clear hsh hrs hsame sσ sτ vτ vσ hkp h14
                    go_wp2_with fail
                    refine HSH.out.mono ?_
                    rintro e w7 ⟨sv, R9, rfl, o7, t7, k7, l7, v7, c7, f7⟩
                    have hlater := HS8.out.later HU.out.below
                    have hf7 := f7.fr hlater.tab
                    have ht7 := hlater.term.kept hf7 (ft_no_terms _).1 (ft_no_terms _).2
                    have hb7 := hf7.below hlater.below.size (fun k o e => e.1)
                    have hc7 := f7.own HU.out.c (row_apart hlater.tab.own HU.out.c (by decide))
                    have htw7 := twins_vals HS8.out.twins k7.good (by rw [abs_len, abs_len, l7]) (by rw [abs_len]; exact VS.out) (by rw [abs_len]; exact v7)
                    have O7 := Lib.hid o7; have T7 := Lib.hid t7; have K7 := Lib.hid k7; have L7 := Lib.hid l7; have C7 := Lib.hid c7; have M7 := Lib.hid ht7; have B7 := Lib.hid hb7; have CC7 := Lib.hid hc7; have TW7 := Lib.hid htw7; have LT := Lib.hid hlater
                    clear o7 t7 k7 l7 v7 c7 f7 hf7 ht7 hb7 hc7 htw7 hlater hm
                    go_wp2_with fail
                    refine (HRS.out w7 _ M7.out CC7.out).mono ?_
                    rintro e w8 ⟨ov, rfl, o8, t8, b8⟩
                    have hsv8 := own_below O7.out b8
                    rw [← HSA.out] at o8
                    have O8 := Lib.hid o8; have T8 := Lib.hid t8; have B8 := Lib.hid b8; have SV8 := Lib.hid hsv8
                    clear o8 t8 b8 hsv8
                    have hlen : (shows (picks (R'.length + 3) σ (upto (T'.length + 2))) []).length = (upto (T'.length + 2)).length := by rw [shows_len, picks_len]
                    have HLEN := Lib.hid hlen
                    clear hlen
                    go_wp2_with fail
                    refine (equal_any _ _ sv ov (shows (picks (R'.length + 3) σ (upto (T'.length + 2))) []) w8 (by rw [HLEN.out]; exact SV8.out) (by rw [HLEN.out]; exact O8.out) (by rw [HLEN.out, upto_len]; omega)).mono ?_
                    rintro e w9 ⟨rfl, b9⟩
                    have hend : LSt bt mb A w (k + 1) R9 v' T' (.slice ma T'.length mc) w9 :=
                      ⟨(T7.out.below B8.out).below b9, K7.out, C7.out, T8.out.below b9, TW7.out, by have := L7.out; have := HS8.out.few; omega, HS8.out.kp, ((LT.out.below.trans B7.out).trans (B8.out.mono (Nat.le_trans LT.out.below.size B7.out.size))).trans (b9.mono (Nat.le_trans (Nat.le_trans LT.out.below.size B7.out.size) B8.out.size))⟩
                    have HEND := Lib.hid hend
                    clear hend b9
                    go_wp2
                    go_roundw
                    case rel => exact ⟨k + 1, _, _, _, _, by omega, by go_num, HEND.out⟩
                    case measure => simp [intOf]; omega
        · go_wp2
          go_ret
          exact ⟨rfl, HS.out.below⟩
  · go_wp2_with fail
    refine (lives_any w1).mono ?_
    rintro e w3 ⟨rfl, hb3⟩
    have HB3 := Lib.hid (HB1.out.trans (hb3.mono HB1.out.size))
    clear hb3
    go_wp2
    go_ret
    exact ⟨rfl, HB3.out⟩
end Go.Proofs.YtjbihammbmiieaaDoor
