/- The law's own small functions. -/
import Derived.Test.YtjbihammbmiieaaDoorTc
import Derived.Test.YtjbihammbmiieaaDoorRs
namespace Go.Proofs.YtjbihammbmiieaaDoor
open Go.RowKit Un

theorem tok_nil : Tok [] := ⟨good_base, fun n hn => (by cases hn), fun n hn => (by cases hn)⟩
theorem tok_var {R : List Nx} (h : Tok R) : Tok (R ++ [⟨1, false, 0, 0⟩]) :=
  ⟨by rw [abs_snoc]; exact h.good.app (new_var _), fun n hn => by
    rcases List.mem_append.1 hn with hn | hn
    · exact h.kind n hn
    · rw [List.mem_singleton.1 hn]; exact (show 1 ≤ 1 ∧ 1 ≤ 3 by omega), fun n hn hk => by
    rcases List.mem_append.1 hn with hn | hn
    · exact h.told n hn hk
    · rw [List.mem_singleton.1 hn]⟩
theorem tok_pair {R : List Nx} {x y : Nat} (h : Tok R) (hx : x < R.length + 3) (hy : y < R.length + 3) : Tok (R ++ [⟨2, false, x, y⟩]) :=
  ⟨by rw [abs_snoc]; exact h.good.app (new_pair (by rw [abs_len]; exact hx) (by rw [abs_len]; exact hy)), fun n hn => by
    rcases List.mem_append.1 hn with hn | hn
    · exact h.kind n hn
    · rw [List.mem_singleton.1 hn]; exact (show 1 ≤ 2 ∧ 2 ≤ 3 by omega), fun n hn hk => by
    rcases List.mem_append.1 hn with hn | hn
    · exact h.told n hn hk
    · rw [List.mem_singleton.1 hn]⟩
theorem clear_snoc {R : List Nx} {n : Nx} (h : ∀ n ∈ R, n.s = false) (hn : n.s = false) : ∀ m ∈ R ++ [n], m.s = false := fun m hm => by
  rcases List.mem_append.1 hm with hm | hm
  · exact h m hm
  · rw [List.mem_singleton.1 hm]; exact hn
/-- one that stands in itself -/
theorem one_never {T S : Ts} {a b : Nat} {ok : Bool} (h : OneQ T a b ok S) (hb : b < T.length) (hk : (tm T b).kind = 4) (ha : (tm T b).b = a) : ok = false := by
  cases ok with
  | false => rfl
  | true =>
    obtain ⟨σ, hσ, _⟩ := h.good.some
    obtain ⟨h1, h2⟩ := (h.yes rfl σ).1 hσ
    have h3 := h1.pair b hb hk
    rw [ha] at h3
    have h4 : (σ a).size = (σ b).size := congrArg Ty.size h2
    have h5 : (σ b).size = (σ (tm T b).a).size + (σ a).size + 1 := congrArg Ty.size h3
    omega
theorem one_self {T S : Ts} {a : Nat} {ok : Bool} (hT : Un.Good T) (h : OneQ T a a ok S) : ok = true := by
  cases ok with
  | true => rfl
  | false =>
    obtain ⟨σ, hσ, _⟩ := hT.some
    exact absurd rfl (h.no rfl σ hσ)

set_option maxRecDepth 100000 in
set_option maxHeartbeats 1000000 in
theorem lives_any (w : World) : Calls Tryd.prog 5 #[] w fun e w' => e = .returned (.bool true) ∧ Below w.heap.size w w' := by
  go_enter Tryd.func5, Tryd.ntmps5
  go_wp2_with fail
  refine (tnew_any w.heap.size w (Nat.le_refl _)).mono ?_
  rintro e w1 ⟨rfl, h1, hb1⟩
  have HB1 := Lib.hid hb1; have H1 := Lib.hid h1
  clear hb1 h1
  go_wp2_with fail
  refine (var_any w.heap.size w.heap.size [] _ w1 H1.out (by simp)).mono ?_
  rintro e w2 ⟨rfl, ⟨v2, h2⟩, hf2⟩
  have HF2 := Lib.hid hf2; have H2 := Lib.hid h2
  clear hf2 h2
  go_wp2_with fail
  refine (pair_yes w.heap.size w.heap.size ([] ++ [⟨1, false, 0, 0⟩]) v2 0 3 w2 H2.out (by simp) (by simp) (by simp)).mono ?_
  rintro e w3 ⟨rfl, ⟨v3, h3⟩, hf3⟩
  have HF3 := Lib.hid hf3; have H3 := Lib.hid h3
  clear hf3 h3
  have ht3 : Tok (([] ++ [⟨1, false, 0, 0⟩]) ++ [⟨2, false, 0, 3⟩]) := tok_pair (tok_var tok_nil) (by simp) (by simp)
  have hc3 : ∀ n ∈ ((([] : List Nx) ++ [⟨1, false, 0, 0⟩]) ++ [⟨2, false, 0, 3⟩]), n.s = false := clear_snoc (clear_snoc (fun n hn => by cases hn) rfl) rfl
  go_wp2_with fail
  refine (unify_any w.heap.size w.heap.size _ v3 3 4 w3 H3.out ht3 hc3 (by simp) (by simp)).mono ?_
  rintro e w4 ⟨ok, R4, rfl, h4, ht4, hc4, hl4, hq4, ho4⟩
  obtain rfl : ok = false := one_never hq4 (by rw [abs_len]; simp) rfl rfl
  have hfr4 := ho4.fr H3.out
  have H4 := Lib.hid h4; have T4 := Lib.hid ht4; have C4 := Lib.hid hc4; have L4 := Lib.hid hl4; have F4 := Lib.hid hfr4
  clear h4 ht4 hc4 hl4 hq4 ho4 hfr4
  go_wp2_with fail
  refine (unify_any w.heap.size w.heap.size R4 v3 0 0 w4 H4.out T4.out C4.out (by omega) (by omega)).mono ?_
  rintro e w5 ⟨ok, R5, rfl, h5, ht5, hc5, hl5, hq5, ho5⟩
  obtain rfl : ok = true := one_self T4.out.good hq5
  have hfr5 := ho5.fr H4.out
  have hall : Below w.heap.size w w5 := by
    have hf : Fr (FT w.heap.size) w1 w5 := (((HF2.out.trans HF3.out).trans F4.out).trans hfr5)
    exact HB1.out.trans (hf.below HB1.out.size (fun k o e => e.1))
  have HALL := Lib.hid hall
  clear h5 ht5 hc5 hl5 hq5 ho5 hfr5 hall
  go_wp2
  go_ret
  exact ⟨rfl, HALL.out⟩

/-- acts -/
structure Ac where
  kind : Nat
  a : Int
  b : Int
def ac (A : List Ac) (i : Nat) : Ac := A.getD i ⟨0, 0, 0⟩
def ActsAt (N : Nat) (w : World) (ao : Option Addr) (A : List Ac) : Prop :=
  ∀ i, i < A.length → ∃ b o, ao = some ⟨b, o, none⟩ ∧ b < N ∧ w.cell? ⟨b, o + i * 3, none⟩ = some (.int .u8 (ac A i).kind) ∧ w.cell? ⟨b, o + i * 3 + 1, none⟩ = some (.int .i8 (ac A i).a) ∧ w.cell? ⟨b, o + i * 3 + 2, none⟩ = some (.int .i8 (ac A i).b) ∧ (ac A i).kind < 256 ∧ -128 ≤ (ac A i).a ∧ (ac A i).a ≤ 127 ∧ -128 ≤ (ac A i).b ∧ (ac A i).b ≤ 127
theorem ActsAt.below {N : Nat} {w w' : World} {ao : Option Addr} {A : List Ac} (h : ActsAt N w ao A) (k : Below N w w') : ActsAt N w' ao A := fun i hi => by
  obtain ⟨b, o, e, hb, h1, h2, h3, r⟩ := h i hi
  exact ⟨b, o, e, hb, (k.cell (p := ⟨b, _, none⟩) hb).trans h1, (k.cell (p := ⟨b, _, none⟩) hb).trans h2, (k.cell (p := ⟨b, _, none⟩) hb).trans h3, r⟩
/-- how many of the first aren't Var -/
def cnt (A : List Ac) (k : Nat) : Nat := (A.take k).countP (fun a => a.kind % 3 != 0)
theorem cnt_succ {A : List Ac} {k : Nat} (h : k < A.length) : cnt A (k + 1) = cnt A k + (if (ac A k).kind % 3 = 0 then 0 else 1) := by
  rw [cnt, cnt, List.take_add_one, List.countP_append, List.getElem?_eq_getElem h]
  have e : ac A k = A[k] := by simp [ac, List.getD_eq_getElem?_getD, List.getElem?_eq_getElem h]
  rw [e]
  by_cases hk : A[k].kind % 3 = 0 <;> simp [hk, List.countP_cons]
theorem cnt_le {A : List Ac} {k m : Nat} (h : k ≤ m) : cnt A k ≤ cnt A m := by
  have e : A.take k = (A.take m).take k := by rw [List.take_take, Nat.min_eq_left h]
  rw [cnt, e]
  have := List.Sublist.countP_le (p := fun a : Ac => a.kind % 3 != 0) (List.take_sublist k (A.take m))
  exact this
set_option maxRecDepth 100000 in
set_option maxHeartbeats 1000000 in
theorem big_any (N : Nat) (ao : Option Addr) (cap : Nat) (A : List Ac) (w : World) (h : ActsAt N w ao A) (hN : N ≤ w.heap.size) (hl : A.length ≤ 40) : Calls Tryd.prog 6 #[.slice ao A.length cap] w fun e w' => e = .returned (.bool (decide (14 < cnt A A.length))) ∧ Below w.heap.size w w' := by
  have H := Lib.hid h
  clear h
  go_enter Tryd.func6, Tryd.ntmps6
  go_wp2
  go_loopw [3, 8] (fun nv iv wr => ∃ k : Nat, k ≤ A.length ∧ iv = .int .i64 k ∧ nv = .int .i64 (cnt A k) ∧ Below w.heap.size w wr) (fun _ iv _ => A.length - (intOf iv).toNat)
  case atStart => exact ⟨0, Nat.zero_le _, rfl, rfl, Below.refl _ _⟩
  case round =>
    obtain ⟨k, hk, rfl, rfl, hb⟩ := hrel
    have hcl : cnt A k ≤ 40 := by
      have := List.countP_le_length (p := fun a : Ac => a.kind % 3 != 0) (l := A.take k)
      rw [List.length_take] at this
      unfold cnt; omega
    by_cases hlt : k < A.length
    · obtain ⟨b, o, rfl, hbN, c0, c1, c2, hkd, _⟩ := (H.out.below (hb.mono hN)) k hlt
      have hs := cnt_succ hlt
      have HS := Lib.hid hs
      have hb2 : ∀ X, Below w.heap.size w (wr.alloc X) := fun X => hb.alloc hb.size _
      have HB := Lib.hid hb2
      clear hb hb2 hs
      by_cases h3 : (ac A k).kind % 3 = 0
      · go_wp2
        have h1 := HS.out
        rw [if_pos h3] at h1
        exact ⟨⟨k + 1, by omega, by go_num, by rw [h1]; rfl, HB.out _⟩, by simp [intOf]; omega⟩
      · go_wp2
        have h1 := HS.out
        rw [if_neg h3] at h1
        exact ⟨⟨k + 1, by omega, by go_num, by rw [h1]; rfl, HB.out _⟩, by simp [intOf]; omega⟩
    · obtain rfl : k = A.length := by omega
      go_wp2
      go_ret
      exact ⟨ret_bool (by rw [Bool.eq_iff_iff, decide_eq_true_iff, decide_eq_true_iff]; omega), hb⟩

set_option maxRecDepth 100000 in
/-- the same texts -/
theorem equal_any (N1 N2 : Nat) (av bv : Value) (l : List (List UInt8)) (w : World) (ha : w.ownsRow N1 9 1 av l.length (strs l)) (hb : w.ownsRow N2 9 1 bv l.length (strs l)) (hl : l.length ≤ 1000000) : Calls Tryd.prog 15 #[av, bv] w fun e w' => e = .returned (.bool true) ∧ Below w.heap.size w w' := by
  obtain ⟨aa, ac, rfl⟩ := own_form ha
  obtain ⟨ba, bc, rfl⟩ := own_form hb
  have HA := Lib.hid ha; have HB := Lib.hid hb
  clear ha hb
  go_enter Tryd.func15, Tryd.ntmps15
  go_wp2
  go_loopw [13] (fun iv wr => ∃ k : Nat, k ≤ l.length ∧ iv = .int .i64 k ∧ Below w.heap.size w wr) (fun iv _ => l.length - (intOf iv).toNat)
  case atStart => exact ⟨0, Nat.zero_le _, rfl, Below.refl _ _⟩
  case round =>
    obtain ⟨k, hk, rfl, hb⟩ := hrel
    have BL := Lib.hid hb
    clear hb
    by_cases hlt : k < l.length
    · obtain ⟨x, hx⟩ : ∃ x, (strs l)[k]? = some (.string x) := ⟨⟨l[k].toArray⟩, by simp [strs, List.getElem?_eq_getElem hlt]⟩
      obtain ⟨ga, ca, e, _, _⟩ := row_some HA.out (by omega)
      cases e
      obtain ⟨gb, cb, e, _, _⟩ := row_some HB.out (by omega)
      cases e
      have c1 := own_cell (own_below HA.out BL.out) hx
      have c2 := own_cell (own_below HB.out BL.out) hx
      have BD := Lib.hid BL.out.drew
      clear hx
      go_wp2
      go_cut [24] (fun q wz => q = .bool false ∧ wz = wr.drew)
      case first =>
        go_region
        all_goals
          go_wp2
          go_meet
          case rel => exact ⟨by simp, rfl⟩
      case rest =>
        obtain ⟨rfl, rfl⟩ := hcut
        go_wp2
        go_roundw
        case rel => exact ⟨k + 1, by omega, by go_num, BD.out⟩
        case measure => simp [intOf]; omega
    · go_wp2
      go_ret
      exact ⟨rfl, BL.out⟩
end Go.Proofs.YtjbihammbmiieaaDoor
