/- Two types, made one. -/
import Derived.Test.YtjbihammbmiieaaDoorTu
namespace Go.Proofs.YtjbihammbmiieaaDoor
open Go.RowKit Un

/-- a row without its last ones -/
theorem own_take {w : World} {base : Nat} {t : TypeId} {z g n cap m : Nat} {xs : List Value} (h : w.ownsRow base t z (.slice (some ⟨g, 0, none⟩) n cap) n xs) (hm : m ≤ n) : w.ownsRow base t z (.slice (some ⟨g, 0, none⟩) m cap) m (xs.take (m * z)) := by
  rcases h.2 with ⟨e, _⟩ | ⟨g', cap', cur, e, hb, hg, hc, hcm, hs, ht⟩
  · cases e
  · cases e
    have hl := h.1
    refine ⟨by rw [List.length_take, hl]; exact Nat.min_eq_left (Nat.mul_le_mul_right z hm), .inr ⟨g, cap, cur, rfl, hb, hg, by omega, hcm, hs, ?_⟩⟩
    rw [← ht, List.take_take, Nat.min_eq_left (Nat.mul_le_mul_right z hm)]
def OneT (B bt : Nat) (R : List Nx) (v : Value) (a b : Nat) (w : World) (e : Ending) (w' : World) : Prop :=
  ∃ (ok : Bool) (R' : List Nx), e = .returned (.int .i64 (if ok then 0 else 10)) ∧ TabAt B w' bt R' v ∧ Tok R' ∧ (∀ n ∈ R', n.s = false) ∧ R'.length = R.length ∧ OneQ (abs R) a b ok (abs R') ∧ Ow v w w'
def LoopU (B bt : Nat) (R : List Nx) (v : Value) (a b : Nat) (w : World) (k : Nat) (tv okv : Value) (wr : World) : Prop :=
  (∃ R2 l, okv = .bool true ∧ USt B bt w.heap.size R.length v (fun σ => Sol (abs R) σ ∧ σ a = σ b) k tv R2 l wr ∧ Ow v w wr) ∨
  (∃ R2, okv = .bool false ∧ TabAt B wr bt R2 v ∧ Tok R2 ∧ (∀ n ∈ R2, n.s = false) ∧ R2.length = R.length ∧ (∀ σ, ¬ (Sol (abs R) σ ∧ σ a = σ b)) ∧ Ow v w wr)
theorem Ow2.undrew {v u : Value} {a b : World} (h : Ow2 v u a.drew b) : Ow2 v u a b := ⟨h.os, h.tape, h.output, h.size, h.block⟩
theorem unify2_any (B bt : Nat) (R : List Nx) (v : Value) (a b : Nat) (w : World) (k : Nat) (R2 : List Nx) (s : Step) (l : List Step) (g cap : Nat) (wr : World)
    (h : USt B bt w.heap.size R.length v (fun σ => Sol (abs R) σ ∧ σ a = σ b) k (.slice (some ⟨g, 0, none⟩) (s :: l).length cap) R2 (s :: l) wr) (how : Ow v w wr) :
    Calls Tryd.prog 24 #[.pointer (some ⟨bt, 0, none⟩), sval s, .slice (some ⟨g, 0, none⟩) l.length cap] wr.drew fun e w' => ∃ (tv' : Value) (okb : Bool), e = .returned (.tuple #[tv', .bool okb]) ∧ ∃ k', k' < k ∧ LoopU B bt R v a b w k' tv' (.bool okb) w' := by
  have hd : Below wr.heap.size wr wr.drew := Below.drew (Below.refl _ wr)
  have hown := own_take h.own (m := l.length) (by rw [List.length_cons]; omega)
  have e : (cells3 (s :: l).reverse).take (l.length * 3) = cells3 l.reverse := by
    rw [List.reverse_cons, cells3_app]
    exact List.take_left' (by rw [cells3_len, List.length_reverse])
  rw [e] at hown
  have hlow := (own_tag hown (g := g) rfl).1
  refine (unify1_any B bt w.heap.size R.length v _ k _ R2 s l wr.drew (h.tab.below hd) (own_below hown hd) h.pu h.hN).mono ?_
  rintro e w1 ⟨hr, ho⟩
  have ho' : Ow v w w1 := how.fresh2 (Ow2.undrew ho) (fun q e => by cases e; exact hlow)
  rcases hr with ⟨tv', R', l', m, rfl, hm, hu⟩ | ⟨tv', R', rfl, h1, h2, h3, h4, h5⟩
  · exact ⟨tv', true, rfl, m, hm, .inl ⟨R', l', rfl, hu, ho'⟩⟩
  · obtain ⟨m, hm, _⟩ := h.pu.rank.skip
    exact ⟨tv', false, rfl, m, hm, .inr ⟨R', rfl, h1, h2, h3, h4, h5, ho'⟩⟩
set_option maxRecDepth 100000 in
set_option maxHeartbeats 2000000 in
theorem unify_any (B bt : Nat) (R : List Nx) (v : Value) (a b : Nat) (w : World) (h : TabAt B w bt R v) (ht : Tok R) (hc : ∀ n ∈ R, n.s = false) (ha : a < R.length + 3) (hb : b < R.length + 3) :
    Calls Tryd.prog 13 #[.pointer (some ⟨bt, 0, none⟩), .int .i64 a, .int .i64 b] w (OneT B bt R v a b w) := by
  have hf := h.few
  obtain ⟨n0, hr⟩ := Ranked.some ht.good [⟨a, b, false⟩]
  have hst : LoopU B bt R v a b w n0 (.slice (some ⟨w.heap.size, 0, none⟩) 1 1) (.bool true) (w.alloc (.cells #[.int .i64 a, .int .i64 b, .bool false] 69)) :=
    .inl ⟨R, [⟨a, b, false⟩], rfl, ⟨h.below ((Below.refl _ w).alloc (Nat.le_refl _) _), World.ownsRow_lit w #[.int .i64 a, .int .i64 b, .bool false] 1 (Nat.le_refl _) (by unfold maxLen; omega) rfl, ⟨ht, hc, rfl, Todo.start ht.good (by rw [abs_len]; exact ha) (by rw [abs_len]; exact hb), hr, Stk.start _ a b⟩, by simp⟩, Ow.of_below ((Below.refl _ w).alloc (Nat.le_refl _) _)⟩
  have H := Lib.hid h; have HST := Lib.hid hst; have HT := Lib.hid ht
  clear h hst ht hr hc
  go_enter Tryd.func13, Tryd.ntmps13
  go_wp2_with fail
  refine (has_any B bt R v a w H.out (by omega) (by omega)).mono ?_
  rintro e w1 ⟨rfl, rfl⟩
  rw [decide_eq_true (show 0 ≤ (a : Int) ∧ (a : Int) < R.length + 3 by omega)]
  go_wp2_with fail
  refine (has_any B bt R v b w H.out (by omega) (by omega)).mono ?_
  rintro e w1 ⟨rfl, rfl⟩
  rw [decide_eq_true (show 0 ≤ (b : Int) ∧ (b : Int) < R.length + 3 by omega)]
  go_wp2
  generalize w.alloc (.cells #[.int .i64 a, .int .i64 b, .bool false] 69) = W0 at HST ⊢
  clear H
  go_loopg [7, 8] n0 (fun k tv okv wr => LoopU B bt R v a b w k tv okv wr)
  case atStart => exact HST.out
  case round =>
    rcases hrel with ⟨R2, l, rfl, hu, how⟩ | ⟨R2, rfl, h1, h2, h3, h4, h5, h6⟩
    · cases l with
      | nil =>
        obtain ⟨ta, tc, rfl⟩ := own_form hu.own
        have hres : OneT B bt R v a b w (.returned (.int .i64 0)) wr :=
          ⟨true, R2, rfl, hu.tab, hu.pu.tok, hu.pu.clear, hu.pu.len, ⟨by rw [abs_len, abs_len, hu.pu.len], hu.pu.tok.good, fun _ σ => (hu.pu.todo.done σ).symm, fun e => (by cases e)⟩, how⟩
        have HRES := Lib.hid hres
        clear hres hu how
        go_wp2
        go_ret
        exact HRES.out
      | cons s l =>
        obtain ⟨g, cap, rfl, hg, hcap⟩ := row_some hu.own (by simp)
        have hc2 := unify2_any B bt R v a b w gk R2 s l g cap wr hu how
        have key : ∀ j, j < 3 → ∀ x, (cell3 s)[j]? = some x → wr.cell? ⟨g, l.length * 3 + j, none⟩ = some x := fun j hj x hx => own_cell hu.own (by
          rw [List.reverse_cons, cells3_app, List.getElem?_append_right (by rw [cells3_len, List.length_reverse]; omega), cells3_len, List.length_reverse, Nat.add_sub_cancel_left]
          simpa [cells3] using hx)
        have c0 := key 0 (by omega) _ rfl
        have c1 := key 1 (by omega) _ rfl
        have c2 := key 2 (by omega) _ rfl
        rw [List.length_cons] at hcap ⊢
        have hlb : l.length ≤ 300000 := by
          have h1 := hu.pu.stk.short hu.pu.todo
          have h2 := hu.tab.few
          rw [List.length_cons, abs_len] at h1
          omega
        unfold sval at hc2
        rw [Nat.add_zero] at c0
        have HC2 := Lib.hid hc2
        clear hc2 hu how key
        go_wp2
        go_region_with (go_at_call 24; refine HC2.out.mono ?_; rintro e w1 ⟨tv', okb, rfl, k', hk', hL⟩)
        all_goals
          have HL := Lib.hid hL
          have HK := Lib.hid hk'
          clear hL hk'
          go_wp2
          go_roundg k'
          case measure => exact HK.out
          case rel => exact HL.out
    · have hres : OneT B bt R v a b w (.returned (.int .i64 10)) wr :=
          ⟨false, R2, rfl, h1, h2, h3, h4, ⟨by rw [abs_len, abs_len, h4], h2.good, fun e => (by cases e), fun _ σ hσ e => h5 σ ⟨hσ, e⟩⟩, h6⟩
      have HRES := Lib.hid hres
      clear hres h1 h2 h3 h4 h5 h6
      go_wp2
      go_ret
      exact HRES.out
end Go.Proofs.YtjbihammbmiieaaDoor
