/- The document's terms in memory. -/
import Derived.Test.YtjbihammbmiieaaDoorTf
namespace Go.Proofs.YtjbihammbmiieaaDoor
open Go.RowKit Un

def isv : Option Nat → Int
  | none => -1
  | some b => (b : Int)
def tval (r : Tm) : Value := .agg #[.int .i64 r.kind, .int .i64 r.a, .int .i64 r.b, .int .i64 (isv r.is_)]
def tcell (r : Tm) : List Value := [.int .i64 r.kind, .int .i64 r.a, .int .i64 r.b, .int .i64 (isv r.is_)]
def tcells (T : Ts) : List Value := T.flatMap tcell
theorem tcells_len (l : Ts) : (tcells l).length = l.length * 4 := by
  induction l with
  | nil => rfl
  | cons s l ih => simp only [tcells, List.flatMap_cons, List.length_append, List.length_cons] at ih ⊢; rw [ih]; simp only [tcell, List.length_cons, List.length_nil]; omega
theorem tcells_snoc (l : Ts) (s : Tm) : tcells (l ++ [s]) = tcells l ++ tcell s := by simp [tcells]
theorem tcells_get {l : Ts} {i : Nat} {s : Tm} (h : l[i]? = some s) (j : Nat) (hj : j < 4) : (tcells l)[i * 4 + j]? = (tcell s)[j]? := by
  induction l generalizing i with
  | nil => simp at h
  | cons q l ih =>
    have e : tcells (q :: l) = tcell q ++ tcells l := rfl
    cases i with
    | zero =>
      simp at h; subst h
      rw [e, List.getElem?_append_left (by simp [tcell]; omega)]; simp
    | succ i =>
      simp at h
      rw [e, List.getElem?_append_right (by simp [tcell]; omega)]
      rw [show (i + 1) * 4 + j - (tcell q).length = i * 4 + j by simp [tcell]; omega]
      exact ih h
theorem tcells_is : ∀ (l : Ts) (i : Nat) (n : Tm) (o : Option Nat), l[i]? = some n → tcells (l.set i { n with is_ := o }) = (tcells l).set (i * 4 + 3) (.int .i64 (isv o))
  | [], i, _, _, h => by simp at h
  | q :: l, 0, n, b, h => by simp at h; subst h; rfl
  | q :: l, i + 1, n, b, h => by
    have ih := tcells_is l i n b (by simpa using h)
    rw [List.set_cons_succ]
    show tcell q ++ tcells (l.set i _) = _
    rw [ih, show tcells (q :: l) = tcell q ++ tcells l from rfl, show (i + 1) * 4 + 3 = i * 4 + 3 + 4 by omega]
    simp only [tcell, List.cons_append, List.nil_append, List.set_cons_succ]

structure TermAt (B : Nat) (w : World) (bt : Nat) (T : Ts) (v : Value) : Prop where
  hB : B ≤ w.heap.size
  lo : B ≤ bt
  blk : w.heap[bt]? = some (.cells #[v] 34 (0, 0))
  own : w.ownsRow B 62 4 v T.length (tcells T)
  few : T.length ≤ 100000
  good : Un.Good T
theorem TermAt.lt {B : Nat} {w : World} {bt : Nat} {T : Ts} {v : Value} (h : TermAt B w bt T v) : bt < w.heap.size := lt_of_heap h.blk
theorem TermAt.cell {B : Nat} {w : World} {bt : Nat} {T : Ts} {v : Value} (h : TermAt B w bt T v) : w.cell? ⟨bt, 0, none⟩ = some v := (blk_cell h.blk 0).trans rfl
theorem TermAt.fz {B : Nat} {w : World} {bt : Nat} {T : Ts} {v : Value} (h : TermAt B w bt T v) : w.frozen? ⟨bt, 0, none⟩ = false := blk_frozen h.blk 0
theorem TermAt.below {B : Nat} {w w' : World} {bt : Nat} {T : Ts} {v : Value} (h : TermAt B w bt T v) (k : Below w.heap.size w w') : TermAt B w' bt T v :=
  ⟨Nat.le_trans h.hB k.size, h.lo, (k.block _ h.lt).trans h.blk, own_below h.own k, h.few, h.good⟩
theorem TermAt.ne {B : Nat} {w : World} {bt : Nat} {T : Ts} {v : Value} (h : TermAt B w bt T v) : v.ownBlock ≠ some bt := fun e => by
  obtain ⟨_, cur, e1⟩ := own_tag h.own e
  rw [h.blk] at e1; injection e1 with e1; injection e1 with _ e1; exact absurd e1 (by decide)
theorem TermAt.row {B : Nat} {w : World} {bt : Nat} {T : Ts} {v : Value} (h : TermAt B w bt T v) (h0 : 0 < T.length) : ∃ g cap, v = .slice (some ⟨g, 0, none⟩) T.length cap ∧ B ≤ g ∧ g ≠ bt ∧ T.length ≤ cap := by
  have hn := h.ne
  obtain ⟨g, cap, rfl, h1, h2⟩ := row_some h.own h0
  exact ⟨g, cap, rfl, h1, fun e => hn (by rw [e]; rfl), h2⟩
theorem TermAt.term {B : Nat} {w : World} {bt : Nat} {T : Ts} {g cap : Nat} (h : TermAt B w bt T (.slice (some ⟨g, 0, none⟩) T.length cap)) {x : Nat} (hx : x < T.length) :
    w.cell? ⟨g, x * 4, none⟩ = some (.int .i64 (tm T x).kind) ∧ w.cell? ⟨g, x * 4 + 1, none⟩ = some (.int .i64 (tm T x).a) ∧ w.cell? ⟨g, x * 4 + 2, none⟩ = some (.int .i64 (tm T x).b) ∧ w.cell? ⟨g, x * 4 + 3, none⟩ = some (.int .i64 (isv (tm T x).is_)) := by
  have key : ∀ j, j < 4 → ∀ u, (tcell (tm T x))[j]? = some u → w.cell? ⟨g, x * 4 + j, none⟩ = some u := fun j hj u hu => own_cell h.own (by rw [tcells_get (tm_get hx) j hj]; exact hu)
  exact ⟨key 0 (by omega) _ rfl, key 1 (by omega) _ rfl, key 2 (by omega) _ rfl, key 3 (by omega) _ rfl⟩
theorem TermAt.frozen {B : Nat} {w : World} {bt : Nat} {T : Ts} {g cap : Nat} (h : TermAt B w bt T (.slice (some ⟨g, 0, none⟩) T.length cap)) (j : Nat) : w.frozen? ⟨g, j, none⟩ = false := h.own.frozenAt j
/-- told -/
theorem TermAt.set {B : Nat} {w : World} {bt : Nat} {T : Ts} {g cap : Nat} (h : TermAt B w bt T (.slice (some ⟨g, 0, none⟩) T.length cap)) {x b : Nat} (hx : x < T.length) (hg : Un.Good (bind T x b)) :
    TermAt B (w.setCell ⟨g, x * 4 + 3, none⟩ (.int .i64 b)) bt (bind T x b) (.slice (some ⟨g, 0, none⟩) T.length cap) ∧ Ow (.slice (some ⟨g, 0, none⟩) T.length cap) w (w.setCell ⟨g, x * 4 + 3, none⟩ (.int .i64 b)) := by
  obtain ⟨hg0, cur, hcur⟩ := own_tag h.own (g := g) rfl
  have hne : bt ≠ g := fun e => h.ne (by rw [e]; rfl)
  have o1 := (h.own.stored (x * 4 + 3) (.int .i64 b)).1
  have e : tcells (bind T x b) = (tcells T).set (x * 4 + 3) (.int .i64 b) := tcells_is T x (tm T x) (some b) (tm_get hx)
  rw [← e] at o1
  refine ⟨⟨by have := h.hB; simpa using this, h.lo, by rw [blk_other hne]; exact h.blk, by rw [bind_len]; exact o1, by rw [bind_len]; exact h.few, hg⟩, Ow.set _ _ _ _ _ _⟩

set_option maxRecDepth 100000 in
/-- what it is -/
theorem rfind_any (B bt : Nat) (T : Ts) (v : Value) (x y m : Nat) (w : World) (h : TermAt B w bt T v) (hx : x < T.length) (hto : To T m x y) : Calls Tryd.prog 25 #[.pointer (some ⟨bt, 0, none⟩), .int .i64 x] w fun e w' => e = .returned (.int .i64 y) ∧ w = w' := by
  obtain ⟨g, cap, rfl, hg, hne, hcap⟩ := h.row (by omega)
  have hc := h.cell
  have hf := h.few
  have H := Lib.hid h; have TO := Lib.hid hto
  clear h hto
  go_enter Tryd.func25, Tryd.ntmps25
  go_wp2
  go_loopg [1] m (fun k av wr => wr = w ∧ ∃ a : Nat, av = .int .i64 a ∧ a < T.length ∧ To T k a y)
  case atStart => exact ⟨rfl, x, rfl, hx, TO.out⟩
  case round =>
    obtain ⟨rfl, a, rfl, ha, hto⟩ := hrel
    have c3 := (H.out.term ha).2.2.2
    cases hto with
    | here hr =>
      rw [hr] at c3
      have c3' : wr.cell? ⟨g, _ * 4 + 3, none⟩ = some (.int .i64 (-1)) := c3
      clear c3
      go_wp2
      go_ret
      exact ⟨rfl, rfl⟩
    | @step k _ b _ hr hk =>
      rw [hr] at c3
      have c3' : wr.cell? ⟨g, a * 4 + 3, none⟩ = some (.int .i64 (b : Int)) := c3
      have hb := (H.out.good.wf.is_ a b ha hr).2
      have HK := Lib.hid hk
      clear c3 hr hk
      go_wp2
      go_roundg k
      case measure => exact Nat.lt_succ_self _
      case rel => exact ⟨rfl, b, rfl, hb, HK.out⟩
theorem good_base : Un.Good base3 := by
  have hl : base3.length = 3 := rfl
  have e : ∀ x, x < 3 → tm base3 x = ⟨x + 1, 0, 0, none⟩ := fun x hx => abs_low (R := []) hx
  refine ⟨⟨fun x hx => ?_, fun x hx k => ?_, fun x b hx k => ?_⟩, fun x hx => ?_⟩
  · rw [e x hx]; have : x < 3 := hx; show x + 1 ≤ 4; omega
  · rw [e x hx] at k; have k' : x + 1 = 4 := k; have : x < 3 := hx; omega
  · rw [e x hx] at k; cases k
  · have hx' : x < 3 := hx
    rcases (show x = 0 ∨ x = 1 ∨ x = 2 by omega) with rfl | rfl | rfl
    · exact ⟨_, .int rfl rfl⟩
    · exact ⟨_, .bool rfl rfl⟩
    · exact ⟨_, .unit rfl rfl⟩
theorem rnew_any (B : Nat) (w : World) (hB : B ≤ w.heap.size) : Calls Tryd.prog 8 #[] w fun e w' => ∃ bt v, e = .returned (.pointer (some ⟨bt, 0, none⟩)) ∧ w.heap.size ≤ bt ∧ TermAt B w' bt base3 v ∧ Below w.heap.size w w' := by
  go_enter Tryd.func8, Tryd.ntmps8
  go_wp2
  go_ret
  have ho := World.ownsRow_lit (e := 62) (size := 4) w #[.int .i64 1, .int .i64 0, .int .i64 0, .int .i64 (-1), .int .i64 2, .int .i64 0, .int .i64 0, .int .i64 (-1), .int .i64 3, .int .i64 0, .int .i64 0, .int .i64 (-1)] 3 hB (by unfold maxLen; omega) rfl
  refine ⟨w.heap.size + 1, .slice (some ⟨w.heap.size, 0, none⟩) 3 3, rfl, by omega, ⟨by simp; omega, by omega, ?_, ho.alloc _, by decide, good_base⟩, ((Below.refl _ w).alloc (Nat.le_refl _) _).alloc (by simp) _⟩
  have := blk_new (w.alloc (.cells #[.int .i64 1, .int .i64 0, .int .i64 0, .int .i64 (-1), .int .i64 2, .int .i64 0, .int .i64 0, .int .i64 (-1), .int .i64 3, .int .i64 0, .int .i64 0, .int .i64 (-1)] 62)) (.cells #[.slice (some ⟨w.heap.size, 0, none⟩) 3 3] 34)
  simpa using this
theorem Tryd.info62 : (Tryd.prog.info? 62).map (fun i => (i.zero, i.size, i.bytes)) = some (some (.agg #[.int .i64 0, .int .i64 0, .int .i64 0, .int .i64 0]), 4, 32) := by kernel_rfl
/-- what terms may turn -/
def FR (B : Nat) (k : Nat) (o : Obj) : Prop := B ≤ k ∧ ∃ cs t, o = .cells cs t (0, 0) ∧ (t = 34 ∨ t = 62)
theorem Ow.fr10 {B bt : Nat} {T : Ts} {v : Value} {a b : World} (h : Ow v a b) (ht : TermAt B a bt T v) : Fr (FR B) a b :=
  But.mono h (fun k _ e => by obtain ⟨h1, cur, h2⟩ := own_tag ht.own e; exact ⟨_, h2, h1, cur, _, rfl, .inr rfl⟩)
theorem TermAt.grow {B : Nat} {w w2 : World} {bt : Nat} {T : Ts} {v v' : Value} {n : Tm} (h : TermAt B w bt T v) (hl : T.length < 100000) (ho : w2.ownsRow B 62 4 v' (T.length + 1) (tcells T ++ tcell n)) (hg : w.grownBy w2 v.ownBlock) (hn : Un.New T n) :
    TermAt B (w2.setCell ⟨bt, 0, none⟩ v') bt (T ++ [n]) v' ∧ w2.heap[bt]? = some (.cells #[v] 34 (0, 0)) ∧ Fr (FR B) w (w2.setCell ⟨bt, 0, none⟩ v') := by
  have hb : w2.heap[bt]? = some (.cells #[v] 34 (0, 0)) := (hg.block bt h.lt (fun e => h.ne e.symm)).trans h.blk
  have hf : Fr (FR B) w (w2.setCell ⟨bt, 0, none⟩ v') := (Fr.grown h.own hg (fun g cs hg => ⟨hg, cs, _, rfl, .inr rfl⟩)).trans (Fr.set hb ⟨h.lo, _, _, rfl, .inl rfl⟩ 0 v')
  refine ⟨⟨Nat.le_trans h.hB hf.size, h.lo, (blk_set hb 0 v').trans rfl, ?_, by simp; omega, h.good.app hn⟩, hb, hf⟩
  rw [tcells_snoc, List.length_append]
  refine (Fr.set (p := fun k o => k = bt ∧ ∃ cs, o = .cells cs 34 (0, 0)) hb ⟨rfl, _, rfl⟩ 0 v').own ho ?_
  rintro k cs _ ⟨_, cs', e⟩
  injection e with _ e; exact absurd e (by decide)
def RAddP (B bt : Nat) (T : Ts) (n : Tm) (w : World) (e : Ending) (w' : World) : Prop := e = .returned (.int .i64 T.length) ∧ (∃ v', TermAt B w' bt (T ++ [n]) v') ∧ Fr (FR B) w w'
set_option maxRecDepth 100000 in
set_option maxHeartbeats 1000000 in
theorem rvar_any (B bt : Nat) (T : Ts) (v : Value) (w : World) (h : TermAt B w bt T v) (hl : T.length < 100000) : Calls Tryd.prog 10 #[.pointer (some ⟨bt, 0, none⟩)] w (RAddP B bt T ⟨0, 0, 0, none⟩ w) := by
  obtain ⟨ao, cap, rfl⟩ := own_form h.own
  have hc := h.cell
  have hfz := h.fz
  obtain ⟨i0, hi, hz0, hz1, hz2⟩ := info_parts Tryd.info62
  have HI := Lib.hid hi; have HZ := Lib.hid hz0; have HZ1 := Lib.hid hz1; have HZ2 := Lib.hid hz2
  have HH := Lib.hid h
  have hc2 : ∀ X, (w.alloc X).cell? ⟨bt, 0, none⟩ = some (.slice ao T.length cap) := fun X => (HH.out.below ((Below.refl _ w).alloc (Nat.le_refl _) X)).cell
  clear hi hz0 hz1 hz2 h
  go_enter Tryd.func10, Tryd.ntmps10
  go_wp2_with (at_builtin; refine wpList_append_own _ rfl _ _ 32 rfl B 62 i0 _ 4 32 Tryd.underlying32 HI.out HZ.out HZ1.out HZ2.out rfl (by decide) _ T.length (tcells T) rfl (HH.out.own.alloc _) ⟨w.heap.size, 0, none⟩ 1 1 (tcell ⟨0, 0, 0, none⟩) rfl rfl ?c1 ?c2 ?c3 ?c4 ?c5 ?_)
  case c1 => exact World.news_of_block (heap_alloc_new w _)
  case c2 => intro u hu; simp [tcell] at hu; rcases hu with rfl | rfl | rfl | rfl <;> rfl
  case c3 => unfold maxLen; omega
  case c4 => omega
  case c5 => have := HH.out.hB; simp; omega
  intro v' w2 hown hgrow _
  obtain ⟨ao', cap', rfl⟩ := own_form hown
  have hba := (Below.refl _ w).alloc (Nat.le_refl _) (.cells #[.int .i64 0, .int .i64 0, .int .i64 0, .int .i64 (-1)] 62)
  have hG := (HH.out.below hba).grow (n := ⟨0, 0, 0, none⟩) hl hown hgrow (new_var T)
  have hc3 : w2.cell? ⟨bt, 0, none⟩ = some (.slice ao T.length cap) := (blk_cell hG.2.1 0).trans rfl
  have hf3 : w2.frozen? ⟨bt, 0, none⟩ = false := blk_frozen hG.2.1 0
  have hc4 := hG.1.cell
  have HG := Lib.hid hG; have HBA := Lib.hid hba
  clear hG hba hown hgrow hc2 hc hfz
  go_wp2
  go_ret
  exact ⟨ret_int (by omega), ⟨_, HG.out.1⟩, (Fr.of_below HBA.out).trans HG.out.2.2⟩
set_option maxRecDepth 100000 in
set_option maxHeartbeats 1000000 in
theorem rpair_any (B bt : Nat) (T : Ts) (v : Value) (a b : Nat) (w : World) (h : TermAt B w bt T v) (hl : T.length < 100000) (ha : a < T.length) (hb : b < T.length) : Calls Tryd.prog 12 #[.pointer (some ⟨bt, 0, none⟩), .int .i64 a, .int .i64 b] w (RAddP B bt T ⟨4, a, b, none⟩ w) := by
  obtain ⟨ao, cap, rfl⟩ := own_form h.own
  have hc := h.cell
  have hfz := h.fz
  obtain ⟨i0, hi, hz0, hz1, hz2⟩ := info_parts Tryd.info62
  have HI := Lib.hid hi; have HZ := Lib.hid hz0; have HZ1 := Lib.hid hz1; have HZ2 := Lib.hid hz2
  have HH := Lib.hid h
  have hc2 : ∀ X, (w.alloc X).cell? ⟨bt, 0, none⟩ = some (.slice ao T.length cap) := fun X => (HH.out.below ((Below.refl _ w).alloc (Nat.le_refl _) X)).cell
  clear hi hz0 hz1 hz2 h
  go_enter Tryd.func12, Tryd.ntmps12
  go_wp2_with (at_builtin; refine wpList_append_own _ rfl _ _ 32 rfl B 62 i0 _ 4 32 Tryd.underlying32 HI.out HZ.out HZ1.out HZ2.out rfl (by decide) _ T.length (tcells T) rfl (HH.out.own.alloc _) ⟨w.heap.size, 0, none⟩ 1 1 (tcell ⟨4, a, b, none⟩) rfl rfl ?c1 ?c2 ?c3 ?c4 ?c5 ?_)
  case c1 => exact World.news_of_block (heap_alloc_new w _)
  case c2 => intro u hu; simp [tcell] at hu; rcases hu with rfl | rfl | rfl | rfl <;> rfl
  case c3 => unfold maxLen; omega
  case c4 => omega
  case c5 => have := HH.out.hB; simp; omega
  intro v' w2 hown hgrow _
  obtain ⟨ao', cap', rfl⟩ := own_form hown
  have hba := (Below.refl _ w).alloc (Nat.le_refl _) (.cells #[.int .i64 4, .int .i64 a, .int .i64 b, .int .i64 (-1)] 62)
  have hG := (HH.out.below hba).grow (n := ⟨4, a, b, none⟩) hl hown hgrow (new_pair ha hb)
  have hc3 : w2.cell? ⟨bt, 0, none⟩ = some (.slice ao T.length cap) := (blk_cell hG.2.1 0).trans rfl
  have hf3 : w2.frozen? ⟨bt, 0, none⟩ = false := blk_frozen hG.2.1 0
  have hc4 := hG.1.cell
  have HG := Lib.hid hG; have HBA := Lib.hid hba
  clear hG hba hown hgrow hc2 hc hfz
  go_wp2
  go_ret
  exact ⟨ret_int (by omega), ⟨_, HG.out.1⟩, (Fr.of_below HBA.out).trans HG.out.2.2⟩
end Go.Proofs.YtjbihammbmiieaaDoor
