/- Types in memory: a row of nodes, as a table. -/
import Derived.Test.YtjbihammbmiieaaDoorGen
import Derived.Test.YtjbihammbmiieaaDoorUs
namespace Go.Proofs.YtjbihammbmiieaaDoor
open Go.RowKit Un

/-- a node: its kind (1 open, 2 a pair, 3 told), whether it was seen, its parts -/
structure Nx where
  k : Nat
  s : Bool
  f : Nat
  g : Nat
def Nx.tm (n : Nx) : Tm := if n.k = 3 then told n.f else if n.k = 2 then ⟨4, n.f, n.g, none⟩ else ⟨0, 0, 0, none⟩
def base3 : Ts := [⟨1, 0, 0, none⟩, ⟨2, 0, 0, none⟩, ⟨3, 0, 0, none⟩]
def abs (R : List Nx) : Ts := base3 ++ R.map Nx.tm
def nx (R : List Nx) (x : Nat) : Nx := if x < 3 then ⟨0, false, 0, 0⟩ else R.getD (x - 3) ⟨0, false, 0, 0⟩
theorem abs_len (R : List Nx) : (abs R).length = R.length + 3 := by simp [abs, base3]
theorem abs_low {R : List Nx} {x : Nat} (h : x < 3) : tm (abs R) x = ⟨x + 1, 0, 0, none⟩ := by
  rcases (show x = 0 ∨ x = 1 ∨ x = 2 by omega) with rfl | rfl | rfl <;> rfl
theorem nx_low {R : List Nx} {x : Nat} (h : x < 3) : nx R x = ⟨0, false, 0, 0⟩ := if_pos h
theorem nx_get {R : List Nx} {x : Nat} (h : 3 ≤ x) (hx : x < R.length + 3) : R[x - 3]? = some (nx R x) := by
  simp [nx, show ¬ x < 3 by omega, List.getD_eq_getElem?_getD, List.getElem?_eq_getElem (show x - 3 < R.length by omega)]
theorem abs_high {R : List Nx} {x : Nat} (h : 3 ≤ x) (hx : x < R.length + 3) : tm (abs R) x = (nx R x).tm := by
  have e := nx_get h hx
  have e3 : base3.length = 3 := rfl
  simp only [tm, abs, List.getD_eq_getElem?_getD, List.getElem?_append_right (show base3.length ≤ x by rw [e3]; exact h), e3, List.getElem?_map, e]
  rfl
theorem abs_snoc (R : List Nx) (n : Nx) : abs (R ++ [n]) = abs R ++ [n.tm] := by simp [abs]
theorem abs_set (R : List Nx) (i : Nat) (n : Nx) : abs (R.set i n) = (abs R).set (i + 3) n.tm := by
  rw [abs, abs, List.set_append_right (i + 3) n.tm (by simp [base3]), List.map_set]
  simp [base3]
theorem nx_set {R : List Nx} {x y : Nat} (n : Nx) (h : 3 ≤ x) (hx : x < R.length + 3) : nx (R.set (x - 3) n) y = if y = x then n else nx R y := by
  by_cases hy : y < 3
  · rw [nx_low hy, nx_low hy, if_neg (by omega)]
  · simp only [nx, hy, if_false, List.getD_eq_getElem?_getD, List.getElem?_set]
    by_cases e : x = y
    · subst e; simp [show x - 3 < R.length by omega]
    · rw [if_neg (by omega), if_neg (fun h => e h.symm)]

/-- a table in order -/
structure Tok (R : List Nx) : Prop where
  good : Un.Good (abs R)
  kind : ∀ n ∈ R, 1 ≤ n.k ∧ n.k ≤ 3
  told : ∀ n ∈ R, n.k = 3 → n.s = false
theorem nx_mem {R : List Nx} {x : Nat} (h : 3 ≤ x) (hx : x < R.length + 3) : nx R x ∈ R := List.mem_of_getElem? (nx_get h hx)
theorem Tok.uniq {R : List Nx} : Uniq (abs R) := fun x hx h0 h4 => by
  by_cases h : x < 3
  · rw [abs_low h]
  · rw [abs_len] at hx
    rw [abs_high (by omega) hx] at h0 h4
    unfold Nx.tm at h0 h4
    split at h0
    · exact absurd rfl h0
    · split at h0
      · rename_i h1 h2; rw [if_neg h1, if_pos h2] at h4; exact absurd rfl h4
      · exact absurd rfl h0
section
variable {R : List Nx} {x : Nat}
/-- told: by its kind -/
theorem nx_told (h : (nx R x).k = 3) : 3 ≤ x ∧ x < R.length + 3 ∧ (tm (abs R) x).is_ = some (nx R x).f := by
  have h3 : 3 ≤ x := Nat.le_of_not_lt fun hl => by rw [nx_low hl] at h; cases h
  have hx : x < R.length + 3 := Nat.lt_of_not_le fun hl => by
    simp only [nx, show ¬ x < 3 by omega, if_false, List.getD_eq_getElem?_getD, List.getElem?_eq_none (show R.length ≤ x - 3 by omega)] at h
    cases h
  refine ⟨h3, hx, ?_⟩
  rw [abs_high h3 hx, Nx.tm, if_pos h]
theorem nx_root (h : (nx R x).k ≠ 3) (hx : x < R.length + 3) : (tm (abs R) x).is_ = none := by
  by_cases h3 : x < 3
  · rw [abs_low h3]
  · rw [abs_high (by omega) hx, Nx.tm, if_neg h]; split <;> rfl
theorem nx_pair (h : (nx R x).k = 2) : 3 ≤ x ∧ x < R.length + 3 ∧ tm (abs R) x = ⟨4, (nx R x).f, (nx R x).g, none⟩ := by
  have h3 : 3 ≤ x := Nat.le_of_not_lt fun hl => by rw [nx_low hl] at h; cases h
  have hx : x < R.length + 3 := Nat.lt_of_not_le fun hl => by
    simp only [nx, show ¬ x < 3 by omega, if_false, List.getD_eq_getElem?_getD, List.getElem?_eq_none (show R.length ≤ x - 3 by omega)] at h
    cases h
  refine ⟨h3, hx, ?_⟩
  rw [abs_high h3 hx, Nx.tm, if_neg (by omega), if_pos h]
theorem nx_open (h : (nx R x).k = 1) : 3 ≤ x ∧ x < R.length + 3 ∧ tm (abs R) x = ⟨0, 0, 0, none⟩ := by
  have h3 : 3 ≤ x := Nat.le_of_not_lt fun hl => by rw [nx_low hl] at h; cases h
  have hx : x < R.length + 3 := Nat.lt_of_not_le fun hl => by
    simp only [nx, show ¬ x < 3 by omega, if_false, List.getD_eq_getElem?_getD, List.getElem?_eq_none (show R.length ≤ x - 3 by omega)] at h
    cases h
  refine ⟨h3, hx, ?_⟩
  rw [abs_high h3 hx, Nx.tm, if_neg (by omega), if_neg (by omega)]
theorem Tok.range (h : Tok R) (hx : x < R.length + 3) : ((nx R x).k = 0 ∧ x < 3) ∨ ((nx R x).k = 1 ∧ 3 ≤ x) ∨ ((nx R x).k = 2 ∧ 3 ≤ x) ∨ ((nx R x).k = 3 ∧ 3 ≤ x) := by
  by_cases h3 : x < 3
  · exact .inl ⟨by rw [nx_low h3], h3⟩
  · have := h.kind _ (nx_mem (by omega) hx); omega
end

def nval (n : Nx) : Value := .agg #[.int .u8 n.k, .bool n.s, .int .i64 n.f, .int .i64 n.g]
def cell4 (n : Nx) : List Value := [.int .u8 n.k, .bool n.s, .int .i64 n.f, .int .i64 n.g]
def cells4 (R : List Nx) : List Value := R.flatMap cell4
theorem cells4_len (l : List Nx) : (cells4 l).length = l.length * 4 := by
  induction l with
  | nil => rfl
  | cons s l ih => simp only [cells4, List.flatMap_cons, List.length_append, List.length_cons] at ih ⊢; rw [ih]; simp only [cell4, List.length_cons, List.length_nil]; omega
theorem cells4_snoc (l : List Nx) (s : Nx) : cells4 (l ++ [s]) = cells4 l ++ cell4 s := by simp [cells4]
theorem cells4_get {l : List Nx} {i : Nat} {s : Nx} (h : l[i]? = some s) (j : Nat) (hj : j < 4) : (cells4 l)[i * 4 + j]? = (cell4 s)[j]? := by
  induction l generalizing i with
  | nil => simp at h
  | cons q l ih =>
    have e : cells4 (q :: l) = cell4 q ++ cells4 l := rfl
    cases i with
    | zero =>
      simp at h; subst h
      rw [e, List.getElem?_append_left (by simp [cell4]; omega)]; simp
    | succ i =>
      simp at h
      rw [e, List.getElem?_append_right (by simp [cell4]; omega)]
      rw [show (i + 1) * 4 + j - (cell4 q).length = i * 4 + j by simp [cell4]; omega]
      exact ih h
theorem cells4_set : ∀ (l : List Nx) (i : Nat) (n : Nx), i < l.length → cells4 (l.set i n) = ((((cells4 l).set (i * 4) (.int .u8 n.k)).set (i * 4 + 1) (.bool n.s)).set (i * 4 + 2) (.int .i64 n.f)).set (i * 4 + 3) (.int .i64 n.g)
  | [], i, _, h => by simp at h
  | q :: l, 0, n, _ => rfl
  | q :: l, i + 1, n, h => by
    have ih := cells4_set l i n (by simpa using h)
    rw [List.set_cons_succ]
    show cell4 q ++ cells4 (l.set i n) = _
    rw [ih, show cells4 (q :: l) = cell4 q ++ cells4 l from rfl, show (i + 1) * 4 = i * 4 + 4 by omega]
    simp only [cell4, List.cons_append, List.nil_append, show i * 4 + 4 + 1 = i * 4 + 1 + 4 by omega, show i * 4 + 4 + 2 = i * 4 + 2 + 4 by omega, show i * 4 + 4 + 3 = i * 4 + 3 + 4 by omega, List.set_cons_succ]
theorem cells4_seen : ∀ (l : List Nx) (i : Nat) (n : Nx) (b : Bool), l[i]? = some n → cells4 (l.set i ⟨n.k, b, n.f, n.g⟩) = (cells4 l).set (i * 4 + 1) (.bool b)
  | [], i, _, _, h => by simp at h
  | q :: l, 0, n, b, h => by simp at h; subst h; rfl
  | q :: l, i + 1, n, b, h => by
    have ih := cells4_seen l i n b (by simpa using h)
    rw [List.set_cons_succ]
    show cell4 q ++ cells4 (l.set i _) = _
    rw [ih, show cells4 (q :: l) = cell4 q ++ cells4 l from rfl, show (i + 1) * 4 + 1 = i * 4 + 1 + 4 by omega]
    simp only [cell4, List.cons_append, List.nil_append, List.set_cons_succ]

/-- types that lie at bt, with their row of nodes, from B on -/
structure TabAt (B : Nat) (w : World) (bt : Nat) (R : List Nx) (v : Value) : Prop where
  hB : B ≤ w.heap.size
  lo : B ≤ bt
  blk : w.heap[bt]? = some (.cells #[v] 60 (0, 0))
  own : w.ownsRow B 66 4 v R.length (cells4 R)
  few : R.length ≤ 100000
def Tab (B : Nat) (w : World) (bt : Nat) (R : List Nx) : Prop := ∃ v, TabAt B w bt R v
/-- what types may turn -/
def FT (B : Nat) (k : Nat) (o : Obj) : Prop := B ≤ k ∧ ∃ cs t, o = .cells cs t (0, 0) ∧ (t = 60 ∨ t = 66)
theorem TabAt.lt {B : Nat} {w : World} {bt : Nat} {R : List Nx} {v : Value} (h : TabAt B w bt R v) : bt < w.heap.size := lt_of_heap h.blk
theorem TabAt.cell {B : Nat} {w : World} {bt : Nat} {R : List Nx} {v : Value} (h : TabAt B w bt R v) : w.cell? ⟨bt, 0, none⟩ = some v := (blk_cell h.blk 0).trans rfl
theorem TabAt.fz {B : Nat} {w : World} {bt : Nat} {R : List Nx} {v : Value} (h : TabAt B w bt R v) : w.frozen? ⟨bt, 0, none⟩ = false := blk_frozen h.blk 0
theorem TabAt.below {B : Nat} {w w' : World} {bt : Nat} {R : List Nx} {v : Value} (h : TabAt B w bt R v) (k : Below w.heap.size w w') : TabAt B w' bt R v :=
  ⟨Nat.le_trans h.hB k.size, h.lo, (k.block _ h.lt).trans h.blk, own_below h.own k, h.few⟩
theorem Tab.below {B : Nat} {w w' : World} {bt : Nat} {R : List Nx} (h : Tab B w bt R) (k : Below w.heap.size w w') : Tab B w' bt R := by
  obtain ⟨v, h⟩ := h; exact ⟨v, h.below k⟩
theorem TabAt.kept {B : Nat} {w w' : World} {bt : Nat} {R : List Nx} {v : Value} {p : Nat → Obj → Prop} (h : TabAt B w bt R v) (k : Fr p w w') (h1 : ∀ j cs, B ≤ j → ¬ p j (.cells cs 60 (0, 0))) (h2 : ∀ j cs, B ≤ j → ¬ p j (.cells cs 66 (0, 0))) : TabAt B w' bt R v :=
  ⟨Nat.le_trans h.hB k.size, h.lo, k.heap h.blk (h1 _ _ h.lo), k.own h.own h2, h.few⟩
theorem TabAt.ne {B : Nat} {w : World} {bt : Nat} {R : List Nx} {v : Value} (h : TabAt B w bt R v) : v.ownBlock ≠ some bt := fun e => by
  obtain ⟨_, cur, e1⟩ := own_tag h.own e
  rw [h.blk] at e1; injection e1 with e1; injection e1 with _ e1; exact absurd e1 (by decide)
theorem TabAt.slice {B : Nat} {w : World} {bt : Nat} {R : List Nx} {v : Value} (h : TabAt B w bt R v) : ∃ ao cap, v = .slice ao R.length cap ∧ R.length ≤ cap := by
  obtain ⟨ka, kc, rfl⟩ := own_form h.own
  exact ⟨ka, kc, rfl, own_room h.own⟩
/-- where there is a node, the row has a block -/
theorem TabAt.row {B : Nat} {w : World} {bt : Nat} {R : List Nx} {v : Value} (h : TabAt B w bt R v) (h0 : 0 < R.length) : ∃ g cap, v = .slice (some ⟨g, 0, none⟩) R.length cap ∧ B ≤ g ∧ g ≠ bt ∧ R.length ≤ cap := by
  have hn := h.ne
  rcases h.own.2 with ⟨rfl, h1⟩ | ⟨g, cap, cur, rfl, hb, hg, hc, _⟩
  · omega
  · exact ⟨g, cap, rfl, hb, fun e => hn (by rw [e]; rfl), hc⟩
theorem TabAt.node {B : Nat} {w : World} {bt : Nat} {R : List Nx} {g cap : Nat} (h : TabAt B w bt R (.slice (some ⟨g, 0, none⟩) R.length cap)) {x : Nat} (h3 : 3 ≤ x) (hx : x < R.length + 3) :
    w.cell? ⟨g, (x - 3) * 4, none⟩ = some (.int .u8 (nx R x).k) ∧ w.cell? ⟨g, (x - 3) * 4 + 1, none⟩ = some (.bool (nx R x).s) ∧ w.cell? ⟨g, (x - 3) * 4 + 2, none⟩ = some (.int .i64 (nx R x).f) ∧ w.cell? ⟨g, (x - 3) * 4 + 3, none⟩ = some (.int .i64 (nx R x).g) := by
  have key : ∀ j, j < 4 → ∀ u, (cell4 (nx R x))[j]? = some u → w.cell? ⟨g, (x - 3) * 4 + j, none⟩ = some u := fun j hj u hu => own_cell h.own (by rw [cells4_get (nx_get h3 hx) j hj]; exact hu)
  exact ⟨key 0 (by omega) _ rfl, key 1 (by omega) _ rfl, key 2 (by omega) _ rfl, key 3 (by omega) _ rfl⟩
theorem TabAt.frozen {B : Nat} {w : World} {bt : Nat} {R : List Nx} {g cap : Nat} (h : TabAt B w bt R (.slice (some ⟨g, 0, none⟩) R.length cap)) (j : Nat) : w.frozen? ⟨g, j, none⟩ = false := h.own.frozenAt j
theorem ft_types (B : Nat) {k : Nat} (h : B ≤ k) (cs : Array Value) : FT B k (.cells cs 60 (0, 0)) := ⟨h, cs, _, rfl, .inl rfl⟩
theorem ft_node (B : Nat) {k : Nat} (h : B ≤ k) (cs : Array Value) : FT B k (.cells cs 66 (0, 0)) := ⟨h, cs, _, rfl, .inr rfl⟩
/-- nothing but the row is turned -/
def Ow (v : Value) (w w' : World) : Prop := But (fun k => v.ownBlock = some k) w w'
theorem Ow.refl (v : Value) (w : World) : Ow v w w := But.refl _ _
theorem Ow.trans {v : Value} {a b c : World} (h : Ow v a b) (k : Ow v b c) : Ow v a c := But.trans h k
theorem Ow.of_below {v : Value} {a b : World} (h : Below a.heap.size a b) : Ow v a b := But.of_below h
theorem Ow.size {v : Value} {a b : World} (h : Ow v a b) : a.heap.size ≤ b.heap.size := But.size h
theorem Ow.drew {v : Value} {a b : World} (h : Ow v a b) : Ow v a b.drew := ⟨h.os, h.tape, h.output, h.size, h.block⟩
theorem Ow.undrew {v : Value} {a b : World} (h : Ow v a.drew b) : Ow v a b := ⟨h.os, h.tape, h.output, h.size, h.block⟩
theorem Ow.fr {B bt : Nat} {R : List Nx} {v : Value} {a b : World} (h : Ow v a b) (ht : TabAt B a bt R v) : Fr (FT B) a b :=
  But.mono h (fun k _ e => by obtain ⟨h1, cur, h2⟩ := own_tag ht.own e; exact ⟨_, h2, ft_node B h1 cur⟩)
theorem Ow.heap {v : Value} {a b : World} (h : Ow v a b) {k : Nat} {o : Obj} (hk : a.heap[k]? = some o) (hp : v.ownBlock ≠ some k) : b.heap[k]? = some o := But.heap h hk hp
theorem Ow.own {v : Value} {a b : World} (h : Ow v a b) {base : Nat} {t : TypeId} {z : Nat} {u : Value} {n : Nat} {xs : List Value} (ho : a.ownsRow base t z u n xs) (hne : ∀ g, u.ownBlock = some g → v.ownBlock ≠ some g) : b.ownsRow base t z u n xs := But.own h ho hne
theorem Ow.set (w : World) (g n cap i : Nat) (u : Value) : Ow (.slice (some ⟨g, 0, none⟩) n cap) w (w.setCell ⟨g, i, none⟩ u) := But.setCell (p := fun k => (Value.slice (some ⟨g, 0, none⟩) n cap).ownBlock = some k) w (by rfl) i u
/-- the row lies below what comes -/
theorem TabAt.far {B bt : Nat} {R : List Nx} {v : Value} {w : World} (h : TabAt B w bt R v) {k : Nat} (hk : w.heap.size ≤ k) : v.ownBlock ≠ some k := fun e => by
  obtain ⟨_, cur, h2⟩ := own_tag h.own e
  have := lt_of_heap h2; omega
theorem TabAt.but {B bt nb : Nat} {R : List Nx} {v : Value} {w w' : World} (h : TabAt B w bt R v) (k : But (fun q => q = nb) w w') (h1 : bt ≠ nb) (h2 : v.ownBlock ≠ some nb) : TabAt B w' bt R v :=
  ⟨Nat.le_trans h.hB k.size, h.lo, k.heap h.blk h1, k.own h.own (fun g hg e => h2 (by rw [← e]; exact hg)), h.few⟩
theorem Ow.fresh {v : Value} {w a b : World} {nb : Nat} (h : Ow v w a) (k : But (fun q => q = nb) a b) (hn : w.heap.size ≤ nb) : Ow v w b :=
  ⟨k.os.trans h.os, k.tape.trans h.tape, k.output.trans h.output, Nat.le_trans h.size k.size, fun i hi hp => (k.block i (Nat.lt_of_lt_of_le hi h.size) (by omega)).trans (h.block i hi hp)⟩
theorem but_four (w : World) (b i : Nat) (v0 v1 v2 v3 : Value) : But (fun q => q = b) w ((((w.setCell ⟨b, i, none⟩ v0).setCell ⟨b, i + 1, none⟩ v1).setCell ⟨b, i + 2, none⟩ v2).setCell ⟨b, i + 3, none⟩ v3) :=
  (((But.setCell (p := fun q => q = b) w rfl i v0).trans (But.setCell (p := fun q => q = b) _ rfl (i + 1) v1)).trans (But.setCell (p := fun q => q = b) _ rfl (i + 2) v2)).trans (But.setCell (p := fun q => q = b) _ rfl (i + 3) v3)
theorem But.drew {p : Nat → Prop} {a b : World} (h : But p a b) : But p a b.drew := ⟨h.os, h.tape, h.output, h.size, h.block⟩
/-- a node, stored -/
theorem TabAt.set4 {B : Nat} {w : World} {bt : Nat} {R : List Nx} {g cap : Nat} (h : TabAt B w bt R (.slice (some ⟨g, 0, none⟩) R.length cap)) {x : Nat} (n : Nx) (h3 : 3 ≤ x) (hx : x < R.length + 3) :
    TabAt B ((((w.setCell ⟨g, (x - 3) * 4, none⟩ (.int .u8 n.k)).setCell ⟨g, (x - 3) * 4 + 1, none⟩ (.bool n.s)).setCell ⟨g, (x - 3) * 4 + 2, none⟩ (.int .i64 n.f)).setCell ⟨g, (x - 3) * 4 + 3, none⟩ (.int .i64 n.g)) bt (R.set (x - 3) n) (.slice (some ⟨g, 0, none⟩) R.length cap)
    ∧ Ow (.slice (some ⟨g, 0, none⟩) R.length cap) w ((((w.setCell ⟨g, (x - 3) * 4, none⟩ (.int .u8 n.k)).setCell ⟨g, (x - 3) * 4 + 1, none⟩ (.bool n.s)).setCell ⟨g, (x - 3) * 4 + 2, none⟩ (.int .i64 n.f)).setCell ⟨g, (x - 3) * 4 + 3, none⟩ (.int .i64 n.g)) := by
  obtain ⟨hg, cur, hcur⟩ := own_tag h.own (g := g) rfl
  have hne : bt ≠ g := fun e => h.ne (by rw [e]; rfl)
  have o4 := own_set4 h.own ((x - 3) * 4) (.int .u8 n.k) (.bool n.s) (.int .i64 n.f) (.int .i64 n.g)
  rw [← cells4_set R (x - 3) n (by omega)] at o4
  refine ⟨⟨by have := h.hB; simpa using this, h.lo, ?_, by simpa using o4, by simpa using h.few⟩, ?_⟩
  · rw [blk_other hne, blk_other hne, blk_other hne, blk_other hne]; exact h.blk
  · exact (((Ow.set _ _ _ _ _ _).trans (Ow.set _ _ _ _ _ _)).trans (Ow.set _ _ _ _ _ _)).trans (Ow.set _ _ _ _ _ _)
/-- the mark, stored -/
theorem TabAt.set1 {B : Nat} {w : World} {bt : Nat} {R : List Nx} {g cap : Nat} (h : TabAt B w bt R (.slice (some ⟨g, 0, none⟩) R.length cap)) {x : Nat} (b : Bool) (h3 : 3 ≤ x) (hx : x < R.length + 3) :
    TabAt B (w.setCell ⟨g, (x - 3) * 4 + 1, none⟩ (.bool b)) bt (R.set (x - 3) ⟨(nx R x).k, b, (nx R x).f, (nx R x).g⟩) (.slice (some ⟨g, 0, none⟩) R.length cap)
    ∧ Ow (.slice (some ⟨g, 0, none⟩) R.length cap) w (w.setCell ⟨g, (x - 3) * 4 + 1, none⟩ (.bool b)) := by
  obtain ⟨hg, cur, hcur⟩ := own_tag h.own (g := g) rfl
  have hne : bt ≠ g := fun e => h.ne (by rw [e]; rfl)
  have o1 := (h.own.stored ((x - 3) * 4 + 1) (.bool b)).1
  rw [← cells4_seen R (x - 3) (nx R x) b (nx_get h3 hx)] at o1
  refine ⟨⟨by have := h.hB; simpa using this, h.lo, ?_, by simpa using o1, by simpa using h.few⟩, Ow.set _ _ _ _ _ _⟩
  rw [blk_other hne]; exact h.blk
end Go.Proofs.YtjbihammbmiieaaDoor
