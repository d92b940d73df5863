import Derived.Test.YtdkhkemllmegfaaGreatDoorTTn
import Derived.Test.YtdkhkemllmegfaaGreatDoorTNode
import Derived.ChangeKeysEq
import Derived.Test.YtdkhkemllmegfaaGreatDoorWr
import Derived.BigRegion
import Derived.StillTailTactics

/- Whether two trees' expressions are one, as plain functions. -/
namespace Go.Proofs.YtdkhkemllmegfaaGreatDoor.Tn

/-- two nodes, but for their parts -/
def headB (x y : Nd) : Bool := decide (x.op = y.op) && decide (x.name = y.name) && decide (x.num = y.num) && decide (x.kids.length = y.kids.length)
def sameF (ns ms : List Nd) : Nat → Nat → Nat → Bool
  | 0, _, _ => false
  | u + 1, i, k => headB (nd ns i) (nd ms k) && (List.range (nd ns i).kids.length).all fun j => sameF ns ms u (kid (nd ns i).kids j).toNat (kid (nd ms k).kids j).toNat
def sameB (ns ms : List Nd) (i k : Nat) : Bool := sameF ns ms (i + 1) i k

theorem all_congr {l : List Nat} {f g : Nat → Bool} (h : ∀ j ∈ l, f j = g j) : l.all f = l.all g := by
  induction l with
  | nil => rfl
  | cons a l ih => rw [List.all_cons, List.all_cons, h a (by simp), ih fun j hj => h j (by simp [hj])]
theorem sameF_fuel {ns ms : List Nd} (hw : WF ns) (u : Nat) : ∀ v i k, i < ns.length → i < u → i < v → sameF ns ms u i k = sameF ns ms v i k := by
  induction u with
  | zero => intro v i k _ h; omega
  | succ u ih =>
    intro v i k hi hu hv
    obtain ⟨v, rfl⟩ : ∃ v', v = v' + 1 := ⟨v - 1, by omega⟩
    simp only [sameF]
    congr 1
    refine all_congr fun j hj => ?_
    have hm := kid_lt hw hi (kid_mem (List.mem_range.1 hj))
    exact ih v _ _ (by omega) (by omega) (by omega)
/-- the parts, one by one -/
theorem sameB_eq {ns ms : List Nd} (hw : WF ns) {i k : Nat} (hi : i < ns.length) : sameB ns ms i k = (headB (nd ns i) (nd ms k) && (List.range (nd ns i).kids.length).all fun j => sameB ns ms (kid (nd ns i).kids j).toNat (kid (nd ms k).kids j).toNat) := by
  rw [sameB, sameF]
  congr 1
  refine all_congr fun j hj => ?_
  have hm := kid_lt hw hi (kid_mem (List.mem_range.1 hj))
  exact sameF_fuel hw i _ _ _ (by omega) (by omega) (by omega)
theorem headB_iff {x y : Nd} : headB x y = true ↔ x.op = y.op ∧ x.name = y.name ∧ x.num = y.num ∧ x.kids.length = y.kids.length := by
  simp [headB, and_assoc]
theorem sameB_no {ns ms : List Nd} (hw : WF ns) {i k : Nat} (hi : i < ns.length) (h : headB (nd ns i) (nd ms k) = false) : sameB ns ms i k = false := by rw [sameB_eq hw hi, h]; rfl
theorem sameB_kid {ns ms : List Nd} (hw : WF ns) {i k j : Nat} (hi : i < ns.length) (hj : j < (nd ns i).kids.length) (h : sameB ns ms (kid (nd ns i).kids j).toNat (kid (nd ms k).kids j).toNat = false) : sameB ns ms i k = false := by
  rw [sameB_eq hw hi, Bool.and_eq_false_iff]; right
  rw [List.all_eq_false]; exact ⟨j, List.mem_range.2 hj, by rw [h]; simp⟩
theorem sameB_yes {ns ms : List Nd} (hw : WF ns) {i k : Nat} (hi : i < ns.length) (h : headB (nd ns i) (nd ms k) = true) (hk : ∀ j, j < (nd ns i).kids.length → sameB ns ms (kid (nd ns i).kids j).toNat (kid (nd ms k).kids j).toNat = true) : sameB ns ms i k = true := by
  rw [sameB_eq hw hi, h, Bool.true_and, List.all_eq_true]
  exact fun j hj => hk j (List.mem_range.1 hj)
/-- what is the same has the same head, and the same parts -/
theorem sameB_inv {ns ms : List Nd} (hw : WF ns) {i k : Nat} (hi : i < ns.length) (h : sameB ns ms i k = true) : headB (nd ns i) (nd ms k) = true ∧ ∀ j, j < (nd ns i).kids.length → sameB ns ms (kid (nd ns i).kids j).toNat (kid (nd ms k).kids j).toNat = true := by
  rw [sameB_eq hw hi, Bool.and_eq_true, List.all_eq_true] at h
  exact ⟨h.1, fun j hj => h.2 j (List.mem_range.2 hj)⟩
theorem sameB_refl {ns : List Nd} (hw : WF ns) (i : Nat) : i < ns.length → sameB ns ns i i = true := by
  induction i using Nat.strongRecOn with
  | _ i ih =>
    intro hi
    refine sameB_yes hw hi (by simp [headB]) fun j hj => ?_
    have := kid_lt hw hi (kid_mem hj)
    exact ih _ this.1 (by omega)
end Go.Proofs.YtdkhkemllmegfaaGreatDoor.Tn


/- A map whose keys are pairs of numbers: made, looked up, filled. -/
namespace Go.Proofs.YtdkhkemllmegfaaGreatDoor
open Go.RowKit

def pk (a b : Nat) : Value := .agg #[.int .i64 (a : Int), .int .i64 (b : Int)]
abbrev unitV : Value := .agg #[]
def pents : Nat → List (Nat × Nat) → List MapEntry
  | _, [] => []
  | i, x :: l => ⟨pk x.1 x.2, unitV, i⟩ :: pents (i + 1) l
theorem pents_snoc (x : Nat × Nat) : ∀ (i : Nat) (l : List (Nat × Nat)), pents i (l ++ [x]) = pents i l ++ [⟨pk x.1 x.2, unitV, i + l.length⟩]
  | i, [] => rfl
  | i, a :: l => by
    show ⟨_, _, _⟩ :: pents (i + 1) (l ++ [x]) = _
    rw [pents_snoc x (i + 1) l, List.length_cons, show i + 1 + l.length = i + (l.length + 1) by omega]; rfl
theorem arr_info : (Tryz.prog.info? 3).map (fun i => i.size) = some 1 := by kernel_rfl
theorem arr_under : Tryz.prog.underlying 110 = some (.array 2 3) := by kernel_rfl
theorem known_under : Tryz.prog.underlying 69 = some (.map 110 108) := by kernel_rfl
theorem int_under : Tryz.prog.underlying 3 = some (.int .i64) := by kernel_rfl
theorem int_cells : Tryz.prog.cellsOf 3 = 1 := by kernel_rfl
theorem part0 (a b : Value) (W : World) : (part 3 #[a, b] 0).run Tryz.prog W = .ok a W := by kernel_rfl
theorem part1 (a b : Value) (W : World) : (part 3 #[a, b] 1).run Tryz.prog W = .ok b W := by kernel_rfl
theorem int_eq (d : Nat) (a b : Int) (W : World) : (Op.equalIn (d + 1) 3 (.int .i64 a) (.int .i64 b)).run Tryz.prog W = .ok (a == b) W := by
  simp [Op.equalIn, Sem.run_bind, run_underlying int_under, Result.andThen]
theorem pk_eq (a b c d : Nat) (W : World) : (Op.equal 110 (pk a b) (pk c d)).run Tryz.prog W = .ok (decide ((a, b) = (c, d))) W := by
  obtain ⟨i, hi, _⟩ : ∃ i, Tryz.prog.info? 3 = some i ∧ i.size = 1 := by
    have h := arr_info
    cases hq : Tryz.prog.info? 3 with
    | none => rw [hq] at h; cases h
    | some i => rw [hq] at h; exact ⟨i, rfl, by simpa using h⟩
  rw [Op.equal, show Op.maxDepth = 9999 + 1 from rfl]
  unfold pk
  rw [run_equalIn_array W 9999 _ _ arr_under hi, int_cells]
  show (Op.eqItems 9999 _ 1 _ _ [0, 1]).run _ _ = _
  rw [show (9999 : Nat) = 9998 + 1 from rfl]
  simp only [Op.eqItems, Sem.run_bind, Nat.zero_mul, Nat.one_mul, part0, part1, int_eq, Result.andThen]
  by_cases h1 : a = c
  · subst h1
    by_cases h2 : b = d
    · subst h2; simp [part1, int_eq, Result.andThen]
    · have : ((b : Int) == (d : Int)) = false := by simp; omega
      simp [part1, int_eq, Result.andThen, this, h2]
  · have : ((a : Int) == (c : Int)) = false := by simp; omega
    simp [this, h1]
theorem pk_check (e : Bool) (a b : Nat) (W : World) : (Instr.checkKey e 10000 110 (pk a b)).run Tryz.prog W = .ok () W := by cases e <;> kernel_rfl
theorem pk_asking (a b : Nat) : ∀ (l : List (Nat × Nat)) (i j : Nat) (W : World), ∃ r, (Instr.findAsking 110 (pk a b) (pents i l) j).run Tryz.prog W = .ok r W ∧ (r.isSome = true ↔ (a, b) ∈ l) ∧ (∀ n v, r = some (n, v) → v = unitV)
  | [], _, _, W => ⟨none, rfl, by simp, fun n v e => by cases e⟩
  | x :: l, i, j, W => by
    rw [pents, Instr.findAsking]
    simp only [Sem.run_bind, pk_eq, Result.andThen]
    by_cases h : (a, b) = (x.1, x.2)
    · refine ⟨some (j, unitV), by simp [h], by simp [h], fun n v e => by injection e with e; injection e with _ e; exact e.symm⟩
    · obtain ⟨r, h1, h2, h3⟩ := pk_asking a b l (i + 1) (j + 1) W
      refine ⟨r, by simp only [h, decide_false, Bool.false_eq_true, if_false]; exact h1, ?_, h3⟩
      rw [h2, List.mem_cons]
      constructor
      · exact .inr
      · rintro (e | e)
        · exact absurd e h
        · exact e
theorem pk_find (a b : Nat) (l : List (Nat × Nat)) (W : World) : ∃ r, (Instr.findKey 110 (pk a b) (pents 0 l)).run Tryz.prog W = .ok r W ∧ (r.isSome = true ↔ (a, b) ∈ l) ∧ (∀ n v, r = some (n, v) → v = unitV) := by
  rw [Instr.findKey]
  simp only [Sem.run_bind, run_underlying arr_under, Result.andThen]
  cases l with
  | nil => exact ⟨none, rfl, by simp, fun n v e => by cases e⟩
  | cons x l =>
    rw [show Instr.findNow (.array 2 3) (pk a b) (pents 0 (x :: l)) 0 = none from rfl]
    exact pk_asking a b (x :: l) 0 0 W

theorem pobj_get {r : Nat} {es : Array MapEntry} {cl : Nat} {W : World} (h : W.heap[r]? = some (.map es cl)) : (getObj r).run Tryz.prog W = .ok (.map es cl) W := by simp [getObj, Sem.run, h]
theorem pobj_set {r : Nat} {es : Array MapEntry} {cl : Nat} {W : World} (o : Obj) (h : W.heap[r]? = some (.map es cl)) : (setObj r o).run Tryz.prog W = .ok () { W with heap := W.heap.setIfInBounds r o } := by simp [setObj, Sem.run, h]
theorem punit_zero (W : World) : (zeroValue 108).run Tryz.prog W = .ok unitV W := by kernel_rfl

/-- the pairs that are known -/
def KnownAt (W : World) (r : Nat) (l : List (Nat × Nat)) : Prop := W.heap[r]? = some (.map (pents 0 l).toArray l.length)
theorem pknown_make (w : World) : (Instr.makeMap 69 none).run Tryz.prog w = .ok (.map (some w.heap.size)) (w.alloc (.map #[] 0)) := rfl
theorem pknown_look {r a b : Nat} {l : List (Nat × Nat)} {W : World} (hb : KnownAt W r l) : (Instr.lookup 69 (.map (some r)) (pk a b) true).run Tryz.prog W = .ok (.tuple #[unitV, .bool (decide ((a, b) ∈ l))]) W := by
  obtain ⟨f, h1, h2, h3⟩ := pk_find a b l W
  rw [Instr.lookup]
  simp only [Sem.run_bind, run_underlying known_under, Result.andThen, pobj_get hb, pk_check, h1, Sem.run_pure]
  cases f with
  | none =>
    have : (a, b) ∉ l := fun e => by have := h2.2 e; cases this
    simp only [Sem.run_bind, punit_zero, Result.andThen, Sem.run_pure, if_true, decide_eq_false this]
  | some x =>
    obtain ⟨n, v⟩ := x
    have : (a, b) ∈ l := h2.1 rfl
    simp only [Sem.run_bind, Sem.run_pure, Result.andThen, if_true, decide_eq_true this, h3 n v rfl]
theorem pknown_put {r a b : Nat} {l : List (Nat × Nat)} {W : World} (hb : KnownAt W r l) (h : (a, b) ∉ l) : (Instr.mapUpdate 69 (.map (some r)) (pk a b) unitV).run Tryz.prog W = .ok () { W with heap := W.heap.setIfInBounds r (.map (pents 0 (l ++ [(a, b)])).toArray (l ++ [(a, b)]).length) } := by
  obtain ⟨f, h1, h2, h3⟩ := pk_find a b l W
  rw [Instr.mapUpdate]
  simp only [Sem.run_bind, run_underlying known_under, Result.andThen, pobj_get hb, pk_check, h1]
  cases f with
  | none =>
    simp only [pobj_set _ hb]
    rw [pents_snoc, List.length_append]
    simp
  | some x => exact absurd (h2.1 rfl) h
end Go.Proofs.YtdkhkemllmegfaaGreatDoor


/- Whether two trees' expressions are one. -/
namespace Go.Proofs.YtdkhkemllmegfaaGreatDoor
open Go.RowKit Go.Shelf Tn

theorem KnownAt.but {r : Nat} {l : List (Nat × Nat)} {w w' : World} {p : Nat → Prop} (h : KnownAt w r l) (hb : But p w w') (hp : ¬ p r) : KnownAt w' r l := hb.heap h hp
theorem KnownAt.below {r : Nat} {l : List (Nat × Nat)} {w w' : World} (h : KnownAt w r l) (hb : Below w.heap.size w w') : KnownAt w' r l := (hb.block _ (lt_of_heap h)).trans h
theorem KnownAt.lt {r : Nat} {l : List (Nat × Nat)} {w : World} (h : KnownAt w r l) : r < w.heap.size := lt_of_heap h

theorem KnownAt.put (W : World) (r : Nat) (o : Obj) (h : r < W.heap.size) : But (fun q => q = r) W { W with heap := W.heap.setIfInBounds r o } ∧ ({ W with heap := W.heap.setIfInBounds r o } : World).heap[r]? = some o :=
  ⟨⟨rfl, rfl, rfl, by simp, fun k hk hp => by show (W.heap.setIfInBounds r o)[k]? = _; rw [Array.getElem?_setIfInBounds_ne (fun e => hp e.symm)]⟩, by show (W.heap.setIfInBounds r o)[r]? = _; simp [h]⟩
theorem two_new (W : World) (o1 o2 : Obj) : ((W.alloc o1).alloc o2).drew.heap[W.heap.size]? = some o1 ∧ ((W.alloc o1).alloc o2).drew.heap[W.heap.size + 1]? = some o2 ∧ Below W.heap.size W ((W.alloc o1).alloc o2).drew := by
  refine ⟨?_, ?_, (((Below.refl _ W).alloc (Nat.le_refl _) o1).alloc (by simp) o2).drew⟩
  · show ((W.alloc o1).alloc o2).heap[W.heap.size]? = _
    rw [Below.heap_alloc _ _ _ (by simp)]; exact World.alloc_heap_new W o1
  · show ((W.alloc o1).alloc o2).heap[W.heap.size + 1]? = _
    have := World.alloc_heap_new (W.alloc o1) o2
    rwa [World.size_alloc] at this
theorem tl_ne {x y : ByteArray} (h : x ≠ y) : ¬ x.toList = y.toList := fun e => h (ByteArray.ext (by
  rw [ByteArray.toList_eq, ByteArray.toList_eq] at e
  exact Array.toList_inj.1 e))

structure SmP (N mb : Nat) (ns ms : List Nd) (i k : Nat) (K : List (Nat × Nat)) (w w' : World) (K' : List (Nat × Nat)) : Prop where
  known : KnownAt w' mb K'
  good : ∀ x ∈ K', sameB ns ms x.1 x.2 = true
  only : ∀ x ∈ K', x ∈ K ∨ x.1 ≤ i
  but : But (fun q => q = mb) w w'
def SmQ (N mb : Nat) (ns ms : List Nd) (i k : Nat) (K : List (Nat × Nat)) (w : World) (e : Ending) (w' : World) : Prop := e = .returned (.bool (sameB ns ms i k)) ∧ ∃ K', SmP N mb ns ms i k K w w' K'

/-- behind j parts -/
structure SmL (mb : Nat) (ns ms : List Nd) (i : Nat) (x y : Nd) (K : List (Nat × Nat)) (V : World) (j : Nat) (wr : World) (Kj : List (Nat × Nat)) : Prop where
  known : KnownAt wr mb Kj
  good : ∀ x ∈ Kj, sameB ns ms x.1 x.2 = true
  only : ∀ x ∈ Kj, x ∈ K ∨ x.1 < i
  but : But (fun q => q = mb) V wr
  kids : ∀ t, t < j → sameB ns ms (kid x.kids t).toNat (kid y.kids t).toNat = true

set_option maxHeartbeats 4000000 in
set_option maxRecDepth 100000 in
theorem psame_any (N mb ba bb : Nat) (aoa aob : Option Addr) (capa capb : Nat) (ns ms : List Nd) (hwn : WF ns) (hwm : WF ms) (hfn : ∀ i, i < ns.length → (nd ns i).kids.length ≤ 999000) (hln : ns.length ≤ 4000) (hlm : ms.length ≤ 4000) (hNm : N ≤ mb) (i : Nat) :
    i < ns.length → ∀ (k : Nat), k < ms.length → ∀ (w : World) (K : List (Nat × Nat)), TreeAt N w ba aoa capa ns → TreeAt N w bb aob capb ms → KnownAt w mb K → (∀ x ∈ K, sameB ns ms x.1 x.2 = true) →
    Calls Tryz.prog 20 #[.agg #[.pointer (some ⟨ba, 0, none⟩), .pointer (some ⟨bb, 0, none⟩), .map (some mb)], .int .i64 (i : Int), .int .i64 (k : Int)] w (SmQ N mb ns ms i k K w) := by
  induction i using Nat.strongRecOn with
  | _ i ih =>
    intro hi k hk w K hta htb hkn hgood
    have hmw : mb < w.heap.size := hkn.lt
    have hNw : N ≤ w.heap.size := by omega
    obtain ⟨xb, xo, xka, xkc, rfl, hx⟩ := hta.nodes i hi
    obtain ⟨yb, yo, yka, ykc, rfl, hy⟩ := htb.nodes k hk
    obtain ⟨W, hW⟩ : ∃ W, w.alloc (.cells #[.pointer (some ⟨ba, 0, none⟩), .pointer (some ⟨bb, 0, none⟩), .map (some mb)] 71) = W := ⟨_, rfl⟩
    have hbW : Below w.heap.size w W := by rw [← hW]; exact (Below.refl _ w).alloc (Nat.le_refl _) _
    have hbox : W.heap[w.heap.size]? = some (.cells #[.pointer (some ⟨ba, 0, none⟩), .pointer (some ⟨bb, 0, none⟩), .map (some mb)] 71 (0, 0)) := by rw [← hW]; exact blk_new w _
    have hsW : W.heap.size = w.heap.size + 1 := by rw [← hW]; simp
    have hxW := hx.below (hbW.mono hNw); have hyW := hy.below (hbW.mono hNw)
    have HW := Lib.hid hW; have HB := Lib.hid hbW; have HBX := Lib.hid hbox; have HS := Lib.hid hsW; have HXW := Lib.hid hxW; have HYW := Lib.hid hyW
    have HTA := Lib.hid (hta.below (hbW.mono hNw)); have HTB := Lib.hid (htb.below (hbW.mono hNw)); have HKN := Lib.hid (hkn.below hbW); have HG := Lib.hid hgood
    have HI := Lib.hid ih
    have ca := (hta.below (hbW.mono hNw)).cell; have cb := (htb.below (hbW.mono hNw)).cell
    have b0 : W.cell? ⟨w.heap.size, 0, none⟩ = some (.pointer (some ⟨ba, 0, none⟩)) := (blk_cell hbox 0).trans rfl
    have b1 : W.cell? ⟨w.heap.size, 1, none⟩ = some (.pointer (some ⟨bb, 0, none⟩)) := (blk_cell hbox 1).trans rfl
    have x0 := hxW.c0; have x1 := hxW.c1; have x2 := hxW.c2; have x3 := hxW.c3; have x4 := hxW.c4; have x5 := hxW.c5
    have y0 := hyW.c0; have y1 := hyW.c1; have y2 := hyW.c2; have y3 := hyW.c3; have y4 := hyW.c4; have y5 := hyW.c5
    have hi2 : (i : Int) < (ns.length : Int) := by omega
    have hk2 : (k : Int) < (ms.length : Int) := by omega
    have l0 : w.heap.size < W.heap.size := by omega
    have l1 : ba < W.heap.size := by have := hta.lt; omega
    have l2 : bb < W.heap.size := by have := htb.lt; omega
    have l3 : xb < W.heap.size := by have := hx.lt; omega
    have l4 : yb < W.heap.size := by have := hy.lt; omega
    clear ih hW hbW hbox hsW hx hy hxW hyW hta htb hkn hgood
    go_enter Tryz.func20, Tryz.ntmps20
    go_upto_region 1 with fail
    rw [HW.out]
    go_cut [7, 8] (fun v7 v8 wz => ∃ b7 b8, v7 = .pointer (some ⟨b7, 0, none⟩) ∧ v8 = .pointer (some ⟨b8, 0, none⟩) ∧ W.heap.size ≤ b7 ∧ W.heap.size ≤ b8 ∧ Six wz b7 40 (.string (nd ns i).op) (.int .i64 (nd ns i).line) (.int .i64 (nd ns i).col) (.string (nd ns i).name) (.int .i64 (nd ns i).num) (.slice xka (nd ns i).kids.length xkc) ∧
      Six wz b8 40 (.string (nd ms k).op) (.int .i64 (nd ms k).line) (.int .i64 (nd ms k).col) (.string (nd ms k).name) (.int .i64 (nd ms k).num) (.slice yka (nd ms k).kids.length ykc) ∧ Below W.heap.size W wz)
    case first =>
      go_region
      all_goals
        go_wp2_with fail
        go_meet
        first
          | exact ⟨W.heap.size, W.heap.size + 1, rfl, rfl, Nat.le_refl _, Nat.le_succ _, ⟨(two_new W _ _).1⟩, ⟨(two_new W _ _).2.1⟩, (two_new W _ _).2.2⟩
          | exact ⟨W.heap.size + 1, W.heap.size, rfl, rfl, Nat.le_succ _, Nat.le_refl _, ⟨(two_new W _ _).2.1⟩, ⟨(two_new W _ _).1⟩, (two_new W _ _).2.2⟩
    case rest =>
      obtain ⟨b7, b8, rfl, rfl, l7, l8, h7, h8, hbz⟩ := hcut
      have hno := fun h => sameB_no (ms := ms) (k := k) hwn hi h
      have hkd := fun j hj h => sameB_kid (ms := ms) (k := k) (j := j) hwn hi hj h
      have hyes := fun h hk => sameB_yes (ms := ms) (k := k) hwn hi h hk
      have hxk := fun j hj => kid_lt hwn hi (kid_mem (i := j) hj)
      have hyk := fun j hj => kid_lt hwm hk (kid_mem (i := j) hj)
      have hfx := hfn i hi
      have HNO := Lib.hid hno; have HKD := Lib.hid hkd; have HYES := Lib.hid hyes; have HXK := Lib.hid hxk; have HYK := Lib.hid hyk
      have hkc : KnownAt wc mb K := (hbz.block _ (by have := HKN.out.lt; omega)).trans HKN.out
      have HKC := Lib.hid hkc; have HBZ := Lib.hid (HB.out.trans (hbz.mono (by omega))); have H7 := Lib.hid h7; have H8 := Lib.hid h8
      have hbxc := (hbz.block _ l0).trans HBX.out
      have HBC := Lib.hid hbxc
      have hNz : Below N W wc := hbz.mono (by omega)
      have HXC := Lib.hid (HXW.out.kids.below hNz); have HYC := Lib.hid (HYW.out.kids.below hNz); have HTAC := Lib.hid (HTA.out.below hNz); have HTBC := Lib.hid (HTB.out.below hNz)
      have hmbw : mb < W.heap.size := by have := HKN.out.lt; omega
      have hzw := hbz.size
      have x0 := h7.c0; have x1 := h7.c2; have x3 := h7.c3; have x4 := h7.c4; have x5 := h7.c5
      have y0 := h8.c0; have y3 := h8.c3; have y4 := h8.c4; have y5 := h8.c5
      clear hno hkd hyes hxk hyk hkc h7 h8 hbz hbxc hNz HKN HXW HYW HTA HTB HBX x1
      generalize hnx : nd ns i = x at *
      generalize hny : nd ms k = y at *
      have HNX := Lib.hid hnx; have HNY := Lib.hid hny
      clear hnx hny
      have hk0 : KnownAt w mb K := by have := HKC.out; unfold KnownAt at *; rw [← HBZ.out.block mb hmw]; exact this
      have stay : ∀ w', Below w.heap.size w w' → ∃ K', SmP N mb ns ms i k K w w' K' := fun w' hb => ⟨K, (hb.block _ hmw).trans hk0, HG.out, fun x hx => .inl hx, But.of_below hb⟩
      have STAY := Lib.hid stay
      clear stay hk0
      by_cases e0 : x.op = y.op
      rotate_left
      · have hh : headB x y = false := by simp [headB, e0]
        have HH := Lib.hid (HNO.out hh)
        clear hh
        have g1 := tl_ne e0
        have g2 : (x.op.toList == y.op.toList) = false := by simpa using g1
        clear e0
        go_wp2
        go_ret
        exact ⟨ret_bool HH.out.symm, STAY.out _ HBZ.out⟩
      rw [← e0] at y0
      by_cases e1 : x.name = y.name
      rotate_left
      · have hh : headB x y = false := by simp [headB, e1]
        have HH := Lib.hid (HNO.out hh)
        clear hh
        have g1 := tl_ne e1
        have g2 : (x.name.toList == y.name.toList) = false := by simpa using g1
        clear e0 e1
        go_wp2
        go_ret
        exact ⟨ret_bool HH.out.symm, STAY.out _ HBZ.out⟩
      rw [← e1] at y3
      by_cases e2 : x.num = y.num
      rotate_left
      · have hh : headB x y = false := by simp [headB, e2]
        have HH := Lib.hid (HNO.out hh)
        clear hh
        have g2 : (x.num == y.num) = false := by simpa using e2
        clear e0 e1 e2
        go_wp2
        go_ret
        exact ⟨ret_bool HH.out.symm, STAY.out _ HBZ.out⟩
      rw [← e2] at y4
      by_cases e3 : x.kids.length = y.kids.length
      rotate_left
      · have hh : headB x y = false := by simp [headB, e3]
        have HH := Lib.hid (HNO.out hh)
        clear hh
        have g2 : ((x.kids.length : Int) == (y.kids.length : Int)) = false := by simp; omega
        clear e0 e1 e2 e3
        go_wp2
        go_ret
        exact ⟨ret_bool HH.out.symm, STAY.out _ HBZ.out⟩
      rw [← e3] at y5
      have hhead : headB x y = true := headB_iff.2 ⟨e0, e1, e2, e3⟩
      have HHD := Lib.hid hhead; have HE3 := Lib.hid e3
      clear hhead e0 e1 e2 e3
      have hlook := pknown_look (a := i) (b := k) HKC.out
      unfold pk at hlook
      have b2 : wc.cell? ⟨w.heap.size, 2, none⟩ = some (.map (some mb)) := (blk_cell HBC.out 2).trans rfl
      by_cases hin : (i, k) ∈ K
      · rw [decide_eq_true hin] at hlook
        have hs := HG.out _ hin
        have HSM := Lib.hid hs
        clear hin hs
        go_wp2
        go_ret
        exact ⟨ret_bool HSM.out.symm, STAY.out _ (HBZ.out.alloc HBZ.out.size _)⟩
      rw [decide_eq_false hin] at hlook
      have HIN := Lib.hid hin
      clear hin
      go_upto_region 7 with fail
      obtain ⟨V, hV⟩ : ∃ V, wc.alloc (.cells #[] 108) = V := ⟨_, rfl⟩
      have hbV : Below wc.heap.size wc V := by rw [← hV]; exact (Below.refl _ wc).alloc (Nat.le_refl _) _
      rw [hV]
      have hzV := hbV.size
      have hNV : Below N wc V := hbV.mono (by omega)
      have l70 := lt_of_heap H7.out.blk; have l80 := lt_of_heap H8.out.blk
      have G7 := Lib.hid (H7.out.below hbV l70); have G8 := Lib.hid (H8.out.below hbV l80); have GBC := Lib.hid ((hbV.block _ (lt_of_heap HBC.out)).trans HBC.out)
      have GXC := Lib.hid (HXC.out.below hNV); have GYC := Lib.hid (HYC.out.below hNV); have GTA := Lib.hid (HTAC.out.below hNV); have GTB := Lib.hid (HTBC.out.below hNV)
      have GKC : Hid (SmL mb ns ms i x y K V 0 V K) := Lib.hid ⟨(hbV.block _ (by omega)).trans HKC.out, HG.out, fun x hx => .inl hx, But.refl _ _, fun t ht => absurd ht (Nat.not_lt_zero _)⟩
      have GB := Lib.hid (HBZ.out.trans (hbV.mono (by omega)))
      have c5 := G7.out.c5
      clear hV hbV hNV hlook b2 x0 x3 x4 x5 y0 y3 y4 y5 HBZ HKC H7 H8 HBC HXC HYC HTAC HTBC ca cb b0 b1
      go_wp2_with fail
      go_loopw [70] (fun v wr => ∃ (j : Nat) (Kj : List (Nat × Nat)), j ≤ x.kids.length ∧ v = .int .i64 j ∧ SmL mb ns ms i x y K V j wr Kj) (fun v _ => x.kids.length - (intOf v).toNat)
      case atStart => exact ⟨0, K, Nat.zero_le _, rfl, GKC.out⟩
      case round =>
        obtain ⟨j, Kj, hj, rfl, hst⟩ := hrel
        have hbt := hst.but
        have hNr : Below N V wr := hbt.below (by omega) (fun q e => by subst e; exact hNm)
        have g8 : wr.heap[b8]? = _ := hbt.heap G8.out.blk (by omega)
        have gb : wr.heap[w.heap.size]? = _ := hbt.heap GBC.out (by omega)
        have HST := Lib.hid hst
        clear hst hbt
        by_cases hlt : j < x.kids.length
        · obtain ⟨gx, ox, rfl, _, kx⟩ := (GXC.out.below hNr) j hlt
          obtain ⟨gy, oy, rfl, _, ky⟩ := (GYC.out.below hNr) j (by rw [← HE3.out]; exact hlt)
          have hqx := HXK.out j hlt
          have hqy := HYK.out j (by rw [← HE3.out]; exact hlt)
          obtain ⟨q, hq⟩ : ∃ q : Nat, kid x.kids j = (q : Int) := ⟨(kid x.kids j).toNat, hqx.2.symm⟩
          obtain ⟨r, hr⟩ : ∃ r : Nat, kid y.kids j = (r : Int) := ⟨(kid y.kids j).toNat, hqy.2.symm⟩
          rw [hq] at kx hqx
          rw [hr] at ky hqy
          rw [Int.toNat_natCast] at hqx hqy
          have hIH := HI.out q hqx.1 (by omega) r (by omega)
          have HKJ := Lib.hid (HKD.out j hlt)
          have HQ := Lib.hid hq; have HR := Lib.hid hr
          have y5 : wr.cell? ⟨b8, 5, none⟩ = some (.slice (some ⟨gy, oy, none⟩) x.kids.length ykc) := by rw [(blk_cell g8 5), HE3.out]; rfl
          have p0 : wr.cell? ⟨w.heap.size, 0, none⟩ = some (.pointer (some ⟨ba, 0, none⟩)) := (blk_cell gb 0).trans rfl
          have p1 : wr.cell? ⟨w.heap.size, 1, none⟩ = some (.pointer (some ⟨bb, 0, none⟩)) := (blk_cell gb 1).trans rfl
          have p2 : wr.cell? ⟨w.heap.size, 2, none⟩ = some (.map (some mb)) := (blk_cell gb 2).trans rfl
          have GTA2 := Lib.hid (GTA.out.below hNr); have GTB2 := Lib.hid (GTB.out.below hNr); have HIH := Lib.hid hIH
          have hj2 : (j : Int) < (x.kids.length : Int) := by omega
          clear hq hr hIH g8 gb hNr hqx hqy
          go_upto_region 10 with fail
          go_still_tail 7, (by kernel_rfl)
          change wpList _ _ _ _ _ wr.drew
          have GTA3 := Lib.hid (GTA2.out.below (Below.refl N wr).drew); have GTB3 := Lib.hid (GTB2.out.below (Below.refl N wr).drew)
          have hkd : KnownAt wr.drew mb Kj := HST.out.known
          have HKD2 := Lib.hid hkd
          clear hkd p0 p1 p2 y5 kx ky
          go_wp2_with fail
          refine (HIH.out wr.drew Kj GTA3.out GTB3.out HKD2.out HST.out.good).mono ?_
          rintro e w2 ⟨rfl, K2, hS2⟩
          have hb2 : But (fun q => q = mb) V w2 := HST.out.but.trans ((show But (fun q => q = mb) wr wr.drew from ⟨rfl, rfl, rfl, Nat.le_refl _, fun _ _ _ => rfl⟩).trans hS2.but)
          have hon : ∀ z ∈ K2, z ∈ K ∨ z.1 < i := fun z hz => by
            rcases hS2.only z hz with h | h
            · exact HST.out.only z h
            · right; have := HXK.out j hlt; rw [HQ.out, Int.toNat_natCast] at this; omega
          have HB2 := Lib.hid hb2; have HON := Lib.hid hon; have HS2 := Lib.hid hS2
          cases hsm : sameB ns ms q r with
          | false =>
            have hno : sameB ns ms i k = false := HKJ.out (by rw [HQ.out, HR.out, Int.toNat_natCast, Int.toNat_natCast]; exact hsm)
            have HNN := Lib.hid hno
            clear hno hsm hb2 hon hS2
            go_wp2
            go_ret
            exact ⟨ret_bool HNN.out.symm, K2, HS2.out.known, HS2.out.good, fun z hz => (HON.out z hz).imp id Nat.le_of_lt, (But.of_below GB.out).trans HB2.out⟩
          | true =>
            have HSM := Lib.hid hsm
            clear hsm hb2 hon hS2
            go_wp2
            go_roundw
            case rel => exact ⟨j + 1, K2, by omega, by go_num, HS2.out.known, HS2.out.good, HON.out, HB2.out, fun t ht => by
              by_cases e : t = j
              · subst e; rw [HQ.out, HR.out, Int.toNat_natCast, Int.toNat_natCast]; exact HSM.out
              · exact HST.out.kids t (by omega)⟩
            case measure => simp [intOf]; omega
        · obtain rfl : j = x.kids.length := by omega
          have p2 : wr.cell? ⟨w.heap.size, 2, none⟩ = some (.map (some mb)) := (blk_cell gb 2).trans rfl
          have hnin : (i, k) ∉ Kj := fun h => by
            rcases HST.out.only _ h with h | h
            · exact HIN.out h
            · exact absurd h (Nat.lt_irrefl _)
          have hput := pknown_put (a := i) (b := k) HST.out.known hnin
          unfold pk at hput
          have hfin := KnownAt.put wr mb (.map (pents 0 (Kj ++ [(i, k)])).toArray (Kj.length + 1)) HST.out.known.lt
          have hyy := HYES.out HHD.out HST.out.kids
          have HFIN := Lib.hid hfin; have HYY := Lib.hid hyy
          clear hnin hfin hyy g8 gb hNr
          go_wp2
          go_ret
          refine ⟨ret_bool HYY.out.symm, Kj ++ [(i, k)], (by unfold KnownAt; rw [List.length_append]; exact HFIN.out.2), fun z hz => ?_, fun z hz => ?_, (But.of_below GB.out).trans (HST.out.but.trans HFIN.out.1)⟩
          · rcases List.mem_append.1 hz with hz | hz
            · exact HST.out.good z hz
            · rw [List.mem_singleton.1 hz]; exact HYY.out
          · rcases List.mem_append.1 hz with hz | hz
            · exact (HST.out.only z hz).imp id Nat.le_of_lt
            · right; rw [List.mem_singleton.1 hz]; exact Nat.le_refl _

set_option maxHeartbeats 2000000 in
set_option maxRecDepth 100000 in
/-- Same: at expressions that are there -/
theorem same_any (ba bb : Nat) (aoa aob : Option Addr) (capa capb : Nat) (ns ms : List Nd) (hwn : WF ns) (hwm : WF ms) (hfn : ∀ i, i < ns.length → (nd ns i).kids.length ≤ 999000) (hln : ns.length ≤ 4000) (hlm : ms.length ≤ 4000) (i k : Nat)
    (hi : i < ns.length) (hk : k < ms.length) (w : World) (hta : TreeAt w.heap.size w ba aoa capa ns) (htb : TreeAt w.heap.size w bb aob capb ms) :
    Calls Tryz.prog 8 #[.pointer (some ⟨ba, 0, none⟩), .int .i64 (i : Int), .pointer (some ⟨bb, 0, none⟩), .int .i64 (k : Int)] w fun e w' => e = .returned (.bool (sameB ns ms i k)) ∧ Below w.heap.size w w' := by
  have hA := fun W (h : W.cell? ⟨ba, 0, none⟩ = some (.slice aoa ns.length capa)) => has_yes ba aoa ns.length capa i W h (by omega) (by omega)
  have hB := fun W (h : W.cell? ⟨bb, 0, none⟩ = some (.slice aob ms.length capb)) => has_yes bb aob ms.length capb k W h (by omega) (by omega)
  have HA := Lib.hid (hA w hta.cell); have HB := Lib.hid (hB w htb.cell)
  obtain ⟨W, hW⟩ : ∃ W, (w.alloc (.map #[] 0)).alloc (.cells #[.pointer (some ⟨ba, 0, none⟩), .pointer (some ⟨bb, 0, none⟩), .map (some w.heap.size)] 71) = W := ⟨_, rfl⟩
  have hb : Below w.heap.size w W := by rw [← hW]; exact ((Below.refl _ w).alloc (Nat.le_refl _) _).alloc (by simp) _
  have hbx : W.heap[w.heap.size + 1]? = some (.cells #[.pointer (some ⟨ba, 0, none⟩), .pointer (some ⟨bb, 0, none⟩), .map (some w.heap.size)] 71 (0, 0)) := by
    rw [← hW]; have := blk_new (w.alloc (.map #[] 0)) (.cells #[.pointer (some ⟨ba, 0, none⟩), .pointer (some ⟨bb, 0, none⟩), .map (some w.heap.size)] 71); rwa [World.size_alloc] at this
  have hmp : KnownAt W w.heap.size [] := by
    unfold KnownAt; rw [← hW]; rw [Below.heap_alloc _ _ _ (by simp)]; exact World.alloc_heap_new w _
  have HS := Lib.hid (psame_any w.heap.size w.heap.size ba bb aoa aob capa capb ns ms hwn hwm hfn hln hlm (Nat.le_refl _) i hi k hk W [] (hta.below hb) (htb.below hb) hmp (fun x hx => by simp at hx))
  have hmk := pknown_make w
  have HW := Lib.hid hW; have HBB := Lib.hid hb; have HX := Lib.hid hbx
  clear hA hB hW hb hbx hmp hta htb
  go_enter Tryz.func8, Tryz.ntmps8
  go_wp2_with fail
  refine HA.out.mono ?_
  rintro e w1 ⟨rfl, rfl⟩
  go_wp2_with fail
  refine HB.out.mono ?_
  rintro e w1 ⟨rfl, rfl⟩
  go_upto_region 4 with fail
  rw [HW.out]
  have p0 : W.cell? ⟨w.heap.size + 1, 0, none⟩ = some (.pointer (some ⟨ba, 0, none⟩)) := (blk_cell HX.out 0).trans rfl
  have p1 : W.cell? ⟨w.heap.size + 1, 1, none⟩ = some (.pointer (some ⟨bb, 0, none⟩)) := (blk_cell HX.out 1).trans rfl
  have p2 : W.cell? ⟨w.heap.size + 1, 2, none⟩ = some (.map (some w.heap.size)) := (blk_cell HX.out 2).trans rfl
  go_wp2_with fail
  refine HS.out.mono ?_
  rintro e w2 ⟨rfl, K2, hS2⟩
  have HS2 := Lib.hid hS2
  clear hS2
  go_wp2
  go_ret
  exact ⟨rfl, HBB.out.trans (HS2.out.but.below HBB.out.size (fun q e => by subst e; exact Nat.le_refl _))⟩
end Go.Proofs.YtdkhkemllmegfaaGreatDoor
