/- How a pair is read. -/
import Derived.Test.YtcelelnmphdlbaaGreatDoorItems
import Derived.Deep.RegionHeld2
namespace Go.Proofs.YtcelelnmphdlbaaGreatDoor
open Go.RowKit Tn Lx

theorem Tryz.info100 : (Tryz.prog.info? 100).map (fun i => (i.zero, i.size, i.bytes)) = some (some (.agg #[.string ⟨#[]⟩, .int .i64 0, .int .i64 0, .string ⟨#[]⟩, .int .i64 0, .int .i64 0]), 6, 64) := by kernel_rfl
theorem cellsP_one (d : Py.Nm × Py.Nm) : ∀ u ∈ cellP d, u.oneCell' = true := by
  intro u hu
  simp only [cellP, List.mem_cons, List.not_mem_nil, or_false] at hu
  rcases hu with rfl | rfl | rfl | rfl | rfl | rfl <;> rfl

/-- what the region reads ahead of its append -/
def HeldS (pp q x y : Nat) (a b : Py.Nm) (W : World) : Prop := W.cell? ⟨pp, 1, none⟩ = some (.pointer (some ⟨q, 0, none⟩)) ∧ W.cell? ⟨x, 0, none⟩ = some (.string ⟨a.text.toArray⟩) ∧ W.cell? ⟨x, 1, none⟩ = some (.int .i64 a.at_.line) ∧ W.cell? ⟨x, 2, none⟩ = some (.int .i64 a.at_.col) ∧ W.cell? ⟨y, 0, none⟩ = some (.string ⟨b.text.toArray⟩) ∧ W.cell? ⟨y, 1, none⟩ = some (.int .i64 b.at_.line) ∧ W.cell? ⟨y, 2, none⟩ = some (.int .i64 b.at_.col)
/-- these blocks lie there -/
structure Lies (pp q x y r : Nat) (a b : Py.Nm) (W : World) : Prop where
  par : W.heap[pp]? = some (.cells (parCells r q) 66 (0, 0))
  low : W.heap[x]? = some (.cells #[.string ⟨a.text.toArray⟩, .int .i64 a.at_.line, .int .i64 a.at_.col] 50 (0, 0))
  high : W.heap[y]? = some (.cells #[.string ⟨b.text.toArray⟩, .int .i64 b.at_.line, .int .i64 b.at_.col] 50 (0, 0))
theorem Lies.held {pp q x y r : Nat} {a b : Py.Nm} {W : World} (h : Lies pp q x y r a b W) : HeldS pp q x y a b W :=
  ⟨(blk_cell h.par 1).trans rfl, (blk_cell h.low 0).trans rfl, (blk_cell h.low 1).trans rfl, (blk_cell h.low 2).trans rfl, (blk_cell h.high 0).trans rfl, (blk_cell h.high 1).trans rfl, (blk_cell h.high 2).trans rfl⟩
theorem Lies.but {pp q x y r : Nat} {a b : Py.Nm} {W W' : World} {p : Nat → Prop} (h : Lies pp q x y r a b W) (hB : But p W W') (h1 : ¬ p pp) (h2 : ¬ p x) (h3 : ¬ p y) : Lies pp q x y r a b W' := ⟨hB.heap h.par h1, hB.heap h.low h2, hB.heap h.high h3⟩
theorem Lies.below {pp q x y r : Nat} {a b : Py.Nm} {W W' : World} (h : Lies pp q x y r a b W) (hb : Below W.heap.size W W') : Lies pp q x y r a b W' := h.but (p := fun _ => False) (But.of_below hb) (fun e => e) (fun e => e) (fun e => e)
theorem Lies.grown {c : Cx} {pp q x y : Nat} {v1 v2 v3 : Value} {a b : Py.Nm} {W w5 : World} {g : Py.St} {o : Obj} (h : Lies pp q x y c.r a b W) (hP : Pm c q pp v1 v2 v3 W g) (hgrow : ((W.alloc o).drew).grownBy w5 v3.ownBlock) : Lies pp q x y c.r a b w5 := by
  have h1 : But (fun k => v3.ownBlock = some k) W (W.alloc o).drew := But.of_below ((Below.refl _ W).alloc (Nat.le_refl _) _).drew
  exact h.but (h1.trans (But.of_grown hgrow (fun k e => e))) (own_none hP.ord h.par (by decide)) (own_none hP.ord h.low (by decide)) (own_none hP.ord h.high (by decide))
theorem Lies.set {pp q x y r : Nat} {a b : Py.Nm} {W : World} {cs : Array Value} (h : Lies pp q x y r a b W) (hq : W.heap[q]? = some (.cells cs 53 (0, 0))) (i : Nat) (v : Value) : Lies pp q x y r a b (W.setCell ⟨q, i, none⟩ v) :=
  have no : ∀ {k : Nat} {ds : Array Value} {t : TypeId}, W.heap[k]? = some (.cells ds t (0, 0)) → t ≠ 53 → ¬ k = q := fun hk ht e => by
    rw [e, hq] at hk; injection hk with hk; injection hk with _ hk; exact ht hk.symm
  h.but (But.setCell (p := fun k => k = q) W rfl i v) (no h.par (by decide)) (no h.low (by decide)) (no h.high (by decide))

set_option maxRecDepth 100000 in
set_option maxHeartbeats 8000000 in
theorem order_ok (c : Cx) (X : Nat → Prop) (w : World) (s s1 : Ex.S) (q pp : Nat) (v1 v2 v3 : Value) (g : Py.St) (a b : Py.Nm) (h : Rd c X w s) (hP : Pm c q pp v1 v2 v3 w g) (hn : Py.pairO c.ts s = some ((a, b), s1)) (hf : g.ord.length ≤ 2000) :
    Calls Tryz.prog 48 #[.pointer (some ⟨pp, 0, none⟩)] w (ReadY c X w q pp ⟨g.conf, g.integ, g.ord ++ [(a, b)], g.att⟩ s1) := by
  have hr1 := h.rlt; have hb1 := h.blt; have hg1 := h.glt; have hsz := h.size
  rw [Py.pairO] at hn
  obtain ⟨⟨a', s2⟩, hna, hn⟩ := Option.bind_eq_some_iff.1 hn
  obtain ⟨s3, hta, hn⟩ := Option.bind_eq_some_iff.1 hn
  obtain ⟨⟨b', s4⟩, hnb, hn⟩ := Option.bind_eq_some_iff.1 hn
  injection hn with hn
  injection hn with hn1 hn2
  injection hn1 with hna1 hnb1
  obtain rfl : a' = a := hna1
  obtain rfl : b' = b := hnb1
  obtain rfl : s4 = s1 := hn2
  have hA := yname_ok c X w s s2 pp q a' h hP.par hP.ppB hna
  have HA := Lib.hid hA; have HP := Lib.hid hP; have HTA := Lib.hid hta; have HNB := Lib.hid hnb
  obtain ⟨i0, hi, hz0, hz1, hz2⟩ := info_parts Tryz.info100
  have HI := Lib.hid hi; have HZ := Lib.hid hz0; have HZ1 := Lib.hid hz1; have HZ2 := Lib.hid hz2
  clear hA hP h hna hta hnb hi hz0 hz1 hz2
  go_enter Tryz.func48, Tryz.ntmps48
  go_wp2_with fail
  refine HA.out.mono ?_
  rintro e w1 ⟨rfl, hR1, hK1⟩
  unfold yval
  obtain ⟨V, hV⟩ : ∃ V, w1.alloc (.cells #[.string ⟨a'.text.toArray⟩, .int .i64 a'.at_.line, .int .i64 a'.at_.col] 50) = V := ⟨_, rfl⟩
  have hbV : Below w1.heap.size w1 V := by rw [← hV]; exact (Below.refl _ w1).alloc (Nat.le_refl _) _
  have kV : V.heap[w1.heap.size]? = some (.cells #[.string ⟨a'.text.toArray⟩, .int .i64 a'.at_.line, .int .i64 a'.at_.col] 50 (0, 0)) := by rw [← hV]; exact blk_new w1 _
  have hKV := hK1.then_below hbV
  have hRV := hR1.below hbV
  have hPV := HP.out.kp hr1 hb1 hKV
  have hw1B : c.B ≤ w1.heap.size := hR1.size
  have hA2 := behind_ok c X V s2 s3 s4 pp q [60] b' hRV hPV.par hPV.ppB HTA.out HNB.out
  have HA2 := Lib.hid hA2; have HV := Lib.hid hV; have HKV := Lib.hid hKV; have HPV := Lib.hid hPV; have HNV := Lib.hid kV
  clear hA2 hV hKV hRV hPV kV hbV hR1 hK1 HA
  go_wp2_with fail
  rw [HV.out]
  refine HA2.out.mono ?_
  rintro e w2 ⟨rfl, hR2, hK2⟩
  unfold yval
  obtain ⟨U, hU⟩ : ∃ U, w2.alloc (.cells #[.string ⟨b'.text.toArray⟩, .int .i64 b'.at_.line, .int .i64 b'.at_.col] 50) = U := ⟨_, rfl⟩
  have hbU : Below w2.heap.size w2 U := by rw [← hU]; exact (Below.refl _ w2).alloc (Nat.le_refl _) _
  have kU : U.heap[w2.heap.size]? = some (.cells #[.string ⟨b'.text.toArray⟩, .int .i64 b'.at_.line, .int .i64 b'.at_.col] 50 (0, 0)) := by rw [← hU]; exact blk_new w2 _
  have hKU := hK2.then_below hbU
  have hk1 := hKU.heap HNV.out (by omega) (by omega) (by decide)
  have hRU := hR2.below hbU
  have hPU := HPV.out.kp hr1 hb1 hKU
  have hUB : c.B ≤ U.heap.size := hRU.size
  have hLU : Lies pp q w1.heap.size w2.heap.size c.r a' b' U := ⟨hPU.par, hk1, kU⟩
  have hS0 := (hLU.below (Below.refl _ U).drew).held
  have hSA := fun o => (hLU.below (((Below.refl _ U).alloc (Nat.le_refl _) o).drew)).held
  have HLU := Lib.hid hLU; have HS0 := Lib.hid hS0; have HSA := Lib.hid hSA
  have g3 := (hPU.below (Below.refl _ U).drew).g3
  have g3' := fun o => (hPU.below (((Below.refl _ U).alloc (Nat.le_refl _) o).drew)).g3
  have hnb : ((U.alloc (.cells (cellP (a', b')).toArray 100)).drew).heap[U.heap.size]? = some (.cells (cellP (a', b')).toArray 100 (0, 0)) := heap_alloc_new U _
  have HNB2 := Lib.hid hnb; have HU := Lib.hid hU; have HKU := Lib.hid (HKV.out.trans hKU); have HRU := Lib.hid hRU; have HPU := Lib.hid hPU
  clear hLU hS0 hSA hnb hU hKU hRU hPU hk1 kU hbU hR2 hK2 HA2 HV HKV HPV HNV HTA HNB
  go_upto_region 5 with fail
  rw [HU.out]
  go_upto_region 7 with fail
  unfold HeldS at HS0 HSA
  refine wp_region_held_drew (S := (fun W => W.cell? ⟨pp, 1, none⟩ = some (.pointer (some ⟨q, 0, none⟩)) ∧ W.cell? ⟨w1.heap.size, 0, none⟩ = some (.string ⟨a'.text.toArray⟩) ∧ W.cell? ⟨w1.heap.size, 1, none⟩ = some (.int .i64 a'.at_.line) ∧ W.cell? ⟨w1.heap.size, 2, none⟩ = some (.int .i64 a'.at_.col) ∧ W.cell? ⟨w2.heap.size, 0, none⟩ = some (.string ⟨b'.text.toArray⟩) ∧ W.cell? ⟨w2.heap.size, 1, none⟩ = some (.int .i64 b'.at_.line) ∧ W.cell? ⟨w2.heap.size, 2, none⟩ = some (.int .i64 b'.at_.col))) (by kernel_rfl) HS0.out (fun hHeld => ?_)
  refine wpAnyH_take (i := 0) (oi := { dst := some 22, op := Op.move (Operand.tmp 0), type := 64, pos := "items.go:84", after := #[], guard := none }) (v := .pointer (some ⟨pp, 0, none⟩)) rfl (by kernel_rfl) (by kernel_rfl) (by kernel_rfl) (fun _ _ _ h => h) (Or.inl ⟨by rfl, by intro w hSw; (try dsimp only at hSw); go_simp⟩) hHeld ?_
  try simp only [Act.put, List.setIfInBounds_toArray, List.set_cons_zero, List.set_cons_succ]
  refine wpAnyH_take (i := 1) (oi := { dst := some 23, op := Op.nilCheck (Operand.tmp 22), type := 0, pos := "items.go:84", after := #[{ on := 0, ground := Ground.data }], guard := none }) (v := .pointer (some ⟨pp, 0, none⟩)) rfl (by kernel_rfl) (by kernel_rfl) (by kernel_rfl) (fun _ _ _ h => h) (Or.inl ⟨by rfl, by intro w hSw; (try dsimp only at hSw); go_simp⟩) hHeld ?_
  try simp only [Act.put, List.setIfInBounds_toArray, List.set_cons_zero, List.set_cons_succ]
  refine wpAnyH_take (i := 2) (oi := { dst := some 24, op := Op.fieldAddr 66 (Operand.tmp 23) 1, type := 0, pos := "items.go:84", after := #[{ on := 1, ground := Ground.data }], guard := none }) (v := .pointer (some ⟨pp, 1, none⟩)) rfl (by kernel_rfl) (by kernel_rfl) (by kernel_rfl) (fun _ _ _ h => h) (Or.inl ⟨by rfl, by intro w hSw; (try dsimp only at hSw); go_simp⟩) hHeld ?_
  try simp only [Act.put, List.setIfInBounds_toArray, List.set_cons_zero, List.set_cons_succ]
  refine wpAnyH_take (i := 3) (oi := { dst := some 25, op := Op.load 28 (Operand.tmp 24), type := 28, pos := "items.go:84", after := #[{ on := 2, ground := Ground.data }], guard := none }) (v := .pointer (some ⟨q, 0, none⟩)) rfl (by kernel_rfl) (by kernel_rfl) (by kernel_rfl) (fun _ _ _ h => h) (Or.inl ⟨by rfl, by intro w hSw; (try dsimp only at hSw); go_simp⟩) hHeld ?_
  try simp only [Act.put, List.setIfInBounds_toArray, List.set_cons_zero, List.set_cons_succ]
  refine wpAnyH_take (i := 4) (oi := { dst := some 26, op := Op.move (Operand.tmp 0), type := 64, pos := "items.go:84", after := #[], guard := none }) (v := .pointer (some ⟨pp, 0, none⟩)) rfl (by kernel_rfl) (by kernel_rfl) (by kernel_rfl) (fun _ _ _ h => h) (Or.inl ⟨by rfl, by intro w hSw; (try dsimp only at hSw); go_simp⟩) hHeld ?_
  try simp only [Act.put, List.setIfInBounds_toArray, List.set_cons_zero, List.set_cons_succ]
  refine wpAnyH_take (i := 5) (oi := { dst := some 27, op := Op.nilCheck (Operand.tmp 26), type := 0, pos := "items.go:84", after := #[{ on := 4, ground := Ground.data }], guard := none }) (v := .pointer (some ⟨pp, 0, none⟩)) rfl (by kernel_rfl) (by kernel_rfl) (by kernel_rfl) (fun _ _ _ h => h) (Or.inl ⟨by rfl, by intro w hSw; (try dsimp only at hSw); go_simp⟩) hHeld ?_
  try simp only [Act.put, List.setIfInBounds_toArray, List.set_cons_zero, List.set_cons_succ]
  refine wpAnyH_take (i := 6) (oi := { dst := some 28, op := Op.fieldAddr 66 (Operand.tmp 27) 1, type := 0, pos := "items.go:84", after := #[{ on := 5, ground := Ground.data }], guard := none }) (v := .pointer (some ⟨pp, 1, none⟩)) rfl (by kernel_rfl) (by kernel_rfl) (by kernel_rfl) (fun _ _ _ h => h) (Or.inl ⟨by rfl, by intro w hSw; (try dsimp only at hSw); go_simp⟩) hHeld ?_
  try simp only [Act.put, List.setIfInBounds_toArray, List.set_cons_zero, List.set_cons_succ]
  refine wpAnyH_take (i := 7) (oi := { dst := some 29, op := Op.load 28 (Operand.tmp 28), type := 28, pos := "items.go:84", after := #[{ on := 6, ground := Ground.data }], guard := none }) (v := .pointer (some ⟨q, 0, none⟩)) rfl (by kernel_rfl) (by kernel_rfl) (by kernel_rfl) (fun _ _ _ h => h) (Or.inl ⟨by rfl, by intro w hSw; (try dsimp only at hSw); go_simp⟩) hHeld ?_
  try simp only [Act.put, List.setIfInBounds_toArray, List.set_cons_zero, List.set_cons_succ]
  refine wpAnyH_take (i := 8) (oi := { dst := some 30, op := Op.nilCheck (Operand.tmp 29), type := 0, pos := "items.go:84", after := #[{ on := 7, ground := Ground.data }], guard := none }) (v := .pointer (some ⟨q, 0, none⟩)) rfl (by kernel_rfl) (by kernel_rfl) (by kernel_rfl) (fun _ _ _ h => h) (Or.inl ⟨by rfl, by intro w hSw; (try dsimp only at hSw); go_simp⟩) hHeld ?_
  try simp only [Act.put, List.setIfInBounds_toArray, List.set_cons_zero, List.set_cons_succ]
  refine wpAnyH_take (i := 9) (oi := { dst := some 31, op := Op.fieldAddr 53 (Operand.tmp 30) 3, type := 0, pos := "items.go:84", after := #[{ on := 8, ground := Ground.data }], guard := none }) (v := .pointer (some ⟨q, 3, none⟩)) rfl (by kernel_rfl) (by kernel_rfl) (by kernel_rfl) (fun _ _ _ h => h) (Or.inl ⟨by rfl, by intro w hSw; (try dsimp only at hSw); go_simp⟩) hHeld ?_
  try simp only [Act.put, List.setIfInBounds_toArray, List.set_cons_zero, List.set_cons_succ]
  refine wpAnyH_take (i := 11) (oi := { dst := some 33, op := Op.load 50 (Operand.tmp 3), type := 50, pos := "items.go:84", after := #[], guard := none }) (v := .agg #[.string ⟨a'.text.toArray⟩, .int .i64 a'.at_.line, .int .i64 a'.at_.col]) rfl (by kernel_rfl) (by kernel_rfl) (by kernel_rfl) (fun _ _ _ h => h) (Or.inl ⟨by rfl, by intro w hSw; (try dsimp only at hSw); go_simp⟩) hHeld ?_
  try simp only [Act.put, List.setIfInBounds_toArray, List.set_cons_zero, List.set_cons_succ]
  refine wpAnyH_take (i := 12) (oi := { dst := some 34, op := Op.load 50 (Operand.tmp 5), type := 50, pos := "items.go:84", after := #[], guard := none }) (v := .agg #[.string ⟨b'.text.toArray⟩, .int .i64 b'.at_.line, .int .i64 b'.at_.col]) rfl (by kernel_rfl) (by kernel_rfl) (by kernel_rfl) (fun _ _ _ h => h) (Or.inl ⟨by rfl, by intro w hSw; (try dsimp only at hSw); go_simp⟩) hHeld ?_
  try simp only [Act.put, List.setIfInBounds_toArray, List.set_cons_zero, List.set_cons_succ]
  refine wpAnyH_take (i := 13) (oi := { dst := some 35, op := Op.build 100 #[(0, Operand.tmp 33), (1, Operand.tmp 34)], type := 100, pos := "items.go:84", after := #[{ on := 11, ground := Ground.data }, { on := 12, ground := Ground.data }], guard := none }) (v := .agg #[.string ⟨a'.text.toArray⟩, .int .i64 a'.at_.line, .int .i64 a'.at_.col, .string ⟨b'.text.toArray⟩, .int .i64 b'.at_.line, .int .i64 b'.at_.col]) rfl (by kernel_rfl) (by kernel_rfl) (by kernel_rfl) (fun _ _ _ h => h) (Or.inl ⟨by rfl, by intro w hSw; (try dsimp only at hSw); go_simp⟩) hHeld ?_
  try simp only [Act.put, List.setIfInBounds_toArray, List.set_cons_zero, List.set_cons_succ]
  refine wpAnyH_ready (rs := [10, 14]) (by kernel_rfl) (by simp) ?_
  refine AllReadyH.cons (o := { dst := some 32, op := Op.load 46 (Operand.tmp 31), type := 46, pos := "items.go:84", after := #[{ on := 9, ground := Ground.data }], guard := none }) rfl (fun K hK => ?_) ?_
  · go_simp
    refine hK.out _ _ HS0.out (fun hHeld => ?_)
    clear hK K
    try simp only [Act.put, List.setIfInBounds_toArray, List.set_cons_zero, List.set_cons_succ]
    refine wpAnyH_ready (rs := [14]) (by kernel_rfl) (by simp) ?_
    refine AllReadyH.cons (o := { dst := some 36, op := Op.buildSlice 46 1 #[(0, Operand.tmp 35)], type := 46, pos := "items.go:84", after := #[{ on := 13, ground := Ground.data }], guard := none }) rfl (fun K hK => ?_) AllReadyH.nil
    go_simp
    refine hK.out _ _ (HSA.out _) (fun hHeld => ?_)
    clear hK K
    try simp only [Act.put, List.setIfInBounds_toArray, List.set_cons_zero, List.set_cons_succ]
    refine wpAnyH_ready (rs := [15]) (by kernel_rfl) (by simp) ?_
    refine AllReadyH.cons (o := { dst := some 37, op := Op.call { callee := Callee.builtin Builtin.append, args := #[Operand.tmp 32, Operand.tmp 36], argTypes := #[46, 46] }, type := 46, pos := "items.go:84", after := #[{ on := 10, ground := Ground.data }, { on := 14, ground := Ground.data }], guard := none }) rfl (fun K hK => ?_) AllReadyH.nil
    refine step_append_lies _ (by rfl) (.tmp 32) (.tmp 36) 46 (by rfl) c.B 100 i0 _ 6 64 Tryz.underlying46 HI.out HZ.out HZ1.out HZ2.out rfl (by omega) v3 g.ord.length (cellsP g.ord) (by rfl) ((HPU.out.ord.alloc _).drew) ⟨U.heap.size, 0, none⟩ 1 1 (cellP (a', b')) (by rfl) (by rfl) (World.news_of_block (cs := (cellP (a', b')).toArray) (t := 100) (fr := (0, 0)) HNB2.out) (cellsP_one (a', b')) (by omega) (by unfold maxLen; omega) (by omega) (by simp; omega) (U.heap.size + 1) (by simp) ?_
    intro gg cap w5 hown5 hgrow5 hat5 hlt5
    have G := row_tail (l := 3) ⟨by decide, by decide, by decide, by decide⟩ HRU.out HPU.out.ord HPU.out.pol HPU.out.qB HPU.out.par hown5 hgrow5
    have c5 : w5.cell? ⟨q, 3, none⟩ = some v3 := (blk_cell G.1 3).trans rfl
    have f5 : w5.frozen? ⟨q, 3, none⟩ = false := blk_frozen G.1 3
    have hL5 := HLU.out.grown HPU.out hgrow5
    have hS5 := hL5.held
    have hS6 := (hL5.set G.1 3 (.slice (some ⟨gg, 0, none⟩) (g.ord.length + 1) cap)).held
    unfold HeldS at hS5 hS6
    refine hK.out _ _ hS5 (fun hHeld => ?_)
    clear hK K
    try simp only [Act.put, List.setIfInBounds_toArray, List.set_cons_zero, List.set_cons_succ]
    refine wpAnyH_take (i := 16) (oi := { dst := some 38, op := Op.nilCheck (Operand.tmp 25), type := 0, pos := "items.go:84", after := #[{ on := 3, ground := Ground.data }, { on := 0, ground := Ground.phase }, { on := 1, ground := Ground.phase }, { on := 2, ground := Ground.phase }, { on := 3, ground := Ground.phase }, { on := 4, ground := Ground.phase }, { on := 5, ground := Ground.phase }, { on := 6, ground := Ground.phase }, { on := 7, ground := Ground.phase }, { on := 8, ground := Ground.phase }, { on := 9, ground := Ground.phase }, { on := 10, ground := Ground.phase }, { on := 11, ground := Ground.phase }, { on := 12, ground := Ground.phase }, { on := 13, ground := Ground.phase }, { on := 14, ground := Ground.phase }, { on := 15, ground := Ground.phase }], guard := none }) (v := .pointer (some ⟨q, 0, none⟩)) rfl (by kernel_rfl) (by kernel_rfl) (by kernel_rfl) (fun _ _ _ h => h) (Or.inl ⟨by rfl, by intro w hSw; (try dsimp only at hSw); go_simp⟩) hHeld ?_
    try simp only [Act.put, List.setIfInBounds_toArray, List.set_cons_zero, List.set_cons_succ]
    refine wpAnyH_take (i := 17) (oi := { dst := some 39, op := Op.fieldAddr 53 (Operand.tmp 38) 3, type := 0, pos := "items.go:84", after := #[{ on := 16, ground := Ground.data }, { on := 0, ground := Ground.phase }, { on := 1, ground := Ground.phase }, { on := 2, ground := Ground.phase }, { on := 3, ground := Ground.phase }, { on := 4, ground := Ground.phase }, { on := 5, ground := Ground.phase }, { on := 6, ground := Ground.phase }, { on := 7, ground := Ground.phase }, { on := 8, ground := Ground.phase }, { on := 9, ground := Ground.phase }, { on := 10, ground := Ground.phase }, { on := 11, ground := Ground.phase }, { on := 12, ground := Ground.phase }, { on := 13, ground := Ground.phase }, { on := 14, ground := Ground.phase }, { on := 15, ground := Ground.phase }], guard := none }) (v := .pointer (some ⟨q, 3, none⟩)) rfl (by kernel_rfl) (by kernel_rfl) (by kernel_rfl) (fun _ _ _ h => h) (Or.inl ⟨by rfl, by intro w hSw; (try dsimp only at hSw); go_simp⟩) hHeld ?_
    try simp only [Act.put, List.setIfInBounds_toArray, List.set_cons_zero, List.set_cons_succ]
    refine wpAnyH_ready (rs := [18]) (by kernel_rfl) (by simp) ?_
    refine AllReadyH.cons (o := { dst := none, op := Op.store 46 (Operand.tmp 39) (Operand.tmp 37), type := 0, pos := "items.go:84", after := #[{ on := 17, ground := Ground.data }, { on := 15, ground := Ground.data }, { on := 15, ground := Ground.chain }, { on := 0, ground := Ground.phase }, { on := 1, ground := Ground.phase }, { on := 2, ground := Ground.phase }, { on := 3, ground := Ground.phase }, { on := 4, ground := Ground.phase }, { on := 5, ground := Ground.phase }, { on := 6, ground := Ground.phase }, { on := 7, ground := Ground.phase }, { on := 8, ground := Ground.phase }, { on := 9, ground := Ground.phase }, { on := 10, ground := Ground.phase }, { on := 11, ground := Ground.phase }, { on := 12, ground := Ground.phase }, { on := 13, ground := Ground.phase }, { on := 14, ground := Ground.phase }, { on := 15, ground := Ground.phase }], guard := none }) rfl (fun K hK => ?_) AllReadyH.nil
    go_simp
    refine hK.out _ _ hS6 (fun hHeld => ?_)
    clear hK K
    try simp only [Act.put, List.setIfInBounds_toArray, List.set_cons_zero, List.set_cons_succ]
    refine wpAnyH_done (by kernel_rfl) ?_ _
    have hv5 : (Value.slice (some ⟨gg, 0, none⟩) (g.ord.length + 1) cap).ownBlock = v3.ownBlock ∨ ∃ g', (Value.slice (some ⟨gg, 0, none⟩) (g.ord.length + 1) cap).ownBlock = some g' ∧ U.heap.size ≤ g' := by
      rcases hat5 with e | e
      · exact .inl e.symm
      · exact .inr ⟨gg, rfl, by omega⟩
    have HG := Lib.hid G.2; have HV5 := Lib.hid hv5
    clear G hown5 hgrow5 hat5 hlt5 c5 f5 hL5 hS5 hS6 hv5 hHeld
    go_wp2
    go_ret
    obtain ⟨hR6, hown6, hq6, hp6, hB6⟩ := HG.out
    refine ⟨v1, v2, _, rfl, hR6, ⟨hp6, hq6, row_other hr1 hb1 HPU.out.pol HPU.out.conf ⟨by decide, by decide⟩ hB6 (own_apart HPU.out.ord HPU.out.conf (by decide)), row_other hr1 hb1 HPU.out.pol HPU.out.integ ⟨by decide, by decide⟩ hB6 (own_apart HPU.out.ord HPU.out.integ (by decide)), ?_, HPU.out.apart, HPU.out.ppB, HPU.out.qB⟩, (Kr.of_kp HKU.out).trans (freeL_kr hB6 HPU.out.ord (.inr rfl))⟩
    show World.ownsRow _ _ _ _ _ (g.ord ++ [(a', b')]).length (cellsP (g.ord ++ [(a', b')]))
    rw [List.length_append, cellsP_snoc]
    exact hown6
  · refine AllReadyH.cons (o := { dst := some 36, op := Op.buildSlice 46 1 #[(0, Operand.tmp 35)], type := 46, pos := "items.go:84", after := #[{ on := 13, ground := Ground.data }], guard := none }) rfl (fun K hK => ?_) AllReadyH.nil
    go_simp
    refine hK.out _ _ (HSA.out _) (fun hHeld => ?_)
    clear hK K
    try simp only [Act.put, List.setIfInBounds_toArray, List.set_cons_zero, List.set_cons_succ]
    refine wpAnyH_ready (rs := [10]) (by kernel_rfl) (by simp) ?_
    refine AllReadyH.cons (o := { dst := some 32, op := Op.load 46 (Operand.tmp 31), type := 46, pos := "items.go:84", after := #[{ on := 9, ground := Ground.data }], guard := none }) rfl (fun K hK => ?_) AllReadyH.nil
    go_simp
    refine hK.out _ _ (HSA.out _) (fun hHeld => ?_)
    clear hK K
    try simp only [Act.put, List.setIfInBounds_toArray, List.set_cons_zero, List.set_cons_succ]
    refine wpAnyH_ready (rs := [15]) (by kernel_rfl) (by simp) ?_
    refine AllReadyH.cons (o := { dst := some 37, op := Op.call { callee := Callee.builtin Builtin.append, args := #[Operand.tmp 32, Operand.tmp 36], argTypes := #[46, 46] }, type := 46, pos := "items.go:84", after := #[{ on := 10, ground := Ground.data }, { on := 14, ground := Ground.data }], guard := none }) rfl (fun K hK => ?_) AllReadyH.nil
    refine step_append_lies _ (by rfl) (.tmp 32) (.tmp 36) 46 (by rfl) c.B 100 i0 _ 6 64 Tryz.underlying46 HI.out HZ.out HZ1.out HZ2.out rfl (by omega) v3 g.ord.length (cellsP g.ord) (by rfl) ((HPU.out.ord.alloc _).drew) ⟨U.heap.size, 0, none⟩ 1 1 (cellP (a', b')) (by rfl) (by rfl) (World.news_of_block (cs := (cellP (a', b')).toArray) (t := 100) (fr := (0, 0)) HNB2.out) (cellsP_one (a', b')) (by omega) (by unfold maxLen; omega) (by omega) (by simp; omega) (U.heap.size + 1) (by simp) ?_
    intro gg cap w5 hown5 hgrow5 hat5 hlt5
    have G := row_tail (l := 3) ⟨by decide, by decide, by decide, by decide⟩ HRU.out HPU.out.ord HPU.out.pol HPU.out.qB HPU.out.par hown5 hgrow5
    have c5 : w5.cell? ⟨q, 3, none⟩ = some v3 := (blk_cell G.1 3).trans rfl
    have f5 : w5.frozen? ⟨q, 3, none⟩ = false := blk_frozen G.1 3
    have hL5 := HLU.out.grown HPU.out hgrow5
    have hS5 := hL5.held
    have hS6 := (hL5.set G.1 3 (.slice (some ⟨gg, 0, none⟩) (g.ord.length + 1) cap)).held
    unfold HeldS at hS5 hS6
    refine hK.out _ _ hS5 (fun hHeld => ?_)
    clear hK K
    try simp only [Act.put, List.setIfInBounds_toArray, List.set_cons_zero, List.set_cons_succ]
    refine wpAnyH_take (i := 16) (oi := { dst := some 38, op := Op.nilCheck (Operand.tmp 25), type := 0, pos := "items.go:84", after := #[{ on := 3, ground := Ground.data }, { on := 0, ground := Ground.phase }, { on := 1, ground := Ground.phase }, { on := 2, ground := Ground.phase }, { on := 3, ground := Ground.phase }, { on := 4, ground := Ground.phase }, { on := 5, ground := Ground.phase }, { on := 6, ground := Ground.phase }, { on := 7, ground := Ground.phase }, { on := 8, ground := Ground.phase }, { on := 9, ground := Ground.phase }, { on := 10, ground := Ground.phase }, { on := 11, ground := Ground.phase }, { on := 12, ground := Ground.phase }, { on := 13, ground := Ground.phase }, { on := 14, ground := Ground.phase }, { on := 15, ground := Ground.phase }], guard := none }) (v := .pointer (some ⟨q, 0, none⟩)) rfl (by kernel_rfl) (by kernel_rfl) (by kernel_rfl) (fun _ _ _ h => h) (Or.inl ⟨by rfl, by intro w hSw; (try dsimp only at hSw); go_simp⟩) hHeld ?_
    try simp only [Act.put, List.setIfInBounds_toArray, List.set_cons_zero, List.set_cons_succ]
    refine wpAnyH_take (i := 17) (oi := { dst := some 39, op := Op.fieldAddr 53 (Operand.tmp 38) 3, type := 0, pos := "items.go:84", after := #[{ on := 16, ground := Ground.data }, { on := 0, ground := Ground.phase }, { on := 1, ground := Ground.phase }, { on := 2, ground := Ground.phase }, { on := 3, ground := Ground.phase }, { on := 4, ground := Ground.phase }, { on := 5, ground := Ground.phase }, { on := 6, ground := Ground.phase }, { on := 7, ground := Ground.phase }, { on := 8, ground := Ground.phase }, { on := 9, ground := Ground.phase }, { on := 10, ground := Ground.phase }, { on := 11, ground := Ground.phase }, { on := 12, ground := Ground.phase }, { on := 13, ground := Ground.phase }, { on := 14, ground := Ground.phase }, { on := 15, ground := Ground.phase }], guard := none }) (v := .pointer (some ⟨q, 3, none⟩)) rfl (by kernel_rfl) (by kernel_rfl) (by kernel_rfl) (fun _ _ _ h => h) (Or.inl ⟨by rfl, by intro w hSw; (try dsimp only at hSw); go_simp⟩) hHeld ?_
    try simp only [Act.put, List.setIfInBounds_toArray, List.set_cons_zero, List.set_cons_succ]
    refine wpAnyH_ready (rs := [18]) (by kernel_rfl) (by simp) ?_
    refine AllReadyH.cons (o := { dst := none, op := Op.store 46 (Operand.tmp 39) (Operand.tmp 37), type := 0, pos := "items.go:84", after := #[{ on := 17, ground := Ground.data }, { on := 15, ground := Ground.data }, { on := 15, ground := Ground.chain }, { on := 0, ground := Ground.phase }, { on := 1, ground := Ground.phase }, { on := 2, ground := Ground.phase }, { on := 3, ground := Ground.phase }, { on := 4, ground := Ground.phase }, { on := 5, ground := Ground.phase }, { on := 6, ground := Ground.phase }, { on := 7, ground := Ground.phase }, { on := 8, ground := Ground.phase }, { on := 9, ground := Ground.phase }, { on := 10, ground := Ground.phase }, { on := 11, ground := Ground.phase }, { on := 12, ground := Ground.phase }, { on := 13, ground := Ground.phase }, { on := 14, ground := Ground.phase }, { on := 15, ground := Ground.phase }], guard := none }) rfl (fun K hK => ?_) AllReadyH.nil
    go_simp
    refine hK.out _ _ hS6 (fun hHeld => ?_)
    clear hK K
    try simp only [Act.put, List.setIfInBounds_toArray, List.set_cons_zero, List.set_cons_succ]
    refine wpAnyH_done (by kernel_rfl) ?_ _
    have hv5 : (Value.slice (some ⟨gg, 0, none⟩) (g.ord.length + 1) cap).ownBlock = v3.ownBlock ∨ ∃ g', (Value.slice (some ⟨gg, 0, none⟩) (g.ord.length + 1) cap).ownBlock = some g' ∧ U.heap.size ≤ g' := by
      rcases hat5 with e | e
      · exact .inl e.symm
      · exact .inr ⟨gg, rfl, by omega⟩
    have HG := Lib.hid G.2; have HV5 := Lib.hid hv5
    clear G hown5 hgrow5 hat5 hlt5 c5 f5 hL5 hS5 hS6 hv5 hHeld
    go_wp2
    go_ret
    obtain ⟨hR6, hown6, hq6, hp6, hB6⟩ := HG.out
    refine ⟨v1, v2, _, rfl, hR6, ⟨hp6, hq6, row_other hr1 hb1 HPU.out.pol HPU.out.conf ⟨by decide, by decide⟩ hB6 (own_apart HPU.out.ord HPU.out.conf (by decide)), row_other hr1 hb1 HPU.out.pol HPU.out.integ ⟨by decide, by decide⟩ hB6 (own_apart HPU.out.ord HPU.out.integ (by decide)), ?_, HPU.out.apart, HPU.out.ppB, HPU.out.qB⟩, (Kr.of_kp HKU.out).trans (freeL_kr hB6 HPU.out.ord (.inr rfl))⟩
    show World.ownsRow _ _ _ _ _ (g.ord ++ [(a', b')]).length (cellsP (g.ord ++ [(a', b')]))
    rw [List.length_append, cellsP_snoc]
    exact hown6
end Go.Proofs.YtcelelnmphdlbaaGreatDoor
