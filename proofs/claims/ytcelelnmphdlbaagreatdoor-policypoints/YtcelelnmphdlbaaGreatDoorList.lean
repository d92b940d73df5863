/- Names, put behind those of their kind. -/
import Derived.Test.YtcelelnmphdlbaaGreatDoorYName
import Derived.Laws.AppendOwn
import Derived.OwnWalk
import Derived.Deep.AppendLies
import Derived.Deep.RegionLaw
import Derived.Deep.RegionWith
import Derived.Deep.LoopGhost
namespace Go.Proofs.YtcelelnmphdlbaaGreatDoor
open Go.RowKit Tn Lx

theorem Tryz.info50 : (Tryz.prog.info? 50).map (fun i => (i.zero, i.size, i.bytes)) = some (some (.agg #[.string ⟨#[]⟩, .int .i64 0, .int .i64 0]), 3, 32) := by kernel_rfl

/-- what the reading of names may turn: the reader's own, the policy's block, the row of their kind -/
def FreeL (c : Cx) (q : Nat) (v : Value) (w : World) (k : Nat) : Prop := Free c w k ∨ k = q ∨ v.ownBlock = some k
theorem freeL_kp {c : Cx} {q : Nat} {v : Value} {a b : World} (h : Kp c a b) : But (FreeL c q v a) a b := But.mono h fun _ _ e => .inl e
theorem freeL_trans {c : Cx} {q : Nat} {v v0 : Value} {a b d : World} (h : But (FreeL c q v0 a) a b) (hv : v.ownBlock = v0.ownBlock ∨ ∃ g, v.ownBlock = some g ∧ a.heap.size ≤ g) (k : But (FreeL c q v b) b d) : But (FreeL c q v0 a) a d :=
  ⟨k.os.trans h.os, k.tape.trans h.tape, k.output.trans h.output, Nat.le_trans h.size k.size, fun i hi hp => by
    have e := h.block i hi hp
    refine (k.block i (Nat.lt_of_lt_of_le hi h.size) ?_).trans e
    rintro ((e1 | e1 | ⟨e1, cs, fr, e2⟩) | e1 | e1)
    · exact hp (.inl (.inl e1))
    · exact hp (.inl (.inr (.inl e1)))
    · exact hp (.inl (.inr (.inr ⟨e1, cs, fr, e ▸ e2⟩)))
    · exact hp (.inr (.inl e1))
    · rcases hv with hv | ⟨g, hv, hg⟩
      · exact hp (.inr (.inr (hv ▸ e1)))
      · rw [hv] at e1; injection e1 with e1; omega⟩
theorem cells3_one (d : Py.Nm) : ∀ u ∈ cell3 d, u.oneCell' = true := by
  intro u hu
  simp only [cell3, List.mem_cons, List.not_mem_nil, or_false] at hu
  rcases hu with rfl | rfl | rfl <;> rfl

/-- behind an append to a row of the policy's: t the row's type, z its items' size -/
theorem row_tail {c : Cx} {X : Nat → Prop} {w1 w5 : World} {s1 : Ex.S} {q pp l z : Nat} {t : TypeId} {cs par : Array Value} {v : Value} {n : Nat} {xs ys : List Value} {g cap m : Nat} {o : Obj} (ht : t ≠ 189 ∧ t ≠ 3 ∧ t ≠ 53 ∧ t ≠ 66) (hR1 : Rd c X w1 s1) (ho1 : w1.ownsRow c.B t z v n xs) (hq1 : w1.heap[q]? = some (.cells cs 53 (0, 0))) (hqB : c.B ≤ q) (hpp : w1.heap[pp]? = some (.cells par 66 (0, 0)))
    (hown : w5.ownsRow c.B t z (.slice (some ⟨g, 0, none⟩) m cap) m ys) (hgrow : ((w1.alloc o).drew).grownBy w5 v.ownBlock) :
    w5.heap[q]? = some (.cells cs 53 (0, 0)) ∧ Rd c X (w5.setCell ⟨q, l, none⟩ (.slice (some ⟨g, 0, none⟩) m cap)) s1 ∧ (w5.setCell ⟨q, l, none⟩ (.slice (some ⟨g, 0, none⟩) m cap)).ownsRow c.B t z (.slice (some ⟨g, 0, none⟩) m cap) m ys ∧
    (w5.setCell ⟨q, l, none⟩ (.slice (some ⟨g, 0, none⟩) m cap)).heap[q]? = some (.cells (cs.setIfInBounds l (.slice (some ⟨g, 0, none⟩) m cap)) 53 (0, 0)) ∧ (w5.setCell ⟨q, l, none⟩ (.slice (some ⟨g, 0, none⟩) m cap)).heap[pp]? = some (.cells par 66 (0, 0)) ∧ But (FreeL c q v w1) w1 (w5.setCell ⟨q, l, none⟩ (.slice (some ⟨g, 0, none⟩) m cap)) := by
  have hB : But (fun k => v.ownBlock = some k) w1 w5 := by
    have h1 : But (fun k => v.ownBlock = some k) w1 (w1.alloc o).drew := But.of_below ((Below.refl _ w1).alloc (Nat.le_refl _) _).drew
    exact h1.trans (But.of_grown hgrow (fun k e => e))
  have hr := hR1.rlt; have hb := hR1.blt; have hg := hR1.glt
  have htt : ∀ k, v.ownBlock = some k → c.B ≤ k ∧ ∃ cs' fr, w1.heap[k]? = some (.cells cs' t fr) := fun k hk => by
    obtain ⟨e0, cur, e1⟩ := own_tag ho1 hk
    exact ⟨e0, cur, _, e1⟩
  have hvq : v.ownBlock ≠ some q := fun e => by
    obtain ⟨_, cs', fr, e1⟩ := htt q e
    rw [hq1] at e1; injection e1 with e1; injection e1 with _ e1; exact ht.2.2.1 e1.symm
  have hvp : v.ownBlock ≠ some pp := fun e => by
    obtain ⟨_, cs', fr, e1⟩ := htt pp e
    rw [hpp] at e1; injection e1 with e1; injection e1 with _ e1; exact ht.2.2.2 e1.symm
  have hqp : pp ≠ q := fun e => by
    rw [e, hq1] at hpp; injection hpp with e1; injection e1 with _ e1; exact absurd e1 (by decide)
  have hq5 : w5.heap[q]? = some (.cells cs 53 (0, 0)) := hB.heap hq1 hvq
  have hp5 : w5.heap[pp]? = some (.cells par 66 (0, 0)) := hB.heap hpp hvp
  have hgq : g ≠ q := fun e => by
    obtain ⟨_, cur, e1⟩ := own_tag hown (g := g) rfl
    rw [e, hq5] at e1; injection e1 with e1; injection e1 with _ e1; exact ht.2.2.1 e1.symm
  have hR5 : Rd c X w5 s1 := hR1.but hB (fun e => by have := (htt _ e).1; omega) (fun e => by have := (htt _ e).1; omega) (fun e => by have := (htt _ e).1; omega) (fun k e => by
    obtain ⟨_, cs', fr, e1⟩ := htt k e
    exact .inr ⟨cs', _, fr, e1, ht.1, ht.2.1⟩)
  have hS : But (fun k => k = q) w5 (w5.setCell ⟨q, l, none⟩ (.slice (some ⟨g, 0, none⟩) m cap)) := But.setCell (p := fun k => k = q) w5 rfl l _
  refine ⟨hq5, ?_, ?_, ?_, ?_, ?_⟩
  · exact hR5.but hS (fun e => by omega) (fun e => by omega) (fun e => by omega) (fun k e => .inr (by subst e; exact ⟨_, _, _, hq5, by decide, by decide⟩))
  · exact hS.own hown (fun k hk e => hgq ((Option.some.inj (show some g = some k from hk)).trans e))
  · exact blk_set hq5 l _
  · exact hS.heap hp5 hqp
  · refine ⟨hS.os.trans hB.os, hS.tape.trans hB.tape, hS.output.trans hB.output, Nat.le_trans hB.size hS.size, fun k hk hn => ?_⟩
    have h2 := hB.block k hk (fun e => hn (.inr (.inr e)))
    exact (hS.block k (Nat.lt_of_lt_of_le hk hB.size) (fun e => hn (.inr (.inl e)))).trans h2

theorem set_same {cs : Array Value} {i : Nat} {v : Value} (h : cs[i]? = some v) : cs.setIfInBounds i v = cs := by
  apply Array.ext'
  rw [Array.toList_setIfInBounds]
  apply List.ext_getElem?
  intro j
  rw [List.getElem?_set]
  have h' : cs.toList[i]? = some v := by simpa using h
  by_cases e : i = j
  · subst e
    rw [if_pos rfl, h', if_pos (by have := (List.getElem?_eq_some_iff.1 h').1; exact this)]
  · rw [if_neg e]
theorem set_set (cs : Array Value) (i : Nat) (v u : Value) : (cs.setIfInBounds i v).setIfInBounds i u = cs.setIfInBounds i u := by
  apply Array.ext'
  simp [Array.toList_setIfInBounds]

/-- between two names -/
structure LSt (c : Cx) (X : Nat → Prop) (w : World) (q pp li : Nat) (cs : Array Value) (v0 : Value) (r : List Py.Nm × Ex.S) (f : Nat) (l : List Py.Nm) (s : Ex.S) (v : Value) (wr : World) : Prop where
  rd : Rd c X wr s
  par : wr.heap[pp]? = some (.cells (parCells c.r q) 66 (0, 0))
  pol : wr.heap[q]? = some (.cells (cs.setIfInBounds li v) 53 (0, 0))
  own : wr.ownsRow c.B 50 3 v l.length (cells3 l)
  fr : But (FreeL c q v0 w) w wr
  at_ : v.ownBlock = v0.ownBlock ∨ ∃ g, v.ownBlock = some g ∧ w.heap.size ≤ g
  fin : Py.listO c.ts f l s = some r
  few : l.length + f ≤ 2000

set_option maxRecDepth 100000 in
set_option maxHeartbeats 8000000 in
theorem list_ok (c : Cx) (X : Nat → Prop) (w : World) (s : Ex.S) (q pp li n : Nat) (cs : Array Value) (v : Value) (l : List Py.Nm) (r : List Py.Nm × Ex.S) (h : Rd c X w s) (hpp : w.heap[pp]? = some (.cells (parCells c.r q) 66 (0, 0))) (hpB : c.B ≤ pp) (hqB : c.B ≤ q)
    (hq : w.heap[q]? = some (.cells cs 53 (0, 0))) (hl : cs[li]? = some v) (hown : w.ownsRow c.B 50 3 v l.length (cells3 l)) (hr : Py.listO c.ts n l s = some r) (hfew : l.length + n ≤ 2000) :
    Calls Tryz.prog 45 #[.pointer (some ⟨pp, 0, none⟩), .pointer (some ⟨q, li, none⟩), .func (.func 46) #[] #[]] w fun e w' => ∃ v', e = .returned .nilIface ∧ Rd c X w' r.2 ∧ w'.heap[pp]? = some (.cells (parCells c.r q) 66 (0, 0)) ∧ w'.heap[q]? = some (.cells (cs.setIfInBounds li v') 53 (0, 0)) ∧ w'.ownsRow c.B 50 3 v' r.1.length (cells3 r.1) ∧ But (FreeL c q v w) w w' ∧ (v'.ownBlock = v.ownBlock ∨ ∃ g, v'.ownBlock = some g ∧ w.heap.size ≤ g) := by
  have hr1 := h.rlt; have hb1 := h.blt; have hg1 := h.glt; have hsz := h.size
  have hlc : li < cs.size := by
    rcases Nat.lt_or_ge li cs.size with e | e
    · exact e
    · rw [Array.getElem?_eq_none e] at hl; cases hl
  have hst0 : LSt c X w q pp li cs v r n l s v w := ⟨h, hpp, by rw [set_same hl]; exact hq, hown, But.refl _ _, .inl rfl, hr, hfew⟩
  have HST0 := Lib.hid hst0
  obtain ⟨i0, hi, hz0, hz1, hz2⟩ := info_parts Tryz.info50
  have HI := Lib.hid hi; have HZ := Lib.hid hz0; have HZ1 := Lib.hid hz1; have HZ2 := Lib.hid hz2
  clear hst0 h hpp hq hl hown hr hfew hi hz0 hz1 hz2
  go_enter Tryz.func45, Tryz.ntmps45
  go_wp2_with fail
  go_loopg [] n (fun k wr => ∃ (l' : List Py.Nm) (s' : Ex.S) (u : Value), LSt c X w q pp li cs v r k l' s' u wr)
  case atStart => exact ⟨l, s, v, HST0.out⟩
  case round =>
    obtain ⟨l', s', u, hst⟩ := hrel
    obtain ⟨k, rfl⟩ : ∃ k, gk = k + 1 := by
      cases gk with
      | zero => have := hst.fin; rw [Py.listO] at this; cases this
      | succ k => exact ⟨k, rfl⟩
    have hfin := hst.fin
    rw [Py.listO] at hfin
    obtain ⟨⟨m, s1⟩, hnm, hfin⟩ := Option.bind_eq_some_iff.1 hfin
    have hA := yname_ok c X wr s' s1 pp q m hst.rd hst.par hpB hnm
    have HA := Lib.hid hA; have HST := Lib.hid hst; have HFIN := Lib.hid hfin
    clear hA hst hfin hnm HST0
    go_wp2_with fail
    refine HA.out.mono ?_
    rintro e w1 ⟨rfl, hR1, hK1⟩
    unfold yval
    obtain ⟨V, hV⟩ : ∃ V, w1.alloc (.cells #[.string ⟨m.text.toArray⟩, .int .i64 m.at_.line, .int .i64 m.at_.col] 50) = V := ⟨_, rfl⟩
    have hbV : Below w1.heap.size w1 V := by rw [← hV]; exact (Below.refl _ w1).alloc (Nat.le_refl _) _
    have hsV : V.heap.size = w1.heap.size + 1 := by rw [← hV]; simp
    have kV : V.heap[w1.heap.size]? = some (.cells #[.string ⟨m.text.toArray⟩, .int .i64 m.at_.line, .int .i64 m.at_.col] 50 (0, 0)) := by rw [← hV]; exact blk_new w1 _
    have hKV := hK1.then_below hbV
    have hRV := hR1.below hbV
    have hqV := hKV.heap HST.out.pol (by omega) (by omega) (by decide)
    have hpV := hKV.heap HST.out.par (by omega) (by omega) (by decide)
    have hoV : V.ownsRow c.B 50 3 u l'.length (cells3 l') := But.own hKV HST.out.own (fun g hg => by
      obtain ⟨e0, cur, e1⟩ := own_tag HST.out.own hg
      rintro (e | e | ⟨_, cs', fr', e⟩)
      · omega
      · omega
      · rw [e1] at e; injection e with e; injection e with _ e; exact absurd e (by decide))
    have q1 : V.cell? ⟨q, li, none⟩ = some u := by
      rw [blk_cell hqV li, Array.getElem?_setIfInBounds_self_of_lt hlc]
    have q1' : ∀ o, (V.alloc o).cell? ⟨q, li, none⟩ = some u := fun o => (World.cell?_alloc_lt _ _ _ (World.block_lt_of_cell? _ _ q1)).trans q1
    have y0 : V.cell? ⟨w1.heap.size, 0, none⟩ = some (.string ⟨m.text.toArray⟩) := (blk_cell kV 0).trans rfl
    have y1 : V.cell? ⟨w1.heap.size, 1, none⟩ = some (.int .i64 m.at_.line) := (blk_cell kV 1).trans rfl
    have y2 : V.cell? ⟨w1.heap.size, 2, none⟩ = some (.int .i64 m.at_.col) := (blk_cell kV 2).trans rfl
    have hnb : ((V.alloc (.cells #[.string ⟨m.text.toArray⟩, .int .i64 m.at_.line, .int .i64 m.at_.col] 50)).drew).heap[V.heap.size]? = some (.cells #[.string ⟨m.text.toArray⟩, .int .i64 m.at_.line, .int .i64 m.at_.col] 50 (0, 0)) := heap_alloc_new V _
    have hfw := HST.out.few
    have hBsz := hRV.size
    have HNB := Lib.hid hnb; have HV := Lib.hid hV; have HKV := Lib.hid hKV; have HRV := Lib.hid hRV; have HQV := Lib.hid hqV; have HPV := Lib.hid hpV; have HOV := Lib.hid hoV
    clear hnb hV hKV hRV hqV hpV hoV hbV kV hR1 hK1 HA hsV
    go_upto_region 4 with fail
    rw [HV.out]
    go_region_law (refine step_append_lies _ (by rfl) (.tmp 21) (.tmp 23) 45 (by rfl) c.B 50 i0 _ 3 32 Tryz.underlying45 HI.out HZ.out HZ1.out HZ2.out rfl (by omega) u l'.length (cells3 l') (by rfl) ((HOV.out.alloc _).drew) ⟨V.heap.size, 0, none⟩ 1 1 (cell3 m) (by rfl) (by rfl) (World.news_of_block (cs := #[.string ⟨m.text.toArray⟩, .int .i64 m.at_.line, .int .i64 m.at_.col]) (t := 50) (fr := (0, 0)) HNB.out) (cells3_one m) (by omega) (by unfold maxLen; omega) (by omega) (by simp; omega) (V.heap.size + 1) (by simp) ?_; intro g cap w5 hown5 hgrow5 hat5 hlt5; have G := row_tail (l := li) ⟨by decide, by decide, by decide, by decide⟩ HRV.out HOV.out HQV.out hqB HPV.out hown5 hgrow5; have c5 : w5.cell? ⟨q, li, none⟩ = some u := (by rw [blk_cell G.1 li, Array.getElem?_setIfInBounds_self_of_lt hlc]); have f5 : w5.frozen? ⟨q, li, none⟩ = false := blk_frozen G.1 li)
    all_goals
      obtain ⟨v', hv'⟩ : ∃ v' : Value, Value.slice (some ⟨g, 0, none⟩) (l'.length + 1) cap = v' := ⟨_, rfl⟩
      have hvb : v'.ownBlock = some g := by rw [← hv']; rfl
      rw [hv'] at G ⊢
      obtain ⟨w6, hw6⟩ : ∃ w6, w5.setCell ⟨q, li, none⟩ v' = w6 := ⟨_, rfl⟩
      rw [hw6] at G ⊢
      obtain ⟨_, hR6, hown6, hq6, hp6, hB6⟩ := G
      rw [set_set] at hq6
      have hwV : w.heap.size ≤ V.heap.size := Nat.le_trans HST.out.fr.size HKV.out.size
      have hat6 : v'.ownBlock = v.ownBlock ∨ ∃ g, v'.ownBlock = some g ∧ w.heap.size ≤ g := by
        rcases hat5 with e | e
        · rw [hvb, ← e]; rcases HST.out.at_ with e1 | ⟨g', e1, e2⟩
          · exact .inl e1
          · exact .inr ⟨g', e1, e2⟩
        · exact .inr ⟨g, hvb, by omega⟩
      have hfr6 : But (FreeL c q v w) w w6 := freeL_trans (freeL_trans HST.out.fr HST.out.at_ (freeL_kp HKV.out)) HST.out.at_ hB6
      have hI := is_any c X w6 s1 [44] hR6
      have p06 : w6.cell? ⟨pp, 0, none⟩ = some (.pointer (some ⟨c.r, 0, none⟩)) := (blk_cell hp6 0).trans rfl
      have hl6 : w6.ownsRow c.B 50 3 v' (l' ++ [m]).length (cells3 (l' ++ [m])) := by rw [List.length_append, cells3_snoc]; exact hown6
      have hfin := HFIN.out
      have HR6 := Lib.hid hR6; have HO6 := Lib.hid hl6; have HQ6 := Lib.hid hq6; have HP6 := Lib.hid hp6; have HF6 := Lib.hid hfr6; have HA6 := Lib.hid hat6
      clear hR6 hl6 hown6 hq6 hp6 hfr6 hat6 hB6 hat5 hlt5 hgrow5 hown5 c5 f5 HST HKV HRV HQV HPV HOV HNB HV HFIN hw6 hv' hvb q1 q1' y0 y1 y2
      cases hi : Ex.is c.ts s1 [44] with
      | false =>
        rw [hi] at hI hfin
        rw [if_neg (by decide)] at hfin
        have HI7 := Lib.hid hI; have HFF := Lib.hid hfin
        clear hI hfin hi
        go_wp2_with fail
        refine HI7.out.mono ?_
        rintro e w7 ⟨rfl, hb7⟩
        have HB7 := Lib.hid hb7
        clear hb7
        go_wp2
        go_ret
        obtain rfl := Option.some.inj HFF.out
        exact ⟨v', rfl, HR6.out.below HB7.out, (HB7.out.block _ (lt_of_heap HP6.out)).trans HP6.out, (HB7.out.block _ (lt_of_heap HQ6.out)).trans HQ6.out, own_below HO6.out HB7.out, freeL_trans HF6.out (.inl rfl) (freeL_kp (Kp.of_below HB7.out)), HA6.out⟩
      | true =>
        rw [hi] at hI hfin
        rw [if_pos rfl] at hfin
        have htk : Py.takeO c.ts [44] s1 = some s1.skip := by rw [Py.takeO, if_pos hi]
        have HI7 := Lib.hid hI; have HFF := Lib.hid hfin; have HTK := Lib.hid htk
        clear hI hfin hi htk
        go_wp2_with fail
        refine HI7.out.mono ?_
        rintro e w7 ⟨rfl, hb7⟩
        have hp7 := (hb7.block _ (lt_of_heap HP6.out)).trans HP6.out
        have p07 : w7.cell? ⟨pp, 0, none⟩ = some (.pointer (some ⟨c.r, 0, none⟩)) := (blk_cell hp7 0).trans rfl
        obtain ⟨V7, hV7⟩ : ∃ V, w7.alloc (.cells #[.string ⟨#[44]⟩] 9) = V := ⟨_, rfl⟩
        have hbV7 : Below w7.heap.size w7 V7 := by rw [← hV7]; exact (Below.refl _ w7).alloc (Nat.le_refl _) _
        have ks : V7.cell? ⟨w7.heap.size, 0, none⟩ = some (.string ⟨#[44]⟩) := by rw [← hV7]; exact (blk_cell (blk_new w7 _) 0).trans rfl
        have hb67 : Below w6.heap.size w6 V7 := hb7.trans (hbV7.mono hb7.size)
        have hT := take_ok c X V7 s1 s1.skip [44] w7.heap.size (HR6.out.below hb67) ks HTK.out
        have HT := Lib.hid hT; have HV7 := Lib.hid hV7; have HB67 := Lib.hid hb67
        clear hb7 hp7 hbV7 ks hb67 hT hV7 HI7
        go_wp2_with fail
        rw [HV7.out]
        refine HT.out.mono ?_
        rintro e w8 ⟨rfl, hR8, hK8⟩
        have hK68 : Kp c w6 w8 := Below.then_kp HB67.out hK8
        have hst8 : LSt c X w q pp li cs v r k (l' ++ [m]) s1.skip v' w8 :=
          ⟨hR8, hK68.heap HP6.out (by omega) (by omega) (by decide), hK68.heap HQ6.out (by omega) (by omega) (by decide), But.own hK68 HO6.out (fun g hg => by
            obtain ⟨e0, cur, e1⟩ := own_tag HO6.out hg
            rintro (e | e | ⟨_, cs', fr', e⟩)
            · omega
            · omega
            · rw [e1] at e; injection e with e; injection e with _ e; exact absurd e (by decide)), freeL_trans HF6.out (.inl rfl) (freeL_kp hK68), HA6.out, HFF.out, by simp; omega⟩
        have HST8 := Lib.hid hst8
        clear hst8 hK68 hR8 hK8 HT HV7 HB67
        go_wp2_with fail
        go_roundg k
        case measure => omega
        case rel => exact ⟨l' ++ [m], s1.skip, v', HST8.out⟩
end Go.Proofs.YtcelelnmphdlbaaGreatDoor
