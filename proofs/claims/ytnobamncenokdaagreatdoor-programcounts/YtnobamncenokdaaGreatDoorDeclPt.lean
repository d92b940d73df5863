import Derived.Test.YtnobamncenokdaaGreatDoorPName
import Derived.Laws.AppendOwn
import Derived.OwnWalk
import Derived.Deep.AppendLies
import Derived.Deep.RegionLaw
import Derived.Deep.RegionWith

/- A declaration's points. -/
namespace Go.Proofs.YtnobamncenokdaaGreatDoor
open Go.RowKit Tn Lx

/-- a declaration's variable, its cells -/
def dcCells (d : Pg.Dc) : Array Value := (cell10 d).toArray
/-- the declaration is there, and no error; or what is wrong -/
def DcP (c : Cx) (X : Nat → Prop) (w : World) (bd : Nat) (R : Ex.Res Pg.Dc) (e : Ending) (w' : World) : Prop :=
  (∃ d s, R = .ok d s ∧ e = .returned .nilIface ∧ Rd c X w' s ∧ But (FreeD c bd w) w w' ∧ w'.heap[bd]? = some (.cells (dcCells d) 46 (0, 0))) ∨ (∃ cd p, R = .bad cd p ∧ e = .returned (dval cd p) ∧ But (FreeD c bd w) w w')

theorem freeD_heap {c : Cx} {bd : Nat} {a b : World} (h : But (FreeD c bd a) a b) {k : Nat} {cs : Array Value} {t : TypeId} {fr : Nat × Nat} (hk : a.heap[k]? = some (.cells cs t fr)) (h1 : k ≠ c.r) (h2 : k ≠ c.bt) (h3 : k ≠ bd) (ht : t ≠ 169) : b.heap[k]? = some (.cells cs t fr) :=
  (h.block k (lt_of_heap hk) (by
    rintro ((e | e | ⟨_, cs', fr', e⟩) | e)
    · exact h1 e
    · exact h2 e
    · rw [hk] at e; injection e with e; injection e with _ e; exact ht e
    · exact h3 e)).trans hk

set_option maxRecDepth 100000 in
set_option maxHeartbeats 4000000 in
theorem points_any (c : Cx) (X : Nat → Prop) (w : World) (s : Ex.S) (pp bd : Nat) (n : Pg.Nm) (x : Value) (h : Rd c X w s) (hpp : w.heap[pp]? = some (.cells #[.pointer (some ⟨c.r, 0, none⟩), x] 55 (0, 0))) (hbd : w.heap[bd]? = some (.cells (dcCells ⟨n, Pg.zn, Pg.zn, 0⟩) 46 (0, 0))) (hbB : c.B ≤ bd) (hpB : c.B ≤ pp) :
    Calls Tryz.prog 30 #[.pointer (some ⟨pp, 0, none⟩), .pointer (some ⟨bd, 0, none⟩)] w (DcP c X w bd (Pg.points c.ts n s)) := by
  have hr1 := h.rlt; have hb1 := h.blt; have hg1 := h.glt; have hsz := h.size
  have hne : pp ≠ bd := fun e => by subst e; rw [hpp] at hbd; injection hbd with e; injection e with _ e; exact absurd e (by decide)
  obtain ⟨V, hV⟩ : ∃ V, w.alloc (.cells #[.string ⟨#[58]⟩, .string ⟨#[123]⟩] 9) = V := ⟨_, rfl⟩
  have hbV : Below w.heap.size w V := by rw [← hV]; exact (Below.refl _ w).alloc (Nat.le_refl _) _
  have ks : V.heap[w.heap.size]? = some (.cells #[.string ⟨#[58]⟩, .string ⟨#[123]⟩] 9 (0, 0)) := by rw [← hV]; exact blk_new w _
  have hRV := h.below hbV
  have hpV := (hbV.block pp (lt_of_heap hpp)).trans hpp
  have hdV := (hbV.block bd (lt_of_heap hbd)).trans hbd
  have hA := pname_any c X V s pp bd 3 (dcCells ⟨n, Pg.zn, Pg.zn, 0⟩) 46 [[58], [123]] (.slice (some ⟨w.heap.size, 0, none⟩) 2 2) x hRV hpV hdV (by simp [dcCells, cell10]) hbB hpB ⟨by decide, by decide⟩ (take_two c X V s [58] [123] w.heap.size hRV ks hsz)
  have hE : Pg.points c.ts n s = (Pg.nameAt c.ts [[58], [123]] s).bind fun cf s1 => (Pg.nameAt c.ts [] s1).bind fun i s2 => (Ex.take c.ts [125] s2).bind fun _ s3 => .ok ⟨n, cf, i, 0⟩ s3 := rfl
  generalize Pg.points c.ts n s = R at *
  have HE := Lib.hid hE; have HA := Lib.hid hA; have HV := Lib.hid hV; have HB := Lib.hid hbV; have HPV := Lib.hid hpV
  clear hE hA hV hbV ks hRV hpV hdV h hpp hbd
  go_enter Tryz.func30, Tryz.ntmps30
  go_wp2_with fail
  rw [HV.out]
  refine HA.out.mono ?_
  rintro e w1 (⟨cf, s1, hE1, rfl, hR1, hK1, hd1⟩ | ⟨cd, p1, hE1, rfl, hK1⟩)
  rotate_left
  · have hF : R = .bad cd p1 := by rw [HE.out, hE1]; rfl
    have HF := Lib.hid hF; have HK := Lib.hid (freeD_trans (FreeD.of_kp (Kp.of_below HB.out)) hK1)
    clear hF hE1 hK1
    unfold dval
    go_wp2
    go_ret
    exact .inr ⟨cd, p1, HF.out, rfl, HK.out⟩
  have hp1 := freeD_heap hK1 HPV.out (by omega) (by omega) hne (fun e => absurd e (by decide))
  have hA2 := pname_any c X w1 s1 pp bd 6 _ 46 [] (.slice none 0 0) x hR1 hp1 hd1 (by simp [nmCells, dcCells, cell10]) hbB hpB ⟨by decide, by decide⟩ (take_none c X w1 s1 hR1)
  have HA2 := Lib.hid hA2; have HK1 := Lib.hid (freeD_trans (FreeD.of_kp (Kp.of_below HB.out)) hK1); have HP1 := Lib.hid hp1; have HE1 := Lib.hid hE1
  clear hA2 hK1 hp1 hd1 hE1 hR1 HA HV HPV
  go_wp2_with fail
  refine HA2.out.mono ?_
  rintro e w2 (⟨ig, s2, hE2, rfl, hR2, hK2, hd2⟩ | ⟨cd, p2, hE2, rfl, hK2⟩)
  rotate_left
  · have hF : R = .bad cd p2 := by rw [HE.out, HE1.out, Ex.Res.bind, hE2]; rfl
    have HF := Lib.hid hF; have HK := Lib.hid (freeD_trans HK1.out hK2)
    clear hF hE2 hK2
    unfold dval
    go_wp2
    go_ret
    exact .inr ⟨cd, p2, HF.out, rfl, HK.out⟩
  have hp2 := freeD_heap hK2 HP1.out (by omega) (by omega) hne (fun e => absurd e (by decide))
  have p02 : w2.cell? ⟨pp, 0, none⟩ = some (.pointer (some ⟨c.r, 0, none⟩)) := (blk_cell hp2 0).trans rfl
  obtain ⟨V2, hV2⟩ : ∃ V, w2.alloc (.cells #[.string ⟨#[125]⟩] 9) = V := ⟨_, rfl⟩
  have hbV2 : Below w2.heap.size w2 V2 := by rw [← hV2]; exact (Below.refl _ w2).alloc (Nat.le_refl _) _
  have ks2 : V2.cell? ⟨w2.heap.size, 0, none⟩ = some (.string ⟨#[125]⟩) := by rw [← hV2]; exact (blk_cell (blk_new w2 _) 0).trans rfl
  have hA3 := take_any c X V2 s2 [125] w2.heap.size (hR2.below hbV2) ks2
  have hd3 := (hbV2.block bd (lt_of_heap hd2)).trans hd2
  have HA3 := Lib.hid hA3; have HK2 := Lib.hid (freeD_trans (freeD_trans HK1.out hK2) (FreeD.of_kp (Kp.of_below hbV2))); have HE2 := Lib.hid hE2; have HD3 := Lib.hid hd3; have HV2 := Lib.hid hV2
  clear hA3 hK2 hE2 hd2 hd3 hV2 hbV2 ks2 hR2 hp2 HA2 HK1 HP1
  go_wp2_with fail
  rw [HV2.out]
  refine HA3.out.mono ?_
  rintro e w3 (⟨s3, hE3, rfl, hR3, hK3⟩ | ⟨cd, p3, hE3, rfl, hK3⟩)
  · have hd4 := hK3.heap HD3.out (by omega) (by omega) (fun e => absurd e (by decide))
    have hF : R = .ok ⟨n, cf, ig, 0⟩ s3 := by rw [HE.out, HE1.out, Ex.Res.bind, HE2.out, Ex.Res.bind, hE3]; rfl
    have HF := Lib.hid hF; have HK := Lib.hid (freeD_trans HK2.out (FreeD.of_kp hK3)); have HR3 := Lib.hid hR3; have HD4 := Lib.hid hd4
    clear hF hK3 hR3 hd4 hE3
    go_wp2
    go_ret
    exact .inl ⟨_, _, HF.out, rfl, HR3.out, HK.out, HD4.out⟩
  · have hF : R = .bad cd p3 := by rw [HE.out, HE1.out, Ex.Res.bind, HE2.out, Ex.Res.bind, hE3]; rfl
    have HF := Lib.hid hF; have HK := Lib.hid (freeD_trans HK2.out (FreeD.of_kp hK3))
    clear hF hE3 hK3
    unfold dval
    go_wp2
    go_ret
    exact .inr ⟨cd, p3, HF.out, rfl, HK.out⟩
end Go.Proofs.YtnobamncenokdaaGreatDoor


/- A declaration, put behind those of its kind. -/
namespace Go.Proofs.YtnobamncenokdaaGreatDoor
open Go.RowKit Tn Lx

theorem Tryz.info46 : (Tryz.prog.info? 46).map (fun i => (i.zero, i.size, i.bytes)) = some (some (.agg #[.string ⟨#[]⟩, .int .i64 0, .int .i64 0, .string ⟨#[]⟩, .int .i64 0, .int .i64 0, .string ⟨#[]⟩, .int .i64 0, .int .i64 0, .int .i64 0]), 10, 104) := by kernel_rfl

/-- what a declaration may turn: the reader's own, the program's block, the row of its kind -/
def FreeL (c : Cx) (q : Nat) (v : Value) (w : World) (k : Nat) : Prop := Free c w k ∨ k = q ∨ v.ownBlock = some k
/-- the declaration stands behind those of its kind; or what is wrong -/
def DeclP (c : Cx) (X : Nat → Prop) (w : World) (q l : Nat) (cs : Array Value) (v : Value) (ds : List Pg.Dc) (R : Ex.Res Pg.Dc) (e : Ending) (w' : World) : Prop :=
  (∃ d s v', R = .ok d s ∧ e = .returned .nilIface ∧ Rd c X w' s ∧ w'.ownsRow c.B 46 10 v' (ds ++ [d]).length (cells10 (ds ++ [d])) ∧ w'.heap[q]? = some (.cells (cs.setIfInBounds l v') 42 (0, 0)) ∧ But (FreeL c q v w) w w' ∧ (v'.ownBlock = v.ownBlock ∨ ∃ g, v'.ownBlock = some g ∧ w.heap.size ≤ g)) ∨ (∃ cd p, R = .bad cd p ∧ e = .returned (dval cd p) ∧ Kp c w w')

theorem cells10_one (d : Pg.Dc) : ∀ u ∈ cell10 d, u.oneCell' = true := by
  intro u hu
  simp only [cell10, List.mem_cons, List.not_mem_nil, or_false] at hu
  rcases hu with rfl | rfl | rfl | rfl | rfl | rfl | rfl | rfl | rfl | rfl <;> rfl
def zd : Array Value := #[.string ⟨#[]⟩, .int .i64 0, .int .i64 0, .string ⟨#[]⟩, .int .i64 0, .int .i64 0, .string ⟨#[]⟩, .int .i64 0, .int .i64 0, .int .i64 0]

theorem decl_tail {c : Cx} {X : Nat → Prop} {w w1 w5 : World} {s1 : Ex.S} {q l : Nat} {cs : Array Value} {v : Value} {ds : List Pg.Dc} {d : Pg.Dc} {o : Obj} {g cap : Nat} (hR1 : Rd c X w1 s1) (hK : Kp c w w1) (ho1 : w1.ownsRow c.B 46 10 v ds.length (cells10 ds)) (hq1 : w1.heap[q]? = some (.cells cs 42 (0, 0))) (hqB : c.B ≤ q)
    (hown : w5.ownsRow c.B 46 10 (.slice (some ⟨g, 0, none⟩) (ds.length + 1) cap) (ds.length + 1) (cells10 ds ++ cell10 d)) (hgrow : ((w1.alloc o).drew).grownBy w5 v.ownBlock) (hat : v.ownBlock = some g ∨ g = w1.heap.size + 1) :
    w5.heap[q]? = some (.cells cs 42 (0, 0)) ∧ Rd c X (w5.setCell ⟨q, l, none⟩ (.slice (some ⟨g, 0, none⟩) (ds.length + 1) cap)) s1 ∧ (w5.setCell ⟨q, l, none⟩ (.slice (some ⟨g, 0, none⟩) (ds.length + 1) cap)).ownsRow c.B 46 10 (.slice (some ⟨g, 0, none⟩) (ds.length + 1) cap) (ds ++ [d]).length (cells10 (ds ++ [d])) ∧
    (w5.setCell ⟨q, l, none⟩ (.slice (some ⟨g, 0, none⟩) (ds.length + 1) cap)).heap[q]? = some (.cells (cs.setIfInBounds l (.slice (some ⟨g, 0, none⟩) (ds.length + 1) cap)) 42 (0, 0)) ∧ But (FreeL c q v w) w (w5.setCell ⟨q, l, none⟩ (.slice (some ⟨g, 0, none⟩) (ds.length + 1) cap)) ∧
    ((Value.slice (some ⟨g, 0, none⟩) (ds.length + 1) cap).ownBlock = v.ownBlock ∨ ∃ g', (Value.slice (some ⟨g, 0, none⟩) (ds.length + 1) cap).ownBlock = some g' ∧ w.heap.size ≤ g') := by
  have hr := hR1.rlt; have hb := hR1.blt; have hg := hR1.glt
  have hB : But (fun k => v.ownBlock = some k) w1 w5 := by
    have h1 : But (fun k => v.ownBlock = some k) w1 (w1.alloc o).drew := But.of_below ((Below.refl _ w1).alloc (Nat.le_refl _) _).drew
    exact h1.trans (But.of_grown hgrow (fun k e => e))
  have ht : ∀ k, v.ownBlock = some k → c.B ≤ k ∧ ∃ cs' fr, w1.heap[k]? = some (.cells cs' 46 fr) := fun k hk => by
    obtain ⟨e0, cur, e1⟩ := own_tag ho1 hk
    exact ⟨e0, cur, _, e1⟩
  have hvq : v.ownBlock ≠ some q := fun e => by
    obtain ⟨_, cs', fr, e1⟩ := ht q e
    rw [hq1] at e1; injection e1 with e1; injection e1 with _ e1; exact absurd e1 (by decide)
  have hq5 : w5.heap[q]? = some (.cells cs 42 (0, 0)) := hB.heap hq1 hvq
  have hgq : g ≠ q := fun e => by
    obtain ⟨_, cur, e1⟩ := own_tag hown (g := g) rfl
    rw [e, hq5] at e1; injection e1 with e1; injection e1 with _ e1; exact absurd e1 (by decide)
  have hR5 : Rd c X w5 s1 := hR1.but hB (fun e => by have := (ht _ e).1; omega) (fun e => by have := (ht _ e).1; omega) (fun e => by have := (ht _ e).1; omega) (fun k e => by
    obtain ⟨_, cs', fr, e1⟩ := ht k e
    exact .inr ⟨cs', _, fr, e1, by decide, by decide⟩)
  have hS : But (fun k => k = q) w5 (w5.setCell ⟨q, l, none⟩ (.slice (some ⟨g, 0, none⟩) (ds.length + 1) cap)) := But.setCell (p := fun k => k = q) w5 rfl l _
  refine ⟨hq5, ?_, ?_, ?_, ?_, ?_⟩
  · exact hR5.but hS (fun e => by omega) (fun e => by omega) (fun e => by omega) (fun k e => .inr (by subst e; exact ⟨_, _, _, hq5, by decide, by decide⟩))
  · rw [List.length_append, cells10_snoc]
    exact hS.own hown (fun k hk e => hgq ((Option.some.inj (show some g = some k from hk)).trans e))
  · exact blk_set hq5 l _
  · refine ⟨?_, ?_, ?_, ?_, ?_⟩
    · exact (hS.os.trans hB.os).trans hK.os
    · exact (hS.tape.trans hB.tape).trans hK.tape
    · exact (hS.output.trans hB.output).trans hK.output
    · exact Nat.le_trans hK.size (Nat.le_trans hB.size hS.size)
    · intro k hk hn
      have h1 := hK.block k hk (fun e => hn (.inl e))
      have hk1 := Nat.lt_of_lt_of_le hk hK.size
      have h2 := hB.block k hk1 (fun e => hn (.inr (.inr e)))
      exact ((hS.block k (Nat.lt_of_lt_of_le hk1 hB.size) (fun e => hn (.inr (.inl e)))).trans h2).trans h1
  · rcases hat with e | e
    · exact .inl e.symm
    · exact .inr ⟨g, rfl, by have := hK.size; omega⟩

set_option maxRecDepth 100000 in
set_option maxHeartbeats 4000000 in
theorem decl_none (c : Cx) (X : Nat → Prop) (w : World) (s : Ex.S) (q pp l : Nat) (cs : Array Value) (v : Value) (word : B) (ds : List Pg.Dc) (x : Value) (h : Rd c X w s) (hpp : w.heap[pp]? = some (.cells #[.pointer (some ⟨c.r, 0, none⟩), x] 55 (0, 0))) (hpB : c.B ≤ pp) (hqB : c.B ≤ q)
    (hq : w.heap[q]? = some (.cells cs 42 (0, 0))) (hl : cs[l]? = some v) (hown : w.ownsRow c.B 46 10 v ds.length (cells10 ds)) (hfew : ds.length ≤ 200) :
    Calls Tryz.prog 29 #[.pointer (some ⟨pp, 0, none⟩), .string ⟨word.toArray⟩, .pointer (some ⟨q, l, none⟩), .slice none 0 0] w (DeclP c X w q l cs v ds (Pg.decl0 c.ts word s)) := by
  have hr1 := h.rlt; have hb1 := h.blt; have hg1 := h.glt; have hsz := h.size
  obtain ⟨V, hV⟩ : ∃ V, (w.alloc (.cells #[.string ⟨#[]⟩, .int .i64 0, .int .i64 0, .string ⟨#[]⟩, .int .i64 0, .int .i64 0, .string ⟨#[]⟩, .int .i64 0, .int .i64 0, .int .i64 0] 46)).alloc (.cells #[.string ⟨word.toArray⟩] 9) = V := ⟨_, rfl⟩
  have hbV : Below w.heap.size w V := by rw [← hV]; exact ((Below.refl _ w).alloc (Nat.le_refl _) _).alloc (by simp) _
  have kd : V.heap[w.heap.size]? = some (.cells (dcCells ⟨Pg.zn, Pg.zn, Pg.zn, 0⟩) 46 (0, 0)) := by rw [← hV]; exact blk_alloc (blk_new w _) _
  have ks : V.heap[w.heap.size + 1]? = some (.cells #[.string ⟨word.toArray⟩] 9 (0, 0)) := by
    rw [← hV]; have := blk_new (w.alloc (.cells #[.string ⟨#[]⟩, .int .i64 0, .int .i64 0, .string ⟨#[]⟩, .int .i64 0, .int .i64 0, .string ⟨#[]⟩, .int .i64 0, .int .i64 0, .int .i64 0] 46)) (.cells #[.string ⟨word.toArray⟩] 9); rwa [World.size_alloc] at this
  have hRV := h.below hbV
  have hpV := (hbV.block pp (lt_of_heap hpp)).trans hpp
  have hA := pname_any c X V s pp w.heap.size 0 (dcCells ⟨Pg.zn, Pg.zn, Pg.zn, 0⟩) 46 [word] (.slice (some ⟨w.heap.size + 1, 0, none⟩) 1 1) x hRV hpV kd (by simp [dcCells, cell10]) hsz hpB ⟨by decide, by decide⟩ (take_one c X V s word (w.heap.size + 1) hRV ((blk_cell ks 0).trans rfl))
  have hE : Pg.decl0 c.ts word s = (Pg.nameAt c.ts [word] s).bind fun n s1 => .ok ⟨n, Pg.zn, Pg.zn, 0⟩ s1 := rfl
  have hql := lt_of_heap hq
  generalize Pg.decl0 c.ts word s = R at *
  have HE := Lib.hid hE; have HA := Lib.hid hA; have HV := Lib.hid hV; have HB := Lib.hid hbV; have HQ := Lib.hid hq; have HL := Lib.hid hl; have HO := Lib.hid hown
  obtain ⟨i0, hi, hz0, hz1, hz2⟩ := info_parts Tryz.info46
  have HI := Lib.hid hi; have HZ := Lib.hid hz0; have HZ1 := Lib.hid hz1; have HZ2 := Lib.hid hz2
  clear hE hA hV hbV hRV hpV h hpp hq hl hown kd ks hi hz0 hz1 hz2
  go_enter Tryz.func29, Tryz.ntmps29
  go_wp2_with fail
  rw [HV.out]
  refine HA.out.mono ?_
  rintro e w1 (⟨n, s1, hE1, rfl, hR1, hK1, hd1⟩ | ⟨cd, p1, hE1, rfl, hK1⟩)
  rotate_left
  · have hF : R = .bad cd p1 := by rw [HE.out, hE1]; rfl
    have HF := Lib.hid hF; have HK := Lib.hid (freeD_new HB.out (Nat.le_refl _) hK1)
    clear hF hE1 hK1
    unfold dval
    go_wp2
    go_ret
    exact .inr ⟨cd, p1, HF.out, rfl, HK.out⟩
  have hF : R = .ok ⟨n, Pg.zn, Pg.zn, 0⟩ s1 := by rw [HE.out, hE1]; rfl
  have hd : w1.heap[w.heap.size]? = some (.cells (dcCells ⟨n, Pg.zn, Pg.zn, 0⟩) 46 (0, 0)) := hd1
  obtain ⟨d, hdd⟩ : ∃ d : Pg.Dc, d = ⟨n, Pg.zn, Pg.zn, 0⟩ := ⟨_, rfl⟩
  rw [← hdd] at hF hd
  clear hdd
  have hKw : Kp c w w1 := freeD_new HB.out (Nat.le_refl _) hK1
  have hq1 : w1.heap[q]? = some (.cells cs 42 (0, 0)) := hKw.heap HQ.out (by omega) (by omega) (fun e => absurd e (by decide))
  have ho1 : w1.ownsRow c.B 46 10 v ds.length (cells10 ds) := But.own hKw HO.out (fun g hg => by
    obtain ⟨e0, cur, e1⟩ := own_tag HO.out hg
    rintro (e | e | ⟨_, cs', fr', e⟩)
    · omega
    · omega
    · rw [e1] at e; injection e with e; injection e with _ e; exact absurd e (by decide))
  have HF := Lib.hid hF; have HD := Lib.hid hd; have HKW := Lib.hid hKw; have HR1 := Lib.hid hR1; have HO1 := Lib.hid ho1
  clear hF hKw hK1 hE1 HA HV HE hd1 ho1 hR1
  have q1 : w1.cell? ⟨q, l, none⟩ = some v := (blk_cell hq1 l).trans HL.out
  have q1' : ∀ o, (w1.alloc o).cell? ⟨q, l, none⟩ = some v := fun o => (World.cell?_alloc_lt _ _ _ (World.block_lt_of_cell? _ _ q1)).trans q1
  have y0 : w1.cell? ⟨w.heap.size, 0, none⟩ = some (.string ⟨d.name.text.toArray⟩) := (blk_cell hd 0).trans rfl
  have y1 : w1.cell? ⟨w.heap.size, 1, none⟩ = some (.int .i64 d.name.at_.line) := (blk_cell hd 1).trans rfl
  have y2 : w1.cell? ⟨w.heap.size, 2, none⟩ = some (.int .i64 d.name.at_.col) := (blk_cell hd 2).trans rfl
  have y3 : w1.cell? ⟨w.heap.size, 3, none⟩ = some (.string ⟨d.conf.text.toArray⟩) := (blk_cell hd 3).trans rfl
  have y4 : w1.cell? ⟨w.heap.size, 4, none⟩ = some (.int .i64 d.conf.at_.line) := (blk_cell hd 4).trans rfl
  have y5 : w1.cell? ⟨w.heap.size, 5, none⟩ = some (.int .i64 d.conf.at_.col) := (blk_cell hd 5).trans rfl
  have y6 : w1.cell? ⟨w.heap.size, 6, none⟩ = some (.string ⟨d.integ.text.toArray⟩) := (blk_cell hd 6).trans rfl
  have y7 : w1.cell? ⟨w.heap.size, 7, none⟩ = some (.int .i64 d.integ.at_.line) := (blk_cell hd 7).trans rfl
  have y8 : w1.cell? ⟨w.heap.size, 8, none⟩ = some (.int .i64 d.integ.at_.col) := (blk_cell hd 8).trans rfl
  have y9 : w1.cell? ⟨w.heap.size, 9, none⟩ = some (.int .i64 d.int) := (blk_cell hd 9).trans rfl
  have hnb : ((w1.alloc (.cells (dcCells d) 46)).drew).heap[w1.heap.size]? = some (.cells (dcCells d) 46 (0, 0)) := heap_alloc_new w1 _
  have HQ1 := Lib.hid hq1; have HNB := Lib.hid hnb
  clear hnb
  clear hd hq1
  go_wp2_with fail
  refine wp_loop_rounds 1 ?_
  rw [rounds_succ]
  go_upto_region 12 with fail
  go_region_law (refine step_append_lies _ (by rfl) (.tmp 38) (.tmp 40) 34 (by rfl) c.B 46 i0 _ 10 104 Tryz.underlying34 HI.out HZ.out HZ1.out HZ2.out rfl (by omega) v ds.length (cells10 ds) (by rfl) ((HO1.out.alloc _).drew) ⟨w1.heap.size, 0, none⟩ 1 1 (cell10 d) (by rfl) (by rfl) (World.news_of_block (cs := dcCells d) (t := 46) (fr := (0, 0)) HNB.out) (cells10_one d) (by omega) (by unfold maxLen; omega) (by omega) (by have := HKW.out.size; simp; omega) (w1.heap.size + 1) (by simp) ?_; intro g cap w5 hown5 hgrow5 hat5 hlt5; have G := decl_tail (l := l) HR1.out HKW.out HO1.out HQ1.out hqB hown5 hgrow5 hat5; have c5 : w5.cell? ⟨q, l, none⟩ = some v := (blk_cell G.1 l).trans HL.out; have f5 : w5.frozen? ⟨q, l, none⟩ = false := blk_frozen G.1 l)
  all_goals
    have HGG := Lib.hid G.2
    clear G hown5 hgrow5 hat5 hlt5 c5 f5
    go_wp2
    go_ret
    exact .inl ⟨d, s1, _, HF.out, rfl, HGG.out.1, HGG.out.2.1, HGG.out.2.2.1, HGG.out.2.2.2.1, HGG.out.2.2.2.2⟩
end Go.Proofs.YtnobamncenokdaaGreatDoor


/- A declaration with points, put behind those of its kind. -/
namespace Go.Proofs.YtnobamncenokdaaGreatDoor
open Go.RowKit Tn Lx

theorem freeD_old {c : Cx} {bd : Nat} {a b d : World} (hd : a.heap.size ≤ bd) (h : Kp c a b) (k : But (FreeD c bd b) b d) : Kp c a d :=
  ⟨k.os.trans h.os, k.tape.trans h.tape, k.output.trans h.output, Nat.le_trans h.size k.size, fun i hi hp => by
    have e := h.block i hi hp
    refine (k.block i (Nat.lt_of_lt_of_le hi h.size) ?_).trans e
    rintro ((e1 | e1 | ⟨e1, cs, fr, e2⟩) | e1)
    · exact hp (.inl e1)
    · exact hp (.inr (.inl e1))
    · exact hp (.inr (.inr ⟨e1, cs, fr, e ▸ e2⟩))
    · omega⟩

set_option maxRecDepth 100000 in
set_option maxHeartbeats 4000000 in
theorem decl_points (c : Cx) (X : Nat → Prop) (w : World) (s : Ex.S) (q pp l : Nat) (cs : Array Value) (v : Value) (word : B) (ds : List Pg.Dc) (x : Value) (bp : Nat) (h : Rd c X w s) (hpp : w.heap[pp]? = some (.cells #[.pointer (some ⟨c.r, 0, none⟩), x] 55 (0, 0))) (hpB : c.B ≤ pp) (hqB : c.B ≤ q)
    (hq : w.heap[q]? = some (.cells cs 42 (0, 0))) (hl : cs[l]? = some v) (hown : w.ownsRow c.B 46 10 v ds.length (cells10 ds)) (hfew : ds.length ≤ 200) (hbp : w.heap[bp]? = some (.cells #[.func (.func 30) #[] #[]] 95 (0, 0))) (hpt : c.B ≤ bp) :
    Calls Tryz.prog 29 #[.pointer (some ⟨pp, 0, none⟩), .string ⟨word.toArray⟩, .pointer (some ⟨q, l, none⟩), .slice (some ⟨bp, 0, none⟩) 1 1] w (DeclP c X w q l cs v ds (Pg.declP c.ts word s)) := by
  have hr1 := h.rlt; have hb1 := h.blt; have hg1 := h.glt; have hsz := h.size
  obtain ⟨V, hV⟩ : ∃ V, (w.alloc (.cells #[.string ⟨#[]⟩, .int .i64 0, .int .i64 0, .string ⟨#[]⟩, .int .i64 0, .int .i64 0, .string ⟨#[]⟩, .int .i64 0, .int .i64 0, .int .i64 0] 46)).alloc (.cells #[.string ⟨word.toArray⟩] 9) = V := ⟨_, rfl⟩
  have hbV : Below w.heap.size w V := by rw [← hV]; exact ((Below.refl _ w).alloc (Nat.le_refl _) _).alloc (by simp) _
  have kd : V.heap[w.heap.size]? = some (.cells (dcCells ⟨Pg.zn, Pg.zn, Pg.zn, 0⟩) 46 (0, 0)) := by rw [← hV]; exact blk_alloc (blk_new w _) _
  have ks : V.heap[w.heap.size + 1]? = some (.cells #[.string ⟨word.toArray⟩] 9 (0, 0)) := by
    rw [← hV]; have := blk_new (w.alloc (.cells #[.string ⟨#[]⟩, .int .i64 0, .int .i64 0, .string ⟨#[]⟩, .int .i64 0, .int .i64 0, .string ⟨#[]⟩, .int .i64 0, .int .i64 0, .int .i64 0] 46)) (.cells #[.string ⟨word.toArray⟩] 9); rwa [World.size_alloc] at this
  have hRV := h.below hbV
  have hpV := (hbV.block pp (lt_of_heap hpp)).trans hpp
  have hA := pname_any c X V s pp w.heap.size 0 (dcCells ⟨Pg.zn, Pg.zn, Pg.zn, 0⟩) 46 [word] (.slice (some ⟨w.heap.size + 1, 0, none⟩) 1 1) x hRV hpV kd (by simp [dcCells, cell10]) hsz hpB ⟨by decide, by decide⟩ (take_one c X V s word (w.heap.size + 1) hRV ((blk_cell ks 0).trans rfl))
  have hE : Pg.declP c.ts word s = (Pg.nameAt c.ts [word] s).bind (Pg.points c.ts) := rfl
  have hql := lt_of_heap hq
  generalize Pg.declP c.ts word s = R at *
  have HE := Lib.hid hE; have HA := Lib.hid hA; have HV := Lib.hid hV; have HB := Lib.hid hbV; have HQ := Lib.hid hq; have HL := Lib.hid hl; have HO := Lib.hid hown; have HBP := Lib.hid hbp; have HPP := Lib.hid hpp
  obtain ⟨i0, hi, hz0, hz1, hz2⟩ := info_parts Tryz.info46
  have HI := Lib.hid hi; have HZ := Lib.hid hz0; have HZ1 := Lib.hid hz1; have HZ2 := Lib.hid hz2
  clear hE hA hV hbV hRV hpV h hpp hq hl hown hbp kd ks hi hz0 hz1 hz2
  go_enter Tryz.func29, Tryz.ntmps29
  go_wp2_with fail
  rw [HV.out]
  refine HA.out.mono ?_
  rintro e w1 (⟨n, s1, hE1, rfl, hR1, hK1, hd1⟩ | ⟨cd, p1, hE1, rfl, hK1⟩)
  rotate_left
  · have hF : R = .bad cd p1 := by rw [HE.out, hE1]; rfl
    have HF := Lib.hid hF; have HK := Lib.hid (freeD_new HB.out (Nat.le_refl _) hK1)
    clear hF hE1 hK1
    unfold dval
    go_wp2
    go_ret
    exact .inr ⟨cd, p1, HF.out, rfl, HK.out⟩
  have hKa : Kp c w w1 := freeD_new HB.out (Nat.le_refl _) hK1
  have hbpl := lt_of_heap HBP.out; have hppl := lt_of_heap HPP.out
  have hp1 := hKa.heap HPP.out (by omega) (by omega) (fun e => absurd e (by decide))
  have hb1' := hKa.heap HBP.out (by omega) (by omega) (fun e => absurd e (by decide))
  have pc : w1.cell? ⟨bp, 0, none⟩ = some (.func (.func 30) #[] #[]) := (blk_cell hb1' 0).trans rfl
  have hPt := points_any c X w1 s1 pp w.heap.size n x hR1 hp1 hd1 hsz hpB
  have HPT := Lib.hid hPt; have HKA := Lib.hid hKa; have HE1 := Lib.hid hE1
  clear hPt hKa hK1 hR1 hp1 hb1' hd1 hE1 HA HV
  go_wp2_with fail
  refine wp_loop_rounds 2 ?_
  rw [rounds_succ]
  go_wp2_with fail
  refine HPT.out.mono ?_
  rintro e w1 (⟨d, s1, hE2, rfl, hR1, hK2, hd⟩ | ⟨cd, p2, hE2, rfl, hK2⟩)
  rotate_left
  · have hF : R = .bad cd p2 := by rw [HE.out, HE1.out, Ex.Res.bind, hE2]
    have HF := Lib.hid hF; have HK := Lib.hid (freeD_old (Nat.le_refl _) HKA.out hK2)
    clear hF hE2 hK2
    unfold dval
    go_wp2
    go_ret
    exact .inr ⟨cd, p2, HF.out, rfl, HK.out⟩
  have hF : R = .ok d s1 := by rw [HE.out, HE1.out, Ex.Res.bind, hE2]
  have hKw : Kp c w w1 := freeD_old (Nat.le_refl _) HKA.out hK2
  have hq1 : w1.heap[q]? = some (.cells cs 42 (0, 0)) := hKw.heap HQ.out (by omega) (by omega) (fun e => absurd e (by decide))
  have ho1 : w1.ownsRow c.B 46 10 v ds.length (cells10 ds) := But.own hKw HO.out (fun g hg => by
    obtain ⟨e0, cur, e1⟩ := own_tag HO.out hg
    rintro (e | e | ⟨_, cs', fr', e⟩)
    · omega
    · omega
    · rw [e1] at e; injection e with e; injection e with _ e; exact absurd e (by decide))
  have HF := Lib.hid hF; have HD := Lib.hid hd; have HKW := Lib.hid hKw; have HR1 := Lib.hid hR1; have HO1 := Lib.hid ho1
  clear hF hKw hK2 hE2 HE HE1 HKA HPT ho1 hR1 pc
  have q1 : w1.cell? ⟨q, l, none⟩ = some v := (blk_cell hq1 l).trans HL.out
  have q1' : ∀ o, (w1.alloc o).cell? ⟨q, l, none⟩ = some v := fun o => (World.cell?_alloc_lt _ _ _ (World.block_lt_of_cell? _ _ q1)).trans q1
  have y0 : w1.cell? ⟨w.heap.size, 0, none⟩ = some (.string ⟨d.name.text.toArray⟩) := (blk_cell hd 0).trans rfl
  have y1 : w1.cell? ⟨w.heap.size, 1, none⟩ = some (.int .i64 d.name.at_.line) := (blk_cell hd 1).trans rfl
  have y2 : w1.cell? ⟨w.heap.size, 2, none⟩ = some (.int .i64 d.name.at_.col) := (blk_cell hd 2).trans rfl
  have y3 : w1.cell? ⟨w.heap.size, 3, none⟩ = some (.string ⟨d.conf.text.toArray⟩) := (blk_cell hd 3).trans rfl
  have y4 : w1.cell? ⟨w.heap.size, 4, none⟩ = some (.int .i64 d.conf.at_.line) := (blk_cell hd 4).trans rfl
  have y5 : w1.cell? ⟨w.heap.size, 5, none⟩ = some (.int .i64 d.conf.at_.col) := (blk_cell hd 5).trans rfl
  have y6 : w1.cell? ⟨w.heap.size, 6, none⟩ = some (.string ⟨d.integ.text.toArray⟩) := (blk_cell hd 6).trans rfl
  have y7 : w1.cell? ⟨w.heap.size, 7, none⟩ = some (.int .i64 d.integ.at_.line) := (blk_cell hd 7).trans rfl
  have y8 : w1.cell? ⟨w.heap.size, 8, none⟩ = some (.int .i64 d.integ.at_.col) := (blk_cell hd 8).trans rfl
  have y9 : w1.cell? ⟨w.heap.size, 9, none⟩ = some (.int .i64 d.int) := (blk_cell hd 9).trans rfl
  have hnb : ((w1.alloc (.cells (dcCells d) 46)).drew).heap[w1.heap.size]? = some (.cells (dcCells d) 46 (0, 0)) := heap_alloc_new w1 _
  have HQ1 := Lib.hid hq1; have HNB := Lib.hid hnb
  clear hnb
  clear hd hq1
  go_wp2_with fail
  rw [rounds_succ]
  go_upto_region 12 with fail
  go_region_law (refine step_append_lies _ (by rfl) (.tmp 38) (.tmp 40) 34 (by rfl) c.B 46 i0 _ 10 104 Tryz.underlying34 HI.out HZ.out HZ1.out HZ2.out rfl (by omega) v ds.length (cells10 ds) (by rfl) ((HO1.out.alloc _).drew) ⟨w1.heap.size, 0, none⟩ 1 1 (cell10 d) (by rfl) (by rfl) (World.news_of_block (cs := dcCells d) (t := 46) (fr := (0, 0)) HNB.out) (cells10_one d) (by omega) (by unfold maxLen; omega) (by omega) (by have := HKW.out.size; simp; omega) (w1.heap.size + 1) (by simp) ?_; intro g cap w5 hown5 hgrow5 hat5 hlt5; have G := decl_tail (l := l) HR1.out HKW.out HO1.out HQ1.out hqB hown5 hgrow5 hat5; have c5 : w5.cell? ⟨q, l, none⟩ = some v := (blk_cell G.1 l).trans HL.out; have f5 : w5.frozen? ⟨q, l, none⟩ = false := blk_frozen G.1 l)
  all_goals
    have HGG := Lib.hid G.2
    clear G hown5 hgrow5 hat5 hlt5 c5 f5
    go_wp2
    go_ret
    exact .inl ⟨d, s1, _, HF.out, rfl, HGG.out.1, HGG.out.2.1, HGG.out.2.2.1, HGG.out.2.2.2.1, HGG.out.2.2.2.2⟩
end Go.Proofs.YtnobamncenokdaaGreatDoor
