import Derived.Test.YtdkhkemllmegfaaGreatDoorName
import Derived.Test.YtdkhkemllmegfaaGreatDoorTAdd
import Derived.Deep.RegionHeld2

/- One more node of the reading. -/
namespace Go.Proofs.YtdkhkemllmegfaaGreatDoor
open Go.RowKit Tn Lx

theorem nds_append (l : List SN) (q : SN) : nds (l ++ [q]) = nds l ++ [q.n] := by simp [nds]

/-- behind a node that was added -/
theorem Rd.added {c : Cx} {X : Nat → Prop} {w w' : World} {s : Ex.S} (h : Rd c X w s) {v v' : Value} {l : List SN} {q : SN} (e : nds l = s.ns) (ht : TreeOwn c.B w c.bt v l) (ho : Off X v l) (hl : l.length < 4000)
    (ht' : TreeOwn c.B w' c.bt v' (l ++ [q])) (hb : But (fun k => k = c.bt ∨ some k = v.ownBlock) w w') (hv : v'.ownBlock = v.ownBlock ∨ ∃ g, v'.ownBlock = some g ∧ w.heap.size ≤ g) (hk : ∀ g, (Value.slice q.ka q.n.kids.length q.kc).ownBlock = some g → w.heap.size ≤ g) :
    Rd c X w' ⟨s.p, s.ns ++ [q.n]⟩ ∧ Kp c w w' := by
  have far : ∀ k, k < c.B → k ≠ c.bt → ¬ (k = c.bt ∨ some k = v.ownBlock) := fun k hk hne => by
    rintro (e | e)
    · exact hne e
    · have := (own_tag ht.own e.symm).1; omega
  refine ⟨⟨hb.heap h.blk (far _ h.rlt h.rb), fun i u hu => (World.cell?_of_block (hb.block c.g (World.block_lt_of_cell? _ _ (h.tok i u hu)) (far _ h.glt h.gb))).trans (h.tok i u hu), ⟨v', l ++ [q], by rw [nds_append, e], ht', ?_, ?_⟩, h.p, h.few, h.room, ?_, h.rlt, h.blt, h.glt, h.rb, h.gr, h.gb, Nat.le_trans h.size hb.size, fun k hk => Nat.lt_of_lt_of_le (h.xlt k hk) hb.size⟩, hb.mono fun k _ e => ?_⟩
  · intro g hg hx
    rcases hv with e1 | ⟨g', e1, e2⟩
    · exact ho.1 g (e1 ▸ hg) hx
    · rw [hg] at e1; cases e1; have := h.xlt g hx; omega
  · intro q' hq g hg hx
    rcases List.mem_append.1 hq with hq | hq
    · exact ho.2 q' hq g hg hx
    · obtain rfl : q' = q := by simpa using hq
      have := hk g hg; have := h.xlt g hx; omega
  · have : (nds l).length = l.length := nds_len l
    rw [e] at this
    simp; omega
  · rcases e with e | e
    · exact .inr (.inl e)
    · obtain ⟨h1, cur, h2⟩ := own_tag ht.own e.symm
      exact .inr (.inr ⟨h1, cur, _, h2⟩)

set_option maxRecDepth 100000 in
set_option maxHeartbeats 4000000 in
theorem addNode_any (c : Cx) (X : Nat → Prop) (w : World) (s : Ex.S) (n : Nd) (ka : Option Addr) (kc N : Nat) (h : Rd c X w s) (hk : IntsAt N w ka n.kids) (hnil : ka = none → kc = 0) (hl : n.kids.length ≤ 999000) :
    Calls Tryz.prog 94 #[.pointer (some ⟨c.r, 0, none⟩), .agg #[.string n.op, .int .i64 n.line, .int .i64 n.col, .string n.name, .int .i64 n.num, .slice ka n.kids.length kc]] w (Post c X w (Ex.addN c.ts n s)) := by
  obtain ⟨W, hW⟩ : ∃ W, w.alloc (.cells #[.string n.op, .int .i64 n.line, .int .i64 n.col, .string n.name, .int .i64 n.num, .slice ka n.kids.length kc] 40) = W := ⟨_, rfl⟩
  have hb : Below w.heap.size w W := by rw [← hW]; exact (Below.refl _ w).alloc (Nat.le_refl _) _
  have s1 : Six W w.heap.size 40 (.string n.op) (.int .i64 n.line) (.int .i64 n.col) (.string n.name) (.int .i64 n.num) (.slice ka n.kids.length kc) := ⟨by rw [← hW]; exact blk_new w _⟩
  have hkW : IntsAt w.heap.size W ka n.kids := (IntsAt.below (N := w.heap.size) (fun i hi => by
    obtain ⟨b, o, e, _, hc⟩ := hk i hi
    exact ⟨b, o, e, by have := World.block_lt_of_cell? _ _ hc; exact this, hc⟩) hb)
  have hR := h.below hb
  obtain ⟨v, l, en, ht0, ho⟩ := h.tree
  obtain ⟨ao, cap, rfl, hA⟩ := ht0.at
  have ht := ht0.below hb
  have hll : l.length = s.ns.length := by rw [← en, nds_len]
  have hold : ∀ g, (Value.slice ao l.length cap).ownBlock = some g → g < w.heap.size := fun g hg => by
    obtain ⟨_, cur, e1⟩ := own_tag ht0.own hg
    exact lt_of_heap e1
  have HOLD := Lib.hid hold; clear hold
  have hlen := h.len
  have hsz := h.size; have hr1 := h.rlt; have hb1 := h.blt
  have hS := fun w1 cd (hR : Rd c X w1 s) => wrong_at c X w1 s cd hR
  have tk := Lib.hid hkW; have HT := Lib.hid ht; have HW := Lib.hid hW; have HR := Lib.hid hR; have HB := Lib.hid hb; have HS := Lib.hid hS; have HO := Lib.hid ho; have HEN := Lib.hid en; have HLL := Lib.hid hll; have HN := Lib.hid hnil
  have x0 := s1.c0; have x1 := s1.c1; have x2 := s1.c2; have x3 := s1.c3; have x4 := s1.c4; have x5 := s1.c5; have r0 := hR.c0
  have hct : W.cell? ⟨c.bt, 0, none⟩ = some (.slice ao l.length cap) := (blk_cell ht.blk 0).trans rfl
  have HCT := Lib.hid hct; have HS1 := Lib.hid s1
  clear hk hkW ht ht0 hA hW hR hb hS ho en hll h hnil hct s1
  by_cases hf : fits s.ns.length n = true
  · by_cases h4 : 4000 ≤ s.ns.length
    · have hE : Ex.addN c.ts n s = .bad 6 (Ex.at_ c.ts s) := by rw [Ex.addN, if_pos hf, if_pos h4]; rfl
      have HE := Lib.hid hE; have HF := Lib.hid hf
      clear hE hf
      go_enter Tryz.func94, Tryz.ntmps94
      go_upto_region 1 with fail
      rw [HW.out]
      go_region_held2 (fun w' => w'.cell? ⟨c.r, 0, none⟩ = some (.pointer (some ⟨c.bt, 0, none⟩)) ∧ w'.cell? ⟨w.heap.size, 0, none⟩ = some (.string n.op) ∧ w'.cell? ⟨w.heap.size, 1, none⟩ = some (.int .i64 n.line) ∧ w'.cell? ⟨w.heap.size, 2, none⟩ = some (.int .i64 n.col) ∧ w'.cell? ⟨w.heap.size, 3, none⟩ = some (.string n.name) ∧ w'.cell? ⟨w.heap.size, 4, none⟩ = some (.int .i64 n.num) ∧ w'.cell? ⟨w.heap.size, 5, none⟩ = some (.slice ka n.kids.length kc))
        (first | exact ⟨r0, x0, x1, x2, x3, x4, x5⟩ | exact ⟨hR1.c0, s2.c0, s2.c1, s2.c2, s2.c3, s2.c4, s2.c5⟩)
        (first | (go_at_call 21; refine (add_full c.bt ao l.length cap w.heap.size n ka kc W.drew HCT.out tk.out hl (by rw [HLL.out]; exact HF.out) (by rw [HLL.out]; exact h4) (by rw [HLL.out]; omega)).mono ?_; rintro e w1 ⟨rfl, hb1⟩; have hR1 := HR.out.below (below_undrew hb1); have s2 : Six w1 w.heap.size 40 (.string n.op) (.int .i64 n.line) (.int .i64 n.col) (.string n.name) (.int .i64 n.num) (.slice ka n.kids.length kc) := ⟨((below_undrew hb1).block _ (lt_of_heap HS1.out.blk)).trans HS1.out.blk⟩))
      have HR1 := Lib.hid hR1; have HK1 := Lib.hid (HB.out.trans ((below_undrew hb1).mono HB.out.size))
      clear hR1 s2 hb1 x0 x1 x2 x3 x4 x5 r0
      go_wp2_with fail
      refine (HS.out _ _ HR1.out).mono ?_
      rintro e w2 ⟨rfl, hb2⟩
      have HK2 := Lib.hid (Kp.of_below (c := c) (HK1.out.trans (hb2.mono HK1.out.size)))
      unfold dval
      go_wp2
      exact ⟨rfl, .inr ⟨_, _, HE.out, rfl, HK2.out⟩⟩
    · have hE : Ex.addN c.ts n s = .ok s.ns.length ⟨s.p, s.ns ++ [n]⟩ := by rw [Ex.addN, if_pos hf, if_neg h4]
      have HE := Lib.hid hE; have HF := Lib.hid hf
      clear hE hf
      have hWs : W.heap.size = w.heap.size + 1 := by rw [← HW.out]; simp
      have hlt : c.bt < W.heap.size := HT.out.size
      have HWS := Lib.hid hWs; clear hWs
      have hfar : ¬ (w.heap.size = c.bt ∨ some w.heap.size = (Value.slice ao l.length cap).ownBlock) := by
        rintro (e | e)
        · omega
        · have h0 : ∀ g, (Value.slice ao l.length cap).ownBlock = some g → g < w.heap.size := HOLD.out
          have := h0 _ e.symm; omega
      have HFAR := Lib.hid hfar; clear hfar
      go_enter Tryz.func94, Tryz.ntmps94
      go_upto_region 1 with fail
      rw [HW.out]
      go_region_held2 (fun w' => w'.cell? ⟨c.r, 0, none⟩ = some (.pointer (some ⟨c.bt, 0, none⟩)) ∧ w'.cell? ⟨w.heap.size, 0, none⟩ = some (.string n.op) ∧ w'.cell? ⟨w.heap.size, 1, none⟩ = some (.int .i64 n.line) ∧ w'.cell? ⟨w.heap.size, 2, none⟩ = some (.int .i64 n.col) ∧ w'.cell? ⟨w.heap.size, 3, none⟩ = some (.string n.name) ∧ w'.cell? ⟨w.heap.size, 4, none⟩ = some (.int .i64 n.num) ∧ w'.cell? ⟨w.heap.size, 5, none⟩ = some (.slice ka n.kids.length kc))
        (first | exact ⟨r0, x0, x1, x2, x3, x4, x5⟩ | exact ⟨hR1.c0, s2.c0, s2.c1, s2.c2, s2.c3, s2.c4, s2.c5⟩)
        (first | (go_at_call 21; refine (add_yes c.B c.bt (.slice ao l.length cap) l w.heap.size n ka kc W.drew (HT.out.below (Below.refl _ W).drew) tk.out HN.out hl (by rw [HLL.out]; omega) (by rw [HLL.out]; exact HF.out) (by have := HWS.out; simp; omega)).mono ?_; rintro e w1 ⟨v1, ka1, kc1, rfl, ht1, hB1, hv1, hk1⟩; have hA1 := HR.out.drew.added (q := ⟨n, ka1, kc1⟩) HEN.out (HT.out.below (Below.refl _ W).drew) HO.out (by rw [HLL.out]; omega) ht1 hB1 hv1 hk1; have hR1 := hA1.1; have s2 : Six w1 w.heap.size 40 (.string n.op) (.int .i64 n.line) (.int .i64 n.col) (.string n.name) (.int .i64 n.num) (.slice ka n.kids.length kc) := ⟨hB1.heap HS1.out.blk HFAR.out⟩))
      have HR1 := Lib.hid hR1; have HK1 := Lib.hid (Below.then_kp HB.out hA1.2.undrew)
      clear hR1 s2 hA1 x0 x1 x2 x3 x4 x5 r0 ht1 hB1 hv1 hk1
      go_wp2
      go_ret
      exact .inl ⟨_, _, HE.out, ret_int (by rw [HLL.out]), HR1.out, HK1.out⟩
  · have hE : Ex.addN c.ts n s = .bad 1 (Ex.at_ c.ts s) := by rw [Ex.addN, if_neg hf]; rfl
    have hf' : fits s.ns.length n = false := by simpa using hf
    have HE := Lib.hid hE; have HF := Lib.hid hf'
    clear hE hf hf'
    go_enter Tryz.func94, Tryz.ntmps94
    go_upto_region 1 with fail
    rw [HW.out]
    go_region_held2 (fun w' => w'.cell? ⟨c.r, 0, none⟩ = some (.pointer (some ⟨c.bt, 0, none⟩)) ∧ w'.cell? ⟨w.heap.size, 0, none⟩ = some (.string n.op) ∧ w'.cell? ⟨w.heap.size, 1, none⟩ = some (.int .i64 n.line) ∧ w'.cell? ⟨w.heap.size, 2, none⟩ = some (.int .i64 n.col) ∧ w'.cell? ⟨w.heap.size, 3, none⟩ = some (.string n.name) ∧ w'.cell? ⟨w.heap.size, 4, none⟩ = some (.int .i64 n.num) ∧ w'.cell? ⟨w.heap.size, 5, none⟩ = some (.slice ka n.kids.length kc))
      (first | exact ⟨r0, x0, x1, x2, x3, x4, x5⟩ | exact ⟨hR1.c0, s2.c0, s2.c1, s2.c2, s2.c3, s2.c4, s2.c5⟩)
      (first | (go_at_call 21; refine (add_no c.bt ao l.length cap w.heap.size n ka kc W.drew HCT.out tk.out hl (by rw [HLL.out]; exact HF.out)).mono ?_; rintro e w1 ⟨rfl, hb1⟩; have hR1 := HR.out.below (below_undrew hb1); have s2 : Six w1 w.heap.size 40 (.string n.op) (.int .i64 n.line) (.int .i64 n.col) (.string n.name) (.int .i64 n.num) (.slice ka n.kids.length kc) := ⟨((below_undrew hb1).block _ (lt_of_heap HS1.out.blk)).trans HS1.out.blk⟩))
    have HR1 := Lib.hid hR1; have HK1 := Lib.hid (HB.out.trans ((below_undrew hb1).mono HB.out.size))
    clear hR1 s2 hb1 x0 x1 x2 x3 x4 x5 r0
    go_wp2_with fail
    refine (HS.out _ _ HR1.out).mono ?_
    rintro e w2 ⟨rfl, hb2⟩
    have HK2 := Lib.hid (Kp.of_below (c := c) (HK1.out.trans (hb2.mono HK1.out.size)))
    unfold dval
    go_wp2
    exact ⟨rfl, .inr ⟨_, _, HE.out, rfl, HK2.out⟩⟩

theorem ints_map_len (ks : List Nat) : (ks.map fun (k : Nat) => (k : Int)).length = ks.length := by simp

set_option maxRecDepth 100000 in
set_option maxHeartbeats 4000000 in
theorem add_any (c : Cx) (X : Nat → Prop) (w : World) (s : Ex.S) (op : B) (p : Pos) (name : B) (ks : List Nat) (ka : Option Addr) (kc N : Nat) (h : Rd c X w s) (hk : IntsAt N w ka (ks.map fun (k : Nat) => (k : Int))) (hnil : ka = none → kc = 0) (hl : ks.length ≤ 999000) :
    Calls Tryz.prog 63 #[.pointer (some ⟨c.r, 0, none⟩), .string ⟨op.toArray⟩, .agg #[.int .i64 p.line, .int .i64 p.col], .string ⟨name.toArray⟩, .slice ka ks.length kc] w (Post c X w (Ex.add c.ts op p name ks s)) := by
  obtain ⟨W, hW⟩ : ∃ W, w.alloc (.cells #[.int .i64 p.line, .int .i64 p.col] 37) = W := ⟨_, rfl⟩
  have hb : Below w.heap.size w W := by rw [← hW]; exact (Below.refl _ w).alloc (Nat.le_refl _) _
  have hkW : IntsAt w.heap.size W ka (ks.map fun (k : Nat) => (k : Int)) := (IntsAt.below (N := w.heap.size) (fun i hi => by
    obtain ⟨b, o, e, _, hc⟩ := hk i hi
    exact ⟨b, o, e, by have := World.block_lt_of_cell? _ _ hc; exact this, hc⟩) hb)
  have hA := addNode_any c X W s ⟨Ex.bt op, p.line, p.col, Ex.bt name, 0, ks.map fun (k : Nat) => (k : Int)⟩ ka kc w.heap.size (h.below hb) hkW hnil (by simpa using hl)
  simp only [ints_map_len] at hA
  have c0 : W.cell? ⟨w.heap.size, 0, none⟩ = some (.int .i64 p.line) := by rw [← hW, World.cell?_alloc_new]; rfl
  have c1 : W.cell? ⟨w.heap.size, 1, none⟩ = some (.int .i64 p.col) := by rw [← hW, World.cell?_alloc_new]; rfl
  have HA := Lib.hid hA; have HW := Lib.hid hW; have HB := Lib.hid hb
  clear hA hW hb hkW hk hnil h
  go_enter Tryz.func63, Tryz.ntmps63
  go_upto_region 1 with fail
  rw [HW.out]
  go_wp2_with fail
  refine HA.out.mono ?_
  rintro e w1 (⟨i, s1, hR, rfl, hR1, hK1⟩ | ⟨cd, p1, hR, rfl, hK1⟩)
  · have HR := Lib.hid hR; have HR1 := Lib.hid hR1; have HK1 := Lib.hid (Below.then_kp HB.out hK1)
    clear hR hR1 hK1 c0 c1
    go_wp2
    go_ret
    exact .inl ⟨_, _, HR.out, rfl, HR1.out, HK1.out⟩
  · exact ⟨rfl, .inr ⟨_, _, hR, rfl, Below.then_kp HB.out hK1⟩⟩
end Go.Proofs.YtdkhkemllmegfaaGreatDoor


/- What the parts of the reading are to do, each by its tag. -/
namespace Go.Proofs.YtdkhkemllmegfaaGreatDoor
open Go.RowKit Tn Lx

/-- the functions do what f says -/
structure Spec (c : Cx) (f : Ex.Rec) : Prop where
  all : ∀ (d : Nat) (s : Ex.S) (X : Nat → Prop) (w : World), d ≤ 64 → Rd c X w s → f .all d s ≠ .out → Calls Tryz.prog 33 #[.pointer (some ⟨c.r, 0, none⟩), .int .i64 (d : Int)] w (Post c X w (f .all d s))
  item : ∀ (d : Nat) (s : Ex.S) (X : Nat → Prop) (w : World), d ≤ 64 → Rd c X w s → f .item d s ≠ .out → Calls Tryz.prog 58 #[.pointer (some ⟨c.r, 0, none⟩), .int .i64 (d : Int)] w (Post c X w (f .item d s))
  or : ∀ (d : Nat) (s : Ex.S) (X : Nat → Prop) (w : World), d ≤ 64 → Rd c X w s → f .or d s ≠ .out → Calls Tryz.prog 89 #[.pointer (some ⟨c.r, 0, none⟩), .int .i64 (d : Int)] w (Post c X w (f .or d s))
  and : ∀ (d : Nat) (s : Ex.S) (X : Nat → Prop) (w : World), d ≤ 64 → Rd c X w s → f .and d s ≠ .out → Calls Tryz.prog 117 #[.pointer (some ⟨c.r, 0, none⟩), .int .i64 (d : Int)] w (Post c X w (f .and d s))
  test : ∀ (d : Nat) (s : Ex.S) (X : Nat → Prop) (w : World), d ≤ 64 → Rd c X w s → f .test d s ≠ .out → Calls Tryz.prog 137 #[.pointer (some ⟨c.r, 0, none⟩), .int .i64 (d : Int)] w (Post c X w (f .test d s))
  sum : ∀ (d : Nat) (s : Ex.S) (X : Nat → Prop) (w : World), d ≤ 64 → Rd c X w s → f .sum d s ≠ .out → Calls Tryz.prog 153 #[.pointer (some ⟨c.r, 0, none⟩), .int .i64 (d : Int)] w (Post c X w (f .sum d s))
  times : ∀ (d : Nat) (s : Ex.S) (X : Nat → Prop) (w : World), d ≤ 64 → Rd c X w s → f .times d s ≠ .out → Calls Tryz.prog 164 #[.pointer (some ⟨c.r, 0, none⟩), .int .i64 (d : Int)] w (Post c X w (f .times d s))
  unary : ∀ (d : Nat) (s : Ex.S) (X : Nat → Prop) (w : World), d ≤ 64 → Rd c X w s → f .unary d s ≠ .out → Calls Tryz.prog 173 #[.pointer (some ⟨c.r, 0, none⟩), .int .i64 (d : Int)] w (Post c X w (f .unary d s))

/-- a place in a text, in a block of its own -/
structure PosAt (w : World) (b : Nat) (p : Pos) : Prop where
  blk : w.heap[b]? = some (.cells #[.int .i64 p.line, .int .i64 p.col] 37 (0, 0))
theorem PosAt.c0 {w : World} {b : Nat} {p : Pos} (h : PosAt w b p) : w.cell? ⟨b, 0, none⟩ = some (.int .i64 p.line) := (blk_cell h.blk 0).trans rfl
theorem PosAt.c1 {w : World} {b : Nat} {p : Pos} (h : PosAt w b p) : w.cell? ⟨b, 1, none⟩ = some (.int .i64 p.col) := (blk_cell h.blk 1).trans rfl
theorem PosAt.kp {c : Cx} {w w' : World} {b : Nat} {p : Pos} (h : PosAt w b p) (hk : Kp c w w') (hr : c.r < b) (hb : c.bt < b) : PosAt w' b p := ⟨hk.heap h.blk (by omega) (by omega) (fun e => absurd e (by decide))⟩
theorem PosAt.below {w w' : World} {b : Nat} {p : Pos} (h : PosAt w b p) (hb : Below w.heap.size w w') : PosAt w' b p := ⟨(hb.block b (lt_of_heap h.blk)).trans h.blk⟩
theorem PosAt.alloc {w : World} {b : Nat} {p : Pos} (h : PosAt w b p) (o : Obj) : PosAt (w.alloc o) b p := ⟨blk_alloc h.blk o⟩

theorem ints_at1 (w : World) (i : Nat) (t : TypeId) : IntsAt (w.alloc (.cells #[.int .i64 (i : Int)] t)).heap.size (w.alloc (.cells #[.int .i64 (i : Int)] t)) (some ⟨w.heap.size, 0, none⟩) ([i].map fun (k : Nat) => (k : Int)) := by
  intro k hk
  have hk0 : k = 0 := by simp at hk; omega
  subst hk0
  exact ⟨w.heap.size, 0, rfl, by simp, by rw [World.cell?_alloc_new]; rfl⟩
theorem ints_at2 (w : World) (i j : Nat) (t : TypeId) : IntsAt (w.alloc (.cells #[.int .i64 (i : Int), .int .i64 (j : Int)] t)).heap.size (w.alloc (.cells #[.int .i64 (i : Int), .int .i64 (j : Int)] t)) (some ⟨w.heap.size, 0, none⟩) ([i, j].map fun (k : Nat) => (k : Int)) := by
  intro k hk
  have hk2 : k < 2 := by simpa using hk
  refine ⟨w.heap.size, 0, rfl, by simp, ?_⟩
  rw [Nat.zero_add, World.cell?_alloc_new]
  match k, hk2 with
  | 0, _ => rfl
  | 1, _ => rfl
theorem ints_at3 (w : World) (i j l : Nat) (t : TypeId) : IntsAt (w.alloc (.cells #[.int .i64 (i : Int), .int .i64 (j : Int), .int .i64 (l : Int)] t)).heap.size (w.alloc (.cells #[.int .i64 (i : Int), .int .i64 (j : Int), .int .i64 (l : Int)] t)) (some ⟨w.heap.size, 0, none⟩) ([i, j, l].map fun (k : Nat) => (k : Int)) := by
  intro k hk
  have hk2 : k < 3 := by simpa using hk
  refine ⟨w.heap.size, 0, rfl, by simp, ?_⟩
  rw [Nat.zero_add, World.cell?_alloc_new]
  match k, hk2 with
  | 0, _ => rfl
  | 1, _ => rfl
  | 2, _ => rfl
theorem ints_at0 (w : World) (N : Nat) : IntsAt N w none (([] : List Nat).map fun (k : Nat) => (k : Int)) := by
  intro k hk
  simp at hk
end Go.Proofs.YtdkhkemllmegfaaGreatDoor
