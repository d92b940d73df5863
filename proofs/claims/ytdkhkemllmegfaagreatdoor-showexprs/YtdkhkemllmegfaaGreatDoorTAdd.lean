/- One more node: the program's Add. -/
import Derived.Test.YtdkhkemllmegfaaGreatDoorTOwn
import Derived.BigRegion
import Derived.Deep.DeepCutAuto
import Derived.Deep.RegionWith
import Derived.Deep.RegionLaw
namespace Go.Proofs.YtdkhkemllmegfaaGreatDoor
open Go.RowKit Tn

theorem below_undrew {w w' : World} (h : Below w.drew.heap.size w.drew w') : Below w.heap.size w w' := ⟨h.os, h.tape, h.output, h.size, h.block⟩

set_option maxRecDepth 100000 in
/-- its parts aren't all there -/
theorem add_no (bt : Nat) (ao : Option Addr) (len cap N : Nat) (n : Nd) (ka : Option Addr) (kc : Nat) (w : World) (hc : w.cell? ⟨bt, 0, none⟩ = some (.slice ao len cap)) (hk : IntsAt N w ka n.kids) (hl : n.kids.length ≤ 999000) (hf : fits len n = false) :
    Calls Tryz.prog 21 #[.pointer (some ⟨bt, 0, none⟩), .agg #[.string n.op, .int .i64 n.line, .int .i64 n.col, .string n.name, .int .i64 n.num, .slice ka n.kids.length kc]] w fun e w' => e = .returned (.tuple #[.int .i64 0, .int .i64 1]) ∧ Below w.heap.size w w' := by
  have hb : ∀ o, Below w.heap.size w (w.alloc o) := fun o => (Below.refl _ w).alloc (Nat.le_refl _) o
  have hc' : ∀ o, (w.alloc o).cell? ⟨bt, 0, none⟩ = some (.slice ao len cap) := fun o => (World.cell?_alloc_lt _ _ _ (World.block_lt_of_cell? _ _ hc)).trans hc
  have hk' : ∀ o, IntsAt w.heap.size (w.alloc o) ka n.kids := fun o => IntsAt.below (N := w.heap.size) (fun i hi => by
    obtain ⟨b, o, e, _, hc⟩ := hk i hi
    exact ⟨b, o, e, by have := World.block_lt_of_cell? _ _ hc; exact this, hc⟩) (hb o)
  have HB := Lib.hid hb; have HC := Lib.hid hc'; have HK := Lib.hid hk'; have HF := Lib.hid hf
  clear hb hc' hk' hk hf hc
  go_enter Tryz.func21, Tryz.ntmps21
  go_wp2_with (go_at_call 40; refine (hasAll_any bt ao len cap _ ka n kc _ (HC.out _) (HK.out _) hl).mono ?_; rintro e w' ⟨rfl, rfl⟩; rw [HF.out])
  go_ret2
  exact ⟨rfl, HB.out _⟩

set_option maxRecDepth 100000 in
/-- there is no room for one more -/
theorem add_full (bt : Nat) (ao : Option Addr) (len cap N : Nat) (n : Nd) (ka : Option Addr) (kc : Nat) (w : World) (hc : w.cell? ⟨bt, 0, none⟩ = some (.slice ao len cap)) (hk : IntsAt N w ka n.kids) (hl : n.kids.length ≤ 999000) (hf : fits len n = true) (h4 : 4000 ≤ len) (h5 : len ≤ 1000000) :
    Calls Tryz.prog 21 #[.pointer (some ⟨bt, 0, none⟩), .agg #[.string n.op, .int .i64 n.line, .int .i64 n.col, .string n.name, .int .i64 n.num, .slice ka n.kids.length kc]] w fun e w' => e = .returned (.tuple #[.int .i64 0, .int .i64 6]) ∧ Below w.heap.size w w' := by
  have hb : ∀ o, Below w.heap.size w (w.alloc o) := fun o => (Below.refl _ w).alloc (Nat.le_refl _) o
  have hc' : ∀ o, (w.alloc o).cell? ⟨bt, 0, none⟩ = some (.slice ao len cap) := fun o => (World.cell?_alloc_lt _ _ _ (World.block_lt_of_cell? _ _ hc)).trans hc
  have hk' : ∀ o, IntsAt w.heap.size (w.alloc o) ka n.kids := fun o => IntsAt.below (N := w.heap.size) (fun i hi => by
    obtain ⟨b, o, e, _, hc⟩ := hk i hi
    exact ⟨b, o, e, by have := World.block_lt_of_cell? _ _ hc; exact this, hc⟩) (hb o)
  have HB := Lib.hid hb; have HC := Lib.hid hc'; have HK := Lib.hid hk'; have HF := Lib.hid hf
  clear hb hc' hk' hk hf hc
  go_enter Tryz.func21, Tryz.ntmps21
  go_wp2_with fail
  refine (hasAll_any bt ao len cap _ ka n kc _ (HC.out _) (HK.out _) hl).mono ?_
  rintro e w' ⟨rfl, rfl⟩
  rw [HF.out]
  have hc := HC.out (.cells #[.string n.op, .int .i64 n.line, .int .i64 n.col, .string n.name, .int .i64 n.num, .slice ka n.kids.length kc] 40)
  go_wp2
  go_ret2
  exact ⟨rfl, HB.out _⟩

theorem TreeOwn.grow {B : Nat} {w1 : World} {bt : Nat} {v : Value} {l : List SN} (h : TreeOwn B w1 bt v l) {s : SN} (hk : w1.ownsRow B 3 1 (.slice s.ka s.n.kids.length s.kc) s.n.kids.length (ints s.n.kids)) {o : Obj} {w2 : World} {v' : Value}
    (hown : w2.ownsRow B 40 6 v' (l.length + 1) (cells6 l ++ cell6 s)) (hg : (w1.alloc o).grownBy w2 v.ownBlock) : TreeOwn B (w2.setCell ⟨bt, 0, none⟩ v') bt v' (l ++ [s]) ∧ w2.heap[bt]? = some (.cells #[v] 74 (0, 0)) := by
  have far : ∀ k q, w1.heap[k]? = some q → some k ≠ v.ownBlock → w2.heap[k]? = some q := fun k q hq hn =>
    (hg.block k (by have := lt_of_heap hq; simp; omega) hn).trans (blk_alloc hq o)
  have hb : w2.heap[bt]? = some (.cells #[v] 74 (0, 0)) := far bt _ h.blk fun e => by have := (own_tag h.own e.symm).1; have := h.lt; omega
  have kid : ∀ {q : SN}, w1.ownsRow B 3 1 (.slice q.ka q.n.kids.length q.kc) q.n.kids.length (ints q.n.kids) → w2.ownsRow B 3 1 (.slice q.ka q.n.kids.length q.kc) q.n.kids.length (ints q.n.kids) := fun {q} hq => by
    refine ⟨hq.1, ?_⟩
    rcases hq.2 with hn | ⟨g, cap, cur, e, hbg, hgg, rest⟩
    · exact .inl hn
    · refine .inr ⟨g, cap, cur, e, hbg, far g _ hgg fun e' => ?_, rest⟩
      obtain ⟨_, cur', h'⟩ := own_tag h.own e'.symm
      rw [hgg] at h'
      injection h' with h'
      injection h' with _ h'
      cases h'
  refine ⟨⟨(blk_set hb 0 v').trans rfl, ?_, ?_, h.lt⟩, hb⟩
  · rw [List.length_append, cells6_snoc]
    exact own_setCell hown h.lt 0 v'
  · intro q hq
    rcases List.mem_append.1 hq with hq | hq
    · exact own_setCell (kid (h.kids q hq)) h.lt 0 v'
    · obtain rfl : q = s := by simpa using hq
      exact own_setCell (kid hk) h.lt 0 v'

def AddP (B : Nat) (w : World) (bt : Nat) (v : Value) (l : List SN) (n : Nd) (e : Ending) (w' : World) : Prop :=
  ∃ v' ka kc, e = .returned (.tuple #[.int .i64 l.length, .int .i64 0]) ∧ TreeOwn B w' bt v' (l ++ [⟨n, ka, kc⟩]) ∧ But (fun k => k = bt ∨ some k = v.ownBlock) w w' ∧ (v'.ownBlock = v.ownBlock ∨ ∃ g, v'.ownBlock = some g ∧ w.heap.size ≤ g) ∧ ∀ g, (Value.slice ka n.kids.length kc).ownBlock = some g → w.heap.size ≤ g

set_option maxRecDepth 100000 in
set_option maxHeartbeats 2000000 in
theorem add_yes (B : Nat) (bt : Nat) (v : Value) (l : List SN) (N : Nat) (n : Nd) (ka : Option Addr) (kc : Nat) (w : World) (ht : TreeOwn B w bt v l) (hk : IntsAt N w ka n.kids) (hnil : ka = none → kc = 0) (hl : n.kids.length ≤ 999000) (hs : l.length < 4000) (hf : fits l.length n = true) (hB : B ≤ w.heap.size) :
    Calls Tryz.prog 21 #[.pointer (some ⟨bt, 0, none⟩), .agg #[.string n.op, .int .i64 n.line, .int .i64 n.col, .string n.name, .int .i64 n.num, .slice ka n.kids.length kc]] w (AddP B w bt v l n) := by
  obtain ⟨ao, cap, rfl⟩ := own_form ht.own
  generalize hW : w.alloc (.cells #[.string n.op, .int .i64 n.line, .int .i64 n.col, .string n.name, .int .i64 n.num, .slice ka n.kids.length kc] 40) = W
  have hbW : Below w.heap.size w W := by rw [← hW]; exact (Below.refl _ w).alloc (Nat.le_refl _) _
  have hsW : W.heap.size = w.heap.size + 1 := by rw [← hW]; simp
  have s1 : Six W w.heap.size 40 (.string n.op) (.int .i64 n.line) (.int .i64 n.col) (.string n.name) (.int .i64 n.num) (.slice ka n.kids.length kc) := ⟨by rw [← hW]; exact blk_new w _⟩
  have hkW : IntsAt w.heap.size W ka n.kids := (IntsAt.below (N := w.heap.size) (fun i hi => by
    obtain ⟨b, o, e, _, hc⟩ := hk i hi
    exact ⟨b, o, e, by have := World.block_lt_of_cell? _ _ hc; exact this, hc⟩) hbW)
  have hT : TreeOwn B W bt (.slice ao l.length cap) l := ht.below hbW
  have HK := Lib.hid hkW; have HN := Lib.hid hnil; have HW := Lib.hid hW; have HS := Lib.hid hsW; have HF := Lib.hid hf
  have hc : W.cell? ⟨bt, 0, none⟩ = some (.slice ao l.length cap) := (blk_cell hT.blk 0).trans rfl
  have HC := Lib.hid hc
  obtain ⟨i0, hi, hz0, hz1, hz2⟩ := info_parts Tryz.info40
  have HI := Lib.hid hi; have HZ := Lib.hid hz0; have HZ1 := Lib.hid hz1; have HZ2 := Lib.hid hz2
  clear hk hnil hkW hsW hW hf hi hz0 hz1 hz2 hc
  go_enter Tryz.func21, Tryz.ntmps21
  go_wp2_with fail
  rw [HW.out]
  refine (hasAll_any bt ao l.length cap _ ka n kc _ HC.out HK.out hl).mono ?_
  rintro e w' ⟨rfl, rfl⟩
  rw [HF.out]
  have hc := HC.out
  have c0 := s1.c0; have c1 := s1.c1; have c2 := s1.c2; have c3 := s1.c3; have c4 := s1.c4; have c5 := s1.c5
  go_wp2_with fail
  have hkd : IntsAt w.heap.size W.drew ka n.kids := HK.out
  have HKD := Lib.hid hkd; clear hkd
  go_region_law (first
    | (refine step_append_lies _ (by rfl) (.tmp 25) (.tmp 28) 33 (by rfl) B 40 i0 _ 6 80 Tryz.underlying33 HI.out HZ.out HZ1.out HZ2.out rfl (by omega) (.slice ao l.length cap) l.length (cells6 l) (by rfl) (hT1.own.alloc _) ⟨w1.heap.size, 0, none⟩ 1 1 (cell6 ⟨n, ka1, kc1⟩) (by rfl) (by rfl) (World.news_of_block (cs := #[.string n.op, .int .i64 n.line, .int .i64 n.col, .string n.name, .int .i64 n.num, .slice ka1 n.kids.length kc1]) (t := 40) (fr := (0, 0)) (heap_alloc_new w1 _)) (by intro x hx; simp only [cell6, List.mem_cons, List.not_mem_nil, or_false] at hx; rcases hx with rfl | rfl | rfl | rfl | rfl | rfl <;> rfl) (by omega) (by unfold maxLen; omega) (by omega) (by have := hb1.size; have := HS.out; simp at *; omega) (w1.heap.size + 1) (by simp) ?_; intro g cap' w2 hown2 hgrow2 hat2 hlt2; have hG := hT1.grow (s := ⟨n, ka1, kc1⟩) (own_mono hown1 (by have := HS.out; simp at *; omega)) hown2 hgrow2; have hc3 : w2.cell? ⟨bt, 0, none⟩ = some (.slice ao l.length cap) := (blk_cell hG.2 0).trans rfl; have hf3 : w2.frozen? ⟨bt, 0, none⟩ = false := blk_frozen hG.2 0)
    | (go_simp; go_at_call 41; refine (sep_any w.heap.size n ka kc W.drew HKD.out HN.out hl).mono ?_; rintro e w1 ⟨ka1, kc1, rfl, hown1, hb1⟩; have hT1 : TreeOwn B w1 bt (.slice ao l.length cap) l := hT.below (below_undrew hb1); have hc1 : w1.cell? ⟨bt, 0, none⟩ = some (.slice ao l.length cap) := (blk_cell hT1.blk 0).trans rfl; have hc2 : ∀ X, (w1.alloc X).cell? ⟨bt, 0, none⟩ = some (.slice ao l.length cap) := fun X => (World.cell?_alloc_lt _ _ _ (World.block_lt_of_cell? _ _ hc1)).trans hc1; simp only [nval]))
  all_goals
    have hB1 : But (fun k => k = bt ∨ some k = (Value.slice ao l.length cap).ownBlock) w w1 := But.of_below (hbW.trans ((below_undrew hb1).mono hbW.size))
    have hB2 : But (fun k => k = bt ∨ some k = (Value.slice ao l.length cap).ownBlock) w (w2.setCell ⟨bt, 0, none⟩ (.slice (some ⟨g, 0, none⟩) (l.length + 1) cap')) :=
      (hB1.trans (But.of_below ((Below.refl _ w1).alloc (Nat.le_refl _) _))).trans ((But.of_grown hgrow2 (fun k e => .inr e.symm)).trans (But.setCell w2 (.inl rfl) 0 _))
    have hat : (Value.slice (some ⟨g, 0, none⟩) (l.length + 1) cap').ownBlock = (Value.slice ao l.length cap).ownBlock ∨ ∃ g', (Value.slice (some ⟨g, 0, none⟩) (l.length + 1) cap').ownBlock = some g' ∧ w.heap.size ≤ g' := by
      rcases hat2 with e | e
      · exact .inl e.symm
      · refine .inr ⟨g, rfl, ?_⟩
        have := hB1.size; omega
    have hnew : ∀ g, (Value.slice ka1 n.kids.length kc1).ownBlock = some g → w.heap.size ≤ g := fun g hg => by
      have := (own_tag hown1 hg).1; have := HS.out; simp at *; omega
    have HB := Lib.hid hB2; have HA := Lib.hid hat; have HG := Lib.hid hG.1; have HN1 := Lib.hid hnew
    have hc4 : (w2.setCell ⟨bt, 0, none⟩ (.slice (some ⟨g, 0, none⟩) (l.length + 1) cap')).cell? ⟨bt, 0, none⟩ = some (.slice (some ⟨g, 0, none⟩) (l.length + 1) cap') := (blk_cell hG.1.blk 0).trans rfl
    clear hnew hB1 hB2 hat hG hT1 hc1 hc2 hown2 hgrow2 hat2 hown1 hb1 hT s1 c0 c1 c2 c3 c4 c5 hc ht
    go_wp2
    go_ret2
    exact ⟨_, ka1, kc1, by first | rfl | (congr 3; omega), HG.out, HB.out, HA.out, HN1.out⟩
end Go.Proofs.YtdkhkemllmegfaaGreatDoor
