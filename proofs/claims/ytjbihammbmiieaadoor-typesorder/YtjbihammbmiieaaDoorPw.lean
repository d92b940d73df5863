/- A byte, a text, written to a printer's builder; what it holds, as a text. -/
import Derived.Test.YtjbihammbmiieaaDoorPb
namespace Go.Proofs.YtjbihammbmiieaaDoor
open Go.RowKit Go.Shelf Un

theorem Tryd.info5 : (Tryd.prog.info? 5).map (fun i => (i.zero, i.size, i.bytes)) = some (some (.int .u8 0), 1, 1) := by kernel_rfl

theorem PrAt.below {c : Pc} {a b : World} {s : List UInt8} {adr v : Value} (h : PrAt c a s adr v) (k : Below a.heap.size a b) : PrAt c b s adr v :=
  ⟨h.lo, Nat.le_trans h.hN k.size, (k.block _ (lt_of_heap h.blk)).trans h.blk, h.adr, own_below h.own k⟩
theorem PrAt.grown_blk {c : Pc} {a b : World} {s : List UInt8} {adr v : Value} (h : PrAt c a s adr v) (hg : a.grownBy b v.ownBlock) : b.heap[c.bp]? = some (.cells #[c.tv, adr, v, c.mv] 80 (0, 0)) :=
  (hg.block c.bp (lt_of_heap h.blk) (fun e => h.ne e.symm)).trans h.blk
theorem PrAt.grown_pk {c : Pc} {a b : World} {s : List UInt8} {adr v : Value} (h : PrAt c a s adr v) (hg : a.grownBy b v.ownBlock) : Pk c a b :=
  But.of_grown hg (fun k e => .inr (by obtain ⟨x, cur, y⟩ := own_tag h.own e; exact ⟨x, _, _, y⟩))

/-- behind an append and its store -/
def WrP (c : Pc) (w : World) (s' : List UInt8) (r : Value) (e : Ending) (w' : World) : Prop := e = .returned r ∧ Pr c w' s' ∧ Pk c w w'

theorem wr_done {c : Pc} {w a b : World} {s : List UInt8} {adr v v' : Value} {bs : List UInt8} (h : PrAt c a s adr v) (hk : Pk c w a) (hg : a.grownBy b v.ownBlock) (ho : b.ownsRow c.N 5 1 v' bs.length (Lib.byteCells bs)) :
    Pr c (b.setCell ⟨c.bp, 2, none⟩ v') bs ∧ Pk c w (b.setCell ⟨c.bp, 2, none⟩ v') :=
  ⟨⟨adr, v', PrAt.setRow h.lo (Nat.le_trans h.hN (h.grown_pk hg).size) (h.grown_blk hg) h.adr ho⟩, (hk.trans (h.grown_pk hg)).trans (pk_set c b 2 v')⟩

set_option maxHeartbeats 2000000 in
set_option maxRecDepth 100000 in
theorem wbyte_any (c : Pc) (w : World) (s : List UInt8) (x : UInt8) (h : Pr c w s) (hl : s.length + 1 ≤ 1000000000) : Calls Tryd.prog 42 #[.pointer (some ⟨c.bp, 1, none⟩), .int .u8 x.toNat] w (WrP c w (s ++ [x]) .nilIface) := by
  obtain ⟨i0, hi, hz0, hz1, hz2⟩ := info_parts Tryd.info5
  have HI := Lib.hid hi; have HZ0 := Lib.hid hz0; have HZ1 := Lib.hid hz1; have HZ2 := Lib.hid hz2
  have HC := Lib.hid (copy_any c w s h)
  clear hi hz0 hz1 hz2 h
  go_enter Tryd.func42, Tryd.ntmps42
  go_wp2_with fail
  refine HC.out.mono ?_
  rintro e w1 ⟨rfl, ⟨v, h1⟩, hk1⟩
  have c2 := h1.c2
  have f2 := h1.fz 2
  have H1 := Lib.hid h1; have HK1 := Lib.hid hk1
  clear h1 hk1 HC
  go_wp2_with (at_builtin; refine wpList_append_own _ rfl _ _ 76 rfl c.N 5 i0 (.int .u8 0) 1 1 Tryd.underlying76 HI.out HZ0.out HZ1.out HZ2.out rfl (by decide) _ _ _ rfl (H1.out.own.alloc _) ⟨w1.heap.size, 0, none⟩ 1 1 [.int .u8 x.toNat] rfl rfl ?c1 ?c2 ?c3 ?c4 ?c5 ?_)
  case c1 =>
    intro j u hj
    match j, hj with
    | 0, hj => simp at hj; subst hj; simp [Addr.add]
  case c2 => intro u hu; simp at hu; subst hu; rfl
  case c3 => unfold maxLen; simp; omega
  case c4 => simp; omega
  case c5 => have := H1.out.hN; simp; omega
  intro v' w2 hown hgrow _
  obtain ⟨ao', cap', rfl⟩ := own_form hown
  have ha := H1.out.below ((Below.refl _ w1).alloc (Nat.le_refl _) (.cells #[.int .u8 x.toNat] 5))
  have hb2 := ha.grown_blk hgrow
  have D := wr_done (bs := s ++ [x]) ha (HK1.out.then_below ((Below.refl _ w1).alloc (Nat.le_refl _) _)) hgrow (by rw [Lib.byteCells_append, List.length_append]; exact hown)
  have g2 : w2.cell? ⟨c.bp, 2, none⟩ = some v := (blk_cell hb2 2).trans rfl
  have gf : w2.frozen? ⟨c.bp, 2, none⟩ = false := blk_frozen hb2 2
  have HD := Lib.hid D
  clear D hb2 ha hown hgrow
  go_wp2
  go_ret
  exact ⟨rfl, HD.out⟩

set_option maxHeartbeats 2000000 in
set_option maxRecDepth 100000 in
theorem wstr_any (c : Pc) (w : World) (s : List UInt8) (x : ByteArray) (h : Pr c w s) (hl : s.length + x.size ≤ 1000000000) : Calls Tryd.prog 41 #[.pointer (some ⟨c.bp, 1, none⟩), .string x] w (WrP c w (s ++ x.data.toList) (.tuple #[.int .i64 x.size, .nilIface])) := by
  obtain ⟨i0, hi, hz0, hz1, hz2⟩ := info_parts Tryd.info5
  have HI := Lib.hid hi; have HZ0 := Lib.hid hz0; have HZ1 := Lib.hid hz1; have HZ2 := Lib.hid hz2
  have HC := Lib.hid (copy_any c w s h)
  clear hi hz0 hz1 hz2 h
  go_enter Tryd.func41, Tryd.ntmps41
  go_wp2_with fail
  refine HC.out.mono ?_
  rintro e w1 ⟨rfl, ⟨v, h1⟩, hk1⟩
  have c2 := h1.c2
  have f2 := h1.fz 2
  have H1 := Lib.hid h1; have HK1 := Lib.hid hk1
  clear h1 hk1 HC
  go_wp2_with (at_builtin; refine Lib.wpList_append_own_string _ rfl _ _ 76 9 rfl c.N 5 i0 Tryd.underlying76 Tryd.underlying9 HI.out HZ0.out HZ1.out HZ2.out _ _ _ rfl H1.out.own x rfl ?c3 ?c4 ?c5 ?_)
  case c3 => unfold maxLen; omega
  case c4 => omega
  case c5 => exact H1.out.hN
  intro v' w2 hown hgrow _
  obtain ⟨ao', cap', rfl⟩ := own_form hown
  have hb2 := H1.out.grown_blk hgrow
  have D := wr_done (bs := s ++ x.data.toList) H1.out HK1.out hgrow (by rw [Lib.byteCells_append, List.length_append]; exact hown)
  have g2 : w2.cell? ⟨c.bp, 2, none⟩ = some v := (blk_cell hb2 2).trans rfl
  have gf : w2.frozen? ⟨c.bp, 2, none⟩ = false := blk_frozen hb2 2
  have HD := Lib.hid D
  clear D hb2 hown hgrow
  go_wp2
  go_ret2
  exact ⟨rfl, HD.out⟩

open Go.RowKit Go.Shelf Un
/-- a blank -/
theorem wblank_any (c : Pc) (w : World) (s : List UInt8) (h : Pr c w s) (hl : s.length + 1 ≤ 1000000000) : Calls Tryd.prog 42 #[.pointer (some ⟨c.bp, 1, none⟩), .int .u8 32] w (WrP c w (s ++ [32]) .nilIface) := wbyte_any c w s 32 h hl
/-- texts, as the walk compares them -/
theorem tl_eq (x : ByteArray) (l : List UInt8) : (x.toList = l) = (x = ⟨l.toArray⟩) := propext ⟨fun h => ByteArray.ext (by rw [← h, ByteArray.toList_eq]), fun h => by rw [h, ByteArray.toList_eq]⟩
theorem tl_beq (x : ByteArray) (l : List UInt8) : (x.toList == l) = decide (x = ⟨l.toArray⟩) := by
  rw [Bool.eq_iff_iff, beq_iff_eq, tl_eq, decide_eq_true_iff]

set_option maxHeartbeats 2000000 in
set_option maxRecDepth 100000 in
/-- the text; behind it the printer is not asked for anything more -/
theorem bstr_any (c : Pc) (w : World) (s : List UInt8) (h : Pr c w s) (h0 : s ≠ []) : Calls Tryd.prog 36 #[.pointer (some ⟨c.bp, 1, none⟩)] w fun e w' => e = .returned (.string ⟨s.toArray⟩) ∧ Below c.N w w' := by
  obtain ⟨adr, v, h⟩ := h
  have hl0 : s.length ≠ 0 := by simpa using h0
  obtain ⟨g, cap, cur, rfl, hbg, hg, hnc, hcm, hcs, htake⟩ : ∃ g cap cur, v = .slice (some ⟨g, 0, none⟩) s.length cap ∧ c.N ≤ g ∧ w.heap[g]? = some (.cells cur 5 (0, 0)) ∧ s.length ≤ cap ∧ cap ≤ maxLen ∧ cur.size = cap * 1 ∧ cur.toList.take (s.length * 1) = Lib.byteCells s := by
    rcases h.own.2 with ⟨_, hz⟩ | ⟨g, cap, cur, hv, r⟩
    · exact absurd hz hl0
    · exact ⟨g, cap, cur, hv, r⟩
  have c1 : w.drew.cell? ⟨c.bp, 2, none⟩ = some (.slice (some ⟨g, 0, none⟩) s.length cap) := h.c2
  have hSD : (Builtin.unsafeSliceData_ #[76] 102 #[.slice (some ⟨g, 0, none⟩) s.length cap]).run Tryd.prog w.drew = .ok (.pointer (some ⟨g, 0, none⟩)) w.drew :=
    Lib.run_unsafeSliceData_row _ _ _ _ _ _ (by omega)
  have hUS : (Builtin.unsafeString_ #[102, 3] 9 #[.pointer (some ⟨g, 0, none⟩), .int .i64 s.length]).run Tryd.prog w.drew = .ok (.string ⟨s.toArray⟩) (w.drew.freeze ⟨g, 0, none⟩ s.length) := by
    refine Lib.run_unsafeString_row w.drew 102 3 9 5 Tryd.underlying102 (by kernel_rfl) g cur.size (by have hg' : w.drew.heap[g]? = some (.cells cur 5 (0, 0)) := hg; simp [World.shape?, hg']) s h0 (by omega) (by unfold maxLen at hcm; omega) ?_
    intro j x hx
    have := h.own.cells (g := g) rfl j (.int .u8 x.toNat) (by simp [Lib.byteCells, hx])
    exact this
  have hfr : Below c.N w (w.drew.freeze ⟨g, 0, none⟩ s.length) := Lib.below_freeze (Below.drew (Below.refl c.N w)) hbg _
  have HFR := Lib.hid hfr
  clear hfr hg hcs htake h
  go_enter Tryd.func36, Tryd.ntmps36
  go_wp2
  go_region
  all_goals (go_wp2; go_ret; exact ⟨rfl, HFR.out⟩)
end Go.Proofs.YtjbihammbmiieaaDoor
