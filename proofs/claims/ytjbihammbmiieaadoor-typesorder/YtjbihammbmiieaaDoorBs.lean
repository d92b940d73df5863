/- The text that was written; a builder, new again. -/
import Derived.Test.YtjbihammbmiieaaDoorWt
namespace Go.Proofs.YtjbihammbmiieaaDoor
open Go.RowKit Go.Shelf Un

/-- between two texts -/
structure IdleAt (B bt : Nat) (c : Pc) (mb : Nat) (R : List Nx) (v : Value) (nums : List Nat) (adr pv : Value) (w : World) : Prop where
  tab : TabAt B w bt R v
  tok : Tok R
  blk : w.heap[c.bp]? = some (.cells #[c.tv, adr, pv, c.mv] 80 (0, 0))
  num : NumsAt w mb nums
  tv : c.tv = .pointer (some ⟨bt, 0, none⟩)
  mv : c.mv = .map (some mb)
  lo : c.N ≤ mb
  bN : B ≤ c.N
  lob : c.N ≤ c.bp
  hN : c.N ≤ w.heap.size
theorem but_freeze (w : World) (g n : Nat) : But (fun q => q = g) w (w.freeze ⟨g, 0, none⟩ n) := by
  unfold World.freeze
  split
  · exact But.refl _ _
  · exact ⟨rfl, rfl, rfl, by simp, fun k _ hk => by simp only [Array.getElem?_modify]; rw [if_neg (fun e => hk e.symm)]⟩
theorem IdleAt.reset {B bt : Nat} {c : Pc} {mb : Nat} {R : List Nx} {v : Value} {nums : List Nat} {adr pv : Value} {w : World} (h : IdleAt B bt c mb R v nums adr pv w) :
    ShowAt B bt c mb R v [] nums ((w.setCell ⟨c.bp, 1, none⟩ (.pointer none)).setCell ⟨c.bp, 2, none⟩ (.slice none 0 0)) ∧ But (fun q => q = c.bp) w ((w.setCell ⟨c.bp, 1, none⟩ (.pointer none)).setCell ⟨c.bp, 2, none⟩ (.slice none 0 0)) := by
  have hb : But (fun q => q = c.bp) w ((w.setCell ⟨c.bp, 1, none⟩ (.pointer none)).setCell ⟨c.bp, 2, none⟩ (.slice none 0 0)) := (But.setCell (p := fun q => q = c.bp) w rfl 1 _).trans (But.setCell (p := fun q => q = c.bp) _ rfl 2 _)
  have hbt : bt ≠ c.bp := fun e => by have h1 := h.tab.blk; rw [e, h.blk] at h1; injection h1 with h1; injection h1 with _ h1; exact absurd h1 (by decide)
  have hv : v.ownBlock ≠ some c.bp := fun e => by
    obtain ⟨_, cur, e1⟩ := own_tag h.tab.own e
    rw [h.blk] at e1; injection e1 with e1; injection e1 with _ e1; exact absurd e1 (by decide)
  have hm : mb ≠ c.bp := fun e => by have h1 := h.blk; have h2 : w.heap[mb]? = _ := h.num; rw [← e, h2] at h1; cases h1
  refine ⟨⟨h.tab.but hb hbt hv, h.tok, ⟨.pointer none, .slice none 0 0, h.lob, Nat.le_trans h.hN hb.size, (blk_set (blk_set h.blk 1 _) 2 _).trans rfl, .inl rfl, ⟨rfl, .inl ⟨rfl, rfl⟩⟩⟩, hb.heap h.num hm, h.tv, h.mv, h.lo, h.bN⟩, hb⟩
theorem ShowAt.idle {B bt : Nat} {c : Pc} {mb : Nat} {R : List Nx} {v : Value} {s : List UInt8} {nums : List Nat} {w w' : World} {g : Nat} {cs : Array Value} {fr : Nat × Nat} (h : ShowAt B bt c mb R v s nums w) (hg : w.heap[g]? = some (.cells cs 5 fr)) (k : But (fun q => q = g) w w') : ∃ adr pv, IdleAt B bt c mb R v nums adr pv w' := by
  obtain ⟨adr, pv, hp⟩ := h.pr
  have hbt : bt ≠ g := fun e => by have h1 := h.tab.blk; rw [e, hg] at h1; injection h1 with h1; injection h1 with _ h1; exact absurd h1 (by decide)
  have hv : v.ownBlock ≠ some g := fun e => by
    obtain ⟨_, cur, e1⟩ := own_tag h.tab.own e
    rw [hg] at e1; injection e1 with e1; injection e1 with _ e1; exact absurd e1 (by decide)
  have hb : c.bp ≠ g := fun e => by have h1 := hp.blk; rw [e, hg] at h1; injection h1 with h1; injection h1 with _ h1; exact absurd h1 (by decide)
  have hm : mb ≠ g := fun e => by have h2 : w.heap[mb]? = _ := h.num; rw [e, hg] at h2; cases h2
  exact ⟨adr, pv, h.tab.but k hbt hv, h.tok, k.heap hp.blk hb, k.heap h.num hm, h.tv, h.mv, h.lo, h.bN, hp.lo, Nat.le_trans hp.hN k.size⟩
def BStrP (c : Pc) (s : List UInt8) (w : World) (e : Ending) (w' : World) : Prop := e = .returned (.string ⟨s.toArray⟩) ∧ ∃ g cs fr, c.N ≤ g ∧ w.heap[g]? = some (.cells cs 5 fr) ∧ But (fun q => q = g) w w'
set_option maxHeartbeats 2000000 in
set_option maxRecDepth 100000 in
theorem bstr2_any (c : Pc) (w : World) (s : List UInt8) (h : Pr c w s) (h0 : s ≠ []) : Calls Tryd.prog 36 #[.pointer (some ⟨c.bp, 1, none⟩)] w (BStrP c s w) := by
  obtain ⟨adr, v, h⟩ := h
  have hl0 : s.length ≠ 0 := by simpa using h0
  obtain ⟨g, cap, cur, rfl, hbg, hg, hnc, hcm, hcs, htake⟩ : ∃ g cap cur, v = .slice (some ⟨g, 0, none⟩) s.length cap ∧ c.N ≤ g ∧ w.heap[g]? = some (.cells cur 5 (0, 0)) ∧ s.length ≤ cap ∧ cap ≤ maxLen ∧ cur.size = cap * 1 ∧ cur.toList.take (s.length * 1) = Lib.byteCells s := by
    rcases h.own.2 with ⟨_, hz⟩ | ⟨g, cap, cur, hv, r⟩
    · exact absurd hz hl0
    · exact ⟨g, cap, cur, hv, r⟩
  have c1 : w.drew.cell? ⟨c.bp, 2, none⟩ = some (.slice (some ⟨g, 0, none⟩) s.length cap) := h.c2
  have hSD : (Builtin.unsafeSliceData_ #[76] 102 #[.slice (some ⟨g, 0, none⟩) s.length cap]).run Tryd.prog w.drew = .ok (.pointer (some ⟨g, 0, none⟩)) w.drew :=
    Lib.run_unsafeSliceData_row _ _ _ _ _ _ (by omega)
  have hUS : (Builtin.unsafeString_ #[102, 3] 9 #[.pointer (some ⟨g, 0, none⟩), .int .i64 s.length]).run Tryd.prog w.drew = .ok (.string ⟨s.toArray⟩) (w.drew.freeze ⟨g, 0, none⟩ s.length) := by
    refine Lib.run_unsafeString_row w.drew 102 3 9 5 Tryd.underlying102 (by kernel_rfl) g cur.size (by have hg' : w.drew.heap[g]? = some (.cells cur 5 (0, 0)) := hg; simp [World.shape?, hg']) s h0 (by omega) (by unfold maxLen at hcm; omega) ?_
    intro j x hx
    have := h.own.cells (g := g) rfl j (.int .u8 x.toNat) (by simp [Lib.byteCells, hx])
    exact this
  have hfr : But (fun q => q = g) w (w.drew.freeze ⟨g, 0, none⟩ s.length) := ((But.refl _ w).drew).trans (but_freeze w.drew g s.length)
  have HFR := Lib.hid hfr; have HG := Lib.hid hg
  clear hfr hg hcs htake h
  go_enter Tryd.func36, Tryd.ntmps36
  go_wp2
  go_region
  all_goals (go_wp2; go_ret; exact ⟨rfl, g, cur, (0, 0), hbg, HG.out, HFR.out⟩)
def ResetP (B bt : Nat) (c : Pc) (mb : Nat) (R : List Nx) (v : Value) (nums : List Nat) (w : World) (e : Ending) (w' : World) : Prop := e = .returned (.tuple #[]) ∧ ShowAt B bt c mb R v [] nums w' ∧ But (fun q => q = c.bp) w w'
theorem reset_any (B bt : Nat) (c : Pc) (mb : Nat) (R : List Nx) (v : Value) (nums : List Nat) (adr pv : Value) (w : World) (h : IdleAt B bt c mb R v nums adr pv w) : Calls Tryd.prog 34 #[.pointer (some ⟨c.bp, 1, none⟩)] w (ResetP B bt c mb R v nums w) := by
  have c1 : w.cell? ⟨c.bp, 1, none⟩ = some adr := (blk_cell h.blk 1).trans rfl
  have c2 : w.cell? ⟨c.bp, 2, none⟩ = some pv := (blk_cell h.blk 2).trans rfl
  have hf := blk_frozen h.blk
  have H := Lib.hid h
  clear h
  go_enter Tryd.func34, Tryd.ntmps34
  go_wp2
  go_end0
  exact ⟨rfl, H.out.reset⟩
end Go.Proofs.YtjbihammbmiieaaDoor
