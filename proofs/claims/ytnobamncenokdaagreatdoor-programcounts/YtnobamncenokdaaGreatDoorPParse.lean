/- A text's program. -/
import Derived.Test.YtnobamncenokdaaGreatDoorPAll
import Derived.Test.YtnobamncenokdaaGreatDoorParse
namespace Go.Proofs.YtnobamncenokdaaGreatDoor
open Go.RowKit Tn Lx

/-- the program; or what is wrong -/
def PParseP (w : World) (R : Pg.R Pg.St) (e : Ending) (w' : World) : Prop :=
  Below w.heap.size w w' ∧ ((∃ g s c q pp v1 v4, R = .ok g s ∧ e = .returned (.tuple #[.pointer (some ⟨q, 0, none⟩), .nilIface]) ∧ Pm c q pp v1 v4 w' g) ∨ (∃ cd p n, R = .bad cd p n ∧ e = .returned (.tuple #[.pointer none, dvalN cd p n])))

set_option maxRecDepth 100000 in
set_option maxHeartbeats 4000000 in
theorem pparse_any (n : Nat) (hn : n ≤ 900000) (f : Nat) (s : ByteArray) (ts : List Tok) (w : World) (hs : s.size ≤ 1000000000000) (hT : Lib.Utf8Tabs 1 2 w) (hg : ErrT w) (hw : Lx.whole s.data.toList = .ok ts) (hne : Pg.all ts n f 0 Pg.st0 ⟨0, []⟩ ≠ .out) :
    Calls Tryz.prog 5 #[.string s] w (PParseP w (Pg.all ts n f 0 Pg.st0 ⟨0, []⟩)) := by
  have hlt := hg.lt
  have HA := Lib.hid (new_ok s ts w hs hT hw); have HG := Lib.hid hg; have HNE := Lib.hid hne
  clear hT hg hw hne
  go_enter Tryz.func5, Tryz.ntmps5
  go_wp2_with fail
  refine HA.out.mono ?_
  rintro e w1 ⟨c, rfl, rfl, hRd, hb1, hcr, hcb, hcB⟩
  have hs1 := hb1.size
  have c0 := hRd.c0
  obtain ⟨V, hV⟩ : ∃ V, (w1.alloc (.cells #[.pointer (some ⟨c.bt, 0, none⟩), .slice none 0 0, .slice none 0 0, .slice none 0 0, .slice none 0 0, .slice none 0 0, .string ⟨#[]⟩, .int .i64 0, .int .i64 0, .slice none 0 0, .int .i64 0] 42)).alloc (.cells #[.pointer (some ⟨c.r, 0, none⟩), .pointer (some ⟨w1.heap.size, 0, none⟩)] 55) = V := ⟨_, rfl⟩
  have hbV : Below w1.heap.size w1 V := by rw [← hV]; exact ((Below.refl _ w1).alloc (Nat.le_refl _) _).alloc (by simp) _
  have kq : V.heap[w1.heap.size]? = some (.cells (progCells c.bt (.slice none 0 0) (.slice none 0 0) Pg.st0) 42 (0, 0)) := by rw [← hV]; exact blk_alloc (blk_new w1 _) _
  have kp : V.heap[w1.heap.size + 1]? = some (.cells #[.pointer (some ⟨c.r, 0, none⟩), .pointer (some ⟨w1.heap.size, 0, none⟩)] 55 (0, 0)) := by
    rw [← hV]; have := blk_new (w1.alloc (.cells #[.pointer (some ⟨c.bt, 0, none⟩), .slice none 0 0, .slice none 0 0, .slice none 0 0, .slice none 0 0, .slice none 0 0, .string ⟨#[]⟩, .int .i64 0, .int .i64 0, .slice none 0 0, .int .i64 0] 42)) (.cells #[.pointer (some ⟨c.r, 0, none⟩), .pointer (some ⟨w1.heap.size, 0, none⟩)] 55); rwa [World.size_alloc] at this
  have hB1 := hRd.size
  have hPm : Pm c w1.heap.size (w1.heap.size + 1) (.slice none 0 0) (.slice none 0 0) V Pg.st0 :=
    ⟨kp, kq, World.ownsRow_nil _ _ _ _, World.ownsRow_nil _ _ _ _, (fun k e => by cases e), by omega, hB1⟩
  have hbW : Below w.heap.size w V := hb1.trans (hbV.mono hb1.size)
  have hE := pall_any c (fun _ => False) V ⟨0, []⟩ n hn w1.heap.size (w1.heap.size + 1) f _ _ Pg.st0 (hRd.below hbV) hPm (HG.out.below hbW hlt) ⟨by omega, by omega, by omega⟩ HNE.out rfl rfl
  generalize Pg.all c.ts n f 0 Pg.st0 ⟨0, []⟩ = R at *
  have HE := Lib.hid hE; have HV := Lib.hid hV; have HBW := Lib.hid hbW
  clear hE hV hbW hbV kq kp hPm hRd hb1 HA HNE
  go_wp2_with fail
  rw [HV.out]
  refine HE.out.mono ?_
  rintro e w2 (⟨g, s2, v1, v4, hE2, rfl, hR2, hP2, hK2⟩ | ⟨cd, p, nm, hE2, rfl, hK2⟩)
  · have HB2 := Lib.hid (HBW.out.trans (hK2.below (N := w.heap.size) HBW.out.size hcr hcb hcB hs1)); have HP2 := Lib.hid hP2; have HE2 := Lib.hid hE2
    clear hP2 hK2 hR2 hE2 HE
    go_wp2
    go_ret2
    exact ⟨HB2.out, .inl ⟨g, s2, c, _, _, v1, v4, HE2.out, rfl, HP2.out⟩⟩
  · have HB2 := Lib.hid (HBW.out.trans (hK2.below (N := w.heap.size) HBW.out.size hcr hcb hcB hs1)); have HE2 := Lib.hid hE2
    clear hK2 hE2 HE
    unfold dvalN
    go_wp2
    go_ret2
    exact ⟨HB2.out, .inr ⟨cd, p, nm, HE2.out, rfl⟩⟩
end Go.Proofs.YtnobamncenokdaaGreatDoor
