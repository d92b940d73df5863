/- The chapter's example. -/
import Derived.Test.YtnobamncenokdaaGreatDoorPParse
namespace Go.Proofs.YtnobamncenokdaaGreatDoor
open Go.RowKit Tn Lx

abbrev lText : ByteArray := ⟨#[105, 110, 112, 117, 116, 32, 104, 32, 58, 32, 123, 104, 105, 103, 104, 32, 108, 111, 119, 125, 59, 32, 109, 97, 105, 110, 32, 61, 32, 104, 59]⟩
def lToks : List Tok := match Lx.whole lText.data.toList with
  | .ok ts => ts
  | .bad _ _ => []
def lDecl : Pg.Dc := ⟨⟨[104], ⟨1, 7⟩⟩, ⟨[104, 105, 103, 104], ⟨1, 12⟩⟩, ⟨[108, 111, 119], ⟨1, 17⟩⟩, 0⟩
def lProg : Pg.St := ⟨[lDecl], [], Pg.wMain, ⟨1, 23⟩, 0⟩
theorem l_whole : Lx.whole lText.data.toList = .ok lToks := by kernel_rfl
theorem l_all : Pg.all lToks 60 10 0 Pg.st0 ⟨0, []⟩ = .ok lProg ⟨12, [⟨⟨#[118, 97, 114]⟩, 1, 30, ⟨#[104]⟩, 0, []⟩]⟩ := by kernel_rfl

set_option maxRecDepth 100000 in
set_option maxHeartbeats 4000000 in
theorem live6_any (w : World) (hT : Lib.Utf8Tabs 1 2 w) (hg : ErrT w) : Calls Tryz.prog 4 #[] w fun e w' => e = .returned (.bool true) ∧ Below w.heap.size w w' := by
  have hp := pparse_any 60 (by omega) 10 lText lToks w (by decide) hT hg l_whole (by rw [l_all]; exact fun e => by cases e)
  rw [l_all] at hp
  have HP := Lib.hid hp
  clear hp hT hg
  go_enter Tryz.func4, Tryz.ntmps4
  go_wp2_with fail
  refine HP.out.mono ?_
  rintro e w1 ⟨hb1, ⟨g, s, c, q, pp, v1, v4, he, rfl, hP⟩ | ⟨cd, p, n, he, _⟩⟩
  rotate_left
  · cases he
  injection he with he1 he2
  subst he1
  obtain ⟨b, cap, rfl, hc1, hm1, hx⟩ := own_slice2 hP.ins (by decide)
  have g1 := hP.g1
  have x3 : w1.cell? ⟨b, 3, none⟩ = some (.string ⟨#[104, 105, 103, 104]⟩) := hx 3 _ rfl
  have m7 : w1.cell? ⟨q, 7, none⟩ = some (.int .i64 1) := (blk_cell hP.prog 7).trans rfl
  have m8 : w1.cell? ⟨q, 8, none⟩ = some (.int .i64 23) := (blk_cell hP.prog 8).trans rfl
  have HB1 := Lib.hid hb1
  rw [show lProg.ins.length = 1 from rfl] at g1 hc1
  clear hx hP HP hb1 he2
  go_wp2
  go_ret
  exact ⟨rfl, HB1.out⟩
end Go.Proofs.YtnobamncenokdaaGreatDoor
