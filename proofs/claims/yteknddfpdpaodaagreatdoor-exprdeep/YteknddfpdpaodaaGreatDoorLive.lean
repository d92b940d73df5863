/- The chapter's example. -/
import Derived.Test.YteknddfpdpaodaaGreatDoorNil
import Derived.Test.YteknddfpdpaodaaGreatDoorTMeasure
import Derived.Test.YteknddfpdpaodaaGreatDoorTNode
namespace Go.Proofs.YteknddfpdpaodaaGreatDoor
open Go.RowKit Tn Lx

def y1 : Nd := ⟨⟨#[105, 110, 116]⟩, 1, 1, ⟨#[]⟩, 1, []⟩
def y2 : Nd := ⟨⟨#[105, 110, 116]⟩, 1, 5, ⟨#[]⟩, 2, []⟩
def y3 : Nd := ⟨⟨#[118, 97, 114]⟩, 1, 9, ⟨#[120]⟩, 0, []⟩
def y4 : Nd := ⟨⟨#[42]⟩, 1, 7, ⟨#[]⟩, 0, [1, 2]⟩
def y5 : Nd := ⟨⟨#[43]⟩, 1, 3, ⟨#[]⟩, 0, [0, 3]⟩
abbrev ys : List Nd := [y1, y2, y3, y4, y5]

theorem y_wf : WF ys := by
  have h : ys = build ys := rfl
  rw [h]; exact WF.ofBuild _
theorem y_cases {i : Nat} (hi : i < ys.length) : i = 0 ∨ i = 1 ∨ i = 2 ∨ i = 3 ∨ i = 4 := by simp [ys] at hi; omega
theorem y_good : Tn.Good ys := ⟨by simp, fun i hi => by
  rcases y_cases hi with rfl | rfl | rfl | rfl | rfl <;> decide⟩
theorem y_few : ∀ i, i < ys.length → (nd ys i).kids.length ≤ 999000 := fun i hi => by
  rcases y_cases hi with rfl | rfl | rfl | rfl | rfl <;> decide
theorem y_parse : Ex.parse 60 [49, 32, 43, 32, 50, 32, 42, 32, 120] = .ok 4 ys := by kernel_rfl
theorem y_size : Tn.M (· + ·) ys 4 = 5 := by kernel_rfl
abbrev yText : ByteArray := ⟨#[49, 32, 43, 32, 50, 32, 42, 32, 120]⟩
set_option maxRecDepth 100000 in
set_option maxHeartbeats 4000000 in
theorem lives_any (w : World) (hT : Lib.Utf8Tabs 1 2 w)
    (hg : w.cell? ⟨0, 0, none⟩ = some (.iface 105 (.agg #[.pointer (some ⟨9, 25, none⟩)]))) : Calls Tryz.prog 4 #[] w fun e w' => e = .returned (.bool true) ∧ Below w.heap.size w w' := by
  have hp := parse_any 60 (by omega) yText w (by decide) hT hg (by rw [show yText.data.toList = [49, 32, 43, 32, 50, 32, 42, 32, 120] from rfl, y_parse]; exact fun e => by cases e)
  rw [show yText.data.toList = [49, 32, 43, 32, 50, 32, 42, 32, 120] from rfl, y_parse] at hp
  have HP := Lib.hid hp
  clear hp hT hg
  go_enter Tryz.func4, Tryz.ntmps4
  go_wp2_with fail
  refine HP.out.mono ?_
  rintro e w1 ⟨hb1, ⟨i, ns, B, bt, v, l, he, rfl, hl, ht, hlt⟩ | ⟨cd, p, he, _⟩⟩
  rotate_left
  · cases he
  injection he with he1 he2
  subst he1 he2
  obtain ⟨ao, cap, rfl, hA⟩ := ht.at
  rw [hl] at hA
  have hll : l.length = 5 := by have := congrArg List.length hl; simpa [nds] using this
  rw [hll] at ht
  have gt : Calls Tryz.prog 11 #[.pointer (some ⟨bt, 0, none⟩), .int .i64 4] w1 (GetP w1 (nd ys 4)) := get_yes w1.heap.size bt ao cap ys 4 w1 hA (Nat.le_refl _) (by decide) (by decide)
  have ln : ∀ w2, Below w1.heap.size w1 w2 → Calls Tryz.prog 12 #[.pointer (some ⟨bt, 0, none⟩)] w2 fun e w' => e = .returned (.int .i64 5) ∧ w2 = w' := fun w2 hb => len_any bt ao 5 cap w2 ((blk_cell (ht.below hb).blk 0).trans rfl)
  have sz : ∀ w2, Below w1.heap.size w1 w2 → Calls Tryz.prog 13 #[.pointer (some ⟨bt, 0, none⟩), .int .i64 4] w2 fun e w' => e = .returned (.int .i64 5) ∧ Below w2.heap.size w2 w' := fun w2 hb => by
    have := size_any w1.heap.size bt ao cap ys 4 w2 y_wf y_few y_good (by decide) (hA.below hb) hb.size
    rw [y_size] at this
    exact this
  have GT := Lib.hid gt; have LN := Lib.hid ln; have SZ := Lib.hid sz; have HB1 := Lib.hid hb1
  clear gt ln sz hA ht HP hb1
  go_wp2_with fail
  refine GT.out.mono ?_
  rintro e w2 ⟨ka, kc, rfl, hown, hb2⟩
  have HB2 := Lib.hid hb2
  clear hown hb2 GT
  rw [show nval (nd ys 4) ka kc = .agg #[.string ⟨#[43]⟩, .int .i64 1, .int .i64 3, .string ⟨#[]⟩, .int .i64 0, .slice ka 2 kc] from rfl]
  go_wp2_with fail
  have hB3 : Below w1.heap.size w1 (w2.alloc (.cells #[.string ⟨#[43]⟩, .int .i64 1, .int .i64 3, .string ⟨#[]⟩, .int .i64 0, .slice ka 2 kc] 47)) := HB2.out.alloc HB2.out.size _
  refine (LN.out _ hB3).mono ?_
  generalize w2.alloc (.cells #[.string ⟨#[43]⟩, .int .i64 1, .int .i64 3, .string ⟨#[]⟩, .int .i64 0, .slice ka 2 kc] 47) = w3 at *
  rintro e w4 ⟨rfl, rfl⟩
  have HB3 := Lib.hid hB3
  clear hB3
  go_wp2_with fail
  refine (SZ.out _ HB3.out).mono ?_
  rintro e w5 ⟨rfl, hb5⟩
  go_wp2
  go_ret
  exact ⟨rfl, HB1.out.trans ((HB3.out.trans (hb5.mono HB3.out.size)).mono HB1.out.size)⟩
end Go.Proofs.YteknddfpdpaodaaGreatDoor
