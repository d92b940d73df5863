/- The token that a text begins with: firstToken, at every text. -/
import Derived.Test.YtoeljmiefbaajaaDoorFirst
namespace Go.Proofs.YtoeljmiefbaajaaDoor
open Go.RowKit

/-- A call's answer of a token and a code, whatever they are. -/
theorem gotV_form (s : ByteArray) (g : Lx.Got) : ∃ a b c d, gotV s g = .tuple #[.agg #[.int .i64 a, .string b, .int .i64 c, .int .i64 0, .int .i64 0], .int .i64 d] := by
  cases g with
  | bad e => exact ⟨_, _, _, _, rfl⟩
  | tok k n v => exact ⟨_, _, _, _, rfl⟩

theorem span_digit_pos (c : UInt8) (l : Lx.B) (h : Lx.digitZ (c.toNat : Int) = true) : 0 < Lx.span false (c :: l) := by
  rw [Lx.span, if_pos (by simp [Lx.digit, h])]; omega

set_option maxHeartbeats 2000000 in
theorem firstToken_any (s : ByteArray) (w : World) (hs : s.size ≤ 1000000000000) :
    Calls Tryd.prog 15 #[.string s] w fun e w' => e = .returned (gotV s (Lx.one s.data.toList)) ∧ Below w.heap.size w w' := by
  have hbl : ∀ v, Below w.heap.size w (w.alloc (.cells v 41)) := fun v => (Below.refl w.heap.size w).alloc (Nat.le_refl _) _
  have HBL := Lib.hid hbl; clear hbl
  by_cases hne : 0 < s.size
  · obtain ⟨c, hc, hd⟩ := byte_at s 0 hne
    simp only [List.drop_zero] at hd
    have hone : Lx.one s.data.toList = if Lx.digit c then (if Lx.span false s.data.toList > 18 then .bad 6 else .tok 3 (Lx.span false s.data.toList) (Lx.number (s.data.toList.take (Lx.span false s.data.toList))))
      else if Lx.letter c then (if Lx.span true s.data.toList > 40 then .bad 6 else if Lx.own (s.data.toList.take (Lx.span true s.data.toList)) then .tok 2 (Lx.span true s.data.toList) 0 else .tok 1 (Lx.span true s.data.toList) 0)
      else if Lx.mark s.data.toList = 0 then .bad 4 else .tok 4 (Lx.mark s.data.toList) 0 := by
      rw [hd]; rfl
    have hem : s.toList.isEmpty = false := by rw [toList_eq, hd]; rfl
    have hZ := HBL.out #[.int .i64 0, .string ⟨#[]⟩, .int .i64 0, .int .i64 0, .int .i64 0]
    have zb : (w.alloc (.cells #[.int .i64 0, .string ⟨#[]⟩, .int .i64 0, .int .i64 0, .int .i64 0] 41)).heap[w.heap.size]? = some (.cells #[.int .i64 0, .string ⟨#[]⟩, .int .i64 0, .int .i64 0, .int .i64 0] 41 (0, 0)) := heap_alloc_new w _
    have hfin : ∀ (a : Int) (b : ByteArray) (v d : Int) (w1 w2 : World), w1 = w.alloc (.cells #[.int .i64 0, .string ⟨#[]⟩, .int .i64 0, .int .i64 0, .int .i64 0] 41) → Below w1.heap.size w1 w2 → ((∀ i, i < 5 → ∃ x, w2.cell? ⟨w.heap.size, i, none⟩ = some x) ∧ (∀ i, w2.frozen? ⟨w.heap.size, i, none⟩ = false) ∧ Below w.heap.size w w2) := by
      intro a b v d w1 w2 e hb2
      subst e
      have hlt : w.heap.size < (w.alloc (.cells #[.int .i64 0, .string ⟨#[]⟩, .int .i64 0, .int .i64 0, .int .i64 0] 41)).heap.size := by simp
      refine ⟨fun i hi => ?_, fun i => (hb2.frozen (p := ⟨w.heap.size, i, none⟩) hlt).trans (World.frozen?_alloc_new _ _ _ _), hZ.trans (hb2.mono hZ.size)⟩
      rw [hb2.cell (p := ⟨w.heap.size, i, none⟩) hlt, World.cell?_alloc_new]
      have : i = 0 ∨ i = 1 ∨ i = 2 ∨ i = 3 ∨ i = 4 := by omega
      rcases this with rfl | rfl | rfl | rfl | rfl <;> exact ⟨_, rfl⟩
    have HF := Lib.hid hfin; clear hfin zb
    cases h1 : Lx.digitZ (c.toNat : Int)
    · cases h2 : Lx.letterZ (c.toNat : Int)
      · have e : Lx.one s.data.toList = if Lx.mark s.data.toList = 0 then .bad 4 else .tok 4 (Lx.mark s.data.toList) 0 := by rw [hone, if_neg (by simp [Lx.digit, h1]), if_neg (by simp [Lx.letter, h2])]
        rw [e]
        have cM := fun w => firstMark_any s w hs hne
        obtain ⟨a, b, v, d, hf⟩ := gotV_form s (if Lx.mark s.data.toList = 0 then .bad 4 else .tok 4 (Lx.mark s.data.toList) 0)
        rw [hf] at cM ⊢
        have CM := Lib.hid cM
        clear cM hf e hone hd
        go_enter Tryd.func15, Tryd.ntmps15
        go_wp2_with fail
        refine (isDigit_any _ _).mono ?_
        rintro e w' ⟨rfl, rfl⟩
        go_wp2_with fail
        refine (isLetter_any _ _).mono ?_
        rintro e w' ⟨rfl, rfl⟩
        go_wp2_with fail
        refine (CM.out _).mono ?_
        rintro e w2 ⟨rfl, hb2⟩
        obtain ⟨hcs, hfz, hb3⟩ := HF.out a b v d _ _ rfl hb2
        obtain ⟨x0, y0⟩ := hcs 0 (by omega); obtain ⟨x1, y1⟩ := hcs 1 (by omega); obtain ⟨x2, y2⟩ := hcs 2 (by omega); obtain ⟨x3, y3⟩ := hcs 3 (by omega); obtain ⟨x4, y4⟩ := hcs 4 (by omega)
        have f0 := hfz 0; have f1 := hfz 1; have f2 := hfz 2; have f3 := hfz 3; have f4 := hfz 4
        clear hcs hfz hb2
        go_wp2
        refine bodyPost_ret (v := .tuple #[.agg #[.int .i64 a, .string b, .int .i64 v, .int .i64 0, .int .i64 0], .int .i64 d]) ?_ rfl ⟨rfl, ?_⟩
        · simp [results, Tryd.results15, go_sem, y0, y1, y2, y3, y4]
        · exact ((((hb3.setCell (by simp) _).setCell (by simp) _).setCell (by simp) _).setCell (by simp) _).setCell (by simp) _
      · have e : Lx.one s.data.toList = if Lx.span true s.data.toList > 40 then .bad 6 else if Lx.own (s.data.toList.take (Lx.span true s.data.toList)) then .tok 2 (Lx.span true s.data.toList) 0 else .tok 1 (Lx.span true s.data.toList) 0 := by rw [hone, if_neg (by simp [Lx.digit, h1]), if_pos (by simp [Lx.letter, h2])]
        rw [e]
        have cM := fun w => firstName_any s w hs
        obtain ⟨a, b, v, d, hf⟩ := gotV_form s (if Lx.span true s.data.toList > 40 then .bad 6 else if Lx.own (s.data.toList.take (Lx.span true s.data.toList)) then .tok 2 (Lx.span true s.data.toList) 0 else .tok 1 (Lx.span true s.data.toList) 0)
        rw [hf] at cM ⊢
        have CM := Lib.hid cM
        clear cM hf e hone hd
        go_enter Tryd.func15, Tryd.ntmps15
        go_wp2_with fail
        refine (isDigit_any _ _).mono ?_
        rintro e w' ⟨rfl, rfl⟩
        go_wp2_with fail
        refine (isLetter_any _ _).mono ?_
        rintro e w' ⟨rfl, rfl⟩
        go_wp2_with fail
        refine (CM.out _).mono ?_
        rintro e w2 ⟨rfl, hb2⟩
        obtain ⟨hcs, hfz, hb3⟩ := HF.out a b v d _ _ rfl hb2
        obtain ⟨x0, y0⟩ := hcs 0 (by omega); obtain ⟨x1, y1⟩ := hcs 1 (by omega); obtain ⟨x2, y2⟩ := hcs 2 (by omega); obtain ⟨x3, y3⟩ := hcs 3 (by omega); obtain ⟨x4, y4⟩ := hcs 4 (by omega)
        have f0 := hfz 0; have f1 := hfz 1; have f2 := hfz 2; have f3 := hfz 3; have f4 := hfz 4
        clear hcs hfz hb2
        go_wp2
        refine bodyPost_ret (v := .tuple #[.agg #[.int .i64 a, .string b, .int .i64 v, .int .i64 0, .int .i64 0], .int .i64 d]) ?_ rfl ⟨rfl, ?_⟩
        · simp [results, Tryd.results15, go_sem, y0, y1, y2, y3, y4]
        · exact ((((hb3.setCell (by simp) _).setCell (by simp) _).setCell (by simp) _).setCell (by simp) _).setCell (by simp) _
    · have e : Lx.one s.data.toList = if Lx.span false s.data.toList > 18 then .bad 6 else .tok 3 (Lx.span false s.data.toList) (Lx.number (s.data.toList.take (Lx.span false s.data.toList))) := by rw [hone, if_pos (by simp [Lx.digit, h1])]
      rw [e]
      have cM := fun w => firstNumber_any s w hs (by rw [hd]; exact span_digit_pos c _ h1)
      obtain ⟨a, b, v, d, hf⟩ := gotV_form s (if Lx.span false s.data.toList > 18 then .bad 6 else .tok 3 (Lx.span false s.data.toList) (Lx.number (s.data.toList.take (Lx.span false s.data.toList))))
      rw [hf] at cM ⊢
      have CM := Lib.hid cM
      clear cM hf e hone hd
      go_enter Tryd.func15, Tryd.ntmps15
      go_wp2_with fail
      refine (isDigit_any _ _).mono ?_
      rintro e w' ⟨rfl, rfl⟩
      go_wp2_with fail
      refine (CM.out _).mono ?_
      rintro e w2 ⟨rfl, hb2⟩
      obtain ⟨hcs, hfz, hb3⟩ := HF.out a b v d _ _ rfl hb2
      obtain ⟨x0, y0⟩ := hcs 0 (by omega); obtain ⟨x1, y1⟩ := hcs 1 (by omega); obtain ⟨x2, y2⟩ := hcs 2 (by omega); obtain ⟨x3, y3⟩ := hcs 3 (by omega); obtain ⟨x4, y4⟩ := hcs 4 (by omega)
      have f0 := hfz 0; have f1 := hfz 1; have f2 := hfz 2; have f3 := hfz 3; have f4 := hfz 4
      clear hcs hfz hb2
      go_wp2
      refine bodyPost_ret (v := .tuple #[.agg #[.int .i64 a, .string b, .int .i64 v, .int .i64 0, .int .i64 0], .int .i64 d]) ?_ rfl ⟨rfl, ?_⟩
      · simp [results, Tryd.results15, go_sem, y0, y1, y2, y3, y4]
      · exact ((((hb3.setCell (by simp) _).setCell (by simp) _).setCell (by simp) _).setCell (by simp) _).setCell (by simp) _
  · have he : s = ⟨#[]⟩ := ext_list (by rw [size_len] at hne; exact List.eq_nil_of_length_eq_zero (by omega))
    subst he
    show Calls _ _ _ _ fun e w' => e = .returned (.tuple #[.agg #[.int .i64 0, .string ⟨#[]⟩, .int .i64 0, .int .i64 0, .int .i64 0], .int .i64 0]) ∧ _
    have hem : (⟨#[]⟩ : ByteArray).toList = [] := by rw [toList_eq]
    go_enter Tryd.func15, Tryd.ntmps15
    go_wp2
    exact bodyPost_ret (v := .tuple #[.agg #[.int .i64 0, .string ⟨#[]⟩, .int .i64 0, .int .i64 0, .int .i64 0], .int .i64 0]) (by simp [results, Tryd.results15, go_sem]) rfl ⟨rfl, HBL.out _⟩
end Go.Proofs.YtoeljmiefbaajaaDoor
