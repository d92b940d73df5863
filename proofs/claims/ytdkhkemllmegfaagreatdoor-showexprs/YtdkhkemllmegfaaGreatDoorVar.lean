/- A name, alone or with what it is given. -/
import Derived.Test.YtdkhkemllmegfaaGreatDoorArgs
namespace Go.Proofs.YtdkhkemllmegfaaGreatDoor
open Go.RowKit Tn Lx
set_option linter.unusedSimpArgs false
set_option linter.unusedVariables false
attribute [local go_sem] tok_field0 tok_field1 tok_field3

theorem Five.alloc {w : World} {b : Nat} {v0 v1 v2 v3 v4 : Value} (h : Five w b v0 v1 v2 v3 v4) (o : Obj) : Five (w.alloc o) b v0 v1 v2 v3 v4 := ⟨blk_alloc h.blk o⟩

set_option maxRecDepth 100000 in
set_option maxHeartbeats 4000000 in
theorem var_any (c : Cx) (X : Nat → Prop) (w : World) (s : Ex.S) (f : Ex.Rec) (d m : Nat) (hf : Spec c f) (hd : d ≤ 64) (hm : m ≤ 900000) (h : Rd c X w s) (hp : s.p < c.ts.length) (hne : Ex.varF c.ts m f d s ≠ .out) :
    Calls Tryz.prog 176 #[.pointer (some ⟨c.r, 0, none⟩), .int .i64 (d : Int)] w (Post c X w (Ex.varF c.ts m f d s)) := by
  have hA := skip_any c X w s h hp
  obtain ⟨t, htk⟩ : ∃ t, Ex.tk c.ts s.p = t := ⟨_, rfl⟩
  rw [htk] at hA
  have hr1 := h.rlt; have hb1 := h.blt; have hsz := h.size
  have HA := Lib.hid hA; have HF := Lib.hid hf; have HNE := Lib.hid hne; have HTK := Lib.hid htk
  clear hA hf hne h htk
  go_enter Tryz.func176, Tryz.ntmps176
  go_wp2_with fail
  refine HA.out.mono ?_
  rintro e w1 ⟨rfl, hR1, hK1⟩
  obtain ⟨V, hV⟩ : ∃ V, w1.alloc (.cells #[.int .i64 t.kind, .string ⟨t.text.toArray⟩, .int .i64 t.int, .int .i64 t.at_.line, .int .i64 t.at_.col] 53) = V := ⟨_, rfl⟩
  have hbV : Below w1.heap.size w1 V := by rw [← hV]; exact (Below.refl _ w1).alloc (Nat.le_refl _) _
  have hQ : Five V w1.heap.size (.int .i64 t.kind) (.string ⟨t.text.toArray⟩) (.int .i64 t.int) (.int .i64 t.at_.line) (.int .i64 t.at_.col) := ⟨by rw [← hV]; exact blk_new w1 _⟩
  have hs1 := hK1.size
  have HV := Lib.hid hV; have HR1 := Lib.hid (hR1.below hbV); have HK1 := Lib.hid (hK1.then_below hbV); have HQ1 := Lib.hid hQ
  clear hV hR1 hbV hK1 hQ HA
  unfold tval
  have hi := is_any c X V s.skip [40] HR1.out
  cases hv : Ex.is c.ts s.skip [40] with
  | true =>
    rw [hv] at hi
    have HI := Lib.hid hi; have HE2 := Lib.hid hv
    clear hi hv
    go_wp2_with fail
    rw [HV.out]
    refine HI.out.mono ?_
    rintro e w2 ⟨rfl, hb2⟩
    have HR2 := Lib.hid (HR1.out.below hb2); have HK2 := Lib.hid (HK1.out.then_below hb2); have HQ2 := Lib.hid (HQ1.out.below hb2)
    clear hb2 HI
    go_wp2_with fail
    refine (skip_any c X _ s.skip HR2.out (Ex.is_lt HE2.out)).mono ?_
    rintro e w3 ⟨rfl, hR3, hK3⟩
    have HR3 := Lib.hid hR3; have HK3 := Lib.hid (HK2.out.trans hK3); have HQ3 := Lib.hid (HQ2.out.kp hK3 (by omega) (by omega))
    clear hR3 hK3
    go_upto_region 5 with fail
    have q0 := HQ3.out.c1
    have q1 := HQ3.out.c3
    have q2 := HQ3.out.c4
    go_region_held2 (fun w' => w'.cell? ⟨w1.heap.size, 1, none⟩ = some (.string ⟨t.text.toArray⟩) ∧ w'.cell? ⟨w1.heap.size, 3, none⟩ = some (.int .i64 t.at_.line) ∧ w'.cell? ⟨w1.heap.size, 4, none⟩ = some (.int .i64 t.at_.col))
      (first | exact ⟨q0, q1, q2⟩ | exact ⟨hQ3.c1, hQ3.c3, hQ3.c4⟩ | exact ⟨(hQ3.alloc _).c1, (hQ3.alloc _).c3, (hQ3.alloc _).c4⟩ | exact ⟨hQ4.c1, hQ4.c3, hQ4.c4⟩)
      (first
        | (go_at_call 180; refine (args_any c X w3.drew s.skip.skip f d m HF.out hd hm HR3.out.drew (fun e => HNE.out (by simp only [Ex.varF, Ex.at_, HTK.out, HE2.out, e, Ex.Res.bind, ↓reduceIte, Bool.false_eq_true]))).mono ?_; rintro e w4 (⟨l4, s4, ka4, kc4, hE4, rfl, hI4, hN4, hL4, hR4, hK4⟩ | ⟨cd, p4, hE4, rfl, hK4⟩); rotate_left; exact ⟨rfl, .inr ⟨cd, p4, by simp only [Ex.varF, Ex.at_, HTK.out, HE2.out, hE4, Ex.Res.bind, ↓reduceIte, Bool.false_eq_true], rfl, HK3.out.trans hK4.undrew⟩⟩; have hQ3 := HQ3.out.kp hK4.undrew (by omega) (by omega); have HE4 := Lib.hid hE4; have HI4 := Lib.hid hI4; have HN4 := Lib.hid hN4; clear hE4 hI4 hN4)
        | (go_at_call 63; refine (add_any c X _ s4 [99, 97, 108, 108] t.at_ t.text l4 ka4 kc4 _ hR4 HI4.out HN4.out hL4).mono ?_; rintro e w5 (⟨a5, s5, hE5, rfl, hR5, hK5⟩ | ⟨cd, p5, hE5, rfl, hK5⟩); rotate_left; exact ⟨rfl, .inr ⟨cd, p5, by simp only [Ex.varF, Ex.at_, HTK.out, HE2.out, HE4.out, hE5, Ex.Res.bind, ↓reduceIte, Bool.false_eq_true], rfl, (HK3.out.trans hK4.undrew).trans hK5⟩⟩; have hQ4 := hQ3.kp hK5 (by omega) (by omega); have HE5 := Lib.hid hE5; clear hE5))
    have HK5 := Lib.hid ((HK3.out.trans hK4.undrew).trans hK5); have HR5 := Lib.hid hR5
    clear hQ3 hQ4 hR4 hR5 hK4 hK5 q0 q1 q2
    go_wp2
    go_ret
    exact .inl ⟨_, _, by simp only [Ex.varF, Ex.at_, HTK.out, HE2.out, HE4.out, HE5.out, Ex.Res.bind, ↓reduceIte, Bool.false_eq_true], rfl, HR5.out, HK5.out⟩
  | false =>
    rw [hv] at hi
    have HI := Lib.hid hi; have HE2 := Lib.hid hv
    clear hi hv
    go_wp2_with fail
    rw [HV.out]
    refine HI.out.mono ?_
    rintro e w2 ⟨rfl, hb2⟩
    have HR2 := Lib.hid (HR1.out.below hb2); have HK2 := Lib.hid (HK1.out.then_below hb2); have HQ2 := Lib.hid (HQ1.out.below hb2)
    clear hb2 HI
    have q0 := HQ2.out.c1
    have q1 := HQ2.out.c3
    have q2 := HQ2.out.c4
    go_wp2_with fail
    refine (add_any c X _ s.skip [118, 97, 114] t.at_ t.text [] none 0 _ HR2.out (ints_at0 _ 0) (fun _ => rfl) (by simp)).mono ?_
    rintro e w6 (⟨a6, s6, hE6, rfl, hR6, hK6⟩ | ⟨cd, p6, hE6, rfl, hK6⟩)
    rotate_left
    · exact ⟨rfl, .inr ⟨cd, p6, by simp only [Ex.varF, Ex.at_, HTK.out, HE2.out, hE6, Ex.Res.bind, ↓reduceIte, Bool.false_eq_true], rfl, HK2.out.trans hK6⟩⟩
    have HE6 := Lib.hid hE6; have HR6 := Lib.hid hR6; have HK6 := Lib.hid (HK2.out.trans hK6)
    clear hE6 hR6 hK6 q0 q1 q2
    go_wp2
    go_ret
    exact .inl ⟨_, _, by simp only [Ex.varF, Ex.at_, HTK.out, HE2.out, HE6.out, Ex.Res.bind, ↓reduceIte, Bool.false_eq_true], rfl, HR6.out, HK6.out⟩
end Go.Proofs.YtdkhkemllmegfaaGreatDoor
