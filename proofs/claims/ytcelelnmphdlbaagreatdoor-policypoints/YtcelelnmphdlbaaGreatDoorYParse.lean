/- A new reader, and a text's policy. -/
import Derived.Test.YtcelelnmphdlbaaGreatDoorYAll
import Derived.Test.YtcelelnmphdlbaaGreatDoorOrderOf
namespace Go.Proofs.YtcelelnmphdlbaaGreatDoor
open Go.RowKit Tn Lx

namespace Lx
theorem toks_some (f : Nat) (note : Bool) (p : Pos) (l : B) (ts : List Tok) (h : toks (f + 1) note p l = .ok ts) : 0 < ts.length := by
  rw [toks] at h
  cases ho : one (l.drop (blanks note l)) with
  | bad e => rw [ho] at h; cases h
  | tok k n v =>
    rw [ho] at h
    simp only at h
    by_cases hk : k = 0
    · rw [if_pos hk] at h; cases h; simp
    · rw [if_neg hk] at h
      cases hr : toks f false (adv p (l.take (blanks note l + n))) (l.drop (blanks note l + n)) with
      | bad c' q' => rw [hr] at h; simp [Res.after] at h
      | ok us => rw [hr] at h; simp only [Res.after, Res.ok.injEq] at h; subst h; simp
theorem whole_some {l : B} {ts : List Tok} (h : whole l = .ok ts) : 0 < ts.length := by
  unfold whole at h
  split at h
  · cases h
  · split at h
    · cases h
    · exact toks_some _ _ _ _ _ h
theorem toks_len : ∀ (f : Nat) (note : Bool) (p : Pos) (l : B) (ts : List Tok), toks f note p l = .ok ts → ts.length ≤ f
  | 0, _, _, _, _, h => by simp [toks] at h; subst h; simp
  | f + 1, note, p, l, ts, h => by
    rw [toks] at h
    cases ho : one (l.drop (blanks note l)) with
    | bad e => rw [ho] at h; cases h
    | tok k n v =>
      rw [ho] at h
      simp only at h
      by_cases hk : k = 0
      · rw [if_pos hk] at h; cases h; simp
      · rw [if_neg hk] at h
        cases hr : toks f false (adv p (l.take (blanks note l + n))) (l.drop (blanks note l + n)) with
        | bad c' q' => rw [hr] at h; simp [Res.after] at h
        | ok us =>
          have := toks_len f _ _ _ _ hr
          rw [hr] at h; simp only [Res.after, Res.ok.injEq] at h; subst h; simp; omega
theorem whole_len {l : B} {ts : List Tok} (h : whole l = .ok ts) : ts.length ≤ 65537 := by
  unfold whole at h
  split at h
  · cases h
  · rename_i hl
    split at h
    · cases h
    · have := toks_len _ _ _ _ _ h; omega
end Lx

/-- a new reader -/
def NewP (w : World) (ts : List Tok) (e : Ending) (w' : World) : Prop :=
  ∃ c : Cx, c.ts = ts ∧ e = .returned (.tuple #[.pointer (some ⟨c.r, 0, none⟩), .nilIface]) ∧ Rd c (fun _ => False) w' ⟨0, []⟩ ∧ Below w.heap.size w w' ∧ w.heap.size ≤ c.r ∧ w.heap.size ≤ c.bt ∧ w.heap.size ≤ c.B

set_option maxRecDepth 100000 in
set_option maxHeartbeats 4000000 in
theorem new_ok (s : ByteArray) (ts : List Tok) (w : World) (hs : s.size ≤ 1000000000000) (hT : Lib.Utf8Tabs 1 2 w) (hw : Lx.whole s.data.toList = .ok ts) : Calls Tryz.prog 15 #[.string s] w (NewP w ts) := by
  have hA := tokens_any s w hs hT
  rw [hw] at hA
  have hp := Lx.whole_some hw
  have hl := Lx.whole_len hw
  have HA := Lib.hid hA
  clear hA hT hw
  go_enter Tryz.func15, Tryz.ntmps15
  go_wp2_with fail
  refine HA.out.mono ?_
  rintro e w1 ⟨hb1, v, rfl, hown⟩
  obtain ⟨g, cap, rfl, hc1, hm1, hx⟩ := own_slice2 hown hp
  obtain ⟨hg0, cur, hgb⟩ := own_tag hown rfl
  have hgl : g < w1.heap.size := lt_of_heap hgb
  obtain ⟨V, hV⟩ : ∃ V, (w1.alloc (.cells #[.slice none 0 0] 87)).alloc (.cells #[.pointer (some ⟨w1.heap.size, 0, none⟩), .slice (some ⟨g, 0, none⟩) ts.length cap, .int .i64 0] 63) = V := ⟨_, rfl⟩
  have hbV : Below w1.heap.size w1 V := by rw [← hV]; exact ((Below.refl _ w1).alloc (Nat.le_refl _) _).alloc (by simp) _
  have hVs : V.heap.size = w1.heap.size + 2 := by rw [← hV]; simp
  have kt : V.heap[w1.heap.size]? = some (.cells #[.slice none 0 0] 87 (0, 0)) := by rw [← hV]; exact blk_alloc (blk_new w1 _) _
  have kr : V.heap[w1.heap.size + 1]? = some (.cells #[.pointer (some ⟨w1.heap.size, 0, none⟩), .slice (some ⟨g, 0, none⟩) ts.length cap, .int .i64 0] 63 (0, 0)) := by
    rw [← hV]; have := blk_new (w1.alloc (.cells #[.slice none 0 0] 87)) (.cells #[.pointer (some ⟨w1.heap.size, 0, none⟩), .slice (some ⟨g, 0, none⟩) ts.length cap, .int .i64 0] 63); rwa [World.size_alloc] at this
  have hw1 := hb1.size
  have hRd : Rd ⟨V.heap.size, w1.heap.size + 1, w1.heap.size, g, cap, ts⟩ (fun _ => False) V ⟨0, []⟩ :=
    ⟨kr, fun i u hu => (hbV.cell (p := ⟨g, i, none⟩) hgl).trans (hx i u hu), ⟨.slice none 0 0, [], rfl, ⟨kt, ⟨rfl, .inl ⟨rfl, rfl⟩⟩, fun q hq => by simp at hq, by simp only; omega⟩, fun _ _ e => e, fun _ _ _ _ e => e⟩, Nat.zero_le _, by simp only; omega, hc1, by simp, by simp only; omega, by simp only; omega, by simp only; omega, by simp only; omega, by simp only; omega, by simp only; omega, Nat.le_refl _, fun _ e => e.elim⟩
  have HRD := Lib.hid hRd; have HV := Lib.hid hV; have HB := Lib.hid (hb1.trans (hbV.mono hb1.size)); have HVS := Lib.hid hVs
  clear hRd hV hbV hVs kt kr hx hown hgb hb1 HA
  go_wp2
  rw [HV.out]
  go_ret2
  exact ⟨_, rfl, rfl, HRD.out, HB.out, by simp only; omega, by simp only; omega, by simp only; have := HVS.out; omega⟩

/-- the policy -/
def YParseP (w : World) (R : Py.St) (e : Ending) (w' : World) : Prop :=
  Below w.heap.size w w' ∧ ∃ c q pp v1 v2 v3, e = .returned (.tuple #[.pointer (some ⟨q, 0, none⟩), .nilIface]) ∧ Pm c q pp v1 v2 v3 w' R ∧ w.heap.size ≤ c.B

set_option maxRecDepth 100000 in
set_option maxHeartbeats 4000000 in
theorem yparse_ok (n f : Nat) (s : ByteArray) (ts : List Tok) (R : Py.St) (w : World) (hn : n ≤ 15) (hs : s.size ≤ 1000000000000) (hT : Lib.Utf8Tabs 1 2 w) (hw : Lx.whole s.data.toList = .ok ts) (hR : Py.allO ts n f 0 Py.st0 ⟨0, []⟩ = some R) :
    Calls Tryz.prog 6 #[.string s] w (YParseP w R) := by
  have HA := Lib.hid (new_ok s ts w hs hT hw); have HRR := Lib.hid hR
  clear hT hw hR
  go_enter Tryz.func6, Tryz.ntmps6
  go_wp2_with fail
  refine HA.out.mono ?_
  rintro e w1 ⟨c, rfl, rfl, hRd, hb1, hcr, hcb, hcB⟩
  have hs1 := hb1.size
  have c0 := hRd.c0
  obtain ⟨V, hV⟩ : ∃ V, (w1.alloc (.cells #[.pointer (some ⟨c.bt, 0, none⟩), .slice none 0 0, .slice none 0 0, .slice none 0 0, .string ⟨#[]⟩, .int .i64 0, .int .i64 0, .slice none 0 0] 53)).alloc (.cells #[.pointer (some ⟨c.r, 0, none⟩), .pointer (some ⟨w1.heap.size, 0, none⟩)] 66) = V := ⟨_, rfl⟩
  have hbV : Below w1.heap.size w1 V := by rw [← hV]; exact ((Below.refl _ w1).alloc (Nat.le_refl _) _).alloc (by simp) _
  have kq : V.heap[w1.heap.size]? = some (.cells (polCells c.bt (.slice none 0 0) (.slice none 0 0) (.slice none 0 0) Py.zn) 53 (0, 0)) := by rw [← hV]; exact blk_alloc (blk_new w1 _) _
  have kp : V.heap[w1.heap.size + 1]? = some (.cells (parCells c.r w1.heap.size) 66 (0, 0)) := by
    rw [← hV]; have := blk_new (w1.alloc (.cells #[.pointer (some ⟨c.bt, 0, none⟩), .slice none 0 0, .slice none 0 0, .slice none 0 0, .string ⟨#[]⟩, .int .i64 0, .int .i64 0, .slice none 0 0] 53)) (.cells #[.pointer (some ⟨c.r, 0, none⟩), .pointer (some ⟨w1.heap.size, 0, none⟩)] 66); rwa [World.size_alloc] at this
  have hB1 := hRd.size
  have hPm : Pm c w1.heap.size (w1.heap.size + 1) (.slice none 0 0) (.slice none 0 0) (.slice none 0 0) V Py.st0 :=
    ⟨kp, kq, World.ownsRow_nil _ _ _ _, World.ownsRow_nil _ _ _ _, World.ownsRow_nil _ _ _ _, (fun k e => by cases e), by omega, hB1⟩
  have hbW : Below w.heap.size w V := hb1.trans (hbV.mono hb1.size)
  have hE := yall_ok c (fun _ => False) V ⟨0, []⟩ n w1.heap.size (w1.heap.size + 1) f _ _ _ Py.st0 R hn (hRd.below hbV) hPm HRR.out rfl rfl rfl
  have HE := Lib.hid hE; have HV := Lib.hid hV; have HBW := Lib.hid hbW
  clear hE hV hbW hbV kq kp hPm hRd hb1 HA HRR
  go_wp2_with fail
  rw [HV.out]
  refine HE.out.mono ?_
  rintro e w2 ⟨u1, u2, u3, rfl, hP2, hK2⟩
  have HB2 := Lib.hid (HBW.out.trans (hK2.below (N := w.heap.size) HBW.out.size hcr hcb hcB hs1)); have HP2 := Lib.hid hP2
  clear hP2 hK2 HE
  go_wp2
  go_ret2
  exact ⟨HB2.out, c, _, _, u1, u2, u3, rfl, HP2.out, hcB⟩
end Go.Proofs.YtcelelnmphdlbaaGreatDoor
