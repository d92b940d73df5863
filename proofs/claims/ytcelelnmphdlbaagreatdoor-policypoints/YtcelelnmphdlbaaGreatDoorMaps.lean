import Derived.Test.YtcelelnmphdlbaaGreatDoorFamP
import Derived.Test.YtcelelnmphdlbaaGreatDoorOLat

/- The number of a point's name. -/
namespace Go.Proofs.YtcelelnmphdlbaaGreatDoor
open Go.RowKit Lx

/-- names in a row -/
def NamesAt (w : World) (b : Nat) (l : List Py.Nm) : Prop := ∀ (i : Nat) (n : Py.Nm), l[i]? = some n → w.cell? ⟨b, i * 3, none⟩ = some (.string ⟨n.text.toArray⟩) ∧ w.cell? ⟨b, i * 3 + 1, none⟩ = some (.int .i64 n.at_.line) ∧ w.cell? ⟨b, i * 3 + 2, none⟩ = some (.int .i64 n.at_.col)

/-- the number of the first name that is t, or that there is none -/
def PointP (l : List Py.Nm) (t : B) (w : World) (e : Ending) (w' : World) : Prop :=
  ((∃ (k : Nat) (n : Py.Nm), e = .returned (.int .i64 (k : Int)) ∧ l[k]? = some n ∧ n.text = t ∧ ∀ (j : Nat) (m : Py.Nm), j < k → l[j]? = some m → m.text ≠ t) ∨ (e = .returned (.int .i64 (-1)) ∧ ∀ (j : Nat) (m : Py.Nm), l[j]? = some m → m.text ≠ t)) ∧ Below w.heap.size w w'

theorem NamesAt.below {w w' : World} {b : Nat} {l : List Py.Nm} (h : NamesAt w b l) (hb : Below w.heap.size w w') : NamesAt w' b l := fun i n hi => by
  obtain ⟨h0, h1, h2⟩ := h i n hi
  have hlt : b < w.heap.size := World.block_lt_of_cell? _ _ h0
  exact ⟨(hb.cell (p := ⟨b, i * 3, none⟩) hlt).trans h0, (hb.cell (p := ⟨b, i * 3 + 1, none⟩) hlt).trans h1, (hb.cell (p := ⟨b, i * 3 + 2, none⟩) hlt).trans h2⟩

set_option maxHeartbeats 1000000 in
theorem point1_any (w : World) (n : Py.Nm) (t : B) (bs : Nat) (hc : w.cell? ⟨bs, 0, none⟩ = some (.string ⟨t.toArray⟩)) : Calls Tryz.prog 29 #[.agg #[.string ⟨n.text.toArray⟩, .int .i64 n.at_.line, .int .i64 n.at_.col], .pointer (some ⟨bs, 0, none⟩)] w fun e w' => e = .returned (.bool (n.text == t)) ∧ Below w.heap.size w w' := by
  have hlt : bs < w.heap.size := World.block_lt_of_cell? _ _ hc
  have hcA : ∀ o, (w.alloc o).cell? ⟨bs, 0, none⟩ = some (.string ⟨t.toArray⟩) := fun o => (World.cell?_alloc_lt _ _ _ hlt).trans hc
  go_enter Tryz.func29, Tryz.ntmps29
  go_wp2
  go_ret
  exact ⟨rfl, (Below.refl _ w).alloc (Nat.le_refl _) _⟩

set_option maxRecDepth 100000 in
set_option maxHeartbeats 4000000 in
theorem indexN_any (w : World) (l : List Py.Nm) (t : B) (b cap bs : Nat) (h : NamesAt w b l) (hl : l.length ≤ 1000) (hc : w.cell? ⟨bs, 0, none⟩ = some (.string ⟨t.toArray⟩)) :
    Calls Tryz.prog 28 #[.slice (some ⟨b, 0, none⟩) l.length cap, .func (.func 29) #[] #[.pointer (some ⟨bs, 0, none⟩)]] w (PointP l t w) := by
  obtain ⟨n, hn⟩ : ∃ n, l.length = n := ⟨_, rfl⟩
  rw [hn]
  rw [hn] at hl
  have HC := Lib.hid hc; have H := Lib.hid h; have HN := Lib.hid hn
  clear hc h hn
  go_enter Tryz.func28, Tryz.ntmps28
  go_wp2
  go_loopw [8] (fun i wr => ∃ k : Nat, k ≤ n ∧ i = .int .i64 (k : Int) ∧ (∀ (j : Nat) (m : Py.Nm), j < k → l[j]? = some m → m.text ≠ t) ∧ Below w.heap.size w wr) (fun i _ => n - (intOf i).toNat)
  case atStart => exact ⟨0, Nat.zero_le _, rfl, fun j m hj => by omega, Below.refl _ _⟩
  case round =>
    obtain ⟨k, hk, rfl, hno, hb⟩ := hrel
    by_cases hlt : k < n
    · obtain ⟨m, hm⟩ : ∃ m, l[k]? = some m := ⟨_, List.getElem?_eq_getElem (by rw [HN.out]; exact hlt)⟩
      obtain ⟨c0, c1, c2⟩ := (H.out.below hb) k m hm
      have hc' := HC.out
      have hlt' : bs < w.heap.size := World.block_lt_of_cell? _ _ hc'
      have hP := point1_any wr m t bs ((hb.cell (p := ⟨bs, 0, none⟩) hlt').trans hc')
      have hms : n - (intOf (Value.int IntKind.i64 ((k : Int) + 1))).toNat < n - (intOf (Value.int IntKind.i64 (k : Int))).toNat := by simp [intOf]; omega
      have HMS := Lib.hid hms; have HM := Lib.hid hm; have HNO := Lib.hid hno; have HB := Lib.hid hb
      clear hm hno hb HC H hms hc' hlt'
      cases hv : (m.text == t) with
      | true =>
        rw [hv] at hP
        have HV := Lib.hid hv; have HI := Lib.hid hP
        clear hv hP
        go_wp2_with fail
        refine HI.out.mono ?_
        rintro e w1 ⟨rfl, hb1⟩
        go_wp2
        go_ret
        exact ⟨.inl ⟨k, m, rfl, HM.out, by simpa using HV.out, HNO.out⟩, HB.out.trans (hb1.mono HB.out.size)⟩
      | false =>
        rw [hv] at hP
        have HV := Lib.hid hv; have HI := Lib.hid hP
        clear hv hP
        go_wp2_with fail
        refine HI.out.mono ?_
        rintro e w1 ⟨rfl, hb1⟩
        go_wp2
        refine ⟨⟨k + 1, by omega, by go_num, fun j m' hj hm' => ?_, HB.out.trans (hb1.mono HB.out.size)⟩, HMS.out⟩
        by_cases e : j = k
        · subst e; rw [HM.out] at hm'; cases hm'; simpa using HV.out
        · exact HNO.out j m' (by omega) hm'
    · have HNO := Lib.hid hno; have HB := Lib.hid hb
      clear hno hb
      obtain rfl : k = n := by omega
      go_wp2
      go_ret
      refine ⟨.inr ⟨rfl, fun j m hj => HNO.out j m ?_ hj⟩, HB.out⟩
      have := List.getElem?_eq_some_iff.1 hj
      obtain ⟨h1, _⟩ := this
      rw [HN.out] at h1; exact h1

set_option maxRecDepth 100000 in
set_option maxHeartbeats 4000000 in
theorem point_any (w : World) (l : List Py.Nm) (t : B) (b cap : Nat) (h : NamesAt w b l) (hl : l.length ≤ 1000) :
    Calls Tryz.prog 13 #[.slice (some ⟨b, 0, none⟩) l.length cap, .string ⟨t.toArray⟩] w (PointP l t w) := by
  have hbV : ∀ o, Below w.heap.size w (w.alloc o) := fun o => (Below.refl _ w).alloc (Nat.le_refl _) _
  have hA := indexN_any (w.alloc (.cells #[.string ⟨t.toArray⟩] 9)) l t b cap w.heap.size (h.below (hbV _)) hl (by simp [go_sem])
  have HA := Lib.hid hA; have HB := Lib.hid (hbV (.cells #[.string ⟨t.toArray⟩] 9))
  clear hA hbV h
  go_enter Tryz.func13, Tryz.ntmps13
  go_wp2_with fail
  refine HA.out.mono ?_
  rintro e w1 ⟨(⟨k, n, rfl, h1, h2, h3⟩ | ⟨rfl, h1⟩), hb⟩
  · have HB1 := Lib.hid (HB.out.trans (hb.mono HB.out.size)); have H1 := Lib.hid h1; have H3 := Lib.hid h3
    clear hb h1 h3
    go_wp2
    go_ret
    exact ⟨.inl ⟨k, n, rfl, H1.out, h2, H3.out⟩, HB1.out⟩
  · have HB1 := Lib.hid (HB.out.trans (hb.mono HB.out.size)); have H1 := Lib.hid h1
    clear hb h1
    go_wp2
    go_ret
    exact ⟨.inr ⟨rfl, H1.out⟩, HB1.out⟩
end Go.Proofs.YtcelelnmphdlbaaGreatDoor


/- Maps whose keys are texts: made, looked up, filled. -/
namespace Go.Proofs.YtcelelnmphdlbaaGreatDoor
open Go.RowKit Lx

theorem obj_get {r : Nat} {es : Array MapEntry} {cl : Nat} {W : World} (h : W.heap[r]? = some (.map es cl)) : (getObj r).run Tryz.prog W = .ok (.map es cl) W := by simp [getObj, Sem.run, h]
theorem obj_set {r : Nat} {es : Array MapEntry} {cl : Nat} {W : World} (o : Obj) (h : W.heap[r]? = some (.map es cl)) : (setObj r o).run Tryz.prog W = .ok () { W with heap := W.heap.setIfInBounds r o } := by simp [setObj, Sem.run, h]
theorem key_check (e : Bool) (k : ByteArray) (W : World) : (Instr.checkKey e 10000 9 (.string k)).run Tryz.prog W = .ok () W := by
  rw [show (10000 : Nat) = 9999 + 1 from rfl, Instr.checkKey]
  simp [Sem.run_bind, run_underlying Tryz.underlying9, Result.andThen]
theorem key_find (k : ByteArray) (es : List MapEntry) (r : Option (Nat × Value)) (W : World) (h : Instr.findNow .string (.string k) es 0 = some r) : (Instr.findKey 9 (.string k) es).run Tryz.prog W = .ok r W := by
  rw [Instr.findKey]
  simp [Sem.run_bind, run_underlying Tryz.underlying9, Result.andThen, h]

/-- the names that are known -/
def ents (u : Value) : Nat → List B → List MapEntry
  | _, [] => []
  | i, t :: l => ⟨.string ⟨t.toArray⟩, u, i⟩ :: ents u (i + 1) l
theorem ents_snoc (u : Value) (t : B) : ∀ (i : Nat) (l : List B), ents u i (l ++ [t]) = ents u i l ++ [⟨.string ⟨t.toArray⟩, u, i + l.length⟩]
  | i, [] => rfl
  | i, a :: l => by
    show ⟨_, _, _⟩ :: ents u (i + 1) (l ++ [t]) = _
    rw [ents_snoc u t (i + 1) l, List.length_cons, show i + 1 + l.length = i + (l.length + 1) by omega]; rfl
theorem same_str (a b : B) : Instr.sameNow .string (.string ⟨a.toArray⟩) (.string ⟨b.toArray⟩) = some (a == b) := by
  show some (a.toArray == b.toArray) = _
  rw [List.beq_toArray]
theorem find_no (u : Value) (t : B) : ∀ (l : List B) (i j : Nat), t ∉ l → Instr.findNow .string (.string ⟨t.toArray⟩) (ents u i l) j = some none
  | [], _, _, _ => rfl
  | a :: l, i, j, h => by
    have h1 : (t == a) = false := beq_false_of_ne (fun e => h (by simp [e]))
    rw [ents, Instr.findNow, same_str, h1]
    exact find_no u t l (i + 1) (j + 1) (fun e => h (by simp [e]))
theorem find_yes (u : Value) (t : B) : ∀ (l : List B) (i j : Nat), t ∈ l → ∃ n, Instr.findNow .string (.string ⟨t.toArray⟩) (ents u i l) j = some (some (n, u))
  | a :: l, i, j, h => by
    rw [ents, Instr.findNow, same_str]
    cases h1 : (t == a) with
    | true => exact ⟨j, rfl⟩
    | false =>
      have : t ≠ a := by simpa using h1
      exact find_yes u t l (i + 1) (j + 1) (by rcases List.mem_cons.1 h with e | e; exact absurd e this; exact e)

abbrev unitV : Value := .agg #[]
theorem known_make (w : World) : (Instr.makeMap 96 none).run Tryz.prog w = .ok (.map (some w.heap.size)) (w.alloc (.map #[] 0)) := rfl
theorem known_put {r : Nat} {l : List B} {t : B} {W : World} (hb : W.heap[r]? = some (.map (ents unitV 0 l).toArray l.length)) (h : t ∉ l) : (Instr.mapUpdate 96 (.map (some r)) (.string ⟨t.toArray⟩) unitV).run Tryz.prog W = .ok () { W with heap := W.heap.setIfInBounds r (.map (ents unitV 0 (l ++ [t])).toArray (l ++ [t]).length) } := by
  rw [Instr.mapUpdate]
  simp only [Sem.run_bind, run_underlying Tryz.underlying96, Result.andThen, obj_get hb, key_check, key_find _ _ none _ (find_no unitV t l 0 0 h), obj_set _ hb]
  rw [ents_snoc, List.length_append]
  simp
theorem unit_zero (W : World) : (zeroValue 98).run Tryz.prog W = .ok unitV W := by kernel_rfl
theorem known_no {r : Nat} {l : List B} {t : B} {W : World} (hb : W.heap[r]? = some (.map (ents unitV 0 l).toArray l.length)) (h : t ∉ l) : (Instr.lookup 96 (.map (some r)) (.string ⟨t.toArray⟩) true).run Tryz.prog W = .ok (.tuple #[unitV, .bool false]) W := by
  rw [Instr.lookup]
  simp only [Sem.run_bind, run_underlying Tryz.underlying96, Result.andThen, obj_get hb, key_check, key_find _ _ none _ (find_no unitV t l 0 0 h), Sem.run_pure, if_true, unit_zero]
theorem known_yes {r : Nat} {l : List B} {t : B} {W : World} (hb : W.heap[r]? = some (.map (ents unitV 0 l).toArray l.length)) (h : t ∈ l) : (Instr.lookup 96 (.map (some r)) (.string ⟨t.toArray⟩) true).run Tryz.prog W = .ok (.tuple #[unitV, .bool true]) W := by
  obtain ⟨n, hn⟩ := find_yes unitV t l 0 0 h
  rw [Instr.lookup]
  simp only [Sem.run_bind, run_underlying Tryz.underlying96, Result.andThen, obj_get hb, key_check, key_find _ _ _ _ hn, Sem.run_pure, if_true]
end Go.Proofs.YtcelelnmphdlbaaGreatDoor
