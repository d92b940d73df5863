/- Parse and Lattice at the law's texts. -/
import Derived.Test.YtcelelnmphdlbaaGreatDoorLawP
import Derived.Test.YtcelelnmphdlbaaGreatDoorLBel
namespace Go.Proofs.YtcelelnmphdlbaaGreatDoor
open Go.RowKit Tn Lx

/-- the policy of such a text -/
structure PolOf (x y : Nat) (l : List (Nat × Nat)) (R : Py.St) : Prop where
  conf : Py.tx R.conf = (List.range x).map (nm 99)
  integ : Py.tx R.integ = (List.range y).map (nm 105)
  ord : Py.txx R.ord = Py.pairs (oits x y 0 l)
  att : R.att.text = nm 105 0
theorem PolOf.len1 {x y : Nat} {l : List (Nat × Nat)} {R : Py.St} (h : PolOf x y l R) : R.conf.length = x := by
  have := congrArg List.length h.conf; simpa [Py.tx] using this
theorem PolOf.len2 {x y : Nat} {l : List (Nat × Nat)} {R : Py.St} (h : PolOf x y l R) : R.integ.length = y := by
  have := congrArg List.length h.integ; simpa [Py.tx] using this
theorem pairs_len : ∀ l : List It, (Py.pairs l).length ≤ l.length
  | [] => by simp [Py.pairs]
  | it :: l => by have := pairs_len l; cases it <;> simp [Py.pairs] <;> omega
theorem PolOf.len3 {x y : Nat} {l : List (Nat × Nat)} {R : Py.St} (h : PolOf x y l R) : R.ord.length ≤ l.length := by
  have := congrArg List.length h.ord
  have h2 := pairs_len (oits x y 0 l)
  rw [oits_len] at h2
  simp [Py.txx] at this; omega

def PItemsP (w : World) (x y : Nat) (l : List (Nat × Nat)) (e : Ending) (w' : World) : Prop :=
  Below w.heap.size w w' ∧ ∃ q b1 c1 b2 c2 ao c3 R, e = .returned (.tuple #[.pointer (some ⟨q, 0, none⟩), .nilIface]) ∧ PolAt w' q b1 c1 b2 c2 ao c3 R ∧ PolOf x y l R

theorem parse_items (w : World) (hT : Lib.Utf8Tabs 1 2 w) (x y : Nat) (l : List (Nat × Nat)) (hx1 : 1 ≤ x) (hx : x ≤ 9) (hy1 : 1 ≤ y) (hy : y ≤ 9) (hl : l.length ≤ 60) :
    Calls Tryz.prog 6 #[.string ⟨(textOf (items x y l) ++ attText).toArray⟩] w (PItemsP w x y l) := by
  have hlen := items_len x y l
  have hall : Py.allO (toksOf 1 (items x y l)) 1 100 0 Py.st0 ⟨0, []⟩ = some (Py.run 1 Py.st0 (items x y l)) := Py.all_of (n := 0) (items x y l) 100 0 0 1 Py.st0 rfl (by omega) (by omega) rfl
  have hsz := textOf_size (items x y l)
  refine (yparse_ok 1 100 ⟨(textOf (items x y l) ++ attText).toArray⟩ (toksOf 1 (items x y l)) _ w (by omega) ?_ hT ?_ hall).mono ?_
  · show (textOf (items x y l) ++ attText).toArray.size ≤ _
    rw [List.size_toArray, List.length_append, show attText.length = 13 from rfl]; omega
  · exact whole_its (items x y l) (items_ok hx1 hx hy1 hy l) (by omega)
  · rintro e w' ⟨hb, c, q, pp, v1, v2, v3, rfl, hP, _⟩
    have hO : PolOf x y l (Py.run 1 Py.st0 (items x y l)) :=
      ⟨by rw [Py.run_conf, Py.items_conf]; rfl, by rw [Py.run_integ, Py.items_integ]; rfl, by rw [Py.run_ord, Py.items_pairs]; rfl, Py.run_att _ _ _⟩
    have l1 := hO.len1; have l2 := hO.len2; have l3 := hO.len3
    obtain ⟨b1, c1, b2, c2, ao, c3, hA⟩ := hP.at_ (by omega) (by omega) (by omega) (by omega) (by omega)
    exact ⟨hb, q, b1, c1, b2, c2, ao, c3, _, rfl, hA, hO⟩

theorem lattice_items (w : World) (q b1 c1 b2 c2 : Nat) (ao : Option Addr) (c3 : Nat) (R : Py.St) (x y : Nat) (l : List (Nat × Nat)) (hx1 : 1 ≤ x) (hx : x ≤ 9) (hy1 : 1 ≤ y) (hy : y ≤ 9) (h : PolAt w q b1 c1 b2 c2 ao c3 R) (hO : PolOf x y l R) :
    Calls Tryz.prog 7 #[.pointer (some ⟨q, 0, none⟩)] w (LatP w x y (cps x 0 l) (tps y 0 l) 0) := by
  have l1 := hO.len1; have l2 := hO.len2
  have hm : ∀ p ∈ R.ord, (∃ i j, i < x ∧ j < x ∧ p.1.text = nm 99 i ∧ p.2.text = nm 99 j) ∨ (∃ i j, i < y ∧ j < y ∧ p.1.text = nm 105 i ∧ p.2.text = nm 105 j) := fun p hp => by
    have h1 : (p.1.text, p.2.text) ∈ Py.txx R.ord := List.mem_map.2 ⟨p, hp, rfl⟩
    rw [hO.ord] at h1
    rcases Py.pairs_form hx1 hy1 l 0 _ h1 with ⟨i, j, hi, hj, e⟩ | ⟨i, j, hi, hj, e⟩
    · injection e with e1 e2; exact .inl ⟨i, j, hi, hj, e1, e2⟩
    · injection e with e1 e2; exact .inr ⟨i, j, hi, hj, e1, e2⟩
  have hA := lattice_any w q b1 c1 b2 c2 ao c3 R 0 h (by rw [hO.conf, hO.integ]; exact Py.names_nodup hx hy)
    (fun p hp => by
      rw [hO.conf, hO.integ]
      rcases hm p hp with ⟨i, j, hi, hj, e1, e2⟩ | ⟨i, j, hi, hj, e1, e2⟩
      · rw [e1, e2]
        exact ⟨List.mem_append.2 (.inl (List.mem_map.2 ⟨i, List.mem_range.2 hi, rfl⟩)), List.mem_append.2 (.inl (List.mem_map.2 ⟨j, List.mem_range.2 hj, rfl⟩))⟩
      · rw [e1, e2]
        exact ⟨List.mem_append.2 (.inr (List.mem_map.2 ⟨i, List.mem_range.2 hi, rfl⟩)), List.mem_append.2 (.inr (List.mem_map.2 ⟨j, List.mem_range.2 hj, rfl⟩))⟩)
    (by omega) (by omega) (by omega) (by omega)
    (fun p hp => by
      rw [hO.conf]
      rcases hm p hp with ⟨i, j, hi, hj, e1, e2⟩ | ⟨i, j, hi, hj, e1, e2⟩
      · rw [e1, e2, Py.ix_nm hx hi, Py.ix_nm hx hj]; exact ⟨(fun e => by cases e), (fun e => by cases e)⟩
      · rw [e1, e2, Py.ix_other hx (by omega) (by decide), Py.ix_other hx (by omega) (by decide)])
    (fun p hp => by
      rw [hO.integ]
      rcases hm p hp with ⟨i, j, hi, hj, e1, e2⟩ | ⟨i, j, hi, hj, e1, e2⟩
      · rw [e1, e2, Py.ix_other hy (by omega) (by decide), Py.ix_other hy (by omega) (by decide)]
      · rw [e1, e2, Py.ix_nm hy hi, Py.ix_nm hy hj]; exact ⟨(fun e => by cases e), (fun e => by cases e)⟩)
    (by rw [hO.integ, hO.att]; exact Py.ix_nm hy (by omega))
  rw [hO.conf, hO.integ, hO.ord, Py.prs_conf hx1 hx hy1 hy, Py.prs_integ hx1 hx hy1 hy, l1, l2] at hA
  exact hA

theorem none_items (w : World) (q b1 c1 b2 c2 : Nat) (ao : Option Addr) (c3 : Nat) (R : Py.St) (x y : Nat) (l : List (Nat × Nat)) (h : PolAt w q b1 c1 b2 c2 ao c3 R) (hO : PolOf x y l R) :
    Calls Tryz.prog 13 #[.slice (some ⟨b1, 0, none⟩) R.conf.length c1, .string ⟨#[110, 111, 110, 101]⟩] w fun e w' => e = .returned (.int .i64 (-1)) ∧ Below w.heap.size w w' := by
  have hA := point_num w R.conf [110, 111, 110, 101] b1 c1 h.n1 h.f1
  have e : Py.ix (Py.tx R.conf) [110, 111, 110, 101] = none := Py.ix_none (fun e => by
    rw [hO.conf] at e
    obtain ⟨i, _, e⟩ := List.mem_map.1 e
    unfold nm at e
    injection e with e1 _
    exact absurd e1 (by decide))
  rw [e] at hA
  exact hA

/-- the name of a point -/
theorem lname_any (w : World) (kd : UInt8) (i : Nat) (hk : kd = 99 ∨ kd = 105) (hi : i < 9) :
    Calls Tryz.prog 5 #[.string ⟨#[kd]⟩, .int .i64 (i : Int)] w fun e w' => e = .returned (.string ⟨(nm kd i).toArray⟩) ∧ w = w' := by
  obtain rfl | rfl | rfl | rfl | rfl | rfl | rfl | rfl | rfl : i = 0 ∨ i = 1 ∨ i = 2 ∨ i = 3 ∨ i = 4 ∨ i = 5 ∨ i = 6 ∨ i = 7 ∨ i = 8 := by omega
  all_goals
    rcases hk with rfl | rfl
    all_goals
      go_enter Tryz.func5, Tryz.ntmps5
      go_wp2
      go_ret
      exact ⟨rfl, rfl⟩
end Go.Proofs.YtcelelnmphdlbaaGreatDoor
