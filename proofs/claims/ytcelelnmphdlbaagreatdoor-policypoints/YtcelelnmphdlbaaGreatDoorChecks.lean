/- The names of a policy: each is there once, and those of its pairs are there. -/
import Derived.Test.YtcelelnmphdlbaaGreatDoorMaps
namespace Go.Proofs.YtcelelnmphdlbaaGreatDoor
open Go.RowKit Lx

theorem pair_at0 (a b c d e f : Value) (w : World) : (Instr.index 100 (.agg #[a, b, c, d, e, f]) (.int .i64 0)).run Tryz.prog w = .ok (.agg #[a, b, c]) w := by kernel_rfl
theorem pair_at1 (a b c d e f : Value) (w : World) : (Instr.index 100 (.agg #[a, b, c, d, e, f]) (.int .i64 1)).run Tryz.prog w = .ok (.agg #[d, e, f]) w := by kernel_rfl
attribute [local go_sem] pair_at0 pair_at1

/-- pairs of names in a row -/
def PairsN (w : World) (ao : Option Addr) (l : List (Py.Nm × Py.Nm)) : Prop := ∀ (i : Nat) (p : Py.Nm × Py.Nm), l[i]? = some p → ∃ b, ao = some ⟨b, 0, none⟩ ∧ w.cell? ⟨b, i * 6, none⟩ = some (.string ⟨p.1.text.toArray⟩) ∧ w.cell? ⟨b, i * 6 + 1, none⟩ = some (.int .i64 p.1.at_.line) ∧ w.cell? ⟨b, i * 6 + 2, none⟩ = some (.int .i64 p.1.at_.col) ∧ w.cell? ⟨b, i * 6 + 3, none⟩ = some (.string ⟨p.2.text.toArray⟩) ∧ w.cell? ⟨b, i * 6 + 4, none⟩ = some (.int .i64 p.2.at_.line) ∧ w.cell? ⟨b, i * 6 + 5, none⟩ = some (.int .i64 p.2.at_.col)
/-- a policy, to be read -/
structure PolAt (w : World) (q b1 c1 b2 c2 : Nat) (ao : Option Addr) (c3 : Nat) (g : Py.St) : Prop where
  g1 : w.cell? ⟨q, 1, none⟩ = some (.slice (some ⟨b1, 0, none⟩) g.conf.length c1)
  g2 : w.cell? ⟨q, 2, none⟩ = some (.slice (some ⟨b2, 0, none⟩) g.integ.length c2)
  g3 : w.cell? ⟨q, 3, none⟩ = some (.slice ao g.ord.length c3)
  g4 : w.cell? ⟨q, 4, none⟩ = some (.string ⟨g.att.text.toArray⟩)
  g5 : w.cell? ⟨q, 5, none⟩ = some (.int .i64 g.att.at_.line)
  g6 : w.cell? ⟨q, 6, none⟩ = some (.int .i64 g.att.at_.col)
  n1 : NamesAt w b1 g.conf
  n2 : NamesAt w b2 g.integ
  n3 : PairsN w ao g.ord
  f1 : g.conf.length ≤ 1000
  f2 : g.integ.length ≤ 1000
  f3 : g.ord.length ≤ 1000
theorem cell_below {w w' : World} {b i : Nat} {v : Value} (h : w.cell? ⟨b, i, none⟩ = some v) (hb : Below w.heap.size w w') : w'.cell? ⟨b, i, none⟩ = some v :=
  (hb.cell (p := ⟨b, i, none⟩) (World.block_lt_of_cell? _ _ h)).trans h
theorem PairsN.below {w w' : World} {ao : Option Addr} {l : List (Py.Nm × Py.Nm)} (h : PairsN w ao l) (hb : Below w.heap.size w w') : PairsN w' ao l := fun i p hi => by
  obtain ⟨b, e, h0, h1, h2, h3, h4, h5⟩ := h i p hi
  exact ⟨b, e, cell_below h0 hb, cell_below h1 hb, cell_below h2 hb, cell_below h3 hb, cell_below h4 hb, cell_below h5 hb⟩
theorem PolAt.below {w w' : World} {q b1 c1 b2 c2 : Nat} {ao : Option Addr} {c3 : Nat} {g : Py.St} (h : PolAt w q b1 c1 b2 c2 ao c3 g) (hb : Below w.heap.size w w') : PolAt w' q b1 c1 b2 c2 ao c3 g :=
  ⟨cell_below h.g1 hb, cell_below h.g2 hb, cell_below h.g3 hb, cell_below h.g4 hb, cell_below h.g5 hb, cell_below h.g6 hb, h.n1.below hb, h.n2.below hb, h.n3.below hb, h.f1, h.f2, h.f3⟩

/-- the map has these names; the second row of points stands behind it -/
structure Knows (w : World) (r : Nat) (v : Value) (l : List B) (wr : World) : Prop where
  map : wr.heap[r]? = some (.map (ents unitV 0 l).toArray l.length)
  bel : Below w.heap.size w wr
  two : wr.cell? ⟨r + 1, 1, none⟩ = some v
theorem Knows.put {w wr : World} {r n : Nat} {v : Value} {l l' : List B} (h : Knows w r v l wr) (hr : w.heap.size ≤ r) (hn : l'.length = n) : Knows w r v l' { wr with heap := wr.heap.setIfInBounds r (.map (ents unitV 0 l').toArray n) } := by
  subst hn
  have hlt : r < wr.heap.size := (Array.getElem?_eq_some_iff.1 h.map).1
  refine ⟨?_, ?_, ?_⟩
  · show (wr.heap.setIfInBounds r _)[r]? = _
    simp [hlt]
  · refine ⟨h.bel.os, h.bel.tape, h.bel.output, by simpa using h.bel.size, fun k hk => ?_⟩
    show (wr.heap.setIfInBounds r _)[k]? = _
    rw [Array.getElem?_setIfInBounds_ne (by omega)]
    exact h.bel.block k hk
  · refine (World.cell?_of_block ?_).trans h.two
    show (wr.heap.setIfInBounds r _)[r + 1]? = _
    rw [Array.getElem?_setIfInBounds_ne (by omega)]
theorem Knows.later {w wr wr' : World} {r : Nat} {v : Value} {l : List B} (h : Knows w r v l wr) (hb : Below wr.heap.size wr wr') : Knows w r v l wr' :=
  ⟨(hb.block _ (Array.getElem?_eq_some_iff.1 h.map).1).trans h.map, h.bel.trans (hb.mono h.bel.size), cell_below h.two hb⟩
theorem Knows.alloc {w wr : World} {r : Nat} {v : Value} {l : List B} (h : Knows w r v l wr) (o : Obj) : Knows w r v l (wr.alloc o) := h.later ((Below.refl _ wr).alloc (Nat.le_refl _) o)
theorem take_next {l : List B} {k : Nat} {t : B} (h : l[k]? = some t) : l.take (k + 1) = l.take k ++ [t] := by
  rw [List.take_add_one, h]; rfl
theorem not_before {l : List B} (hn : l.Nodup) {k : Nat} {t : B} (h : l[k]? = some t) : t ∉ l.take k := fun hm => by
  obtain ⟨j, hj⟩ := List.mem_iff_getElem?.1 hm
  obtain ⟨hj1, hj2⟩ := List.getElem?_eq_some_iff.1 hj
  rw [List.length_take] at hj1
  rw [List.getElem_take] at hj2
  obtain ⟨hk1, hk2⟩ := List.getElem?_eq_some_iff.1 h
  exact List.pairwise_iff_getElem.1 hn j k (by omega) hk1 (by omega) (hj2.trans hk2.symm)

set_option maxRecDepth 100000 in
set_option maxHeartbeats 8000000 in
theorem checks_any (w : World) (q b1 c1 b2 c2 : Nat) (ao : Option Addr) (c3 : Nat) (g : Py.St) (h : PolAt w q b1 c1 b2 c2 ao c3 g) (hnd : (Py.tx g.conf ++ Py.tx g.integ).Nodup) (hin : ∀ p ∈ g.ord, p.1.text ∈ Py.tx g.conf ++ Py.tx g.integ ∧ p.2.text ∈ Py.tx g.conf ++ Py.tx g.integ) :
    Calls Tryz.prog 17 #[.pointer (some ⟨q, 0, none⟩)] w fun e w' => e = .returned .nilIface ∧ Below w.heap.size w w' := by
  obtain ⟨L, hL⟩ : ∃ L, Py.tx g.conf ++ Py.tx g.integ = L := ⟨_, rfl⟩
  have hl1 : ∀ (k : Nat) (m : Py.Nm), g.conf[k]? = some m → L[k]? = some m.text := fun k m hm => by
    rw [← hL, List.getElem?_append_left (by have := (List.getElem?_eq_some_iff.1 hm).1; simpa [Py.tx] using this)]
    simp [Py.tx, hm]
  have hl2 : ∀ (k : Nat) (m : Py.Nm), g.integ[k]? = some m → L[g.conf.length + k]? = some m.text := fun k m hm => by
    rw [← hL, List.getElem?_append_right (by simp [Py.tx])]
    simp [Py.tx, hm]
  have HLL := Lib.hid (show L.take (g.conf.length + g.integ.length) = L from List.take_of_length_le (by rw [← hL]; simp [Py.tx]))
  rw [hL] at hnd hin
  have f1 := h.f1; have f2 := h.f2; have f3 := h.f3
  clear hL
  have g1 := h.g1; have g2 := h.g2
  obtain ⟨W, hW⟩ : ∃ W, w.alloc (.map #[] 0) = W := ⟨_, rfl⟩
  have hbW : Below w.heap.size w W := by rw [← hW]; exact (Below.refl _ w).alloc (Nat.le_refl _) _
  have hsW : W.heap.size = w.heap.size + 1 := by rw [← hW]; simp
  have hmW : W.heap[w.heap.size]? = some (.map #[] 0) := by rw [← hW]; unfold World.alloc; simp
  have g1' := cell_below g1 hbW; have g2' := cell_below g2 hbW
  have mk := known_make w
  rw [hW] at mk
  obtain ⟨V, hV⟩ : ∃ V, (W.alloc (.cells #[.slice (some ⟨b1, 0, none⟩) g.conf.length c1, .slice (some ⟨b2, 0, none⟩) g.integ.length c2] 45)).drew = V := ⟨_, rfl⟩
  have hbV : Below W.heap.size W V := by rw [← hV]; exact ((Below.refl _ W).alloc (Nat.le_refl _) _).drew
  have v0 : V.cell? ⟨W.heap.size, 0, none⟩ = some (.slice (some ⟨b1, 0, none⟩) g.conf.length c1) := by rw [← hV]; simp [go_sem]
  have v1 : V.cell? ⟨W.heap.size, 1, none⟩ = some (.slice (some ⟨b2, 0, none⟩) g.integ.length c2) := by rw [← hV]; simp [go_sem]
  have hbw : Below w.heap.size w V := hbW.trans (hbV.mono (by omega))
  rw [hsW] at v0 v1
  have hk0 : Knows w w.heap.size (.slice (some ⟨b2, 0, none⟩) g.integ.length c2) [] V := ⟨(hbV.block _ (by omega)).trans hmW, hbw, v1⟩
  have HV := Lib.hid hV; have HK0 := Lib.hid hk0; have H := Lib.hid h; have HND := Lib.hid hnd; have HIN := Lib.hid hin
  clear hV hk0 h hnd hin hbw hbV hbW hmW
  go_enter Tryz.func17, Tryz.ntmps17
  go_wp2_with fail
  go_region
  rw [HV.out]
  go_wp2_with fail
  refine wp_loop_rounds 3 ?_
  rw [rounds_succ]
  go_wp2_with fail
  go_loopw [33] (fun i wr => ∃ k : Nat, k ≤ g.conf.length ∧ i = .int .i64 (k : Int) ∧ Knows w w.heap.size (.slice (some ⟨b2, 0, none⟩) g.integ.length c2) (L.take (k)) wr) (fun i _ => g.conf.length - (intOf i).toNat)
  case atStart => exact ⟨0, Nat.zero_le _, rfl, HK0.out⟩
  case round =>
    obtain ⟨k, hk, rfl, hkn⟩ := hrel
    by_cases hlt : k < g.conf.length
    · obtain ⟨m, hm⟩ : ∃ m, g.conf[k]? = some m := ⟨_, List.getElem?_eq_getElem hlt⟩
      obtain ⟨x0, x1, x2⟩ := (H.out.n1.below hkn.bel) k m hm
      have hLk := hl1 k m hm
      have hno := not_before HND.out hLk
      have lk := fun o => known_no (hkn.alloc o).map hno
      have up := fun o o' => known_put ((hkn.alloc o).alloc o').map hno
      have hms : g.conf.length - (intOf (Value.int IntKind.i64 ((k : Int) + 1))).toNat < g.conf.length - (intOf (Value.int IntKind.i64 (k : Int))).toNat := by simp [intOf]; omega
      have HMS := Lib.hid hms; have HKN := Lib.hid hkn; have HT := Lib.hid (take_next hLk)
      clear hms hkn hm hno hLk
      go_wp2
      refine ⟨⟨k + 1, by omega, by go_num, ?_⟩, HMS.out⟩
      rw [HT.out]
      exact ((HKN.out.alloc _).alloc _).put (Nat.le_refl _) (by simp)
    · obtain rfl : k = g.conf.length := by omega
      have HKN := Lib.hid hkn
      clear hk hlt hkn
      have t1 := HKN.out.two
      go_wp2_with fail
      rw [rounds_succ]
      go_wp2_with fail
      go_loopw [33] (fun i wr => ∃ k : Nat, k ≤ g.integ.length ∧ i = .int .i64 (k : Int) ∧ Knows w w.heap.size (.slice (some ⟨b2, 0, none⟩) g.integ.length c2) (L.take (g.conf.length + k)) wr) (fun i _ => g.integ.length - (intOf i).toNat)
      case atStart => exact ⟨0, Nat.zero_le _, rfl, HKN.out⟩
      case round =>
        obtain ⟨k, hk, rfl, hkn⟩ := hrel
        by_cases hlt : k < g.integ.length
        · obtain ⟨m, hm⟩ : ∃ m, g.integ[k]? = some m := ⟨_, List.getElem?_eq_getElem hlt⟩
          obtain ⟨x0, x1, x2⟩ := (H.out.n2.below hkn.bel) k m hm
          have hLk := hl2 k m hm
          have hno := not_before HND.out hLk
          have lk := fun o => known_no (hkn.alloc o).map hno
          have up := fun o o' => known_put ((hkn.alloc o).alloc o').map hno
          have hms : g.integ.length - (intOf (Value.int IntKind.i64 ((k : Int) + 1))).toNat < g.integ.length - (intOf (Value.int IntKind.i64 (k : Int))).toNat := by simp [intOf]; omega
          have HMS := Lib.hid hms; have HKN := Lib.hid hkn; have HT := Lib.hid (take_next hLk)
          clear hms hkn hm hno hLk
          go_wp2
          refine ⟨⟨k + 1, by omega, by go_num, ?_⟩, HMS.out⟩
          rw [show g.conf.length + (k + 1) = (g.conf.length + k) + 1 from rfl, HT.out]
          exact ((HKN.out.alloc _).alloc _).put (Nat.le_refl _) (by simp)
        · obtain rfl : k = g.integ.length := by omega
          have HKN := Lib.hid hkn
          clear hk hlt hkn
          have g3 := (H.out.below HKN.out.bel).g3
          have hkL : Knows w w.heap.size (.slice (some ⟨b2, 0, none⟩) g.integ.length c2) L wr := by have := HKN.out; rw [HLL.out] at this; exact this
          have HKL := Lib.hid hkL
          clear hkL HKN t1
          go_wp2_with fail
          rw [rounds_succ]
          go_wp2_with fail
          go_loopw [58] (fun i wr' => ∃ k : Nat, k ≤ g.ord.length ∧ i = .int .i64 (k : Int) ∧ Knows w w.heap.size (.slice (some ⟨b2, 0, none⟩) g.integ.length c2) L wr') (fun i _ => g.ord.length - (intOf i).toNat)
          case atStart => exact ⟨0, Nat.zero_le _, rfl, HKL.out⟩
          case round =>
            obtain ⟨k, hk, rfl, hkn⟩ := hrel
            by_cases hlt : k < g.ord.length
            · obtain ⟨m, hm⟩ : ∃ m, g.ord[k]? = some m := ⟨_, List.getElem?_eq_getElem hlt⟩
              obtain ⟨b3, rfl, y0, y1, y2, y3, y4, y5⟩ := (H.out.n3.below hkn.bel) k m hm
              have hI := HIN.out m (List.mem_of_getElem? hm)
              have lk1 := fun o o' => known_yes ((hkn.alloc o).alloc o').map hI.1
              have lk2 := fun o o' o'' o3 => known_yes ((((hkn.alloc o).alloc o').alloc o'').alloc o3).map hI.2
              have hms : g.ord.length - (intOf (Value.int IntKind.i64 ((k : Int) + 1))).toNat < g.ord.length - (intOf (Value.int IntKind.i64 (k : Int))).toNat := by simp [intOf]; omega
              have HMS := Lib.hid hms; have HKN := Lib.hid hkn
              clear hms hkn hm hI
              go_wp2_with fail
              refine wp_loop_rounds 3 ?_
              rw [rounds_succ]
              go_wp2_with fail
              rw [rounds_succ]
              go_wp2_with fail
              rw [rounds_succ]
              go_wp2
              refine ⟨⟨k + 1, by omega, by go_num, ?_⟩, HMS.out⟩
              exact ((((HKN.out.alloc _).alloc _).alloc _).alloc _).alloc _
            · have HKN := Lib.hid hkn
              clear hkn
              go_wp2
              go_ret
              exact ⟨rfl, HKN.out.bel⟩
end Go.Proofs.YtcelelnmphdlbaaGreatDoor
