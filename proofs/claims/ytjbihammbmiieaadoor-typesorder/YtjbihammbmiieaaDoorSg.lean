/- Slices of pairs of bytes, put together. -/
import Derived.Test.YtjbihammbmiieaaDoorSr
import Derived.Lib.AppendZerosOnto
namespace Go.Proofs.YtjbihammbmiieaaDoor
open Go.RowKit Un

set_option maxRecDepth 100000 in
set_option maxHeartbeats 1000000 in
theorem grow_any (n : Nat) (w : World) (h0 : 0 < n) (hn : n ≤ 100) :
    Calls Tryd.prog 29 #[.slice none 0 0, .int .i64 n] w fun e w' => ∃ v', e = .returned v' ∧ w'.ownsRow w.heap.size 51 2 v' 0 (cells2 []) ∧ Below w.heap.size w w' := by
  obtain ⟨i0, hi, hz0, hz1, hz2⟩ := info_parts Tryd.info51
  have hold : (Builtin.firstCells i0.size 0 (.slice none 0 0)).run Tryd.prog w.drew = .ok (#[] : Array Value) w.drew := run_firstCells_none w.drew i0.size 0 0 0
  have hrz : ∀ ty, (Builtin.append_ #[50, 3] ty #[.slice none 0 0, .int .i64 (n : Int)]).run Tryd.prog w =
      .ok (.slice (some ⟨w.heap.size, 0, none⟩) n (grownCap w n 0 51)) (w.drew.alloc (.cells (#[] ++ Builtin.zeroCells (.agg #[.int .u8 0, .int .u8 0] : Value).cells n ++ Builtin.zeroCells (.agg #[.int .u8 0, .int .u8 0] : Value).cells (grownCap w n 0 51 - n)) 51)) := fun ty => by
    have h := Lib.run_append_grow_zeros (P := Tryd.prog) w 50 3 ty 51 i0 _ .i64 .i64 Tryd.underlying50 Tryd.underlying3 hi hz0 none 0 0 [] hold n h0 (by rw [hz1]; omega) (by omega) (by omega) (by rw [hz2]; omega)
      (growslice_fits (need := 0 + n) (old := 0) (bytes := i0.bytes) (by omega) (by rw [hz2]; omega))
    simpa using h
  have hGn := grownCap_ge w n 0 51
  have hGm := grownCap_le_maxLen w n 0 51 (by unfold maxLen; omega)
  generalize grownCap w n 0 51 = G at hrz hGn hGm
  generalize hcur : #[] ++ Builtin.zeroCells (.agg #[.int .u8 0, .int .u8 0] : Value).cells n ++ Builtin.zeroCells (.agg #[.int .u8 0, .int .u8 0] : Value).cells (G - n) = cur at hrz
  have hsz : cur.size = G * 2 := by
    rw [← hcur]; simp [size_zeroCells, Value.cells]; omega
  have HS := Lib.hid hsz; have HR := Lib.hid hrz; have GN := Lib.hid hGn; have GM := Lib.hid hGm
  have hG63 : G ≤ 9223372036854775807 := by unfold maxLen at hGm; omega
  clear hrz hcur hsz hold hi hz0 hz1 hz2 hGm
  go_enter Tryd.func29, Tryd.ntmps29
  go_wp2_with (at_builtin; refine Lib.wpList_append_run _ rfl _ _ _ _ rfl _ _ rfl rfl _ _ (HR.out _) ?_)
  all_goals
    go_ret
    exact ⟨_, rfl, own_below (World.ownsRow_made w cur G (Nat.le_refl _) GM.out HS.out) (Below.refl _ _).drew, ((Below.refl _ w).alloc (Nat.le_refl _) _).drew⟩
/-- two slices, put together -/
structure CcAt (w : World) (base : Nat) (K : List (Nat × Nat)) (v : Value) (wr : World) : Prop where
  own : wr.ownsRow base 51 2 v K.length (cells2 K)
  below : Below w.heap.size w wr
  low : w.heap.size ≤ base
  size : base ≤ wr.heap.size
set_option maxRecDepth 100000 in
set_option maxHeartbeats 2000000 in
theorem concat_any (N sb g1 o1 c1 g2 o2 c2 : Nat) (L1 L2 : List (Nat × Nat)) (w : World) (h1 : P2At N w (some ⟨g1, o1, none⟩) L1) (h2 : P2At N w (some ⟨g2, o2, none⟩) L2) (hN : N ≤ w.heap.size) (hs : sb < w.heap.size)
    (d0 : w.cell? ⟨sb, 0, none⟩ = some (.slice (some ⟨g1, o1, none⟩) L1.length c1)) (d1 : w.cell? ⟨sb, 1, none⟩ = some (.slice (some ⟨g2, o2, none⟩) L2.length c2)) (h0 : 0 < L1.length + L2.length) (h10 : L1.length + L2.length ≤ 10) :
    Calls Tryd.prog 20 #[.slice (some ⟨sb, 0, none⟩) 2 2] w fun e w' => ∃ v', e = .returned v' ∧ w'.ownsRow w.heap.size 51 2 v' (L1 ++ L2).length (cells2 (L1 ++ L2)) ∧ Below w.heap.size w w' := by
  have H1 := Lib.hid h1; have H2 := Lib.hid h2
  have hd : ∀ W, Below w.heap.size w W → W.cell? ⟨sb, 0, none⟩ = some (.slice (some ⟨g1, o1, none⟩) L1.length c1) ∧ W.cell? ⟨sb, 1, none⟩ = some (.slice (some ⟨g2, o2, none⟩) L2.length c2) := fun W k => ⟨(k.cell (p := ⟨sb, 0, none⟩) hs).trans d0, (k.cell (p := ⟨sb, 1, none⟩) hs).trans d1⟩
  have HD := Lib.hid hd
  obtain ⟨i0, hi, hz0, hz1, hz2⟩ := info_parts Tryd.info51
  have HI := Lib.hid hi; have HZ := Lib.hid hz0; have HZ1 := Lib.hid hz1; have HZ2 := Lib.hid hz2
  clear h1 h2 hd hi hz0 hz1 hz2
  generalize hn1 : L1.length = n1 at d0 HD h0 h10
  generalize hn2 : L2.length = n2 at d1 HD h0 h10
  obtain ⟨tot, htot⟩ : ∃ tot, tot = n1 + n2 := ⟨_, rfl⟩
  have hp : 0 < tot := by omega
  have hp2 : tot ≤ 10 := by omega
  have HN1 := Lib.hid hn1; have HN2 := Lib.hid hn2; have HT := Lib.hid htot
  clear hn1 hn2 htot
  go_enter Tryd.func20, Tryd.ntmps20
  go_wp2
  go_loopw [3, 5, 11] (fun sv _ iv wr => wr = w ∧ ((iv = .int .i64 0 ∧ sv = .int .i64 0) ∨ (iv = .int .i64 1 ∧ sv = .int .i64 n1) ∨ (iv = .int .i64 2 ∧ sv = .int .i64 tot))) (fun _ _ iv _ => 2 - (intOf iv).toNat)
  case atStart => exact ⟨rfl, .inl ⟨rfl, rfl⟩⟩
  case round =>
    obtain ⟨rfl, ⟨rfl, rfl⟩ | ⟨rfl, rfl⟩ | ⟨rfl, rfl⟩⟩ := hrel
    · go_wp2
      go_roundw
      case rel => exact ⟨trivial, .inr (.inl ⟨by go_num, by go_num⟩)⟩
      case measure => simp [intOf]
    · go_wp2
      go_roundw
      case rel => exact ⟨trivial, .inr (.inr ⟨by go_num, by have := HT.out; go_num⟩)⟩
      case measure => simp [intOf]
    · go_wp2_with fail
      refine (grow_any tot wr hp (by omega)).mono ?_
      rintro e w2 ⟨v2, rfl, ho2, hb2⟩
      obtain ⟨va, vc, rfl⟩ := own_form ho2
      have HO2 := Lib.hid ho2; have HB2 := Lib.hid hb2
      clear ho2 hb2
      go_wp2
      go_loopw [6, 8, 27] (fun v _ iv wz => Below wr.heap.size wr wz ∧ ((iv = .int .i64 0 ∧ wz.ownsRow wr.heap.size 51 2 v 0 (cells2 [])) ∨ (iv = .int .i64 1 ∧ wz.ownsRow wr.heap.size 51 2 v n1 (cells2 L1)) ∨ (iv = .int .i64 2 ∧ wz.ownsRow wr.heap.size 51 2 v tot (cells2 (L1 ++ L2))))) (fun _ _ iv _ => 2 - (intOf iv).toNat)
      case atStart => exact ⟨HB2.out, .inl ⟨rfl, HO2.out⟩⟩
      case round =>
        clear HO2 HB2
        obtain ⟨hb, hcase⟩ := hrel
        obtain ⟨e0, e1⟩ := HD.out _ hb
        have HB := Lib.hid hb
        have K1 := Lib.hid (H1.out.below (hb.mono hN)); have K2 := Lib.hid (H2.out.below (hb.mono hN))
        clear hb d0 d1
        rcases hcase with ⟨rfl, ho⟩ | ⟨rfl, ho⟩ | ⟨rfl, ho⟩
        · obtain ⟨xa, xc, rfl⟩ := own_form ho
          have HO := Lib.hid ho
          clear ho
          go_wp2_with (at_builtin; refine wpList_append_own _ rfl _ _ 50 rfl _ 51 i0 _ 2 2 Tryd.underlying50 HI.out HZ.out HZ1.out HZ2.out rfl (by decide) _ 0 (cells2 []) rfl HO.out ⟨g1, o1, none⟩ n1 c1 (cells2 L1) rfl ?c1 ?c2 ?c3 ?c4 ?c5 ?c6 ?_)
          case c1 => rw [cells2_len, HN1.out]
          case c2 => intro j u hj; rw [Go.WideShapes.add_plain]; exact K1.out.cell hj
          case c3 => intro u hu; obtain ⟨j, hj⟩ := List.getElem?_of_mem hu; obtain ⟨i, _, ⟨_, rfl⟩ | ⟨_, rfl⟩⟩ := cells2_at L1 j hj <;> rfl
          case c4 => unfold maxLen; omega
          case c5 => omega
          case c6 => exact HB.out.size
          intro v' w5 hown hgrow _
          have hb5 : Below _ _ w5 := HB.out.grown hgrow (HB.out.size) (fun k hk => (own_tag HO.out hk).1)
          have HB5 := Lib.hid hb5; have HO5 := Lib.hid hown
          clear hown hgrow hb5
          go_wp2
          go_roundw
          case rel => exact ⟨HB5.out, .inr (.inl ⟨by go_num, HO5.out⟩)⟩
          case measure => simp [intOf]
        · obtain ⟨xa, xc, rfl⟩ := own_form ho
          have HO := Lib.hid ho
          clear ho
          go_wp2_with (at_builtin; refine wpList_append_own _ rfl _ _ 50 rfl _ 51 i0 _ 2 2 Tryd.underlying50 HI.out HZ.out HZ1.out HZ2.out rfl (by decide) _ n1 (cells2 L1) rfl HO.out ⟨g2, o2, none⟩ n2 c2 (cells2 L2) rfl ?c1 ?c2 ?c3 ?c4 ?c5 ?c6 ?_)
          case c1 => rw [cells2_len, HN2.out]
          case c2 => intro j u hj; rw [Go.WideShapes.add_plain]; exact K2.out.cell hj
          case c3 => intro u hu; obtain ⟨j, hj⟩ := List.getElem?_of_mem hu; obtain ⟨i, _, ⟨_, rfl⟩ | ⟨_, rfl⟩⟩ := cells2_at L2 j hj <;> rfl
          case c4 => unfold maxLen; omega
          case c5 => omega
          case c6 => exact HB.out.size
          intro v' w5 hown hgrow _
          have hb5 : Below _ _ w5 := HB.out.grown hgrow (HB.out.size) (fun k hk => (own_tag HO.out hk).1)
          have HB5 := Lib.hid hb5; have HO5 := Lib.hid hown
          clear hown hgrow hb5
          go_wp2
          go_roundw
          case rel => exact ⟨HB5.out, .inr (.inr ⟨by go_num, by rw [cells2_app, HT.out]; exact HO5.out⟩)⟩
          case measure => simp [intOf]
        · have HO := Lib.hid ho
          clear ho
          go_wp2
          go_ret
          refine ⟨_, rfl, ?_, HB.out⟩
          rw [List.length_append, HN1.out, HN2.out, ← HT.out]
          exact HO.out
end Go.Proofs.YtjbihammbmiieaaDoor
