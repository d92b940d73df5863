/- The law: any points, and pairs of them, as a policy. -/
import Derived.Test.YtcelelnmphdlbaaGreatDoorLawQ
import Derived.Deep.RegionHeld2
namespace Go.Proofs.YtcelelnmphdlbaaGreatDoor
open Go.RowKit Tn Lx

/-- pairs of bytes in a row -/
def BytesAt (w : World) (ao : Option Addr) (l : List (Nat × Nat)) : Prop := ∀ (i : Nat) (p : Nat × Nat), l[i]? = some p → ∃ b off, ao = some ⟨b, off, none⟩ ∧ w.cell? ⟨b, off + i * 2, none⟩ = some (.int .u8 (p.1 : Int)) ∧ w.cell? ⟨b, off + i * 2 + 1, none⟩ = some (.int .u8 (p.2 : Int)) ∧ p.1 ≤ 255 ∧ p.2 ≤ 255
theorem BytesAt.below {w w' : World} {ao : Option Addr} {l : List (Nat × Nat)} (h : BytesAt w ao l) (hb : Below w.heap.size w w') : BytesAt w' ao l := fun i p hi => by
  obtain ⟨b, off, e, h0, h1, h2⟩ := h i p hi
  exact ⟨b, off, e, cell_below h0 hb, cell_below h1 hb, h2⟩
/-- a text's bytes -/
def tb (l : B) : ByteArray := ⟨l.toArray⟩
theorem tb_cat (a b : B) : tb a ++ tb b = tb (a ++ b) := by
  apply ByteArray.ext
  simp [tb, ByteArray.data_append]
theorem tb_size (a : B) : (tb a).size = a.length := by simp [tb, ByteArray.size]

theorem tx_snoc (L : List It) (it : It) : textOf (L ++ [it]) = textOf L ++ it.text := by rw [textOf_append]; simp [textOf]
theorem cf_next (k : Nat) : tb (textOf ((List.range k).map It.cf)) ++ ((⟨#[99, 111, 110, 102, 32]⟩ : ByteArray) ++ ⟨(nm 99 k).toArray⟩ ++ ⟨#[59]⟩) = tb (textOf ((List.range (k + 1)).map It.cf)) := by
  show tb _ ++ (tb [99, 111, 110, 102, 32] ++ tb (nm 99 k) ++ tb [59]) = _
  rw [tb_cat, tb_cat, tb_cat, List.range_succ, List.map_append]
  exact congrArg tb (tx_snoc _ (It.cf k)).symm
theorem ig_next (L : List It) (k : Nat) : tb (textOf (L ++ (List.range k).map It.ig)) ++ ((⟨#[105, 110, 116, 101, 103, 32]⟩ : ByteArray) ++ ⟨(nm 105 k).toArray⟩ ++ ⟨#[59]⟩) = tb (textOf (L ++ (List.range (k + 1)).map It.ig)) := by
  show tb _ ++ (tb [105, 110, 116, 101, 103, 32] ++ tb (nm 105 k) ++ tb [59]) = _
  rw [tb_cat, tb_cat, tb_cat, List.range_succ, List.map_append]
  refine congrArg tb ((tx_snoc (L ++ (List.range k).map It.ig) (It.ig k)).symm.trans ?_)
  rw [List.append_assoc]; rfl
theorem od_next (L : List It) (kd : UInt8) (i j : Nat) : tb (textOf L) ++ ((⟨#[111, 114, 100, 101, 114, 32]⟩ : ByteArray) ++ ⟨(nm kd i).toArray⟩ ++ ⟨#[32, 60, 32]⟩ ++ ⟨(nm kd j).toArray⟩ ++ ⟨#[59]⟩) = tb (textOf (L ++ [It.od kd i j])) := by
  show tb _ ++ (tb [111, 114, 100, 101, 114, 32] ++ tb (nm kd i) ++ tb [32, 60, 32] ++ tb (nm kd j) ++ tb [59]) = _
  rw [tb_cat, tb_cat, tb_cat, tb_cat, tb_cat, tx_snoc]
  rfl
theorem tb_few (L : List It) {n : Nat} (h : L.length ≤ n) : (tb (textOf L)).size ≤ 16 * n := by
  rw [tb_size]; have := textOf_size L; omega

theorem below_drewN {n : Nat} {a w : World} (h : Below n a w) (k : Nat) : Below n a (w.drewN k) := ⟨h.os, h.tape, h.output, h.size, h.block⟩
/-- between two pairs: the text, and the rows of both kinds' pairs -/
structure LawSt (w : World) (x y : Nat) (l : List (Nat × Nat)) (k : Nat) (a u v : Value) (wr : World) : Prop where
  txt : a = .string (tb (textOf (items x y (l.take k))))
  c : wr.ownsRow w.heap.size 27 2 u (cps x 0 (l.take k)).length (cells2 (cps x 0 (l.take k)))
  t : wr.ownsRow w.heap.size 27 2 v (tps y 0 (l.take k)).length (cells2 (tps y 0 (l.take k)))
  apart : ∀ g, u.ownBlock = some g → v.ownBlock ≠ some g
  bel : Below w.heap.size w wr
theorem LawSt.drew {w wr : World} {x y k : Nat} {l : List (Nat × Nat)} {a u v : Value} (h : LawSt w x y l k a u v wr) : LawSt w x y l k a u v wr.drew :=
  ⟨h.txt, own_below h.c (Below.refl _ wr).drew, own_below h.t (Below.refl _ wr).drew, h.apart, h.bel.drew⟩
/-- behind an append to the one row, the other one -/
theorem row_grow {w W w5 : World} {t : TypeId} {u v : Value} {n m n' cap g : Nat} {xs ys zs : List Value} {o : Obj} (hu : W.ownsRow w.heap.size t 2 u n xs) (hv : W.ownsRow w.heap.size t 2 v m ys) (ha : ∀ k, u.ownBlock = some k → v.ownBlock ≠ some k) (hb : Below w.heap.size w W) (hgrow : ((W.alloc o).drew).grownBy w5 u.ownBlock) (hown : w5.ownsRow w.heap.size t 2 (.slice (some ⟨g, 0, none⟩) n' cap) n' zs) (hat : u.ownBlock = some g ∨ g = W.heap.size + 1) :
    w5.ownsRow w.heap.size t 2 v m ys ∧ Below w.heap.size w w5 ∧ v.ownBlock ≠ some g := by
  have hB : But (fun k => u.ownBlock = some k) W w5 := by
    have h1 : But (fun k => u.ownBlock = some k) W (W.alloc o).drew := But.of_below ((Below.refl _ W).alloc (Nat.le_refl _) _).drew
    exact h1.trans (But.of_grown hgrow (fun k e => e))
  refine ⟨hB.own hv (fun k hk e => ha k e hk), hb.trans (But.below hB hb.size (fun k e => (own_tag hu e).1)), ?_⟩
  rcases hat with e | e
  · exact ha g e
  · intro e2
    obtain ⟨_, cur, e3⟩ := own_tag hv e2
    have := lt_of_heap e3; omega

set_option maxRecDepth 100000 in
set_option maxHeartbeats 8000000 in
theorem points_any (n m : Nat) (hn : n ≤ 255) (hm : m ≤ 255) (w : World) (hT : Lib.Utf8Tabs 1 2 w) (ao : Option Addr) (len cap : Nat) (l : List (Nat × Nat)) (hl : l.length = len) (hA : BytesAt w ao l) :
    Calls Tryz.prog 3 #[.int .u8 (n : Int), .int .u8 (m : Int), .slice ao len cap] w fun e w' => e = .returned (.bool true) ∧ Below w.heap.size w w' := by
  have hLv := live7_any w hT
  have hLv2 := fun W (hb : Below w.heap.size w W) => live7_any W (Utf8Tabs_below hT hb)
  obtain ⟨x, hx, hx1, hx9⟩ : ∃ x : Nat, (n : Int) % 9 + 1 = (x : Int) ∧ 1 ≤ x ∧ x ≤ 9 := ⟨n % 9 + 1, by omega, by omega, by omega⟩
  obtain ⟨y, hy, hy1, hy9⟩ : ∃ y : Nat, (m : Int) % 9 + 1 = (y : Int) ∧ 1 ≤ y ∧ y ≤ 9 := ⟨m % 9 + 1, by omega, by omega, by omega⟩
  have HL := Lib.hid hLv; have HL2 := Lib.hid hLv2; have HT := Lib.hid hT; have HA := Lib.hid hA; have HLEN := Lib.hid hl
  clear hLv hLv2 hT hA hl
  by_cases h60 : 60 < len
  · have h60' : decide ((60 : Int) < (len : Int)) = true := by simp; omega
    go_enter Tryz.func3, Tryz.ntmps3
    go_wp2_with fail
    refine HL.out.mono ?_
    rintro e w1 ⟨rfl, hb1⟩
    have HB1 := Lib.hid hb1
    clear hb1
    go_wp2_with fail
    refine (HL2.out _ HB1.out).mono ?_
    rintro e w2 ⟨rfl, hb2⟩
    have HB2 := Lib.hid (HB1.out.trans (hb2.mono HB1.out.size))
    clear hb2
    go_wp2
    go_ret
    exact ⟨rfl, HB2.out⟩
  have h60' : decide ((60 : Int) < (len : Int)) = false := by simp; omega
  go_enter Tryz.func3, Tryz.ntmps3
  go_wp2_with fail
  refine HL.out.mono ?_
  rintro e w1 ⟨rfl, hb1⟩
  have HB1 := Lib.hid hb1
  clear hb1 HL HL2
  go_wp2_with fail
  go_loopw [47, 10] (fun i a wr => ∃ k : Nat, k ≤ x ∧ i = .int .i64 (k : Int) ∧ a = .string (tb (textOf ((List.range k).map It.cf))) ∧ wr = w1) (fun i _ _ => x - (intOf i).toNat)
  case atStart => exact ⟨0, Nat.zero_le _, rfl, rfl, rfl⟩
  case round =>
    obtain ⟨k, hk, rfl, rfl, rfl⟩ := hrel
    have z1 : (tb (textOf ((List.range k).map It.cf))).size ≤ 200 := by
      rw [tb_size]; have := textOf_size ((List.range k).map It.cf); simp at this; omega
    by_cases hlt : k < x
    · have hms : x - (intOf (Value.int IntKind.i64 ((k : Int) + 1))).toNat < x - (intOf (Value.int IntKind.i64 (k : Int))).toNat := by simp [intOf]; omega
      have HMS := Lib.hid hms; have HNM := Lib.hid (lname_any wr 99 k (.inl rfl) (by omega))
      have z2 : (⟨(nm 99 k).toArray⟩ : ByteArray).size = 3 := rfl
      clear hms
      go_wp2_with fail
      refine HNM.out.mono ?_
      rintro e w' ⟨rfl, rfl⟩
      go_wp2
      refine ⟨⟨k + 1, by omega, by go_num, ?_, trivial⟩, HMS.out⟩
      rw [cf_next]
    · obtain rfl : x = k := by omega
      clear hk hlt z1
      go_wp2_with fail
      go_loopw [59, 10] (fun i a wr' => ∃ k : Nat, k ≤ y ∧ i = .int .i64 (k : Int) ∧ a = .string (tb (textOf (base1 x ++ (List.range k).map It.ig))) ∧ wr' = wr) (fun i _ _ => y - (intOf i).toNat)
      case atStart => exact ⟨0, Nat.zero_le _, rfl, by simp [base1], rfl⟩
      case round =>
        obtain ⟨k, hk, rfl, rfl, rfl⟩ := hrel
        have z1 : (tb (textOf (base1 x ++ (List.range k).map It.ig))).size ≤ 16 * 18 := tb_few _ (by simp [base1]; omega)
        by_cases hlt : k < y
        · have hms : y - (intOf (Value.int IntKind.i64 ((k : Int) + 1))).toNat < y - (intOf (Value.int IntKind.i64 (k : Int))).toNat := by simp [intOf]; omega
          have HMS := Lib.hid hms; have HNM := Lib.hid (lname_any wr 105 k (.inr rfl) (by omega))
          have z2 : (⟨(nm 105 k).toArray⟩ : ByteArray).size = 3 := rfl
          clear hms
          go_wp2_with fail
          refine HNM.out.mono ?_
          rintro e w' ⟨rfl, rfl⟩
          go_wp2
          refine ⟨⟨k + 1, by omega, by go_num, ?_, trivial⟩, HMS.out⟩
          rw [ig_next]
        · obtain rfl : y = k := by omega
          clear hk hlt z1
          go_wp2_with fail
          have hst0 : LawSt w x y l 0 (.string (tb (textOf (base1 x ++ (List.range y).map It.ig)))) (.slice none 0 0) (.slice none 0 0) wr := ⟨by simp [items, base2, oits], World.ownsRow_nil _ _ _ _, World.ownsRow_nil _ _ _ _, (fun k e => by cases e), HB1.out⟩
          have HST0 := Lib.hid hst0
          clear hst0
          obtain ⟨i0, hi, hz0, hz1, hz2⟩ := info_parts Tryz.info27
          have HI := Lib.hid hi; have HZ := Lib.hid hz0; have HZ1 := Lib.hid hz1; have HZ2 := Lib.hid hz2
          clear hi hz0 hz1 hz2
          go_loopw [72, 10, 13, 14] (fun i a u v wr' => ∃ k : Nat, k ≤ len ∧ i = .int .i64 (k : Int) ∧ LawSt w x y l k a u v wr') (fun i _ _ _ _ => len - (intOf i).toNat)
          case atStart => exact ⟨0, Nat.zero_le _, rfl, HST0.out⟩
          case round =>
            obtain ⟨k, hk, rfl, hst⟩ := hrel
            by_cases hlt : k < len
            · obtain ⟨p, hp⟩ : ∃ p, l[k]? = some p := ⟨_, List.getElem?_eq_getElem (by rw [HLEN.out]; exact hlt)⟩
              obtain ⟨bb, off, rfl, y0, y1, hp1, hp2⟩ := (HA.out.below hst.bel) k p hp
              obtain ⟨V, hV⟩ : ∃ V, wr.alloc (.cells #[.int .u8 (p.1 : Int), .int .u8 (p.2 : Int)] 26) = V := ⟨_, rfl⟩
              have hbV : Below wr.heap.size wr V := by rw [← hV]; exact (Below.refl _ wr).alloc (Nat.le_refl _) _
              have z0 : V.cell? ⟨wr.heap.size, 0, none⟩ = some (.int .u8 (p.1 : Int)) := by rw [← hV]; simp [go_sem]
              have z1 : V.cell? ⟨wr.heap.size, 1, none⟩ = some (.int .u8 (p.2 : Int)) := by rw [← hV]; simp [go_sem]
              have hms : len - (intOf (Value.int IntKind.i64 ((k : Int) + 1))).toNat < len - (intOf (Value.int IntKind.i64 (k : Int))).toNat := by simp [intOf]; omega
              have HMS := Lib.hid hms; have HST := Lib.hid hst; have HP := Lib.hid hp; have HV := Lib.hid hV; have HBV := Lib.hid hbV
              clear hms hst hp hV hbV HST0
              go_upto_region 20 with fail
              rw [HV.out]
              go_region
              obtain ⟨V1, hV1⟩ : ∃ V1, V.drew = V1 := ⟨_, rfl⟩
              rw [hV1]
              have hbV1 : Below wr.heap.size wr V1 := by rw [← hV1]; exact HBV.out.drew
              have hc1 := own_below HST.out.c hbV1
              have ht1 := own_below HST.out.t hbV1
              have hb1 := HST.out.bel.trans (hbV1.mono HST.out.bel.size)
              have hs1 := hb1.size
              have hap := HST.out.apart
              have htx := HST.out.txt
              subst htx
              have hcl := cps_len x (l.take k) 0
              have htl := tps_len y (l.take k) 0
              have hkl : (l.take k).length = k := by rw [List.length_take, HLEN.out]; omega
              have htk : l.take (k + 1) = l.take k ++ [p] := by rw [List.take_add_one, HP.out]; rfl
              have zt : (tb (textOf (items x y (l.take k)))).size ≤ 16 * 78 := tb_few _ (by rw [items_len]; omega)
              have hni : items x y (l.take (k + 1)) = items x y (l.take k) ++ [oit x y k p] := by
                rw [htk, items, oits_snoc, ← List.append_assoc, hkl, Nat.zero_add]; rfl
              have hnc : cps x 0 (l.take (k + 1)) = cps x 0 (l.take k) ++ (if k % 2 = 0 then [(p.1 % x, p.2 % x)] else []) := by rw [htk, cps_snoc, hkl, Nat.zero_add]
              have hnt : tps y 0 (l.take (k + 1)) = tps y 0 (l.take k) ++ (if k % 2 = 0 then [] else [(p.1 % y, p.2 % y)]) := by rw [htk, tps_snoc, hkl, Nat.zero_add]
              rw [hkl] at hcl htl
              generalize items x y (l.take k) = its at *
              generalize cps x 0 (l.take k) = cl at *
              generalize tps y 0 (l.take k) = tl at *
              have HC := Lib.hid hc1; have HT1 := Lib.hid ht1; have HB2 := Lib.hid hb1; have HAP := Lib.hid hap; have HNI := Lib.hid hni; have HNC := Lib.hid hnc; have HNT := Lib.hid hnt
              clear hc1 ht1 hb1 hap hni hnc hnt htk hkl hbV1 HST HP HV HBV hV1 z0 z1 y0 y1
              by_cases hpar : k % 2 = 0
              · have hpar' : ((k : Int) % 2 == 0) = true := by
                  have : (k : Int) % 2 = 0 := by omega
                  simp [this]
                obtain ⟨a1, ha1, ha1', ha1x⟩ : ∃ a1 : Nat, (p.1 : Int).tmod (x : Int) = (a1 : Int) ∧ p.1 % x = a1 ∧ a1 < x := ⟨p.1 % x, rfl, rfl, Nat.mod_lt _ hx1⟩
                obtain ⟨b1, hb1, hb1', hb1x⟩ : ∃ b1 : Nat, (p.2 : Int).tmod (x : Int) = (b1 : Int) ∧ p.2 % x = b1 ∧ b1 < x := ⟨p.2 % x, rfl, rfl, Nat.mod_lt _ hx1⟩
                have hx0 : x ≠ 0 := by omega
                have hNM := fun W => lname_any W 99 a1 (.inl rfl) (by omega)
                have hNM2 := fun W => lname_any W 99 b1 (.inl rfl) (by omega)
                have HNM := Lib.hid hNM; have HNM2 := Lib.hid hNM2
                have za : (⟨(nm 99 a1).toArray⟩ : ByteArray).size = 3 := rfl
                have zb : (⟨(nm 99 b1).toArray⟩ : ByteArray).size = 3 := rfl
                have hsum : ¬ (9223372036854775807 < (tb (textOf its)).size + 16) := by omega
                have hnb : ((V1.alloc (.cells #[.int .i64 (a1 : Int), .int .i64 (b1 : Int)] 27)).drew).heap[V1.heap.size]? = some (.cells #[.int .i64 (a1 : Int), .int .i64 (b1 : Int)] 27 (0, 0)) := heap_alloc_new V1 _
                have HNB := Lib.hid hnb
                clear hNM hNM2 hnb
                go_upto_region 22 with fail
                go_region_law (refine step_append_lies _ (by rfl) (.tmp 86) (.tmp 94) 25 (by rfl) w.heap.size 27 i0 _ 2 16 Tryz.underlying25 HI.out HZ.out HZ1.out HZ2.out rfl (by omega) u13 cl.length (cells2 cl) (by rfl) ((HC.out.alloc _).drew) ⟨V1.heap.size, 0, none⟩ 1 1 (cell2 (a1, b1)) (by rfl) (by rfl) (World.news_of_block (cs := #[.int .i64 (a1 : Int), .int .i64 (b1 : Int)]) (t := 27) (fr := (0, 0)) HNB.out) (fun u hu => by simp [cell2] at hu; rcases hu with rfl | rfl <;> rfl) (by omega) (by unfold maxLen; omega) (by omega) (by simp; omega) (V1.heap.size + 1) (by simp) ?_; intro g cap5 w5 hown5 hgrow5 hat5 hlt5; have G := row_grow HC.out HT1.out HAP.out HB2.out hgrow5 hown5 hat5)
                all_goals
                  obtain ⟨u13', hu13⟩ : ∃ u13' : Value, Value.slice (some ⟨g, 0, none⟩) (cl.length + 1) cap5 = u13' := ⟨_, rfl⟩
                  have hub : u13'.ownBlock = some g := by rw [← hu13]; rfl
                  rw [hu13] at hown5 ⊢
                  obtain ⟨G1, G2, G3⟩ := G
                  have hst : LawSt w x y l (k + 1) (.string (tb (textOf (its ++ [It.od 99 a1 b1])))) u13' u14 w5 := by
                    refine ⟨?_, ?_, ?_, ?_, G2⟩
                    · rw [HNI.out, oit, if_pos hpar, ha1', hb1']
                    · rw [HNC.out, if_pos hpar, ha1', hb1', List.length_append, cells2_snoc]; exact hown5
                    · rw [HNT.out, if_pos hpar, List.append_nil]; exact G1
                    · intro g' hg'; rw [hub] at hg'; injection hg' with hg'; subst hg'; exact G3
                  have HST := Lib.hid hst
                  clear hst hown5 hgrow5 hat5 hlt5 G1 G2 G3 hub hu13 HC HT1 HB2 HAP HNI HNC HNT HNB
                  go_upto_region 23 with fail
                  go_region_held2 (fun W => W = w5.drew) (first | rfl | assumption) (first | ((with_reducible refine (HNM.out _).mono ?_); rintro e w' ⟨rfl, rfl⟩) | ((with_reducible refine (HNM2.out _).mono ?_); rintro e w' ⟨rfl, rfl⟩))
                  rw [od_next]
                  go_wp2
                  exact ⟨⟨k + 1, by omega, by go_num, HST.out.drew⟩, HMS.out⟩
              · have hpar' : ((k : Int) % 2 == 0) = false := by
                  have : (k : Int) % 2 = 1 := by omega
                  simp [this]
                obtain ⟨a1, ha1, ha1', ha1x⟩ : ∃ a1 : Nat, (p.1 : Int).tmod (y : Int) = (a1 : Int) ∧ p.1 % y = a1 ∧ a1 < y := ⟨p.1 % y, rfl, rfl, Nat.mod_lt _ hy1⟩
                obtain ⟨b1, hb1, hb1', hb1x⟩ : ∃ b1 : Nat, (p.2 : Int).tmod (y : Int) = (b1 : Int) ∧ p.2 % y = b1 ∧ b1 < y := ⟨p.2 % y, rfl, rfl, Nat.mod_lt _ hy1⟩
                have hy0 : y ≠ 0 := by omega
                have hNM := fun W => lname_any W 105 a1 (.inr rfl) (by omega)
                have hNM2 := fun W => lname_any W 105 b1 (.inr rfl) (by omega)
                have HNM := Lib.hid hNM; have HNM2 := Lib.hid hNM2
                have za : (⟨(nm 105 a1).toArray⟩ : ByteArray).size = 3 := rfl
                have zb : (⟨(nm 105 b1).toArray⟩ : ByteArray).size = 3 := rfl
                have hsum : ¬ (9223372036854775807 < (tb (textOf its)).size + 16) := by omega
                have hnb : ((V1.alloc (.cells #[.int .i64 (a1 : Int), .int .i64 (b1 : Int)] 27)).drew).heap[V1.heap.size]? = some (.cells #[.int .i64 (a1 : Int), .int .i64 (b1 : Int)] 27 (0, 0)) := heap_alloc_new V1 _
                have HNB := Lib.hid hnb
                clear hNM hNM2 hnb
                go_upto_region 24 with fail
                go_region_law (refine step_append_lies _ (by rfl) (.tmp 112) (.tmp 120) 25 (by rfl) w.heap.size 27 i0 _ 2 16 Tryz.underlying25 HI.out HZ.out HZ1.out HZ2.out rfl (by omega) u14 tl.length (cells2 tl) (by rfl) ((HT1.out.alloc _).drew) ⟨V1.heap.size, 0, none⟩ 1 1 (cell2 (a1, b1)) (by rfl) (by rfl) (World.news_of_block (cs := #[.int .i64 (a1 : Int), .int .i64 (b1 : Int)]) (t := 27) (fr := (0, 0)) HNB.out) (fun u hu => by simp [cell2] at hu; rcases hu with rfl | rfl <;> rfl) (by omega) (by unfold maxLen; omega) (by omega) (by simp; omega) (V1.heap.size + 1) (by simp) ?_; intro g cap5 w5 hown5 hgrow5 hat5 hlt5; have G := row_grow HT1.out HC.out (fun g h1 h2 => HAP.out g h2 h1) HB2.out hgrow5 hown5 hat5)
                all_goals
                  obtain ⟨u14', hu14⟩ : ∃ u14' : Value, Value.slice (some ⟨g, 0, none⟩) (tl.length + 1) cap5 = u14' := ⟨_, rfl⟩
                  have hub : u14'.ownBlock = some g := by rw [← hu14]; rfl
                  rw [hu14] at hown5 ⊢
                  obtain ⟨G1, G2, G3⟩ := G
                  have hst : LawSt w x y l (k + 1) (.string (tb (textOf (its ++ [It.od 105 a1 b1])))) u13 u14' w5 := by
                    refine ⟨?_, ?_, ?_, ?_, G2⟩
                    · rw [HNI.out, oit, if_neg hpar, ha1', hb1']
                    · rw [HNC.out, if_neg hpar, List.append_nil]; exact G1
                    · rw [HNT.out, if_neg hpar, ha1', hb1', List.length_append, cells2_snoc]; exact hown5
                    · intro g' hg' e2; rw [hub] at e2; injection e2 with e2; subst e2; exact G3 hg'
                  have HST := Lib.hid hst
                  clear hst hown5 hgrow5 hat5 hlt5 G1 G2 G3 hub hu14 HC HT1 HB2 HAP HNI HNC HNT HNB
                  go_upto_region 25 with fail
                  go_region_held2 (fun W => W = w5.drew) (first | rfl | assumption) (first | ((with_reducible refine (HNM.out _).mono ?_); rintro e w' ⟨rfl, rfl⟩) | ((with_reducible refine (HNM2.out _).mono ?_); rintro e w' ⟨rfl, rfl⟩))
                  rw [od_next]
                  go_wp2
                  exact ⟨⟨k + 1, by omega, by go_num, HST.out.drew⟩, HMS.out⟩
            · obtain rfl : len = k := by omega
              have htk : l.take len = l := List.take_of_length_le (by rw [HLEN.out]; omega)
              have htx := hst.txt
              have hc := hst.c
              have ht := hst.t
              have hbe := hst.bel
              rw [htk] at htx hc ht
              subst htx
              have zt : (tb (textOf (items x y l))).size ≤ 16 * 78 := tb_few _ (by rw [items_len, HLEN.out]; omega)
              have hsum : ¬ (9223372036854775807 < (tb (textOf (items x y l))).size + 13) := by omega
              have hat : tb (textOf (items x y l)) ++ (⟨#[97, 116, 116, 97, 99, 107, 101, 114, 32, 105, 95, 97, 59]⟩ : ByteArray) = ⟨(textOf (items x y l) ++ attText).toArray⟩ := tb_cat _ attText
              have hPs := parse_items wr (Utf8Tabs_below HT.out hbe) x y l hx1 hx9 hy1 hy9 (by rw [HLEN.out]; omega)
              rw [← hat] at hPs
              have HPS := Lib.hid hPs; have HC := Lib.hid hc; have HTT := Lib.hid ht; have HBE := Lib.hid hbe
              clear hPs hc ht hbe hst htk hat HST0 zt hk hlt
              have h100 : decide ((100 : Int) < (len : Int) + (x : Int) + (y : Int) + 1) = false := by simp; omega
              go_wp2_with fail
              refine HPS.out.mono ?_
              rintro e w2 ⟨hb2, q, b1, c1, b2, c2, bo, c3, R, rfl, hP2, hO⟩
              have hLt := lattice_items w2 q b1 c1 b2 c2 bo c3 R x y l hx1 hx9 hy1 hy9 hP2 hO
              have HLT := Lib.hid hLt; have HP2 := Lib.hid hP2; have HO := Lib.hid hO; have HB2 := Lib.hid (HBE.out.trans (hb2.mono HBE.out.size)); have HC2 := Lib.hid (own_below HC.out hb2); have HT2 := Lib.hid (own_below HTT.out hb2)
              clear hLt hP2 hO hb2 HPS HC HTT HBE hsum
              obtain ⟨ka, kc, rfl⟩ := own_form HC2.out
              obtain ⟨ta, tc, rfl⟩ := own_form HT2.out
              have hcl := cps_len x l 0
              have htl := tps_len y l 0
              rw [HLEN.out] at hcl htl
              have hNc := fun W (hb : Below w2.heap.size w2 W) => Od.new_good W x ka kc (cps x 0 l) hx1 (by omega) (by omega) (pairs_of_own (own_below HC2.out hb))
              have hNt := fun W (hb : Below w2.heap.size w2 W) => Od.new_good W y ta tc (tps y 0 l) hy1 (by omega) (by omega) (pairs_of_own (own_below HT2.out hb))
              generalize cps x 0 l = cl at *
              generalize tps y 0 l = tl at *
              have HNC := Lib.hid hNc; have HNT := Lib.hid hNt
              clear hNc hNt
              go_wp2_with fail
              refine HLT.out.mono ?_
              rintro e w3 ⟨hb3, ⟨hn, t, v, rfl⟩ | ⟨hg1, hg2, o1, a1, u1, f1, s1, o2, a2, u2, f2, s2, rfl, ho1, ho2, hB1, hB2⟩⟩
              · obtain ⟨V3, hV3⟩ : ∃ V, w3.alloc (.cells #[.pointer none, .pointer none] 35) = V := ⟨_, rfl⟩
                have hbV3 : Below w2.heap.size w2 V3 := by rw [← hV3]; exact hb3.alloc hb3.size _
                have hN := HNC.out V3 hbV3
                have HN := Lib.hid hN; have HV3 := Lib.hid hV3; have HBV3 := Lib.hid hbV3; have HNG := Lib.hid hn
                clear hN hV3 hbV3 hb3 hn HLT
                go_wp2_with fail
                rw [HV3.out]
                refine HN.out.mono ?_
                rintro e w4 ⟨hb4, ⟨hn1, cc, hcc, rfl⟩ | ⟨hgd, o, ba, bu, f, u, rfl, _, _⟩⟩
                · have hbW4 := HBV3.out.trans (hb4.mono HBV3.out.size)
                  have hN2 := HNT.out w4 hbW4
                  have hcc' : (cc != 0) = true := by simpa using hcc
                  have HN2 := Lib.hid hN2; have HBW4 := Lib.hid hbW4
                  clear hN2 hbW4 hb4 hn1 hcc HN
                  go_wp2_with fail
                  refine HN2.out.mono ?_
                  rintro e w5 ⟨hb5, ⟨_, dd, _, rfl⟩ | ⟨_, o', _, _, _, _, rfl, _, _⟩⟩
                  all_goals
                    have hbW5 := HBW4.out.trans (hb5.mono HBW4.out.size)
                    have HB5 := Lib.hid (HB2.out.trans (hbW5.mono HB2.out.size))
                    clear hb5 hbW5 HN2
                    go_wp2
                    go_ret
                    exact ⟨rfl, HB5.out⟩
                · have hbW4 := HBV3.out.trans (hb4.mono HBV3.out.size)
                  have hN2 := HNT.out w4 hbW4
                  have HN2 := Lib.hid hN2; have HBW4 := Lib.hid hbW4
                  clear hN2 hbW4 hb4 HN
                  go_wp2_with fail
                  refine HN2.out.mono ?_
                  rintro e w5 ⟨hb5, ⟨_, dd, hdd, rfl⟩ | ⟨hgd2, _⟩⟩
                  · have hdd' : (dd != 0) = true := by simpa using hdd
                    have hbW5 := HBW4.out.trans (hb5.mono HBW4.out.size)
                    have HB5 := Lib.hid (HB2.out.trans (hbW5.mono HB2.out.size))
                    clear hb5 hbW5 HN2 hdd
                    go_wp2
                    go_ret
                    exact ⟨rfl, HB5.out⟩
                  · exact absurd ⟨hgd, hgd2⟩ HNG.out
              obtain ⟨V3, hV3⟩ : ∃ V, w3.alloc (.cells #[.pointer (some ⟨o1, 0, none⟩), .pointer (some ⟨o2, 0, none⟩)] 35) = V := ⟨_, rfl⟩
              have hbw3 : Below w3.heap.size w3 V3 := by rw [← hV3]; exact (Below.refl _ w3).alloc (Nat.le_refl _) _
              have kl : V3.heap[w3.heap.size]? = some (.cells #[.pointer (some ⟨o1, 0, none⟩), .pointer (some ⟨o2, 0, none⟩)] 35 (0, 0)) := by rw [← hV3]; exact blk_new w3 _
              have hbV3 := hb3.trans (hbw3.mono hb3.size)
              have hN := HNC.out V3 hbV3
              have HN := Lib.hid hN; have HV3 := Lib.hid hV3; have HBV3 := Lib.hid hbV3; have HKL := Lib.hid kl; have HO1 := Lib.hid (ho1.below hx1 hbw3); have HO2 := Lib.hid (ho2.below hy1 hbw3); have HBU1 := Lib.hid hB1; have HBU2 := Lib.hid hB2; have HG1 := Lib.hid hg1; have HG2 := Lib.hid hg2
              clear hN hV3 hbV3 hb3 hbw3 kl ho1 ho2 hB1 hB2 hg1 hg2 HLT
              go_wp2_with fail
              rw [HV3.out]
              refine HN.out.mono ?_
              rintro e w4 ⟨hb4, ⟨hn1, _⟩ | ⟨_, o, ba, bu, f, u, rfl, ho, hBu⟩⟩
              · exact absurd HG1.out hn1
              have hbW4 := HBV3.out.trans (hb4.mono HBV3.out.size)
              have hN2 := HNT.out w4 hbW4
              have hk4 := (hb4.block _ (lt_of_heap HKL.out)).trans HKL.out
              have HN2 := Lib.hid hN2; have HBW4 := Lib.hid hbW4; have HKL4 := Lib.hid hk4; have HO14 := Lib.hid (HO1.out.below hx1 hb4); have HO24 := Lib.hid (HO2.out.below hy1 hb4); have HOC := Lib.hid ho; have HBU := Lib.hid hBu
              clear hN2 hbW4 hk4 hb4 ho hBu HN HV3 HBV3 HKL HO1 HO2
              go_wp2_with fail
              refine HN2.out.mono ?_
              rintro e w5 ⟨hb5, ⟨hn1, _⟩ | ⟨_, oq, qa, qu, fq, uq, rfl, hoq, hBq⟩⟩
              · exact absurd HG2.out hn1
              have hbW5 := HBW4.out.trans (hb5.mono HBW4.out.size)
              have hk5 := (hb5.block _ (lt_of_heap HKL4.out)).trans HKL4.out
              have l0 : w5.cell? ⟨w3.heap.size, 0, none⟩ = some (.pointer (some ⟨o1, 0, none⟩)) := (blk_cell hk5 0).trans rfl
              have l1 : w5.cell? ⟨w3.heap.size, 1, none⟩ = some (.pointer (some ⟨o2, 0, none⟩)) := (blk_cell hk5 1).trans rfl
              have HBW5 := Lib.hid hbW5; have HO15 := Lib.hid (HO14.out.below hx1 hb5); have HO25 := Lib.hid (HO24.out.below hy1 hb5); have HOC5 := Lib.hid (HOC.out.below hx1 hb5); have HOQ := Lib.hid hoq; have HP5 := Lib.hid (HP2.out.below hbW5)
              have hF := Od.built_unique HBU1.out HBU.out
              have hQ := Od.built_unique HBU2.out hBq
              have HF := Lib.hid hF; have HQ := Lib.hid hQ; have HKL5 := Lib.hid hk5
              clear hbW5 hk5 hb5 hoq hBq hF hQ HN2 HO14 HO24 HOC HKL4 HBW4 HP2
              go_wp2_with fail
              go_loopw [186] (fun i wr' => ∃ k : Nat, k ≤ x ∧ i = .int .i64 (k : Int) ∧ wr' = w5) (fun i _ => x - (intOf i).toNat)
              case atStart => exact ⟨0, Nat.zero_le _, rfl, rfl⟩
              case round =>
                obtain ⟨i, hi, rfl, rfl⟩ := hrel
                by_cases hix : i < x
                · have hms : x - (intOf (Value.int IntKind.i64 ((i : Int) + 1))).toNat < x - (intOf (Value.int IntKind.i64 (i : Int))).toNat := by simp [intOf]; omega
                  have HMS := Lib.hid hms
                  clear hms
                  go_wp2_with fail
                  go_loopw [190] (fun j wr' => ∃ k : Nat, k ≤ x ∧ j = .int .i64 (k : Int) ∧ wr' = wr) (fun j _ => x - (intOf j).toNat)
                  case atStart => exact ⟨0, Nat.zero_le _, rfl, rfl⟩
                  case round =>
                    obtain ⟨j, hj, rfl, rfl⟩ := hrel
                    by_cases hjx : j < x
                    · have hms2 : x - (intOf (Value.int IntKind.i64 ((j : Int) + 1))).toNat < x - (intOf (Value.int IntKind.i64 (j : Int))).toNat := by simp [intOf]; omega
                      have q1 := Od.below_lat _ o1 x a1 u1 f1 s1 i j HO15.out hix hjx
                      have q2 := Od.below_lat _ o x ba bu f u i j HOC5.out hix hjx
                      rw [← HF.out.1 i hix] at q2
                      generalize (f1 i).testBit j = bb at q1 q2
                      have HMS2 := Lib.hid hms2; have HQ1 := Lib.hid q1; have HQ2 := Lib.hid q2
                      clear hms2 q1 q2
                      go_wp2_with fail
                      refine HQ1.out.mono ?_
                      rintro e w' ⟨rfl, rfl⟩
                      go_wp2_with fail
                      refine HQ2.out.mono ?_
                      rintro e w' ⟨rfl, rfl⟩
                      cases bb
                      all_goals
                        go_wp2
                        exact ⟨⟨j + 1, by omega, by go_num, trivial⟩, HMS2.out⟩
                    · clear hj
                      go_wp2
                      exact ⟨⟨i + 1, by omega, by go_num, trivial⟩, HMS.out⟩
                · clear hi
                  have q0 := Od.len_any wr o2 y a2 HO25.out.c0
                  have qb1 := fun W (hb : Below wr.heap.size wr W) => Od.bottom_any W o2 y a2 u2 f2 s2 (HO25.out.below hy1 hb)
                  have qb2 := fun W (hb : Below wr.heap.size wr W) => Od.bottom_any W oq y qa qu fq uq (HOQ.out.below hy1 hb)
                  have qt1 := fun W (hb : Below wr.heap.size wr W) => Od.top_any W o2 y a2 u2 f2 s2 (HO25.out.below hy1 hb)
                  have qt2 := fun W (hb : Below wr.heap.size wr W) => Od.top_any W oq y qa qu fq uq (HOQ.out.below hy1 hb)
                  rw [← Od.M.findN_congr HQ.out.1] at qb2
                  rw [← Od.M.findN_congr HQ.out.2] at qt2
                  generalize Od.M.findN f2 (Od.M.full y) y = r1 at qb1 qb2
                  generalize Od.M.findN s2 (Od.M.full y) y = r2 at qt1 qt2
                  have HQ0 := Lib.hid q0; have HQB1 := Lib.hid qb1; have HQB2 := Lib.hid qb2; have HQT1 := Lib.hid qt1; have HQT2 := Lib.hid qt2
                  clear q0 qb1 qb2 qt1 qt2
                  go_wp2_with fail
                  refine HQ0.out.mono ?_
                  rintro e w' ⟨rfl, rfl⟩
                  go_wp2_with fail
                  refine (HQB1.out _ (Below.refl _ _)).mono ?_
                  rintro e w6 ⟨rfl, k6, hw6⟩
                  have hb6 : Below wr.heap.size wr w6 := by rw [hw6]; exact below_drewN (Below.refl _ _) k6
                  have l16 := cell_below l1 hb6
                  clear hw6
                  go_wp2_with fail
                  refine (HQB2.out _ hb6).mono ?_
                  rintro e w7 ⟨rfl, k7, hw7⟩
                  have hb7 : Below wr.heap.size wr w7 := by rw [hw7]; exact below_drewN hb6 k7
                  have l17 := cell_below l1 hb7
                  clear hw7 hb6 l16
                  go_wp2_with fail
                  refine (HQT1.out _ hb7).mono ?_
                  rintro e w8 ⟨rfl, k8, hw8⟩
                  have hb8 : Below wr.heap.size wr w8 := by rw [hw8]; exact below_drewN hb7 k8
                  clear hw8 hb7 l17
                  go_wp2_with fail
                  refine (HQT2.out _ hb8).mono ?_
                  rintro e w9 ⟨rfl, k9, hw9⟩
                  have hb9 : Below wr.heap.size wr w9 := by rw [hw9]; exact below_drewN hb8 k9
                  have hP9 := HP5.out.below hb9
                  have g19 := hP9.g1
                  have HN9 := Lib.hid (none_items w9 q b1 c1 b2 c2 bo c3 R x y l hP9 HO.out); have HB9 := Lib.hid hb9
                  clear hw9 hb8 hb9 hP9
                  go_wp2_with fail
                  refine HN9.out.mono ?_
                  rintro e w10 ⟨rfl, hb10⟩
                  have hB10 := HB9.out.trans (hb10.mono HB9.out.size)
                  have hC10 := HBW5.out.trans (hB10.mono HBW5.out.size)
                  have HD10 := Lib.hid (HB2.out.trans (hC10.mono HB2.out.size))
                  clear hb10 hB10 hC10
                  go_wp2
                  go_ret
                  exact ⟨rfl, HD10.out⟩
end Go.Proofs.YtcelelnmphdlbaaGreatDoor
