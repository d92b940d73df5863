/- The law: any nodes, added one by one. -/
import Derived.Test.YtdflonniicnndaaAns
import Derived.Test.YtdflonniicnndaaSomeOf
namespace Go.Proofs.Ytdflonniicnndaa
open Go.RowKit Go.Shelf Tn

attribute [local go_sem] Oper.semAt_some

set_option maxRecDepth 100000 in
set_option maxHeartbeats 8000000 in
theorem law_any (w : World) (ao0 : Option Addr) (cap0 : Nat) (L : List Nd) (iv : Int) (sn : Nat) (hA : NodesAt w.heap.size w ao0 L) (hL : L.length ≤ 140737488355328) (hS : ∀ i, i < L.length → (nd L i).op.size ≤ 140737488355328 ∧ (nd L i).name.size ≤ 140737488355328 ∧ (nd L i).kids.length ≤ 140737488355328)
    (hi0 : -128 ≤ iv) (hi1 : iv ≤ 127) (hs1 : sn ≤ 255) :
    Calls Try.prog 3 #[.slice ao0 L.length cap0, .int .i8 iv, .int .u8 (sn : Int)] w fun e w' => e = .returned (.bool true) ∧ Below w.heap.size w w' := by
  obtain ⟨b0, hb0⟩ : ∃ b0, w.heap.size = b0 := ⟨_, rfl⟩
  have hb1 : Below b0 w ((w.alloc (.cells #[.int .u8 (sn : Int)] 5)).alloc (.cells #[.bool false] 4)) := by rw [← hb0]; exact ((Below.refl _ w).alloc (Nat.le_refl _) _).alloc (by simp) _
  have hs1' : ((w.alloc (.cells #[.int .u8 (sn : Int)] 5)).alloc (.cells #[.bool false] 4)).heap[b0]? = some (.cells #[.int .u8 (sn : Int)] 5 (0, 0)) := by rw [← hb0]; exact blk_alloc (blk_new w _) _
  have hr1 : ((w.alloc (.cells #[.int .u8 (sn : Int)] 5)).alloc (.cells #[.bool false] 4)).heap[b0 + 1]? = some (.cells #[.bool false] 4 (0, 0)) := by
    rw [← hb0]; have := blk_new (w.alloc (.cells #[.int .u8 (sn : Int)] 5)) (.cells #[.bool false] 4); rwa [World.size_alloc] at this
  have HA := Lib.hid hA; have HS := Lib.hid hS; have H0 := Lib.hid hb0; have HB1 := Lib.hid hb1; have HSB := Lib.hid hs1'; have HR1 := Lib.hid hr1
  clear hA hS hb0 hb1 hs1' hr1
  refine (callsIn_wide (n := 0)).1 ?_
  refine callsIn_of_wp_marks Try.func3 rfl trivial ?_ rfl
  simp only [Try.ntmps3, List.size_toArray, List.length_cons, List.length_nil, Nat.reduceAdd, Nat.reduceSub, Array.replicate_succ, Array.replicate_zero, List.push_toArray, List.append_toArray, List.nil_append, List.cons_append]
  refine wpIn_wide.2 ?_
  go_upto_region 1 with fail
  rw [H0.out]
  generalize (w.alloc (.cells #[.int .u8 (sn : Int)] 5)).alloc (.cells #[.bool false] 4) = w1 at *
  have hz1 : b0 ≤ w1.heap.size := by have := HB1.out.size; rw [H0.out] at this; exact this
  have hn1 : NodesAt w1.heap.size w1 ao0 L := (HA.out.below (by rw [H0.out]; exact HB1.out)).mono (by rw [H0.out]; exact hz1)
  have HN1 := Lib.hid hn1
  clear hn1
  go_wp2_with fail
  refine (lives_any w1).mono ?_
  rintro e w2 ⟨rfl, hb2⟩
  go_wp2_with fail
  refine (small_any w2 ao0 cap0 L ((HN1.out.below hb2).mono hb2.size) hL HS.out).mono ?_
  rintro e w3 ⟨b, rfl, hok, hb3⟩
  have hb3' : Below w1.heap.size w1 w3 := hb2.trans (hb3.mono hb2.size)
  have HB3 := Lib.hid hb3'; have HOK := Lib.hid hok
  clear hb2 hb3 hb3' hok
  cases b with
  | false =>
    go_wp2_with fail
    refine (lives_any w3).mono ?_
    rintro e w4 ⟨rfl, hb4⟩
    have hr4 := ((HB3.out.trans (hb4.mono HB3.out.size)).block _ (lt_of_heap HR1.out)).trans HR1.out
    have hc4 : w4.cell? ⟨b0 + 1, 0, none⟩ = some (.bool false) := (blk_cell hr4 0).trans rfl
    have hf4 := blk_frozen hr4 0
    have hB4 := HB1.out.trans ((HB3.out.trans (hb4.mono HB3.out.size)).mono hz1)
    have HB4 := Lib.hid hB4
    clear hB4 hb4
    go_wp2
    have hq : (w4.setCell ⟨b0 + 1, 0, none⟩ (.bool true)).cell? ⟨b0 + 1, 0, none⟩ = some (.bool true) := (blk_cell (blk_set hr4 0 (.bool true)) 0).trans rfl
    exact ⟨.bool true, by simp [results, Try.f3, go_sem, hq], rfl, by rw [H0.out]; exact HB4.out.setCell (p := ⟨b0 + 1, 0, none⟩) (by simp) _⟩
  | true =>
    obtain ⟨hL2, hK2, hgood⟩ := HOK.out rfl
    have HK2 := Lib.hid hK2; have HG := Lib.hid hgood
    clear hK2 hgood HOK
    go_wp2_with fail
    refine (of_any w3 ao0 cap0 L ((HN1.out.below HB3.out).mono HB3.out.size) hL2 HK2.out).mono ?_
    rintro e w4 ⟨bt, ao, cap, mo, mc, rfl, htree, hnodes, hb4⟩
    have hb5 : Below w4.heap.size w4 (w4.alloc (.cells #[.slice mo (build L).length mc] 22)) := (Below.refl _ _).alloc (Nat.le_refl _) _
    have hm5 : (w4.alloc (.cells #[.slice mo (build L).length mc] 22)).heap[w4.heap.size]? = some (.cells #[.slice mo (build L).length mc] 22 (0, 0)) := blk_new _ _
    have hwf := WF.ofBuild L
    have hfew : ∀ i, i < (build L).length → (nd (build L) i).kids.length ≤ 2000 := few_build HK2.out
    have hblen := build_len L
    have hbB : Below w1.heap.size w1 w4 := HB3.out.trans (hb4.mono HB3.out.size)
    have HT := Lib.hid htree; have HND := Lib.hid hnodes; have HB5 := Lib.hid hb5; have HM5 := Lib.hid hm5; have HWF := Lib.hid hwf; have HFEW := Lib.hid hfew; have HBB := Lib.hid hbB
    clear htree hnodes hb5 hm5 hwf hfew hb4 hbB HK2 HN1
    generalize build L = ms at *
    go_upto_region 6 with fail
    have hlm : LMem w b0 (w4.alloc (.cells #[.slice mo ms.length mc] 22)).heap.size bt ao cap w4.heap.size mo mc ms sn (w4.alloc (.cells #[.slice mo ms.length mc] 22)) := by
      have q1 := HB5.out.size
      have q2 := HBB.out.size
      have q3 := lt_of_heap HR1.out
      have q4 := lt_of_heap HM5.out
      refine ⟨(HT.out.below HB5.out).mono q1, (HND.out.below HB5.out).mono q1, (blk_cell HM5.out 0).trans rfl, ?_, ?_, q4, by omega, Nat.le_refl _, HB1.out.trans ((HBB.out.trans (HB5.out.mono q2)).mono hz1)⟩
      · exact (blk_cell (((HBB.out.trans (HB5.out.mono q2)).block _ (lt_of_heap HSB.out)).trans HSB.out) 0).trans rfl
      · exact ((HBB.out.trans (HB5.out.mono q2)).block _ q3).trans HR1.out
    generalize w4.alloc (.cells #[.slice mo ms.length mc] 22) = w5 at *
    generalize w4.heap.size = bm at *
    obtain ⟨N, hN⟩ : ∃ N, w5.heap.size = N := ⟨_, rfl⟩
    rw [hN] at hlm
    have HLM := Lib.hid hlm
    have cm := hlm.mbox
    clear hlm HB5 HM5 HT HND HBB HR1 HSB HB3 HB1
    go_wp2_with fail
    go_loopw [40] (fun k wr => ∃ j : Nat, j ≤ ms.length ∧ k = .int .i64 j ∧ Below N w5 wr) (fun k _ => ms.length - (intOf k).toNat)
    case atStart => exact ⟨0, Nat.zero_le _, rfl, Below.refl _ _⟩
    case round =>
      obtain ⟨j, hj, rfl, hbel⟩ := hrel
      have hlw := HLM.out.later hbel
      have HLW := Lib.hid hlw; have HBEL := Lib.hid hbel
      clear hlw hbel cm
      by_cases hjl : j < ms.length
      · have hkl := HFEW.out j hjl
        have hgy := get_yes N bt ao cap ms j wr HLW.out.tree HLW.out.size hjl hkl
        have HGY := Lib.hid hgy
        clear hgy
        go_wp2_with fail
        refine HGY.out.mono ?_
        rintro e w6 ⟨ka, kc, rfl, hown, hb6⟩
        clear HGY
        have hb7 : Below w6.heap.size w6 (w6.alloc (.cells #[.string (nd ms j).op, .int .i64 (nd ms j).line, .int .i64 (nd ms j).col, .string (nd ms j).name, .int .i64 (nd ms j).num, .slice ka (nd ms j).kids.length kc] 33)) := (Below.refl _ _).alloc (Nat.le_refl _) _
        have s7 : Six (w6.alloc (.cells #[.string (nd ms j).op, .int .i64 (nd ms j).line, .int .i64 (nd ms j).col, .string (nd ms j).name, .int .i64 (nd ms j).num, .slice ka (nd ms j).kids.length kc] 33)) w6.heap.size 33 (.string (nd ms j).op) (.int .i64 (nd ms j).line) (.int .i64 (nd ms j).col) (.string (nd ms j).name) (.int .i64 (nd ms j).num) (.slice ka (nd ms j).kids.length kc) := ⟨blk_new _ _⟩
        have HO := Lib.hid hown; have HB6 := Lib.hid hb6; have HB7 := Lib.hid hb7; have S7 := Lib.hid s7
        clear hown hb6 hb7 s7
        simp only [nval]
        go_upto_region 10 with fail
        generalize w6.alloc (.cells #[.string (nd ms j).op, .int .i64 (nd ms j).line, .int .i64 (nd ms j).col, .string (nd ms j).name, .int .i64 (nd ms j).num, .slice ka (nd ms j).kids.length kc] 33) = w7 at *
        have ho7 : w7.ownsRow wr.heap.size 3 1 (.slice ka (nd ms j).kids.length kc) (nd ms j).kids.length (ints (nd ms j).kids) := (But.of_below (p := fun _ => False) HB7.out).own HO.out (fun _ _ e => e)
        have hb7 : Below wr.heap.size wr w7 := HB6.out.trans (HB7.out.mono HB6.out.size)
        obtain ⟨bn, hbn⟩ : ∃ bn, w6.heap.size = bn := ⟨_, rfl⟩
        rw [hbn] at S7 ⊢
        have hbn' : wr.heap.size ≤ bn := by rw [← hbn]; exact HB6.out.size
        clear HO HB6 HB7 hbn
        have hl7 := HLW.out.later (hb7.mono HLW.out.size)
        obtain ⟨b, o, kb, cb, rfl, hnd⟩ := hl7.nodes j hjl
        have k1 : ∀ x : Later w7, Calls Try.prog 8 #[.agg #[.string (nd ms j).op, .int .i64 (nd ms j).line, .int .i64 (nd ms j).col, .string (nd ms j).name, .int .i64 (nd ms j).num, .slice ka (nd ms j).kids.length kc], .agg #[.string (nd ms j).op, .int .i64 (nd ms j).line, .int .i64 (nd ms j).col, .string (nd ms j).name, .int .i64 (nd ms j).num, .slice kb (nd ms j).kids.length cb]] x.wx
            fun e w'' => e = .returned (.bool true) ∧ ∃ y : Later w7, w'' = y.wx := fun x => calls_later (node_same w7.heap.size N (nd ms j) ka kb kc cb x.wx ((own_ints ho7).below x.le) (hnd.kids.below (x.le.mono hl7.size)) hkl)
        have K1 := Lib.hid k1; have HO7 := Lib.hid ho7; have HB7 := Lib.hid hb7; have HL7 := Lib.hid hl7
        have y0 := fun x : Later w7 => Later.cell S7.out.c0 x
        have y1 := fun x : Later w7 => Later.cell S7.out.c1 x
        have y2 := fun x : Later w7 => Later.cell S7.out.c2 x
        have y3 := fun x : Later w7 => Later.cell S7.out.c3 x
        have y4 := fun x : Later w7 => Later.cell S7.out.c4 x
        have y5 := fun x : Later w7 => Later.cell S7.out.c5 x
        have z0 := fun x : Later w7 => Later.cell hnd.c0 x
        have z1 := fun x : Later w7 => Later.cell hnd.c1 x
        have z2 := fun x : Later w7 => Later.cell hnd.c2 x
        have z3 := fun x : Later w7 => Later.cell hnd.c3 x
        have z4 := fun x : Later w7 => Later.cell hnd.c4 x
        have z5 := fun x : Later w7 => Later.cell hnd.c5 x
        have zm := fun x : Later w7 => Later.cell hl7.mbox x
        clear k1 ho7 hb7 hl7 hnd
        refine wp_region_later (by kernel_rfl) (by kernel_rfl) ?_
        repeat (go_big_quiet_step (first | (go_at_call 8; with_reducible exact K1.out _)))
        refine wpQuiet_nil ?_
        rintro _ ⟨x, rfl⟩
        clear y0 y1 y2 y3 y4 z0 z1 z2 z3 z4 z5 zm K1
        have hb8 := x.le
        have y5 := y5 x
        have ho8 := (But.of_below (p := fun _ => False) hb8).own HO7.out (fun _ _ e => e)
        have hl8 := HL7.out.later (hb8.mono HL7.out.size)
        have hB8 : Below N w5 x.wx := HBEL.out.trans ((HB7.out.trans (hb8.mono HB7.out.size)).mono HLW.out.size)
        have hz8 : wr.heap.size ≤ x.wx.heap.size := by have := HB7.out.size; have := hb8.size; omega
        have HO8 := Lib.hid ho8; have HL8 := Lib.hid hl8; have HB8 := Lib.hid hB8
        clear ho8 hl8 hB8 HO7 HL7 HB7 hb8 S7
        generalize x.wx = w8 at *
        by_cases hk0 : 0 < (nd ms j).kids.length
        · obtain ⟨g, rfl⟩ := own_some HO8.out hk0
          have hg0 := own_tag HO8.out (g := g) rfl
          obtain ⟨hgb, cur, hcur⟩ := hg0
          have hc0 : w8.cell? ⟨g, 0, none⟩ = some (.int .i64 (kid (nd ms j).kids 0)) := own_cell HO8.out (ints_get hk0)
          have hf0 : w8.frozen? ⟨g, 0, none⟩ = false := blk_frozen hcur 0
          have hb9 : Below wr.heap.size w8 (w8.setCell ⟨g, 0, none⟩ (.int .i64 (-5))) := (Below.refl _ _).setCell (p := ⟨g, 0, none⟩) hgb _
          have HB9 := Lib.hid hb9
          clear hb9 hcur
          go_upto_region 14 with fail
          have hl9 := HL8.out.later (HB9.out.mono HLW.out.size)
          have hB9 := HB8.out.trans (HB9.out.mono HLW.out.size)
          generalize w8.setCell ⟨g, 0, none⟩ (.int .i64 (-5)) = w9 at *
          have hgy := get_yes N bt ao cap ms j w9 hl9.tree hl9.size hjl hkl
          have HGY := Lib.hid hgy; have HL9 := Lib.hid hl9; have HB9' := Lib.hid hB9
          clear hgy hl9 hB9 hc0 hf0 y5 HB9 HL8 HB8 HO8
          go_wp2_with fail
          refine HGY.out.mono ?_
          rintro e w10 ⟨ka2, kc2, rfl, hown, hb10⟩
          clear HGY
          have hb11 : Below w10.heap.size w10 (w10.alloc (.cells #[.string (nd ms j).op, .int .i64 (nd ms j).line, .int .i64 (nd ms j).col, .string (nd ms j).name, .int .i64 (nd ms j).num, .slice ka2 (nd ms j).kids.length kc2] 33)) := (Below.refl _ _).alloc (Nat.le_refl _) _
          have s11 : Six (w10.alloc (.cells #[.string (nd ms j).op, .int .i64 (nd ms j).line, .int .i64 (nd ms j).col, .string (nd ms j).name, .int .i64 (nd ms j).num, .slice ka2 (nd ms j).kids.length kc2] 33)) w10.heap.size 33 (.string (nd ms j).op) (.int .i64 (nd ms j).line) (.int .i64 (nd ms j).col) (.string (nd ms j).name) (.int .i64 (nd ms j).num) (.slice ka2 (nd ms j).kids.length kc2) := ⟨blk_new _ _⟩
          have HO := Lib.hid hown; have HB10 := Lib.hid hb10; have HB11 := Lib.hid hb11; have S11 := Lib.hid s11
          clear hown hb10 hb11 s11
          simp only [nval]
          go_upto_region 15 with fail
          generalize w10.alloc (.cells #[.string (nd ms j).op, .int .i64 (nd ms j).line, .int .i64 (nd ms j).col, .string (nd ms j).name, .int .i64 (nd ms j).num, .slice ka2 (nd ms j).kids.length kc2] 33) = w11 at *
          have ho11 : w11.ownsRow w9.heap.size 3 1 (.slice ka2 (nd ms j).kids.length kc2) (nd ms j).kids.length (ints (nd ms j).kids) := (But.of_below (p := fun _ => False) HB11.out).own HO.out (fun _ _ e => e)
          have hb11 : Below w9.heap.size w9 w11 := HB10.out.trans (HB11.out.mono HB10.out.size)
          have hl11 := HL9.out.later (hb11.mono HL9.out.size)
          obtain ⟨b', o', kb', cb', hmo, hnd⟩ := hl11.nodes j hjl
          cases hmo
          have k1 : ∀ x : Later w11, Calls Try.prog 8 #[.agg #[.string (nd ms j).op, .int .i64 (nd ms j).line, .int .i64 (nd ms j).col, .string (nd ms j).name, .int .i64 (nd ms j).num, .slice ka2 (nd ms j).kids.length kc2], .agg #[.string (nd ms j).op, .int .i64 (nd ms j).line, .int .i64 (nd ms j).col, .string (nd ms j).name, .int .i64 (nd ms j).num, .slice kb' (nd ms j).kids.length cb']] x.wx
              fun e w'' => e = .returned (.bool true) ∧ ∃ y : Later w11, w'' = y.wx := fun x => calls_later (node_same w11.heap.size N (nd ms j) ka2 kb' kc2 cb' x.wx ((own_ints ho11).below x.le) (hnd.kids.below (x.le.mono hl11.size)) hkl)
          have K1 := Lib.hid k1; have HB11' := Lib.hid hb11
          have y0 := fun x : Later w11 => Later.cell S11.out.c0 x
          have y1 := fun x : Later w11 => Later.cell S11.out.c1 x
          have y2 := fun x : Later w11 => Later.cell S11.out.c2 x
          have y3 := fun x : Later w11 => Later.cell S11.out.c3 x
          have y4 := fun x : Later w11 => Later.cell S11.out.c4 x
          have y5 := fun x : Later w11 => Later.cell S11.out.c5 x
          have z0 := fun x : Later w11 => Later.cell hnd.c0 x
          have z1 := fun x : Later w11 => Later.cell hnd.c1 x
          have z2 := fun x : Later w11 => Later.cell hnd.c2 x
          have z3 := fun x : Later w11 => Later.cell hnd.c3 x
          have z4 := fun x : Later w11 => Later.cell hnd.c4 x
          have z5 := fun x : Later w11 => Later.cell hnd.c5 x
          have zm := fun x : Later w11 => Later.cell hl11.mbox x
          clear k1 ho11 hb11 hl11 hnd HO HB10 HB11
          refine wp_region_later (by kernel_rfl) (by kernel_rfl) ?_
          repeat (go_big_quiet_step (first | (go_at_call 8; with_reducible exact K1.out _)))
          refine wpQuiet_nil ?_
          rintro _ ⟨x, rfl⟩
          clear y0 y1 y2 y3 y4 y5 z0 z1 z2 z3 z4 z5 zm K1
          have hB12 : Below N w5 x.wx := HB9'.out.trans ((HB11'.out.trans (x.le.mono HB11'.out.size)).mono HL9.out.size)
          have HB12 := Lib.hid hB12
          clear hB12
          generalize x.wx = w12 at *
          go_wp2
          go_roundw
          case rel => exact ⟨j + 1, by omega, by go_num, HB12.out⟩
          case measure => simp [intOf]; omega
        · go_wp2
          go_roundw
          case rel => exact ⟨j + 1, by omega, by go_num, HB8.out⟩
          case measure => simp [intOf]; omega
      · obtain rfl : j = ms.length := by omega
        have hb6 : Below wr.heap.size wr (wr.alloc (.cells #[.slice none 0 0] 31)) := (Below.refl _ _).alloc (Nat.le_refl _) _
        have hx6 : (wr.alloc (.cells #[.slice none 0 0] 31)).heap[wr.heap.size]? = some (.cells #[.slice none 0 0] 31 (0, 0)) := blk_new _ _
        have hz6 : (wr.alloc (.cells #[.slice none 0 0] 31)).heap.size = wr.heap.size + 1 := by simp
        have HB6 := Lib.hid hb6; have HX6 := Lib.hid hx6; have HZ6 := Lib.hid hz6
        clear hb6 hx6 hz6
        go_upto_region 20 with fail
        generalize wr.alloc (.cells #[.slice none 0 0] 31) = w6 at *
        obtain ⟨bs, hbs⟩ : ∃ bs, wr.heap.size = bs := ⟨_, rfl⟩
        have hNs : N ≤ bs := by rw [← hbs]; exact HLW.out.size
        have hl6 := HLW.out.later (HB6.out.mono HLW.out.size)
        have hB6 : Below N w5 w6 := HBEL.out.trans (HB6.out.mono HLW.out.size)
        rw [hbs] at HX6 HZ6 ⊢
        have HL6 := Lib.hid hl6
        clear HB6 HLW HBEL hbs hl6 hB6 HLM
        go_wp2_with fail
        refine (each_any bt ao ms.length cap iv w6 HL6.out.tree.cell).mono ?_
        rintro e w7 ⟨rfl, e0, e1, e2, hb7⟩
        have hl7 := HL6.out.later (hb7.mono HL6.out.size)
        have hx7 := (hb7.block _ (lt_of_heap HX6.out)).trans HX6.out
        have hz7 : bs + 1 ≤ w7.heap.size := by have := hb7.size; rw [HZ6.out] at this; exact this
        have HL7 := Lib.hid hl7; have HX7 := Lib.hid hx7; have E0 := Lib.hid e0; have E1 := Lib.hid e1; have E2 := Lib.hid e2
        clear hl7 hx7 e0 e1 e2 HL6 HX6 hb7
        obtain ⟨be, hbe⟩ : ∃ be, w6.heap.size = be := ⟨_, rfl⟩
        rw [hbe] at E0 E1 E2 HZ6 ⊢
        go_wp2_with fail
        obtain ⟨inn, full, dd, hans⟩ := answers w b0 N bt ao cap bm mo mc ms sn iv HWF.out HG.out HFEW.out
        have HAN := Lib.hid hans
        rw [hans.there] at E2
        clear hans
        have hlen2 := HAN.out.few
        have hs0 : SeenAt bs w7 [] none 0 w7 := ⟨HX7.out, ⟨rfl, .inl ⟨rfl, rfl⟩⟩, Below.refl _ _⟩
        have HS0 := Lib.hid hs0
        clear hs0
        obtain ⟨i0, hi, hz0, hz1', hz2⟩ := info_parts Try.info3
        have HI := Lib.hid hi; have HZ := Lib.hid hz0; have HZ1 := Lib.hid hz1'; have HZ2 := Lib.hid hz2
        clear hi hz0 hz1' hz2
        rename_i K hK
        have fin : ∀ (D : Nat) (W8 : World) (nums : List Nat) (vo : Option Addr) (vc : Nat), w7.heap.size ≤ D → SeenAt bs w7 nums vo vc W8 → ((nums = full ∧ (sn = 0 ∨ nums.length < sn)) ∨ (nums <+: full ∧ nums.length = sn ∧ 0 < sn)) → W8.heap[D]? = some (.deferred (some [])) →
            K { tmps := #[.slice ao0 L.length cap0, .int .i8 iv, .int .u8 (sn : Int), undef, undef, .pointer (some ⟨b0, 0, none⟩), .pointer (some ⟨b0 + 1, 0, none⟩), .pointer (some ⟨bt, 0, none⟩), .pointer (some ⟨bm, 0, none⟩),
          .bool true, u10, u11, u12, u13, u14, .int .i64 iv, .pointer (some ⟨bs, 0, none⟩), undef, undef, undef, undef, undef, .bool true, .bool false, .bool false, .slice ao0 L.length cap0, .bool true, .bool false, .bool false, undef,
          .tuple #[.pointer (some ⟨bt, 0, none⟩), .slice mo ms.length mc, .bool true], .slice ao0 L.length cap0, .tuple #[.pointer (some ⟨bt, 0, none⟩), .slice mo ms.length mc, .bool true], .pointer (some ⟨bt, 0, none⟩), .slice mo ms.length mc, .bool true, .bool true, .bool false, .slice mo ms.length mc, .int .i64 (ms.length : Int), .int .i64 (ms.length : Int), .bool false, u42, u43, u44, u45, u46, u47, u48, u49, u50, u51, u52, u53, u54, u55, u56, u57, u58, u59, u60, u61, u62, u63, u64, u65, u66, u67, u68, u69, u70, u71, u72, u73, u74, u75, u76, u77, u78, u79, u80,
          .int .i8 iv, .int .i64 iv, .pointer (some ⟨bt, 0, none⟩), .int .i64 iv, .func (.func 21) #[] #[.pointer (some ⟨be + 2, 0, none⟩), .pointer (some ⟨be, 0, none⟩), .pointer (some ⟨be + 1, 0, none⟩)], undef, undef, undef, undef, undef, undef, undef, undef, undef, undef, undef, undef, undef, undef, undef, undef, undef, undef, undef, undef, undef, undef, undef, undef, undef, undef, undef, undef, undef, undef, undef, undef, undef, undef, undef, undef, undef, undef, undef, undef, undef, undef, undef, undef, undef, undef, undef, undef, undef, undef, undef, undef, undef, undef, undef, undef, undef, undef, undef, undef, undef, undef, undef, undef, undef, undef, undef, undef], defers := [{ target := .collected D, args := #[] }] } W8 := by
          intro D W8 nums vo vc hD hse hcut hdef
          refine hK _ _ ?_
          clear hK
          have hcut := seen_cut hcut
          have hl8 := HL7.out.later (hse.below.mono hNs)
          have cm := hl8.mbox
          have HSE := Lib.hid hse; have HCUT := Lib.hid hcut; have HDEF := Lib.hid hdef; have HL8 := Lib.hid hl8
          clear hse hcut hdef hl8
          go_wp2_with fail
          refine (HAN.out.places W8 HL8.out).mono ?_
          rintro e w9 ⟨vo9, vc9, rfl, hown9, hb9⟩
          have hl9 := HL8.out.later (hb9.mono HL8.out.size)
          have cs := hl9.sbox
          have hse9 := HSE.out.still (Still.of_below hb9 (by have := lt_of_heap HSE.out.box; omega))
          have hdef9 := (hb9.block _ (lt_of_heap HDEF.out)).trans HDEF.out
          have hkey9 : nums.length ≤ full.length ∧ IntsAt w9.heap.size w9 vo9 (nats nums) := by
            have hi := own_ints (ks := nats full) (by rw [nats_len]; exact hown9)
            rcases HCUT.out with ⟨_, h2, rfl⟩ | ⟨_, rfl⟩
            · exact ⟨by simp; omega, fun i hi' => by
                have h3 : i < (nats full).length := by simp [nats_len] at hi' ⊢; omega
                obtain ⟨b, o, e, hlt, hc⟩ := hi i h3
                refine ⟨b, o, e, hlt, hc.trans ?_⟩
                have h4 : i < sn := by simp [nats_len] at hi'; omega
                simp [kid, nats, h4]⟩
            · exact ⟨Nat.le_refl _, hi⟩
          have HL9 := Lib.hid hl9; have HSE9 := Lib.hid hse9; have HDEF9 := Lib.hid hdef9; have HKEY9 := Lib.hid hkey9
          have hvc9 : full.length ≤ vc9 := own_room hown9
          have hnone : vo9 = none → full.length = 0 := fun e => by
            subst e
            rcases hown9.2 with ⟨_, e'⟩ | ⟨g, cap', cur, e', _⟩
            · exact e'
            · cases e'
          have HNONE := Lib.hid hnone
          clear hl9 hse9 hdef9 hb9 hown9 cm HL8 HSE HDEF hkey9 hnone
          go_upto_region 28 with fail
          obtain ⟨c, hc⟩ : ∃ c : Bool, c = decide (0 < sn ∧ sn < full.length) := ⟨_, rfl⟩
          have HC := Lib.hid hc
          clear hc
          go_cut [115] from 107 to 115 (fun s wx => s = .bool c ∧ wx = w9)
          case first =>
            by_cases h0 : 0 < sn
            · have h0' : (0 : Int) < (sn : Int) := by omega
              by_cases h1 : sn < full.length
              · have h1' : (sn : Int) < (full.length : Int) := by omega
                go_wp2_with fail
                go_meet
                exact ⟨by rw [HC.out]; simp [h0, h1], rfl⟩
              · have h1' : ¬ ((sn : Int) < (full.length : Int)) := by omega
                have h1b : decide ((sn : Int) < (full.length : Int)) = false := by simpa using h1'
                go_wp2_with fail
                go_meet
                exact ⟨by rw [HC.out]; simp [h1], rfl⟩
            · obtain rfl : sn = 0 := by omega
              go_wp2_with fail
              go_meet
              exact ⟨by rw [HC.out]; simp, rfl⟩
          case rest =>
            obtain ⟨rfl, rfl⟩ := hcut
            go_upto_if 115 with fail
            go_cut [19] from 107 to 118 (fun s wx => s = .slice vo9 nums.length vc9 ∧ wx = wc)
            case first =>
              cases c with
              | false =>
                have hnc : ¬ (0 < sn ∧ sn < full.length) := by have := HC.out; simpa using this.symm
                obtain rfl : nums = full := by
                  rcases HCUT.out with ⟨h1, h2, _⟩ | ⟨_, h⟩
                  · exact absurd ⟨h1, h2⟩ hnc
                  · exact h
                go_wp2_with fail
                go_meet
                exact ⟨rfl, rfl⟩
              | true =>
                have hnc : 0 < sn ∧ sn < full.length := by have := HC.out; simpa using this.symm
                have hln : nums.length = sn := by
                  rcases HCUT.out with ⟨_, h2, h⟩ | ⟨h1, _⟩
                  · rw [h]; simp; omega
                  · exact absurd hnc h1
                obtain ⟨a9, rfl⟩ : ∃ a9, vo9 = some a9 := by
                  cases vo9 with
                  | none => have := HNONE.out rfl; omega
                  | some a9 => exact ⟨a9, rfl⟩
                obtain ⟨hn1, hn2⟩ := hnc
                have hvs : sn ≤ vc9 := by omega
                go_wp2_with fail
                go_meet
                exact ⟨by rw [hln], rfl⟩
            case rest =>
              obtain ⟨rfl, rfl⟩ := hcut
              clear cs
              go_wp2_with fail
              refine (HAN.out.get wc HL9.out).mono ?_
              rintro e w10 ⟨⟨n, ka, kc, rfl⟩, hb10⟩
              have hb11 : Below wc.heap.size wc (w10.alloc (.cells #[.string n.op, .int .i64 n.line, .int .i64 n.col, .string n.name, .int .i64 n.num, .slice ka n.kids.length kc] 33)) := hb10.alloc hb10.size _
              have HB11 := Lib.hid hb11
              clear hb10 hb11
              simp only [nval]
              go_upto_region 31 with fail
              generalize w10.alloc (.cells #[.string n.op, .int .i64 n.line, .int .i64 n.col, .string n.name, .int .i64 n.num, .slice ka n.kids.length kc] 33) = w11 at *
              have hl11 := HL9.out.later (HB11.out.mono HL9.out.size)
              have hse11 := HSE9.out.still (Still.of_below HB11.out (by have := lt_of_heap HSE9.out.box; omega))
              have hwant := (HKEY9.out.2.below HB11.out)
              have hnl := HKEY9.out.1
              have hdef11 := (HB11.out.block _ (lt_of_heap HDEF9.out)).trans HDEF9.out
              have hz11 := hl11.size
              have hzw := HB11.out.size
              have lat : ∀ W, Below w11.heap.size w11 W → LMem w b0 N bt ao cap bm mo mc ms sn W := fun W h => hl11.later (h.mono hz11)
              have k11 : ∀ x : Later w11, Calls Try.prog 11 #[.slice vo nums.length vc, .slice vo9 nums.length vc9] x.wx fun e w'' => e = .returned (.bool true) ∧ ∃ y : Later w11, w'' = y.wx := fun x => by
                have hs := own_ints (ks := nats nums) (by rw [nats_len]; exact hse11.own)
                have := equal_same w11.heap.size wc.heap.size (nats nums) vo vo9 vc vc9 x.wx (hs.below x.le) (hwant.below (x.le.mono hzw)) (by rw [nats_len]; omega)
                rw [nats_len] at this
                exact calls_later_drew this
              have k12 : ∀ x : Later w11, Calls Try.prog 12 #[.pointer (some ⟨bt, 0, none⟩), .int .i64 iv] x.wx fun e w'' => e = .returned (.int .i64 full.length) ∧ ∃ y : Later w11, w'' = y.wx := fun x => calls_later (HAN.out.size x.wx (lat _ x.le))
              have k13 : ∀ x : Later w11, Calls Try.prog 13 #[.pointer (some ⟨bt, 0, none⟩), .int .i64 iv] x.wx fun e w'' => e = .returned (.int .i64 dd) ∧ ∃ y : Later w11, w'' = y.wx := fun x => calls_later (HAN.out.deep x.wx (lat _ x.le))
              have k14 : ∀ x : Later w11, Calls Try.prog 14 #[.slice mo ms.length mc, .int .i64 iv] x.wx fun e w'' => e = .returned (.int .i64 dd) ∧ ∃ y : Later w11, w'' = y.wx := fun x => calls_later_same (HAN.out.rdeep x.wx (lat _ x.le))
              have k15 : ∀ x : Later w11, Calls Try.prog 15 #[.slice mo ms.length mc, .int .i64 iv] x.wx fun e w'' => e = .returned (.bool inn) ∧ ∃ y : Later w11, w'' = y.wx := fun x => calls_later_same ((in_any mo ms.length mc iv x.wx).mono fun e w' he => ⟨by rw [he.1, HAN.out.there], he.2⟩)
              have k10 : ∀ x : Later w11, Calls Try.prog 10 #[.slice mo ms.length mc, .int .i64 iv] x.wx fun e w'' => ∃ v, e = .returned v ∧ (∃ vo' vc', v = .slice vo' full.length vc') ∧ ∃ y : Later w11, w'' = y.wx := fun x => (HAN.out.places x.wx (lat _ x.le)).mono fun e w' he => he.elim fun vo' he => he.elim fun vc' he => ⟨_, he.1, ⟨vo', vc', rfl⟩, ⟨_, x.le.trans (he.2.2.mono x.le.size)⟩, rfl⟩
              have ym := fun x : Later w11 => Later.cell hl11.mbox x
              have cs11 : w11.cell? ⟨bs, 0, none⟩ = some (.slice vo nums.length vc) := (blk_cell hse11.box 0).trans rfl
              have ys := fun x : Later w11 => Later.cell cs11 x
              have K11 := Lib.hid k11; have K12 := Lib.hid k12; have K13 := Lib.hid k13; have K10 := Lib.hid k10; have K14 := Lib.hid k14; have K15 := Lib.hid k15; have LAT := Lib.hid lat; have HDEF11 := Lib.hid hdef11
              clear k11 k12 k13 k10 k14 k15 lat hl11 hse11 hwant hdef11 cs11
              have hql : ((full.length : Int) == (full.length : Int)) = true := by simp
              have hqd : (dd == dd) = true := by simp
              have hqi : (inn == inn) = true := by simp
              refine wp_region_some (C := fun w' => ∃ x : Later w11, w' = x.wx) 29 9 _ (by kernel_rfl) (by kernel_rfl) rfl (by omega) ⟨⟨w11.drew, (Below.refl _ _).drew⟩, rfl⟩ ?_
              simp only [List.take_succ_cons, List.take_zero, List.drop_succ_cons, List.drop_zero]
              repeat (go_big_quiet_step (first | (go_at_call 11; with_reducible exact K11.out _) | (go_at_call 12; with_reducible exact K12.out _)))
              refine wpQuiet_nil ?_
              refine ⟨fun v => ∃ vo' vc', v = .slice vo' full.length vc', YieldsSome.call (f := 10) rfl rfl rfl rfl (enters_of Try.func10 (by kernel_rfl) rfl) (fun w' h => h.elim fun x e => e ▸ K10.out x), ?_⟩
              · rintro v ⟨vo', vc', rfl⟩
                simp only [Act.put, List.setIfInBounds_toArray, List.set_cons_succ, List.set_cons_zero]
                repeat (go_big_quiet_step (first | (go_at_call 13; with_reducible exact K13.out _) | (go_at_call 14; with_reducible exact K14.out _) | (go_at_call 15; with_reducible exact K15.out _)))
                refine wpQuiet_nil ?_
                rintro _ ⟨x, rfl⟩
                have hx := LAT.out x.wx x.le
                have hbx := x.le
                have hdx := (hbx.block _ (lt_of_heap HDEF11.out)).trans HDEF11.out
                have hr := hx.res
                have hc : x.wx.cell? ⟨b0 + 1, 0, none⟩ = some (.bool false) := (blk_cell hr 0).trans rfl
                have hf := blk_frozen hr 0
                have HX := Lib.hid hx; have HR := Lib.hid hr; have HDX := Lib.hid hdx
                clear hx hr hdx hbx ym ys
                generalize x.wx = w12 at *
                go_wp2
                have hlb := HX.out.lb
                have hdf := (KeepsOthers.setCell w12 ⟨b0 + 1, 0, none⟩ (.bool true)).same D _ HDX.out rfl
                refine ⟨by simp, .inl ⟨_, _, rfl, run_takeDeferred hdf, ?_⟩⟩
                have hq : ((w12.setCell ⟨b0 + 1, 0, none⟩ (.bool true)).putObj D (.deferred none)).cell? ⟨b0 + 1, 0, none⟩ = some (.bool true) :=
                  (blk_cell ((World.putObj_heap_other (by omega)).trans (blk_set HR.out 0 (.bool true))) 0).trans rfl
                refine ⟨.bool true, by simp [results, Try.f3, go_sem, hq], rfl, ?_⟩
                rw [H0.out]
                exact (HX.out.below.setCell (p := ⟨b0 + 1, 0, none⟩) (by simp) _).trans (Still.putObj (N := b0) _ (by omega) hdf rfl).below
        refine (wpIn_wide (n := 0)).1 (wp_range (gf := 21) (lb := #[.pointer (some ⟨be + 2, 0, none⟩), .pointer (some ⟨be, 0, none⟩), .pointer (some ⟨be + 1, 0, none⟩)]) rfl (enters_of Try.func21 (by kernel_rfl) rfl) (encs := enc2) (fun _ => rfl) (G := Comes ms full) (N := bs) (M := NoNode)
          (S := fun xs => xs.map (fun p : Nat × Value => p.1) = full) (Sp := fun pre => pre.map (fun p : Nat × Value => p.1) <+: full) ?hN ?hseq
          (fun pre W' => (∃ vo vc, SeenAt bs w7 (pre.map fun p : Nat × Value => p.1) vo vc W') ∧ (sn = 0 ∨ pre.length < sn))
          (fun c pre W' => c = .exit 2 ∧ (∃ vo vc, SeenAt bs w7 (pre.map fun p : Nat × Value => p.1) vo vc W') ∧ pre.length = sn ∧ 0 < sn)
          (fun _ x a C => ∃ Bn ka kc, bs < Bn ∧ x.2 = nval (nd ms x.1) ka kc ∧ Six C Bn 33 (.string (nd ms x.1).op) (.int .i64 (nd ms x.1).line) (.int .i64 (nd ms x.1).col) (.string (nd ms x.1).name) (.int .i64 (nd ms x.1).num) (.slice ka (nd ms x.1).kids.length kc) ∧
            a = { tmps := #[.slice ao0 L.length cap0, .int .i8 iv, .int .u8 (sn : Int), undef, undef, .pointer (some ⟨b0, 0, none⟩), .pointer (some ⟨b0 + 1, 0, none⟩), .pointer (some ⟨bt, 0, none⟩), .pointer (some ⟨bm, 0, none⟩),
          .bool true, u10, u11, u12, u13, u14, .int .i64 iv, .pointer (some ⟨bs, 0, none⟩), .int .i64 (x.1 : Int), .pointer (some ⟨Bn, 0, none⟩), undef, undef, undef, .bool true, .bool false, .bool false, .slice ao0 L.length cap0, .bool true, .bool false, .bool false, undef,
          .tuple #[.pointer (some ⟨bt, 0, none⟩), .slice mo ms.length mc, .bool true], .slice ao0 L.length cap0, .tuple #[.pointer (some ⟨bt, 0, none⟩), .slice mo ms.length mc, .bool true], .pointer (some ⟨bt, 0, none⟩), .slice mo ms.length mc, .bool true, .bool true, .bool false, .slice mo ms.length mc, .int .i64 (ms.length : Int), .int .i64 (ms.length : Int), .bool false, u42, u43, u44, u45, u46, u47, u48, u49, u50, u51, u52, u53, u54, u55, u56, u57, u58, u59, u60, u61, u62, u63, u64, u65, u66, u67, u68, u69, u70, u71, u72, u73, u74, u75, u76, u77, u78, u79, u80,
          .int .i8 iv, .int .i64 iv, .pointer (some ⟨bt, 0, none⟩), .int .i64 iv, .func (.func 21) #[] #[.pointer (some ⟨be + 2, 0, none⟩), .pointer (some ⟨be, 0, none⟩), .pointer (some ⟨be + 1, 0, none⟩)], .int .i64 (x.1 : Int), x.2, undef, undef, undef, undef, undef, undef, undef, undef, undef, undef, undef, undef, undef, undef, undef, undef, undef, undef, undef, undef, undef, undef, undef, undef, undef, undef, undef, undef, undef, undef, undef, undef, undef, undef, undef, undef, undef, undef, undef, undef, undef, undef, undef, undef, undef, undef, undef, undef, undef, undef, undef, undef, undef, undef, undef, undef, undef, undef, undef, undef, undef, undef, undef, undef, undef, undef], defers := [] })
          (fun _ A B h hs => ⟨h.1.elim fun vo h => h.elim fun vc h => ⟨vo, vc, h.still hs⟩, h.2⟩) (fun _ _ A B h hs => ⟨h.1, h.2.1.elim fun vo h => h.elim fun vc h => ⟨vo, vc, h.still hs⟩, h.2.2⟩)
          (fun _ s x A B h hs => ⟨h.lt, h.val.elim fun ka h => h.elim fun kc h => ⟨ka, kc, h.1, h.2.1.still hs, h.2.2⟩, h.order⟩)
          (fun s x a C B h hs => h.elim fun Bn h => h.elim fun ka h => h.elim fun kc h => ⟨Bn, ka, kc, h.1, h.2.1, ⟨hs.same _ _ _ _ (fun e => e) h.2.2.1.blk⟩, h.2.2.2⟩) ⟨⟨none, 0, HS0.out⟩, by simp; omega⟩ ?assign ?body ?done ?stop)
        case hN => omega
        case hseq =>
          intro l' W' hb'
          have q0 := (hb'.cell (World.block_lt_of_cell? _ _ E0.out)).trans E0.out
          have q1 := (hb'.cell (World.block_lt_of_cell? _ _ E1.out)).trans E1.out
          have q2 := (hb'.cell (World.block_lt_of_cell? _ _ E2.out)).trans E2.out
          have := hb'.size
          exact HAN.out.each l' bs be W' (HL7.out.later (hb'.mono (by omega))) hNs (by omega) q0 q1 q2
        case assign =>
          rintro l' pre ⟨k, v⟩ W0' W' ⟨⟨vo, vc, hse⟩, _⟩ hst hg
          obtain ⟨ka, kc, hv, _⟩ := hg.val
          have hv : v = nval (nd ms k) ka kc := hv
          subst hv
          have hx : bs < W'.heap.size := Nat.lt_of_lt_of_le (lt_of_heap hse.box) hst.size
          clear hse hg hst
          simp only [enc2, nval]
          gi_wp2
          exact ⟨KeepsOthers.alloc _ _, Still.alloc _ _ _ (by omega), W'.heap.size, hx, ka, kc, ⟨rfl, rfl⟩, ⟨blk_new _ _⟩, rfl⟩
        case body =>
          rintro l' pre ⟨k, v⟩ a₁ W0' W' ⟨⟨vo, vc, hse0⟩, hsn⟩ hst hg ⟨Bn, ka, kc, hBn, hv, hs6, rfl⟩
          obtain ⟨ka', kc', hv', hk, hfr⟩ := hg.val
          have hkm : k < ms.length := hg.lt
          have hord := hg.order
          have hv : v = nval (nd ms k) ka kc := hv
          have hv' : v = nval (nd ms k) ka' kc' := hv'
          obtain ⟨rfl, rfl⟩ : ka' = ka ∧ kc' = kc := by
            rw [hv] at hv'; simp [nval] at hv'; exact ⟨hv'.1.symm, hv'.2.symm⟩
          subst hv
          have hse := hse0.still hst
          have hpl : (pre.map fun p : Nat × Value => p.1).length ≤ 2000 := by
            have := hord.length_le; simp at this; simp; omega
          have hgb : ∀ a, ka' = some a → ¬ (a.block = bs ∨ some a.block = (Value.slice vo (pre.map fun p : Nat × Value => p.1).length vc).ownBlock) := fun a e hor => by
            have h1 := hfr a e
            rcases hor with h2 | h2
            · have := lt_of_heap hse0.box; omega
            · obtain ⟨_, cur, hcur⟩ := own_tag hse0.own h2.symm
              have := lt_of_heap hcur; omega
          have hkl := HFEW.out k hkm
          have hbx : W'.cell? ⟨bs, 0, none⟩ = some (.slice vo (pre.map fun p : Nat × Value => p.1).length vc) := (blk_cell hse.box 0).trans rfl
          have hzz := lt_of_heap hse.box
          have hpn : (pre.map fun p : Nat × Value => p.1).length = pre.length := by simp
          have HSE := Lib.hid hse; have HK := Lib.hid hk; have HGB := Lib.hid hgb; have HS6 := Lib.hid hs6; have HPN := Lib.hid hpn; have HSN := Lib.hid hsn
          have hmap : ((pre ++ [(k, nval (nd ms k) ka' kc')]).map fun p : Nat × Value => p.1) = (pre.map fun p : Nat × Value => p.1) ++ [k] := by simp
          have HMAP := Lib.hid hmap
          clear hse hse0 hk hgb hs6 hg hv' hfr hst hord hmap hpn hsn
          generalize (pre.map fun p : Nat × Value => p.1) = nums at *
          gi_upto_region 23 with fail
          gi_wp2_with (gi_at_builtin; refine wpListIn_append_own _ rfl (.tmp 88) (.tmp 90) 31 rfl (bs + 1) 3 i0 _ 1 8 Try.underlying31 HI.out HZ.out HZ1.out HZ2.out rfl (by decide) (.slice vo nums.length vc) nums.length (ints (nats nums)) rfl (HSE.out.own.alloc _) ⟨W'.heap.size, 0, none⟩ 1 1 [.int .i64 (k : Int)] rfl rfl (World.news_of_block (cs := #[.int .i64 (k : Int)]) (t := 3) (fr := (0, 0)) (heap_alloc_new W' _)) (by intro x hx; simp at hx; subst hx; rfl) (by unfold maxLen; omega) (by omega) (by simp; omega) ?_; intro v2 w1 hown2 hgrow2 _; obtain ⟨vo2, vc2, rfl⟩ := own_form hown2; obtain ⟨hb1, hse2, ho2, hkp2, hbut2⟩ := HSE.out.push hown2 hgrow2; have hcb : w1.cell? ⟨bs, 0, none⟩ = some (.slice vo nums.length vc) := (blk_cell hb1 0).trans rfl; have hfb := blk_frozen hb1 0)
          have hs62 := HS6.out.kept hkp2
          have hk2 := HK.out.but hbut2 HGB.out
          generalize w1.setCell ⟨bs, 0, none⟩ (.slice vo2 (nums.length + 1) vc2) = W2 at *
          have hl2 := HL7.out.later (hse2.below.mono hNs)
          obtain ⟨b, o, kb, cb, rfl, hnd⟩ := hl2.nodes k hkm
          have hz2 : N ≤ W2.heap.size := hl2.size
          have k1 : ∀ x : Later W2, Calls Try.prog 8 #[.agg #[.string (nd ms k).op, .int .i64 (nd ms k).line, .int .i64 (nd ms k).col, .string (nd ms k).name, .int .i64 (nd ms k).num, .slice ka' (nd ms k).kids.length kc'], .agg #[.string (nd ms k).op, .int .i64 (nd ms k).line, .int .i64 (nd ms k).col, .string (nd ms k).name, .int .i64 (nd ms k).num, .slice kb (nd ms k).kids.length cb]] x.wx
              fun e w'' => e = .returned (.bool true) ∧ ∃ y : Later W2, w'' = y.wx := fun x => calls_later (node_same W2.heap.size N (nd ms k) ka' kb kc' cb x.wx (hk2.below x.le) (hnd.kids.below (x.le.mono hz2)) hkl)
          have K1 := Lib.hid k1; have HSE2 := Lib.hid hse2; have HO2 := Lib.hid ho2; have HKP2 := Lib.hid hkp2; have HL2 := Lib.hid hl2
          have y0 := fun x : Later W2 => Later.cell hs62.c0 x
          have y1 := fun x : Later W2 => Later.cell hs62.c1 x
          have y2 := fun x : Later W2 => Later.cell hs62.c2 x
          have y3 := fun x : Later W2 => Later.cell hs62.c3 x
          have y4 := fun x : Later W2 => Later.cell hs62.c4 x
          have y5 := fun x : Later W2 => Later.cell hs62.c5 x
          have z0 := fun x : Later W2 => Later.cell hnd.c0 x
          have z1 := fun x : Later W2 => Later.cell hnd.c1 x
          have z2 := fun x : Later W2 => Later.cell hnd.c2 x
          have z3 := fun x : Later W2 => Later.cell hnd.c3 x
          have z4 := fun x : Later W2 => Later.cell hnd.c4 x
          have z5 := fun x : Later W2 => Later.cell hnd.c5 x
          have zm := fun x : Later W2 => Later.cell hl2.mbox x
          clear k1 hse2 ho2 hkp2 hl2 hnd hs62 hk2 hbut2 hb1 hown2 hgrow2 hcb hfb hbx HSE HK HGB HS6
          refine in_region_later (fun ⟨_, _, h⟩ => h) (by kernel_rfl) (by kernel_rfl) (by kernel_rfl) ?_
          repeat (go_big_quiet_step (first | (go_at_call 8; with_reducible exact K1.out _)))
          refine wpQuiet_nil ?_
          rintro _ ⟨x, rfl⟩
          clear y0 y1 y2 y3 y4 y5 z0 z1 z2 z3 z4 z5 zm K1
          have hb3 := x.le
          have hse3 := HSE2.out.still (Still.of_below hb3 (by have := lt_of_heap HSE2.out.box; omega))
          have hl3 := HL2.out.later (hb3.mono hz2)
          have ho3 : KeepsOthers W' x.wx := HO2.out.trans (others_of_below hb3)
          have hkp3 : Kept bs NoNode W' x.wx := HKP2.out.trans ((Still.of_below hb3 (by have := lt_of_heap HSE2.out.box; omega)).kept _)
          have cs : x.wx.cell? ⟨b0, 0, none⟩ = some (.int .u8 (sn : Int)) := hl3.sbox
          have cb3 : x.wx.cell? ⟨bs, 0, none⟩ = some (.slice vo2 (nums.length + 1) vc2) := (blk_cell hse3.box 0).trans (by simp)
          have HSE3 := Lib.hid hse3; have HO3 := Lib.hid ho3; have HKP3 := Lib.hid hkp3
          clear hse3 hl3 ho3 hkp3 hb3 HSE2 HO2 HKP2 HL2
          generalize x.wx = W3 at *
          by_cases hstop : nums.length + 1 = sn
          · have q1 : ((nums.length : Int) + 1 == (sn : Int)) = true := by simp; omega
            gi_wp2
            exact ⟨HO3.out, rfl, ⟨vo2, vc2, by rw [HMAP.out]; exact HSE3.out⟩, by rw [List.length_append, ← HPN.out]; exact hstop, by omega⟩
          · have q1 : ((nums.length : Int) + 1 == (sn : Int)) = false := by simp; omega
            gi_wp2
            exact ⟨HO3.out, HKP3.out, ⟨vo2, vc2, by rw [HMAP.out]; exact HSE3.out⟩, by rw [List.length_append, ← HPN.out, List.length_singleton]; have := HSN.out; rw [← HPN.out] at this; omega⟩
        case done =>
          rintro D xs W8 hD hxs ⟨⟨vo, vc, hse⟩, hsn⟩ hdef
          exact fin D W8 _ vo vc hD hse (.inl ⟨hxs, by simpa using hsn⟩) hdef
        case stop =>
          rintro D c pre W8 hD hpre ⟨rfl, ⟨vo, vc, hse⟩, hlen, hpos⟩ hdef
          gi_wp2_with fail
          exact fin D W8 _ vo vc hD hse (.inr ⟨hpre, by simpa using hlen, hpos⟩) hdef
end Go.Proofs.Ytdflonniicnndaa
