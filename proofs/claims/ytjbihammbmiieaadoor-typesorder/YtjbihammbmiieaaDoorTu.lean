/- One step of making two types one. -/
import Derived.Test.YtjbihammbmiieaaDoorTk
import Derived.Test.YtjbihammbmiieaaDoorUq
namespace Go.Proofs.YtjbihammbmiieaaDoor
open Go.RowKit Un

def sval (s : Step) : Value := .agg #[.int .i64 s.a, .int .i64 s.b, .bool s.p]
def cell3 (s : Step) : List Value := [.int .i64 s.a, .int .i64 s.b, .bool s.p]
def cells3 (l : List Step) : List Value := l.flatMap cell3
theorem cells3_len (l : List Step) : (cells3 l).length = l.length * 3 := by
  induction l with
  | nil => rfl
  | cons s l ih => simp only [cells3, List.flatMap_cons, List.length_append, List.length_cons] at ih ⊢; rw [ih]; simp only [cell3, List.length_cons, List.length_nil]; omega
theorem cells3_app (l k : List Step) : cells3 (l ++ k) = cells3 l ++ cells3 k := by simp [cells3]
/-- all that holds between two steps -/
structure USt (B bt N : Nat) (L : Nat) (v : Value) (G : (Nat → Ty) → Prop) (n : Nat) (tv : Value) (R : List Nx) (l : List Step) (w : World) : Prop where
  tab : TabAt B w bt R v
  own : w.ownsRow N 69 3 tv l.length (cells3 l.reverse)
  pu : Pu L G n R l
  hN : N ≤ w.heap.size
def UnifyP (B bt N : Nat) (L : Nat) (v : Value) (G : (Nat → Ty) → Prop) (n : Nat) (tv : Value) (w : World) (e : Ending) (w' : World) : Prop :=
  ((∃ tv' R l m, e = .returned (.tuple #[tv', .bool true]) ∧ m < n ∧ USt B bt N L v G m tv' R l w') ∨
   (∃ tv' R, e = .returned (.tuple #[tv', .bool false]) ∧ TabAt B w' bt R v ∧ Tok R ∧ (∀ n ∈ R, n.s = false) ∧ R.length = L ∧ ∀ σ, ¬ G σ)) ∧ Ow2 v tv w w'
theorem Tryd.info69 : (Tryd.prog.info? 69).map (fun i => (i.zero, i.size, i.bytes)) = some (some (.agg #[.int .i64 0, .int .i64 0, .bool false]), 3, 24) := by kernel_rfl
/-- behind its first line: both types by now -/
structure Two (B bt : Nat) (v : Value) (R : List Nx) (s : Step) (ya yb : Nat) (R2 : List Nx) (w wz : World) : Prop where
  tab : TabAt B wz bt R2 v
  moved : Moved R R2
  wa : ∃ m, To (abs R2) m s.a ya
  wb : ∃ m, To (abs R2) m s.b yb
  ow : Ow v w wz
  blk : wz.heap[w.heap.size]? = some (.cells #[.int .i64 s.a, .int .i64 s.b, .bool s.p] 69 (0, 0))
set_option maxRecDepth 100000 in
set_option maxHeartbeats 2000000 in
theorem unify1_any (B bt N L : Nat) (v : Value) (G : (Nat → Ty) → Prop) (n : Nat) (tv : Value) (R : List Nx) (s : Step) (l : List Step) (w : World)
    (htab : TabAt B w bt R v) (hown : w.ownsRow N 69 3 tv l.length (cells3 l.reverse)) (hpu : Pu L G n R (s :: l)) (hN : N ≤ w.heap.size) :
    Calls Tryd.prog 24 #[.pointer (some ⟨bt, 0, none⟩), sval s, tv] w (UnifyP B bt N L v G n tv w) := by
  obtain ⟨ta, tc, rfl⟩ := own_form hown
  obtain ⟨hsa, hsb⟩ := hpu.todo.ins s (List.mem_cons_self ..)
  rw [abs_len] at hsa hsb
  have hf := htab.few
  obtain ⟨t1, hv1⟩ := hpu.tok.good.full s.a (by rw [abs_len]; exact hsa)
  obtain ⟨m1, ya, hto1, _⟩ := hv1.to
  generalize hW : w.alloc (.cells #[.int .i64 s.a, .int .i64 s.b, .bool s.p] 69) = W
  have hbW : Below w.heap.size w W := by rw [← hW]; exact (Below.refl _ w).alloc (Nat.le_refl _) _
  have hblk : W.heap[w.heap.size]? = some (.cells #[.int .i64 s.a, .int .i64 s.b, .bool s.p] 69 (0, 0)) := by rw [← hW]; exact blk_new w _
  have hfar := htab.far (Nat.le_refl _)
  have s0 : W.cell? ⟨w.heap.size, 0, none⟩ = some (.int .i64 s.a) := (blk_cell hblk 0).trans rfl
  have s1 : W.cell? ⟨w.heap.size, 1, none⟩ = some (.int .i64 s.b) := (blk_cell hblk 1).trans rfl
  have htabW := (htab.below hbW).below (Below.drew (Below.refl _ W))
  have HW := Lib.hid hW; have HT := Lib.hid htabW; have HTAB := Lib.hid htab; have HOWN := Lib.hid hown; have HPU := Lib.hid hpu; have HBW := Lib.hid hbW; have HBLK := Lib.hid hblk; have HFAR := Lib.hid hfar; have HTO1 := Lib.hid hto1
  clear hW htabW htab hown hpu hbW hblk hfar hto1 hv1
  unfold sval
  go_enter Tryd.func24, Tryd.ntmps24
  go_wp2
  rw [HW.out]
  go_cut [8, 9] (fun a b wz => ∃ (ya yb : Nat) (R2 : List Nx), a = .int .i64 ya ∧ b = .int .i64 yb ∧ Two B bt v R s ya yb R2 w wz)
  case first =>
    go_region_with (first
      | (go_at_call_of 30 (Value.int .i64 (s.a : Int))
         with_reducible refine (now_any B bt R v s.a ya m1 _ (by exact HT.out) HPU.out.tok hsa HTO1.out).mono ?_
         rintro e w1 ⟨rfl, ⟨R1, htab1, hm1⟩, how1⟩
         have hl1 := hm1.len
         have s1' : w1.cell? ⟨w.heap.size, 1, none⟩ = some (.int .i64 s.b) := (blk_cell (how1.heap HBLK.out HFAR.out) 1).trans rfl
         obtain ⟨t2, hv2⟩ := hm1.tok.good.full s.b (by rw [abs_len]; omega)
         obtain ⟨m2, yb, hto2, _⟩ := hv2.to
         have HTAB1 := Lib.hid htab1; have HM1 := Lib.hid hm1; have HO1 := Lib.hid how1; have HTO2 := Lib.hid hto2
         clear htab1 hm1 how1 hto2 hv2)
      | (go_at_call_of 30 (Value.int .i64 (s.b : Int))
         with_reducible refine (now_any B bt R1 v s.b yb m2 _ (by exact HTAB1.out) HM1.out.tok (by omega) HTO2.out).mono ?_
         rintro e w2 ⟨rfl, ⟨R2, htab2, hm2⟩, how2⟩))
    all_goals
      have hw1 : ∃ m, To (abs R2) m s.a ya := by
        obtain ⟨q1, p1⟩ := HM1.out.way _ _ _ HTO1.out
        exact hm2.way _ _ _ p1
      have hw2 : ∃ m, To (abs R2) m s.b yb := hm2.way _ _ _ HTO2.out
      have how : Ow (v) w w2 := ((Ow.of_below HBW.out).trans (Ow.undrew HO1.out)).trans how2
      have hblk2 := how2.heap (HO1.out.heap HBLK.out HFAR.out) HFAR.out
      have hres : Two B bt v R s ya yb R2 w w2 := ⟨htab2, HM1.out.trans hm2, hw1, hw2, how, hblk2⟩
      have HRES := Lib.hid hres
      clear hres hw1 hw2 how hblk2 htab2 hm2 how2
      go_wp2
      go_meet
      case rel => exact ⟨ya, yb, R2, rfl, rfl, HRES.out⟩
  case rest =>
    obtain ⟨ya, yb, R2, rfl, rfl, h2⟩ := hcut
    have hl2 := h2.moved.len
    have hya : ya < R2.length + 3 := by
      obtain ⟨q, p⟩ := h2.wa
      have := p.lt h2.moved.tok.good.wf (by rw [abs_len]; omega); rwa [abs_len] at this
    have hyb : yb < R2.length + 3 := by
      obtain ⟨q, p⟩ := h2.wb
      have := p.lt h2.moved.tok.good.wf (by rw [abs_len]; omega); rwa [abs_len] at this
    have H2 := Lib.hid h2
    clear h2
    go_wp2_with fail
    refine (get_any B bt R2 v ya wc H2.out.tab hya).mono ?_
    rintro e w3 ⟨rfl, hb3⟩
    have ht3 := H2.out.tab.below hb3
    have HB3 := Lib.hid hb3; have HT3 := Lib.hid ht3
    clear hb3 ht3
    unfold nval
    go_wp2_with fail
    refine (get_any B bt R2 v yb w3 HT3.out hyb).mono ?_
    rintro e w4 ⟨rfl, hb4⟩
    unfold nval
    have hpu2 := HPU.out.moved H2.out.moved
    have wa := H2.out.wa; have wb := H2.out.wb
    obtain ⟨n1, hn1⟩ : ∃ n1, nx R2 ya = n1 := ⟨_, rfl⟩
    obtain ⟨n2, hn2⟩ : ∃ n2, nx R2 yb = n2 := ⟨_, rfl⟩
    rw [hn1, hn2]
    have hba : Below w4.heap.size w4 (w4.alloc (.cells #[.int .u8 n1.k, .bool n1.s, .int .i64 n1.f, .int .i64 n1.g] 66)) := (Below.refl _ _).alloc (Nat.le_refl _) _
    have hbb : Below wc.heap.size wc ((w4.alloc (.cells #[.int .u8 n1.k, .bool n1.s, .int .i64 n1.f, .int .i64 n1.g] 66)).alloc (.cells #[.int .u8 n2.k, .bool n2.s, .int .i64 n2.f, .int .i64 n2.g] 66)) :=
      ((HB3.out.trans (hb4.mono HB3.out.size)).trans (hba.mono (by have := HB3.out.size; have := hb4.size; omega))).trans (((Below.refl _ _).alloc (Nat.le_refl _) _).mono (by have := HB3.out.size; have := hb4.size; have := hba.size; omega))
    have hx5 : NodeAt ((w4.alloc (.cells #[.int .u8 n1.k, .bool n1.s, .int .i64 n1.f, .int .i64 n1.g] 66)).alloc (.cells #[.int .u8 n2.k, .bool n2.s, .int .i64 n2.f, .int .i64 n2.g] 66)) w4.heap.size n1 := ⟨blk_alloc (blk_new w4 _) _⟩
    have hy5 : NodeAt ((w4.alloc (.cells #[.int .u8 n1.k, .bool n1.s, .int .i64 n1.f, .int .i64 n1.g] 66)).alloc (.cells #[.int .u8 n2.k, .bool n2.s, .int .i64 n2.f, .int .i64 n2.g] 66)) (w4.heap.size + 1) n2 := ⟨by
      have := blk_new (w4.alloc (.cells #[.int .u8 n1.k, .bool n1.s, .int .i64 n1.f, .int .i64 n1.g] 66)) (.cells #[.int .u8 n2.k, .bool n2.s, .int .i64 n2.f, .int .i64 n2.g] 66)
      simpa using this⟩
    have hfx : v.ownBlock ≠ some w4.heap.size := H2.out.tab.far (by have := HB3.out.size; have := hb4.size; omega)
    have hfy : v.ownBlock ≠ some (w4.heap.size + 1) := H2.out.tab.far (by have := HB3.out.size; have := hb4.size; omega)
    go_upto_if 26 with fail
    generalize (w4.alloc (.cells #[.int .u8 n1.k, .bool n1.s, .int .i64 n1.f, .int .i64 n1.g] 66)).alloc (.cells #[.int .u8 n2.k, .bool n2.s, .int .i64 n2.f, .int .i64 n2.g] 66) = W5 at *
    generalize w4.heap.size = xb at *
    have ht5 := H2.out.tab.below hbb
    have ho5 := own_below (H2.out.ow.own HOWN.out (row_apart HTAB.out.own HOWN.out (by decide))) hbb
    have how5 : Ow v w W5 := H2.out.ow.trans (Ow.of_below hbb)
    have hN5 : N ≤ W5.heap.size := Nat.le_trans hN how5.size
    have sblk : W5.heap[w.heap.size]? = some (.cells #[.int .i64 s.a, .int .i64 s.b, .bool s.p] 69 (0, 0)) := (hbb.block _ (lt_of_heap H2.out.blk)).trans H2.out.blk
    have sp : W5.cell? ⟨w.heap.size, 2, none⟩ = some (.bool s.p) := (blk_cell sblk 2).trans rfl
    have HPU2 := Lib.hid hpu2; have HWA := Lib.hid wa; have HWB := Lib.hid wb; have HT5 := Lib.hid ht5; have HO5 := Lib.hid ho5; have HOW5 := Lib.hid how5; have HN5 := Lib.hid hN5; have HX5 := Lib.hid hx5; have HY5 := Lib.hid hy5; have HFX := Lib.hid hfx; have HFY := Lib.hid hfy; have HN1 := Lib.hid hn1; have HN2 := Lib.hid hn2
    have xk := hx5.c0; have yk := hy5.c0
    clear hpu2 wa wb ht5 ho5 how5 hN5 hx5 hy5 hfx hfy hn1 hn2 hba hbb hb4 sblk HB3 HT3 w3 w4 s0 s1 HT HW
    by_cases hne : ya = yb
    · subst hne
      obtain ⟨m, hm, hpu'⟩ := HPU2.out.skip HWA.out HWB.out
      have hres : UnifyP B bt N L v G n (.slice ta l.length tc) w (.returned (.tuple #[.slice ta l.length tc, .bool true])) W5 := ⟨.inl ⟨_, R2, l, m, rfl, hm, HT5.out, HO5.out, hpu', HN5.out⟩, HOW5.out.two⟩
      have HRES := Lib.hid hres
      clear hres hpu' hm xk yk sp
      go_wp2
      go_ret2
      exact HRES.out
    · have HNE := Lib.hid hne
      by_cases hp : s.p = true
      · obtain ⟨h3, m, hm, hpu'⟩ := HPU2.out.told hp HWA.out HWB.out hne
        rw [hp] at sp
        have HM := Lib.hid hm; have HPU' := Lib.hid hpu'
        clear hm hpu' xk yk
        go_wp2_with fail
        refine (become_any B bt R2 v ya yb W5 HT5.out h3 hya).mono ?_
        rintro e w6 ⟨rfl, ht6, ho6⟩
        have hown6 := ho6.own HO5.out (row_apart HT5.out.own HO5.out (by decide))
        have hres : UnifyP B bt N L v G n (.slice ta l.length tc) w (.returned (.tuple #[.slice ta l.length tc, .bool true])) w6 := ⟨.inl ⟨_, _, l, m, rfl, HM.out, ht6, hown6, HPU'.out, Nat.le_trans HN5.out ho6.size⟩, (HOW5.out.trans ho6).two⟩
        have HRES := Lib.hid hres
        clear hres ht6 ho6 hown6 sp
        go_wp2
        go_ret2
        exact HRES.out
      · have hp' : s.p = false := by simpa using hp
        have HP := Lib.hid hp'
        rw [hp'] at sp
        clear hp hp'
        have ra : (nx R2 ya).k ≠ 3 := fun e => by
          obtain ⟨_, _, e2⟩ := nx_told e
          obtain ⟨_, q⟩ := HWA.out
          rw [q.root] at e2; cases e2
        have rb : (nx R2 yb).k ≠ 3 := fun e => by
          obtain ⟨_, _, e2⟩ := nx_told e
          obtain ⟨_, q⟩ := HWB.out
          rw [q.root] at e2; cases e2
        obtain ⟨tA, hvA⟩ := HPU2.out.tok.good.full ya (by rw [abs_len]; exact hya)
        obtain ⟨tB, hvB⟩ := HPU2.out.tok.good.full yb (by rw [abs_len]; exact hyb)
        have RA := Lib.hid ra; have RB := Lib.hid rb; have VA := Lib.hid hvA; have VB := Lib.hid hvB
        clear ra rb hvA hvB
        by_cases hk1 : n1.k = 1
        · have hk1' : (nx R2 ya).k = 1 := by rw [HN1.out]; exact hk1
          have K1 := Lib.hid hk1'
          rw [hk1] at xk
          clear hk1'
          go_wp2_with fail
          refine (occurs_any B bt R2 v ya yb tB W5 HT5.out HPU2.out.tok HPU2.out.clear hya K1.out hyb RB.out VB.out).mono ?_
          rintro e w6 ⟨rfl, ⟨R4, ht6, hm4, hc4⟩, ho6⟩
          have hown6 := ho6.own HO5.out (row_apart HT5.out.own HO5.out (by decide))
          have hy6 := HY5.out.ow ho6 HFY.out
          have hx6 := HX5.out.ow ho6 HFX.out
          have yk6 := hy6.c0
          have xk6 := hx6.c0
          rw [hk1] at xk6
          have T6 := Lib.hid ht6; have M4 := Lib.hid hm4; have C4 := Lib.hid hc4; have O6 := Lib.hid ho6; have OWN6 := Lib.hid hown6
          clear ht6 hm4 hc4 ho6 hown6 hy6 hx6 yk
          by_cases ho : tB.Occ ya
          · rw [decide_eq_true ho]
            have hk2 : ¬ n2.k = 1 := fun e => by
              obtain ⟨_, _, etm⟩ := nx_open (R := R2) (x := yb) (by rw [HN2.out]; exact e)
              have hv := VB.out
              have e3 : tB = .var yb := hv.same (.var (by rw [etm]) (by rw [etm]))
              rw [e3] at ho
              exact HNE.out ho
            have hno := HPU2.out.no HP.out HWA.out HWB.out HNE.out (fun _ t ht => by rw [ht.same VB.out]; exact ho) (fun e => absurd (by rw [← HN2.out]; exact e) hk2) (fun e => by have := e.1; rw [K1.out] at this; cases this)
            have hres : ∀ tv', UnifyP B bt N L v G n (.slice ta l.length tc) w (.returned (.tuple #[tv', .bool false])) w6 := fun tv' => ⟨.inr ⟨tv', R4, rfl, T6.out, M4.out.tok, C4.out, M4.out.len.trans HPU2.out.len, hno⟩, (HOW5.out.trans O6.out).two⟩
            have HRES := Lib.hid hres
            have HK1 := Lib.hid hk1
            have hk1b : ¬ n1.k = 2 := by omega
            clear hres hno ho hk1
            go_wp2
            go_ret2
            exact HRES.out _
          · rw [decide_eq_false ho]
            have hpu4 := HPU2.out.moved M4.out
            have wa4 : ∃ m, To (abs R4) m s.a ya := by obtain ⟨_, q⟩ := HWA.out; exact M4.out.way _ _ _ q
            have wb4 : ∃ m, To (abs R4) m s.b yb := by obtain ⟨_, q⟩ := HWB.out; exact M4.out.way _ _ _ q
            obtain ⟨h3, m, hm, hpu'⟩ := hpu4.bind HP.out wa4 wb4 (by rw [M4.out.root _ RA.out]; exact K1.out) (M4.out.same.val _ _ (by rw [abs_len]; exact hyb) VB.out) ho
            have HM := Lib.hid hm; have HPU' := Lib.hid hpu'
            have h3l : ya < R4.length + 3 := by rw [M4.out.len]; exact hya
            clear hpu4 wa4 wb4 hm hpu' ho
            go_wp2_with fail
            refine (become_any B bt R4 v ya yb w6 T6.out h3 h3l).mono ?_
            rintro e w7 ⟨rfl, ht7, ho7⟩
            have hown7 := ho7.own OWN6.out (row_apart T6.out.own OWN6.out (by decide))
            have hres : UnifyP B bt N L v G n (.slice ta l.length tc) w (.returned (.tuple #[.slice ta l.length tc, .bool true])) w7 := ⟨.inl ⟨_, _, l, m, rfl, HM.out, ht7, hown7, HPU'.out, Nat.le_trans HN5.out (Nat.le_trans O6.out.size ho7.size)⟩, ((HOW5.out.trans O6.out).trans ho7).two⟩
            have HRES := Lib.hid hres
            clear hres ht7 ho7 hown7 sp
            go_wp2
            go_ret2
            exact HRES.out
        · by_cases hk2 : n2.k = 1
          · have hk2' : (nx R2 yb).k = 1 := by rw [HN2.out]; exact hk2
            have K2 := Lib.hid hk2'
            rw [hk2] at yk
            clear hk2'
            go_wp2_with fail
            refine (occurs_any B bt R2 v yb ya tA W5 HT5.out HPU2.out.tok HPU2.out.clear hyb K2.out hya RA.out VA.out).mono ?_
            rintro e w6 ⟨rfl, ⟨R4, ht6, hm4, hc4⟩, ho6⟩
            have hown6 := ho6.own HO5.out (row_apart HT5.out.own HO5.out (by decide))
            have hy6 := HY5.out.ow ho6 HFY.out
            have hx6 := HX5.out.ow ho6 HFX.out
            have yk6 := hy6.c0
            have xk6 := hx6.c0
            rw [hk2] at yk6
            have T6 := Lib.hid ht6; have M4 := Lib.hid hm4; have C4 := Lib.hid hc4; have O6 := Lib.hid ho6; have OWN6 := Lib.hid hown6
            clear ht6 hm4 hc4 ho6 hown6 hy6 hx6 xk
            by_cases ho : tA.Occ yb
            · rw [decide_eq_true ho]
              have hno := HPU2.out.no HP.out HWA.out HWB.out HNE.out (fun e => absurd (by rw [← HN1.out]; exact e) hk1) (fun _ t ht => by rw [ht.same VA.out]; exact ho) (fun e => by have := e.2; rw [K2.out] at this; cases this)
              have hres : ∀ tv', UnifyP B bt N L v G n (.slice ta l.length tc) w (.returned (.tuple #[tv', .bool false])) w6 := fun tv' => ⟨.inr ⟨tv', R4, rfl, T6.out, M4.out.tok, C4.out, M4.out.len.trans HPU2.out.len, hno⟩, (HOW5.out.trans O6.out).two⟩
              have HRES := Lib.hid hres
              have HK2 := Lib.hid hk2
              clear hres hno ho hk2
              by_cases hq : n1.k = 2
              · rw [hq] at xk6
                go_wp2
                go_ret2
                exact HRES.out _
              · go_wp2
                go_ret2
                exact HRES.out _
            · rw [decide_eq_false ho]
              have hpu4 := HPU2.out.moved M4.out
              have wa4 : ∃ m, To (abs R4) m s.a ya := by obtain ⟨_, q⟩ := HWA.out; exact M4.out.way _ _ _ q
              have wb4 : ∃ m, To (abs R4) m s.b yb := by obtain ⟨_, q⟩ := HWB.out; exact M4.out.way _ _ _ q
              obtain ⟨h3, m, hm, hpu'⟩ := hpu4.bind' HP.out wa4 wb4 (by rw [M4.out.root _ RB.out]; exact K2.out) (M4.out.same.val _ _ (by rw [abs_len]; exact hya) VA.out) ho
              have HM := Lib.hid hm; have HPU' := Lib.hid hpu'
              have h3l : yb < R4.length + 3 := by rw [M4.out.len]; exact hyb
              clear hpu4 wa4 wb4 hm hpu' ho
              go_wp2_with fail
              refine (become_any B bt R4 v yb ya w6 T6.out h3 h3l).mono ?_
              rintro e w7 ⟨rfl, ht7, ho7⟩
              have hown7 := ho7.own OWN6.out (row_apart T6.out.own OWN6.out (by decide))
              have hres : UnifyP B bt N L v G n (.slice ta l.length tc) w (.returned (.tuple #[.slice ta l.length tc, .bool true])) w7 := ⟨.inl ⟨_, _, l, m, rfl, HM.out, ht7, hown7, HPU'.out, Nat.le_trans HN5.out (Nat.le_trans O6.out.size ho7.size)⟩, ((HOW5.out.trans O6.out).trans ho7).two⟩
              have HRES := Lib.hid hres
              clear hres ht7 ho7 hown7 sp
              go_wp2
              go_ret2
              exact HRES.out
          · by_cases hq : n1.k = 2 ∧ n2.k = 2
            · obtain ⟨hq1, hq2⟩ := hq
              have hshort := HPU2.out.stk.short HPU2.out.todo
              obtain ⟨m, hm, hpu'⟩ := HPU2.out.push HP.out HWA.out HWB.out (by rw [HN1.out]; exact hq1) (by rw [HN2.out]; exact hq2)
              rw [HN1.out, HN2.out] at hpu'
              have xf := HX5.out.c2; have xg := HX5.out.c3; have yf := HY5.out.c2; have yg := HY5.out.c3
              have HM := Lib.hid hm; have HPU' := Lib.hid hpu'; have HSH := Lib.hid hshort
              rw [hq1] at xk
              rw [hq2] at yk
              obtain ⟨i0, hi, hz0, hz1, hz2⟩ := info_parts Tryd.info69
              have HI := Lib.hid hi; have HZ := Lib.hid hz0; have HZ1 := Lib.hid hz1; have HZ2 := Lib.hid hz2
              have hlb : l.length ≤ 300000 := by
                have h1 := HSH.out
                have h2 := HT5.out.few
                rw [List.length_cons, abs_len] at h1
                omega
              clear hm hpu' hshort hk1 hk2 hq1 hq2 hi hz0 hz1 hz2
              go_wp2_with (at_builtin; refine wpList_append_own _ rfl _ _ 70 rfl N 69 i0 _ 3 24 Tryd.underlying70 HI.out HZ.out HZ1.out HZ2.out rfl (by decide) _ l.length (cells3 l.reverse) rfl (HO5.out.alloc _) ⟨W5.heap.size, 0, none⟩ 3 3 (cells3 [⟨ya, yb, true⟩, ⟨n1.g, n2.g, false⟩, ⟨n1.f, n2.f, false⟩]) rfl rfl ?c1 ?c2 ?c3 ?c4 ?c5 ?_)
              case c1 => exact World.news_of_block (heap_alloc_new W5 _)
              case c2 => intro u hu; simp [cells3, cell3] at hu; rcases hu with rfl | rfl | rfl | rfl | rfl | rfl | rfl | rfl | rfl <;> rfl
              case c3 => unfold maxLen; omega
              case c4 => omega
              case c5 => have := HN5.out; simp; omega
              intro v' w6 hown hgrow _
              obtain ⟨ao', cap', rfl⟩ := own_form hown
              have hba := (Below.refl _ W5).alloc (Nat.le_refl _) (.cells #[.int .i64 ya, .int .i64 yb, .bool true, .int .i64 n1.g, .int .i64 n2.g, .bool false, .int .i64 n1.f, .int .i64 n2.f, .bool false] 69)
              have hta := HT5.out.below hba
              have hoa := own_below HO5.out hba
              have hbt : (Value.slice ta l.length tc).ownBlock ≠ some bt := fun e => by
                obtain ⟨_, cur, e1⟩ := own_tag hoa e
                rw [hta.blk] at e1; injection e1 with e1; injection e1 with _ e1; exact absurd e1 (by decide)
              have h6 := hta.grown hgrow hbt (row_apart hta.own hoa (by decide))
              have ho6 : Ow2 v (.slice ta l.length tc) w w6 := ((HOW5.out.trans (Ow.of_below hba)).two).trans (But.of_grown hgrow (fun k e => .inr e))
              have hown6 : w6.ownsRow N 69 3 (.slice ao' (l.length + 3) cap') (⟨n1.f, n2.f, false⟩ :: ⟨n1.g, n2.g, false⟩ :: ⟨ya, yb, true⟩ :: l : List Step).length (cells3 (⟨n1.f, n2.f, false⟩ :: ⟨n1.g, n2.g, false⟩ :: ⟨ya, yb, true⟩ :: l : List Step).reverse) := by
                have e : (⟨n1.f, n2.f, false⟩ :: ⟨n1.g, n2.g, false⟩ :: ⟨ya, yb, true⟩ :: l : List Step).reverse = l.reverse ++ [⟨ya, yb, true⟩, ⟨n1.g, n2.g, false⟩, ⟨n1.f, n2.f, false⟩] := by simp
                rw [e, cells3_app]
                exact hown
              have hN6 : N ≤ w6.heap.size := by
                have h1 := HN5.out
                have h2 := hba.size
                have h3 : _ ≤ w6.heap.size := hgrow.size
                omega
              have hres : UnifyP B bt N L v G n (.slice ta l.length tc) w (.returned (.tuple #[.slice ao' (l.length + 3) cap', .bool true])) w6 := ⟨.inl ⟨_, R2, _, m, rfl, HM.out, h6, hown6, HPU'.out, hN6⟩, ho6⟩
              have HRES := Lib.hid hres
              clear hres hN6 hown6 ho6 h6 hbt hoa hta hba hown hgrow xk yk xf xg yf yg sp
              go_wp2
              go_ret2
              exact HRES.out
            · have hno := HPU2.out.no HP.out HWA.out HWB.out HNE.out (fun e => absurd (by rw [← HN1.out]; exact e) hk1) (fun e => absurd (by rw [← HN2.out]; exact e) hk2) (fun e => hq ⟨by rw [← HN1.out]; exact e.1, by rw [← HN2.out]; exact e.2⟩)
              have hres : ∀ tv', UnifyP B bt N L v G n (.slice ta l.length tc) w (.returned (.tuple #[tv', .bool false])) W5 := fun tv' => ⟨.inr ⟨tv', R2, rfl, HT5.out, HPU2.out.tok, HPU2.out.clear, HPU2.out.len, hno⟩, HOW5.out.two⟩
              have HRES := Lib.hid hres
              clear hres hno
              by_cases hq1 : n1.k = 2
              · have hq2 : ¬ n2.k = 2 := fun e => hq ⟨hq1, e⟩
                rw [hq1] at xk
                clear hq hq1
                go_wp2
                go_ret2
                exact HRES.out _
              · clear hq
                go_wp2
                go_ret2
                exact HRES.out _
end Go.Proofs.YtjbihammbmiieaaDoor
