/- All declarations. -/
import Derived.Test.YtnobamncenokdaaGreatDoorTab
namespace Go.Proofs.YtnobamncenokdaaGreatDoor
open Go.RowKit Tn Lx
attribute [local go_sem] tok_field0 tok_field1 tok_field3

/-- the reader that the table has for what comes -/
theorem reads_any (c : Cx) (X : Nat → Prop) (n : Nat) (hn : n ≤ 900000) (q pp bm : Nat) (g : Pg.St) (s : Ex.S) (hG : 0 < c.r ∧ 0 < c.bt ∧ 0 < c.B) (h1 : g.ins.length ≤ 200) (h4 : g.exns.length ≤ 200) (hne : Pg.one c.ts n g s ≠ .out) :
    ∃ fid, (∀ args w, (callFunc fid args).run Tryz.prog w = .ok (.enter fid args) w) ∧ (∀ W : World, W.heap[bm]? = some (.map tabE 6) → (Instr.lookup 65 (.map (some bm)) (.string ⟨(Ex.tk c.ts s.p).text.toArray⟩) true).run Tryz.prog W = .ok (.tuple #[.func (.func fid) #[] #[], .bool true]) W) ∧
      (∀ W v1 v4, Rd c X W s → Pm c q pp v1 v4 W g → ErrT W → Calls Tryz.prog fid #[.pointer (some ⟨pp, 0, none⟩)] W (ReadP c X W q pp (Pg.one c.ts n g s))) := by
  by_cases hx : ((Ex.tk c.ts s.p).text == Pg.wExn) = true
  · have he : Pg.one c.ts n g s = exnF c.ts g s := by rw [Pg.one, if_pos hx]; rfl
    have ht : (Ex.tk c.ts s.p).text = Pg.wExn := by simpa using hx
    rw [he, ht]
    exact ⟨34, enters_of Tryz.func34 (by kernel_rfl) rfl, fun W hb => look_exn hb, fun W v1 v4 hR hP _ => exn_any c X W s q pp v1 v4 g hR hP h4⟩
  by_cases hi : ((Ex.tk c.ts s.p).text == Pg.wInput) = true
  · have he : Pg.one c.ts n g s = inpF c.ts g s := by rw [Pg.one, if_neg hx, if_pos hi]; rfl
    have ht : (Ex.tk c.ts s.p).text = Pg.wInput := by simpa using hi
    rw [he, ht]
    exact ⟨28, enters_of Tryz.func28 (by kernel_rfl) rfl, fun W hb => look_inp hb, fun W v1 v4 hR hP _ => inp_any c X W s q pp v1 v4 g hR hP h1⟩
  by_cases hm : ((Ex.tk c.ts s.p).text == Pg.wMain) = true
  · have he : Pg.one c.ts n g s = mnF c.ts n g s := by rw [Pg.one, if_neg hx, if_neg hi, if_pos hm]; rfl
    have ht : (Ex.tk c.ts s.p).text = Pg.wMain := by simpa using hm
    rw [he] at hne ⊢
    rw [ht]
    exact ⟨36, enters_of Tryz.func36 (by kernel_rfl) rfl, fun W hb => look_main hb, fun W v1 v4 hR hP hg => main_any c X W s n hn q pp v1 v4 g hR hP hg hG hne⟩
  · exact absurd (by rw [Pg.one, if_neg hx, if_neg hi, if_neg hm]) hne

theorem one_few (ts : List Tok) (n : Nat) (g g' : Pg.St) (s s' : Ex.S) (h : Pg.one ts n g s = .ok g' s') : g'.ins.length ≤ g.ins.length + 1 ∧ g'.exns.length ≤ g.exns.length + 1 := by
  rw [Pg.one] at h
  split at h
  · cases hd : Pg.decl0 ts Pg.wExn s with
    | ok d s1 => rw [hd] at h; simp only [Pg.lift, Pg.R.bind, Pg.R.ok.injEq] at h; rw [← h.1]; simp
    | bad c p => rw [hd] at h; cases h
    | out => rw [hd] at h; cases h
  · split at h
    · cases hd : Pg.declP ts Pg.wInput s with
      | ok d s1 => rw [hd] at h; simp only [Pg.lift, Pg.R.bind, Pg.R.ok.injEq] at h; rw [← h.1]; simp
      | bad c p => rw [hd] at h; cases h
      | out => rw [hd] at h; cases h
    · split at h
      · split at h
        · cases h
        · cases hd : Pg.mainF ts n s with
          | ok d s1 => rw [hd] at h; simp only [Pg.lift, Pg.R.bind, Pg.R.ok.injEq] at h; rw [← h.1]; simp
          | bad c p => rw [hd] at h; cases h
          | out => rw [hd] at h; cases h
      · cases h

structure AllSt (c : Cx) (X : Nat → Prop) (w : World) (q pp bm n : Nat) (R : Pg.R Pg.St) (k cnt : Nat) (g : Pg.St) (s : Ex.S) (v1 v4 : Value) (wr : World) : Prop where
  rd : Rd c X wr s
  pm : Pm c q pp v1 v4 wr g
  kr : Kr c q w wr
  tab : wr.heap[bm]? = some (.map tabE 6)
  fin : Pg.all c.ts n k cnt g s = R
  few1 : g.ins.length ≤ cnt
  few4 : g.exns.length ≤ cnt
  le : cnt ≤ 100

theorem Kr.then_below {c : Cx} {q : Nat} {a b d : World} (h : Kr c q a b) (k : Below b.heap.size b d) : Kr c q a d := h.trans (Kr.of_kp (Kp.of_below k))
theorem ErrT.kr {c : Cx} {q : Nat} {w w' : World} (h : ErrT w) (k : Kr c q w w') (hG : 0 < c.r ∧ 0 < c.bt ∧ 0 < c.B) (hq : 0 < q) : ErrT w' :=
  (World.cell?_of_block (k.block 0 h.lt (by
    rintro (e | e | e | ⟨e, _⟩) <;> omega))).trans h

set_option maxRecDepth 100000 in
set_option maxHeartbeats 8000000 in
theorem pall_any (c : Cx) (X : Nat → Prop) (w : World) (s : Ex.S) (n : Nat) (hn : n ≤ 900000) (q pp f : Nat) (v1 v4 : Value) (g : Pg.St) (h : Rd c X w s) (hP : Pm c q pp v1 v4 w g) (hg : ErrT w) (hG : 0 < c.r ∧ 0 < c.bt ∧ 0 < c.B)
    (hne : Pg.all c.ts n f 0 g s ≠ .out) (hl1 : g.ins.length = 0) (hl4 : g.exns.length = 0) :
    Calls Tryz.prog 8 #[.pointer (some ⟨pp, 0, none⟩)] w (ReadP c X w q pp (Pg.all c.ts n f 0 g s)) := by
  have hr := h.rlt; have hb := h.blt; have hqB := hP.qB; have hsz := h.size
  have hql := lt_of_heap hP.prog
  have hbW : Below w.heap.size w (w.alloc (.map tabE 6)) := (Below.refl _ w).alloc (Nat.le_refl _) _
  have hst0 : AllSt c X w q pp w.heap.size n (Pg.all c.ts n f 0 g s) f 0 g s v1 v4 (w.alloc (.map tabE 6)) :=
    ⟨h.below hbW, hP.below hbW, Kr.of_kp (Kp.of_below hbW), blk_new_map w, rfl, by omega, by omega, by omega⟩
  generalize Pg.all c.ts n f 0 g s = R at *
  have HST0 := Lib.hid hst0; have HNE := Lib.hid hne; have HG := Lib.hid hg
  clear hst0 hne hg h hP hl1 hl4 hbW
  go_enter Tryz.func8, Tryz.ntmps8
  go_wp2_with fail
  refine (decls_any w).mono ?_
  rintro e w1 ⟨rfl, rfl⟩
  go_wp2_with fail
  go_loopg [4] f (fun k nv wr => ∃ (cnt : Nat) (g' : Pg.St) (s' : Ex.S) (u1 u4 : Value), nv = .int .i64 (cnt : Int) ∧ AllSt c X w q pp w.heap.size n R k cnt g' s' u1 u4 wr)
  case atStart => exact ⟨0, g, s, v1, v4, rfl, HST0.out⟩
  case round =>
    obtain ⟨cnt, g', s', u1, u4, rfl, hst⟩ := hrel
    obtain ⟨k, rfl⟩ : ∃ k, gk = k + 1 := by
      cases gk with
      | zero => exact absurd hst.fin.symm (by rw [Pg.all]; exact HNE.out)
      | succ k => exact ⟨k, rfl⟩
    have hfin := hst.fin
    rw [Pg.all] at hfin
    have p0 := hst.pm.p0
    have hN := next_any c X wr s' hst.rd
    have hcl := hst.le
    have HST := Lib.hid hst
    clear hst HST0
    cases hk : ((Ex.tk c.ts s'.p).kind == 0) with
    | true =>
      rw [hk, if_pos rfl] at hfin
      have hk2 : ((Ex.tk c.ts s'.p).kind != 0) = false := by simpa using hk
      generalize Ex.tk c.ts s'.p = t at *
      have HN := Lib.hid hN; have HFIN := Lib.hid hfin
      clear hN hfin hk
      go_wp2_with fail
      refine HN.out.mono ?_
      rintro e w2 ⟨rfl, hb2⟩
      have hP2 := HST.out.pm.below hb2
      have hK2 := HST.out.kr.then_below hb2
      have hR2 := HST.out.rd.below hb2
      have hH := hasMain_any c w2 q pp u1 u4 g' hP2
      have hW := wrongMain_any c X w2 s' q pp 16 u1 u4 g' hR2 hP2 (HG.out.kr hK2 hG (by omega))
      have HK2 := Lib.hid hK2; have HR2 := Lib.hid hR2; have HP2 := Lib.hid hP2; have HW := Lib.hid hW
      clear hK2 hR2 hP2 hW hb2 HST HN
      unfold tval
      cases hm : (g'.mt == Pg.wMain) with
      | true =>
        rw [hm] at hH
        have HH := Lib.hid hH; have HM := Lib.hid hm
        clear hH hm
        go_wp2_with fail
        refine HH.out.mono ?_
        rintro e w3 ⟨rfl, rfl⟩
        go_wp2
        go_ret
        exact .inl ⟨g', s', u1, u4, by rw [← HFIN.out, if_pos HM.out], rfl, HR2.out, HP2.out, HK2.out⟩
      | false =>
        rw [hm] at hH
        have HH := Lib.hid hH; have HM := Lib.hid hm
        clear hH hm
        go_wp2_with fail
        refine HH.out.mono ?_
        rintro e w3 ⟨rfl, rfl⟩
        go_wp2_with fail
        refine HW.out.mono ?_
        rintro e w4 ⟨rfl, hb4⟩
        have HK4 := Lib.hid (HK2.out.then_below hb4)
        clear hb4
        unfold dvalN
        go_wp2
        go_ret
        exact .inr ⟨16, _, Pg.wMain, by rw [← HFIN.out, if_neg (by rw [HM.out]; decide)], rfl, HK4.out⟩
    | false =>
      rw [hk, if_neg (by decide)] at hfin
      have hk2 : ((Ex.tk c.ts s'.p).kind != 0) = true := by simpa using hk
      by_cases h100 : cnt = 100
      · rw [if_pos h100] at hfin
        have hW := fun w1 (hR : Rd c X w1 s') => wrong_at c X w1 s' 6 hR
        generalize Ex.tk c.ts s'.p = t at *
        have HN := Lib.hid hN; have HFIN := Lib.hid hfin; have HW := Lib.hid hW
        clear hN hfin hk hW
        subst h100
        go_wp2_with fail
        refine HN.out.mono ?_
        rintro e w2 ⟨rfl, hb2⟩
        have p02 := (HST.out.pm.below hb2).p0
        have HR2 := Lib.hid (HST.out.rd.below hb2); have HK2 := Lib.hid (HST.out.kr.then_below hb2)
        clear hb2 HN
        unfold tval
        go_wp2_with fail
        refine (HW.out _ HR2.out).mono ?_
        rintro e w3 ⟨rfl, hb3⟩
        have HK3 := Lib.hid (HK2.out.then_below hb3)
        clear hb3
        unfold dval
        go_wp2
        go_ret
        exact .inr ⟨6, _, [], HFIN.out.symm, rfl, HK3.out⟩
      · rw [if_neg h100] at hfin
        have h100' : ((cnt : Int) == 100) = false := by
          have : (cnt : Int) ≠ 100 := by omega
          simpa using this
        have hone : Pg.one c.ts n g' s' ≠ .out := fun e => HNE.out (by rw [← hfin, e]; rfl)
        obtain ⟨fid, hen, hlook, hread⟩ := reads_any c X n hn q pp w.heap.size g' s' hG (by have := HST.out.few1; omega) (by have := HST.out.few4; omega) hone
        have hN2 := fun w1 (hR : Rd c X w1 s') => next_any c X w1 s' hR
        have hfew := one_few c.ts n g'
        have hfew' := fun g1 s1 (e : Pg.one c.ts n g' s' = .ok g1 s1) => one_few c.ts n g' g1 s' s1 e
        generalize Ex.tk c.ts s'.p = t at *
        generalize Pg.one c.ts n g' s' = RO at *
        have HN := Lib.hid hN; have HFIN := Lib.hid hfin; have HN2 := Lib.hid hN2; have HLK := Lib.hid hlook; have HRD := Lib.hid hread; have HFEW := Lib.hid hfew'
        clear hN hfin hk hN2 hlook hread hfew hfew' hone
        go_wp2_with fail
        refine HN.out.mono ?_
        rintro e w2 ⟨rfl, hb2⟩
        have p02 := (HST.out.pm.below hb2).p0
        have HR2 := Lib.hid (HST.out.rd.below hb2); have HK2 := Lib.hid (HST.out.kr.then_below hb2); have HP2 := Lib.hid (HST.out.pm.below hb2)
        have ht2 : w2.heap[w.heap.size]? = some (.map tabE 6) := (hb2.block _ (lt_of_heap HST.out.tab)).trans HST.out.tab
        have HT2 := Lib.hid ht2
        clear hb2 HN ht2 p0
        unfold tval
        go_wp2_with fail
        refine (HN2.out _ HR2.out).mono ?_
        rintro e w3 ⟨rfl, hb3⟩
        have hR3 := HR2.out.below hb3; have hK3 := HK2.out.then_below hb3; have hP3 := HP2.out.below hb3
        have ht3 : w3.heap[w.heap.size]? = some (.map tabE 6) := (hb3.block _ (lt_of_heap HT2.out)).trans HT2.out
        have lk := HLK.out w3 ht3
        have hrd := HRD.out w3 u1 u4 hR3 hP3 (HG.out.kr hK3 hG (by omega))
        have HRD3 := Lib.hid hrd; have HK3 := Lib.hid hK3; have HT3 := Lib.hid ht3
        clear hb3 hR3 hK3 hP3 ht3 hrd HR2 HK2 HP2 HT2 HN2 HLK HRD p02
        unfold tval
        go_wp2_with fail
        refine HRD3.out.mono ?_
        rintro e w4 (⟨g4, s4, x1, x4, hE4, rfl, hR4, hP4, hK4⟩ | ⟨cd, p4, n4, hE4, rfl, hK4⟩)
        rotate_left
        · have HF := Lib.hid (show R = .bad cd p4 n4 by rw [← HFIN.out, hE4]; rfl)
          have HK4 := Lib.hid (HK3.out.trans hK4)
          clear hE4 hK4 lk
          unfold dvalN
          go_wp2
          go_ret
          exact .inr ⟨cd, p4, n4, HF.out, rfl, HK4.out⟩
        have p04 := hP4.p0
        have ht4 : w4.heap[w.heap.size]? = some (.map tabE 6) := hK4.map HT3.out (by omega) (by omega) (by omega)
        have hsz4 := hR4.size
        obtain ⟨V, hV⟩ : ∃ V, w4.alloc (.cells #[.string ⟨#[59]⟩] 9) = V := ⟨_, rfl⟩
        have hbV : Below w4.heap.size w4 V := by rw [← hV]; exact (Below.refl _ w4).alloc (Nat.le_refl _) _
        have ks : V.cell? ⟨w4.heap.size, 0, none⟩ = some (.string ⟨#[59]⟩) := by rw [← hV]; exact (blk_cell (blk_new w4 _) 0).trans rfl
        have hT := take_any c X V s4 [59] w4.heap.size (hR4.below hbV) ks
        have hfl := HFEW.out g4 s4 hE4
        have hF4 : (Pg.lift (Ex.take c.ts [59] s4)).bind (fun _ s2 => Pg.all c.ts n k (cnt + 1) g4 s2) = R := by rw [← HFIN.out, hE4]; rfl
        have HT := Lib.hid hT; have HV := Lib.hid hV; have HK4 := Lib.hid ((HK3.out.trans hK4).then_below hbV); have HP4 := Lib.hid (hP4.below hbV); have HF4 := Lib.hid hF4
        have HTB := Lib.hid ((hbV.block _ (lt_of_heap ht4)).trans ht4)
        have hf1 := HST.out.few1; have hf4 := HST.out.few4
        clear hT hV hbV ks hR4 hP4 hK4 hE4 ht4 hF4 HRD3 HK3 HT3 HFIN HFEW lk
        go_wp2_with fail
        rw [HV.out]
        refine HT.out.mono ?_
        rintro e w5 (⟨s5, hE5, rfl, hR5, hK5⟩ | ⟨cd, p5, hE5, rfl, hK5⟩)
        rotate_left
        · have HF := Lib.hid (show R = .bad cd p5 [] by rw [← HF4.out, hE5]; rfl)
          have HK5 := Lib.hid (HK4.out.trans (Kr.of_kp hK5))
          clear hE5 hK5
          unfold dval
          go_wp2
          go_ret
          exact .inr ⟨cd, p5, [], HF.out, rfl, HK5.out⟩
        have hF5 : Pg.all c.ts n k (cnt + 1) g4 s5 = R := by rw [← HF4.out, hE5]; rfl
        have hK45 : Kr c q V w5 := Kr.of_kp hK5
        have hst5 : AllSt c X w q pp w.heap.size n R k (cnt + 1) g4 s5 x1 x4 w5 :=
          ⟨hR5, HP4.out.kp hr hb hK5, HK4.out.trans hK45, hK45.map HTB.out (by omega) (by omega) (by omega), hF5, by omega, by omega, by omega⟩
        have HST5 := Lib.hid hst5
        clear hst5 hK45 hF5 hR5 hK5 hE5 HT HV HK4 HP4 HF4 HTB HST
        go_wp2_with fail
        go_roundg k
        case measure => omega
        case rel => exact ⟨cnt + 1, g4, s5, x1, x4, by go_num, HST5.out⟩
end Go.Proofs.YtnobamncenokdaaGreatDoor
