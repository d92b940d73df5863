import Derived.Test.YtcelelnmphdlbaaGreatDoorTable

/- An item. -/
namespace Go.Proofs.YtcelelnmphdlbaaGreatDoor
open Go.RowKit Tn Lx
attribute [local go_sem] tok_field0 tok_field1 tok_field3

set_option maxRecDepth 100000 in
set_option maxHeartbeats 8000000 in
theorem item_ok (c : Cx) (X : Nat → Prop) (w : World) (s s1 : Ex.S) (q pp bm n : Nat) (v1 v2 v3 : Value) (g g1 : Py.St) (h : Rd c X w s) (hP : Pm c q pp v1 v2 v3 w g) (hm : w.heap[bm]? = some (.map tabE 5)) (hm1 : bm ≠ c.r ∧ bm ≠ c.bt ∧ bm ≠ q) (hi : Py.itemO c.ts n g s = some (g1, s1)) (hf1 : g.conf.length + n ≤ 2000) (hf2 : g.integ.length + n ≤ 2000) (hf3 : g.ord.length ≤ 2000) :
    Calls Tryz.prog 34 #[.pointer (some ⟨pp, 0, none⟩), .map (some bm)] w (ReadY c X w q pp g1 s1) := by
  have hr1 := h.rlt; have hb1 := h.blt; have hg1 := h.glt; have hsz := h.size
  have p0 := hP.p0
  rw [Py.itemO] at hi
  obtain ⟨s2, ht, hi⟩ := Option.bind_eq_some_iff.1 hi
  obtain ⟨⟨g3, s3⟩, hrd, hi⟩ := Option.bind_eq_some_iff.1 hi
  obtain ⟨s4, ht2, hi⟩ := Option.bind_eq_some_iff.1 hi
  injection hi with hi; injection hi with h1 h2
  obtain rfl : g3 = g1 := h1
  obtain rfl : s4 = s1 := h2
  obtain ⟨fid, hen, hlook, hread⟩ := reads_any c X n q pp bm _ g g3 s2 s3 hrd hf1 hf2 hf3
  have hN := next_any c X w s h
  generalize Ex.tk c.ts s.p = t at *
  have HN := Lib.hid hN; have HLK := Lib.hid hlook; have HRD := Lib.hid hread; have HP := Lib.hid hP; have HR := Lib.hid h; have HM := Lib.hid hm; have HT := Lib.hid ht; have HT2 := Lib.hid ht2
  clear hN hlook hread hP h hm ht ht2 hrd
  go_enter Tryz.func34, Tryz.ntmps34
  go_wp2_with fail
  refine HN.out.mono ?_
  rintro e w1 ⟨rfl, hb1'⟩
  have hP1 := HP.out.below hb1'
  have p01 := hP1.p0
  have lk := HLK.out w1 ((hb1'.block _ (lt_of_heap HM.out)).trans HM.out)
  obtain ⟨V, hV⟩ : ∃ V, w1.alloc (.cells #[.string ⟨t.text.toArray⟩] 9) = V := ⟨_, rfl⟩
  have hbV : Below w1.heap.size w1 V := by rw [← hV]; exact (Below.refl _ w1).alloc (Nat.le_refl _) _
  have ks : V.cell? ⟨w1.heap.size, 0, none⟩ = some (.string ⟨t.text.toArray⟩) := by rw [← hV]; exact (blk_cell (blk_new w1 _) 0).trans rfl
  have hbW : Below w.heap.size w V := hb1'.trans (hbV.mono hb1'.size)
  have hT := take_ok c X V s s2 t.text w1.heap.size (HR.out.below hbW) ks HT.out
  have HTK := Lib.hid hT; have HV := Lib.hid hV; have HBW := Lib.hid hbW; have HPV := Lib.hid (HP.out.below hbW)
  clear hT hV hbV ks hb1' hP1 hbW HN HT HLK
  unfold tval
  go_wp2_with fail
  rw [HV.out]
  refine HTK.out.mono ?_
  rintro e w2 ⟨rfl, hR2, hK2⟩
  have hP2 := HPV.out.kp hr1 hb1 hK2
  have hKw2 := Below.then_kp HBW.out hK2
  have hrd2 := HRD.out w2 v1 v2 v3 hR2 hP2
  have HRD2 := Lib.hid hrd2; have HK2 := Lib.hid hKw2
  clear hrd2 hP2 hKw2 hR2 hK2 HTK HV HBW HPV HRD lk
  go_wp2_with fail
  refine HRD2.out.mono ?_
  rintro e w3 ⟨u1, u2, u3, rfl, hR3, hP3, hK3⟩
  have p03 := hP3.p0
  obtain ⟨V3, hV3⟩ : ∃ V, w3.alloc (.cells #[.string ⟨#[59]⟩] 9) = V := ⟨_, rfl⟩
  have hbV3 : Below w3.heap.size w3 V3 := by rw [← hV3]; exact (Below.refl _ w3).alloc (Nat.le_refl _) _
  have ks3 : V3.cell? ⟨w3.heap.size, 0, none⟩ = some (.string ⟨#[59]⟩) := by rw [← hV3]; exact (blk_cell (blk_new w3 _) 0).trans rfl
  have hT3 := take_ok c X V3 s3 s4 [59] w3.heap.size (hR3.below hbV3) ks3 HT2.out
  have HT3 := Lib.hid hT3; have HV3 := Lib.hid hV3; have HP3 := Lib.hid (hP3.below hbV3); have HK3 := Lib.hid (((Kr.of_kp (q := q) HK2.out).trans hK3).then_below hbV3)
  clear hT3 hV3 hbV3 ks3 hR3 hP3 hK3 HRD2 HK2 HT2
  go_wp2_with fail
  rw [HV3.out]
  refine HT3.out.mono ?_
  rintro e w4 ⟨rfl, hR4, hK4⟩
  have HR4 := Lib.hid hR4; have HP4 := Lib.hid (HP3.out.kp hr1 hb1 hK4); have HK4 := Lib.hid (HK3.out.trans (Kr.of_kp (q := q) hK4))
  clear hR4 hK4 HT3 HV3 HP3 HK3
  go_wp2
  go_ret
  exact ⟨_, _, _, rfl, HR4.out, HP4.out, HK4.out⟩
end Go.Proofs.YtcelelnmphdlbaaGreatDoor


/- All items. -/
namespace Go.Proofs.YtcelelnmphdlbaaGreatDoor
open Go.RowKit Tn Lx
attribute [local go_sem] tok_field0 tok_field1 tok_field3

namespace Py
theorem list_few {ts : List Tok} : ∀ (n : Nat) (l : List Nm) (s : Ex.S) (r : List Nm × Ex.S), listO ts n l s = some r → r.1.length ≤ l.length + n
  | 0, l, s, r, h => by rw [listO] at h; cases h
  | n + 1, l, s, r, h => by
    rw [listO] at h
    obtain ⟨⟨m, s1⟩, _, h⟩ := Option.bind_eq_some_iff.1 h
    by_cases hi : Ex.is ts s1 [44] = true
    · simp only [hi, if_true] at h
      have := list_few n _ _ _ h
      simp at this; omega
    · simp only [hi] at h
      injection h with h; subst h; simp
theorem item_few {ts : List Tok} {n : Nat} {g g1 : St} {s s1 : Ex.S} (h : itemO ts n g s = some (g1, s1)) : g1.conf.length ≤ g.conf.length + n ∧ g1.integ.length ≤ g.integ.length + n ∧ g1.ord.length ≤ g.ord.length + 1 := by
  rw [itemO] at h
  obtain ⟨s2, _, h⟩ := Option.bind_eq_some_iff.1 h
  obtain ⟨⟨g3, s3⟩, hr, h⟩ := Option.bind_eq_some_iff.1 h
  obtain ⟨s4, _, h⟩ := Option.bind_eq_some_iff.1 h
  injection h with h; injection h with h1 _
  obtain rfl : g3 = g1 := h1
  rw [restO] at hr
  split at hr
  · obtain ⟨r, hl, hr⟩ := Option.bind_eq_some_iff.1 hr
    injection hr with hr; injection hr with h1 _; subst h1
    have := list_few n _ _ _ hl
    exact ⟨this, by simp, by simp⟩
  · split at hr
    · obtain ⟨r, hl, hr⟩ := Option.bind_eq_some_iff.1 hr
      injection hr with hr; injection hr with h1 _; subst h1
      have := list_few n _ _ _ hl
      exact ⟨by simp, this, by simp⟩
    · split at hr
      · obtain ⟨r, hl, hr⟩ := Option.bind_eq_some_iff.1 hr
        injection hr with hr; injection hr with h1 _; subst h1
        exact ⟨by simp, by simp, by simp⟩
      · split at hr
        · obtain ⟨r, hl, hr⟩ := Option.bind_eq_some_iff.1 hr
          split at hr
          · injection hr with hr; injection hr with h1 _; subst h1
            exact ⟨by simp, by simp, by simp⟩
          · cases hr
        · cases hr
end Py

structure AllSt (c : Cx) (X : Nat → Prop) (w : World) (q pp bm n : Nat) (R : Py.St) (k cnt : Nat) (g : Py.St) (s : Ex.S) (v1 v2 v3 : Value) (wr : World) : Prop where
  rd : Rd c X wr s
  pm : Pm c q pp v1 v2 v3 wr g
  kr : Kr c q w wr
  tab : wr.heap[bm]? = some (.map tabE 5)
  fin : Py.allO c.ts n k cnt g s = some R
  few1 : g.conf.length ≤ cnt * n
  few2 : g.integ.length ≤ cnt * n
  few3 : g.ord.length ≤ cnt
  le : cnt ≤ 100

set_option maxRecDepth 100000 in
set_option maxHeartbeats 8000000 in
theorem yall_ok (c : Cx) (X : Nat → Prop) (w : World) (s : Ex.S) (n q pp f : Nat) (v1 v2 v3 : Value) (g R : Py.St) (hn : n ≤ 15) (h : Rd c X w s) (hP : Pm c q pp v1 v2 v3 w g) (hfin : Py.allO c.ts n f 0 g s = some R) (hl1 : g.conf.length = 0) (hl2 : g.integ.length = 0) (hl3 : g.ord.length = 0) :
    Calls Tryz.prog 16 #[.pointer (some ⟨pp, 0, none⟩)] w fun e w' => ∃ u1 u2 u3, e = .returned .nilIface ∧ Pm c q pp u1 u2 u3 w' R ∧ Kr c q w w' := by
  have hr := h.rlt; have hb := h.blt; have hqB := hP.qB; have hsz := h.size
  have hql := lt_of_heap hP.pol
  have hbW : Below w.heap.size w (w.alloc (.map tabE 5)) := (Below.refl _ w).alloc (Nat.le_refl _) _
  have hst0 : AllSt c X w q pp w.heap.size n R f 0 g s v1 v2 v3 (w.alloc (.map tabE 5)) :=
    ⟨h.below hbW, hP.below hbW, Kr.of_kp (Kp.of_below hbW), blk_new_map w, hfin, by omega, by omega, by omega, by omega⟩
  have HST0 := Lib.hid hst0
  clear hst0 h hP hl1 hl2 hl3 hbW hfin
  go_enter Tryz.func16, Tryz.ntmps16
  go_wp2_with fail
  refine (items_any w).mono ?_
  rintro e w1 ⟨rfl, rfl⟩
  go_wp2_with fail
  go_loopg [4] f (fun k nv wr => ∃ (cnt : Nat) (g' : Py.St) (s' : Ex.S) (u1 u2 u3 : Value), nv = .int .i64 (cnt : Int) ∧ AllSt c X w q pp w.heap.size n R k cnt g' s' u1 u2 u3 wr)
  case atStart => exact ⟨0, g, s, v1, v2, v3, rfl, HST0.out⟩
  case round =>
    obtain ⟨cnt, g', s', u1, u2, u3, rfl, hst⟩ := hrel
    obtain ⟨k, rfl⟩ : ∃ k, gk = k + 1 := by
      cases gk with
      | zero => have := hst.fin; rw [Py.allO] at this; cases this
      | succ k => exact ⟨k, rfl⟩
    have hfin := hst.fin
    rw [Py.allO] at hfin
    have p0 := hst.pm.p0
    have hN := next_any c X wr s' hst.rd
    have hcl := hst.le
    have HST := Lib.hid hst
    clear hst HST0
    cases hk : ((Ex.tk c.ts s'.p).kind == 0) with
    | true =>
      rw [hk, if_pos rfl] at hfin
      have hk2 : ((Ex.tk c.ts s'.p).kind != 0) = false := by simpa using hk
      generalize Ex.tk c.ts s'.p = t at *
      have hat : g'.att.text.isEmpty = false ∧ R = g' := by
        split at hfin
        · cases hfin
        · rename_i hne
          injection hfin with hfin
          exact ⟨by cases ht : g'.att.text with
            | nil => rw [ht] at hne; exact absurd rfl hne
            | cons _ _ => rfl, hfin.symm⟩
      obtain ⟨hat, rfl⟩ := hat
      have HN := Lib.hid hN
      clear hN hfin hk
      go_wp2_with fail
      refine HN.out.mono ?_
      rintro e w2 ⟨rfl, hb2⟩
      have hP2 := HST.out.pm.below hb2
      have hK2 := HST.out.kr.then_below hb2
      have hH := hasAtt_any c w2 q pp u1 u2 u3 R hP2
      rw [hat] at hH
      have HK2 := Lib.hid hK2; have HP2 := Lib.hid hP2; have HH := Lib.hid hH
      clear hK2 hP2 hb2 HST HN hH hat
      unfold tval
      go_wp2_with fail
      refine HH.out.mono ?_
      rintro e w3 ⟨rfl, rfl⟩
      go_wp2
      go_ret
      exact ⟨u1, u2, u3, rfl, HP2.out, HK2.out⟩
    | false =>
      rw [hk, if_neg (by decide)] at hfin
      have hk2 : ((Ex.tk c.ts s'.p).kind != 0) = true := by simpa using hk
      by_cases h100 : cnt = 100
      · rw [if_pos h100] at hfin; cases hfin
      rw [if_neg h100] at hfin
      have h100' : ((cnt : Int) == 100) = false := by
        have : (cnt : Int) ≠ 100 := by omega
        simpa using this
      obtain ⟨⟨g4, s4⟩, hit, hfin⟩ := Option.bind_eq_some_iff.1 hfin
      have hfw := Py.item_few hit
      have hmul : cnt * n ≤ 100 * 15 := Nat.mul_le_mul hcl hn
      have hmul2 : (cnt + 1) * n = cnt * n + n := Nat.succ_mul cnt n
      have ff1 := HST.out.few1; have ff2 := HST.out.few2; have ff3 := HST.out.few3
      have hI := fun w2 (hb2 : Below wr.heap.size wr w2) => item_ok c X w2 s' s4 q pp w.heap.size n u1 u2 u3 g' g4 (HST.out.rd.below hb2) (HST.out.pm.below hb2) ((hb2.block _ (lt_of_heap HST.out.tab)).trans HST.out.tab) ⟨by omega, by omega, by omega⟩ hit (by omega) (by omega) (by omega)
      generalize Ex.tk c.ts s'.p = t at *
      have HN := Lib.hid hN; have HFIN := Lib.hid hfin; have HI := Lib.hid hI; have HFW := Lib.hid hfw
      clear hN hfin hk hI hfw hit
      go_wp2_with fail
      refine HN.out.mono ?_
      rintro e w2 ⟨rfl, hb2⟩
      have hI2 := HI.out w2 hb2
      have HI2 := Lib.hid hI2; have HB2 := Lib.hid hb2
      clear hb2 HN p0 hI2 HI
      unfold tval
      go_wp2_with fail
      refine HI2.out.mono ?_
      rintro e w3 ⟨x1, x2, x3, rfl, hR3, hP3, hK3⟩
      have hKw := (HST.out.kr.then_below HB2.out).trans hK3
      have ht3 := hK3.map ((HB2.out.block _ (lt_of_heap HST.out.tab)).trans HST.out.tab) (by omega) (by omega) (by omega)
      have hst3 : AllSt c X w q pp w.heap.size n R k (cnt + 1) g4 s4 x1 x2 x3 w3 :=
        ⟨hR3, hP3, hKw, ht3, HFIN.out, by have := HFW.out.1; omega, by have := HFW.out.2.1; omega, by have := HFW.out.2.2; omega, by omega⟩
      have HST3 := Lib.hid hst3
      clear hst3 hR3 hP3 hK3 hKw ht3 HI2 HB2 HST HFIN HFW ff1 ff2 ff3 hmul hmul2
      go_wp2_with fail
      go_roundg k
      case measure => omega
      case rel => exact ⟨cnt + 1, g4, s4, x1, x2, x3, by go_num, HST3.out⟩
end Go.Proofs.YtcelelnmphdlbaaGreatDoor
