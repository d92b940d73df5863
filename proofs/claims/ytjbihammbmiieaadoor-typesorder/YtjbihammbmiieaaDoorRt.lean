/- The document's text of a term. -/
import Derived.Test.YtjbihammbmiieaaDoorRb
import Derived.Test.YtjbihammbmiieaaDoorRd
import Derived.Test.YtjbihammbmiieaaDoorNm
namespace Go.Proofs.YtjbihammbmiieaaDoor
open Go.RowKit Un

/-- rows of numbers, from N on -/
def FI (N : Nat) (k : Nat) (o : Obj) : Prop := N ≤ k ∧ ∃ cs, o = .cells cs 3 (0, 0)
theorem TermAt.lin {B bt : Nat} {T : Ts} {v : Value} {N : Nat} {w w' : World} (h : TermAt B w bt T v) (k : Fr (FI N) w w') : TermAt B w' bt T v := by
  refine ⟨Nat.le_trans h.hB k.size, h.lo, k.heap h.blk ?_, k.own h.own ?_, h.few, h.good⟩
  · rintro ⟨_, cs, e⟩; injection e with _ e; exact absurd e (by decide)
  · rintro g cs _ ⟨_, cs', e⟩; injection e with _ e; exact absurd e (by decide)
theorem ix_at {n : Nat} : ∀ {l : List Nat} {k : Nat}, (∀ j x, j < k → l[j]? = some x → x ≠ n) → l[k]? = some n → ix n l = some k
  | [], _, _, h => by simp at h
  | m :: l, 0, _, h => by simp at h; subst h; rw [ix, if_pos rfl]
  | m :: l, k + 1, h, e => by
    rw [ix, if_neg (h 0 m (by omega) rfl), ix_at (k := k) (fun j x hj hx => h (j + 1) x (by omega) (by simpa using hx)) (by simpa using e)]; rfl
theorem ix_no {n : Nat} : ∀ {l : List Nat}, (∀ j x, j < l.length → l[j]? = some x → x ≠ n) → ix n l = none
  | [], _ => rfl
  | m :: l, h => by
    rw [ix, if_neg (h 0 m (by simp) rfl), ix_no (fun j x hj hx => h (j + 1) x (by rw [List.length_cons]; omega) (by simpa using hx))]; rfl
def RTextP (N : Nat) (t : Ty) (nums : List Nat) (sv : Value) (w : World) (e : Ending) (w' : World) : Prop :=
  ∃ sv', e = .returned (.tuple #[.string ⟨(txt t nums).1.toArray⟩, sv']) ∧ w'.ownsRow N 3 1 sv' (txt t nums).2.length (nats (txt t nums).2) ∧ Fr (FI N) w w'
theorem Tryd.info3 : (Tryd.prog.info? 3).map (fun i => (i.zero, i.size, i.bytes)) = some (some (.int .i64 0), 1, 8) := by kernel_rfl
set_option maxRecDepth 100000 in
set_option maxHeartbeats 2000000 in
theorem rtext_any (B bt : Nat) (T : Ts) (v : Value) (N : Nat) (hT : T.length ≤ 99) : ∀ (t : Ty) (x : Nat) (nums : List Nat) (sv : Value) (w : World), TermAt B w bt T v → x < T.length → Val T x t → w.ownsRow N 3 1 sv nums.length (nats nums) → N ≤ w.heap.size → Slim T.length nums → t.size ≤ 10000000 →
    Calls Tryd.prog 28 #[.pointer (some ⟨bt, 0, none⟩), .int .i64 x, sv] w (RTextP N t nums sv w) := by
  intro t
  induction t with
  | int =>
    intro x nums sv w h hx hv hown hN hs hz
    obtain ⟨sa, sc, rfl⟩ := own_form hown
    obtain ⟨m, y, hto, hvy⟩ := hv.to
    have hyl := hto.lt h.good.wf hx
    have k1 : (tm T y).kind = 1 := by
      cases hvy with
      | is_ q _ => rw [hto.root] at q; cases q
      | int _ q => exact q
    obtain ⟨g, cap, rfl, hg, hne2, hcap⟩ := h.row (by omega)
    have hc := h.cell
    obtain ⟨c0, _, _, _⟩ := h.term hyl
    rw [k1] at c0
    have H := Lib.hid h; have TO := Lib.hid hto; have OWN := Lib.hid hown
    clear h hto hv hvy k1 hown
    go_enter Tryd.func28, Tryd.ntmps28
    go_wp2_with fail
    refine (rfind_any B bt T _ x y m w H.out hx TO.out).mono ?_
    rintro e w1 ⟨rfl, rfl⟩
    go_wp2
    go_ret2
    exact ⟨_, rfl, OWN.out, Fr.refl _ _⟩
  | bool =>
    intro x nums sv w h hx hv hown hN hs hz
    obtain ⟨sa, sc, rfl⟩ := own_form hown
    obtain ⟨m, y, hto, hvy⟩ := hv.to
    have hyl := hto.lt h.good.wf hx
    have k1 : (tm T y).kind = 2 := by
      cases hvy with
      | is_ q _ => rw [hto.root] at q; cases q
      | bool _ q => exact q
    obtain ⟨g, cap, rfl, hg, hne2, hcap⟩ := h.row (by omega)
    have hc := h.cell
    obtain ⟨c0, _, _, _⟩ := h.term hyl
    rw [k1] at c0
    have H := Lib.hid h; have TO := Lib.hid hto; have OWN := Lib.hid hown
    clear h hto hv hvy k1 hown
    go_enter Tryd.func28, Tryd.ntmps28
    go_wp2_with fail
    refine (rfind_any B bt T _ x y m w H.out hx TO.out).mono ?_
    rintro e w1 ⟨rfl, rfl⟩
    go_wp2
    go_ret2
    exact ⟨_, rfl, OWN.out, Fr.refl _ _⟩
  | unit =>
    intro x nums sv w h hx hv hown hN hs hz
    obtain ⟨sa, sc, rfl⟩ := own_form hown
    obtain ⟨m, y, hto, hvy⟩ := hv.to
    have hyl := hto.lt h.good.wf hx
    have k1 : (tm T y).kind = 3 := by
      cases hvy with
      | is_ q _ => rw [hto.root] at q; cases q
      | unit _ q => exact q
    obtain ⟨g, cap, rfl, hg, hne2, hcap⟩ := h.row (by omega)
    have hc := h.cell
    obtain ⟨c0, _, _, _⟩ := h.term hyl
    rw [k1] at c0
    have H := Lib.hid h; have TO := Lib.hid hto; have OWN := Lib.hid hown
    clear h hto hv hvy k1 hown
    go_enter Tryd.func28, Tryd.ntmps28
    go_wp2_with fail
    refine (rfind_any B bt T _ x y m w H.out hx TO.out).mono ?_
    rintro e w1 ⟨rfl, rfl⟩
    go_wp2
    go_ret2
    exact ⟨_, rfl, OWN.out, Fr.refl _ _⟩
  | var n =>
    intro x nums sv w h hx hv hown hN hs hz
    obtain ⟨sa, sc, rfl⟩ := own_form hown
    obtain ⟨m, y, hto, hvy⟩ := hv.to
    have hyl := hto.lt h.good.wf hx
    obtain ⟨e, k0⟩ : n = y ∧ (tm T y).kind = 0 := by
      cases hvy with
      | is_ q _ => rw [hto.root] at q; cases q
      | var _ q => exact ⟨rfl, q⟩
    subst e
    obtain ⟨g, cap, rfl, hg, hne2, hcap⟩ := h.row (by omega)
    have hc := h.cell
    obtain ⟨c0, _, _, _⟩ := h.term hyl
    rw [k0] at c0
    have hnl := hs.le
    have H := Lib.hid h; have TO := Lib.hid hto; have OWN := Lib.hid hown
    obtain ⟨i0, hi, hz0, hz1, hz2⟩ := info_parts Tryd.info3
    have HI := Lib.hid hi; have HZ := Lib.hid hz0; have HZ1 := Lib.hid hz1; have HZ2 := Lib.hid hz2
    clear h hto hv hvy k0 hown hi hz0 hz1 hz2
    go_enter Tryd.func28, Tryd.ntmps28
    go_wp2_with fail
    refine (rfind_any B bt T _ x n m w H.out hx TO.out).mono ?_
    rintro e w1 ⟨rfl, rfl⟩
    go_wp2
    go_loop [12] (fun i => ∃ k : Nat, k ≤ nums.length ∧ i = .int .i64 k ∧ ∀ j q, j < k → nums[j]? = some q → q ≠ n) (fun i => nums.length - (intOf i).toNat)
    case atStart => exact ⟨0, Nat.zero_le _, rfl, fun j q hj => absurd hj (Nat.not_lt_zero j)⟩
    case round =>
      obtain ⟨k, hk, rfl, hno⟩ := hrel
      have HNO := Lib.hid hno
      clear hno
      by_cases hlt : k < nums.length
      · obtain ⟨q, hq⟩ : ∃ q, nums[k]? = some q := ⟨_, List.getElem?_eq_getElem hlt⟩
        obtain ⟨gs, scap, e, _, _⟩ := row_some OWN.out (by omega)
        cases e
        have hcq := own_cell OWN.out (nats_get hq)
        have HQ := Lib.hid hq
        clear hq
        by_cases he : q = n
        · subst he
          have hix := ix_at HNO.out HQ.out
          have hd := dec_small (n := k) (by omega)
          have HIX := Lib.hid hix
          clear hix
          go_wp2_with fail
          refine (digits_any k (by omega) w).mono ?_
          rintro e w2 ⟨rfl, hb⟩
          have hres : RTextP N (.var q) nums (.slice (some ⟨gs, 0, none⟩) nums.length sc) w (.returned (.tuple #[.string ⟨(39 :: dec k).toArray⟩, .slice (some ⟨gs, 0, none⟩) nums.length sc])) w2 := by
            have e : txt (.var q) nums = (39 :: dec k, nums) := by rw [Un.txt, HIX.out]
            exact ⟨_, by rw [e], by rw [e]; exact own_below OWN.out hb, Fr.of_below hb⟩
          have HRES := Lib.hid hres
          clear hres hb
          go_wp2
          go_ret2
          have e : ((⟨#[39]⟩ : ByteArray) ++ ⟨(dec k).toArray⟩) = ⟨(39 :: dec k).toArray⟩ := by apply ByteArray.ext; simp
          have hr := HRES.out
          rw [← e] at hr
          exact hr
        · go_wp2
          go_round
          case rel =>
            refine ⟨k + 1, by omega, by go_num, fun j r hj hr => ?_⟩
            by_cases hjk : j = k
            · subst hjk; rw [HQ.out] at hr; injection hr with hr; subst hr; exact he
            · exact HNO.out j r (by omega) hr
          case measure => simp [intOf]; omega
      · obtain rfl : k = nums.length := by omega
        have hix := ix_no HNO.out
        have hd := dec_small (n := nums.length) (by omega)
        have HIX := Lib.hid hix
        clear hix
        go_wp2_with fail
        refine (digits_any nums.length (by omega) w).mono ?_
        rintro e w2 ⟨rfl, hb⟩
        have ho2 := own_below OWN.out hb
        have HO2 := Lib.hid ho2; have HB := Lib.hid hb
        clear ho2 hb
        go_wp2_with (at_builtin; refine wpList_append_own _ rfl _ _ 45 rfl N 3 i0 (.int .i64 0) 1 8 Tryd.underlying45 HI.out HZ.out HZ1.out HZ2.out rfl (by decide) _ nums.length (nats nums) rfl (HO2.out.alloc _) ⟨w2.heap.size, 0, none⟩ 1 1 [.int .i64 (n : Int)] rfl rfl ?c1 ?c2 ?c3 ?c4 ?c5 ?_)
        case c1 => exact World.news_of_block (heap_alloc_new w2 _)
        case c2 => intro u hu; simp at hu; subst hu; rfl
        case c3 => unfold maxLen; omega
        case c4 => omega
        case c5 => have := HB.out.size; simp; omega
        intro v' w4 hown hgrow _
        have hba : Below w2.heap.size w2 (w2.alloc (.cells #[.int .i64 (n : Int)] 3)) := (Below.refl _ w2).alloc (Nat.le_refl _) _
        have hoa := own_below HO2.out hba
        have hlin : Fr (FI N) w w4 := ((Fr.of_below HB.out).trans (Fr.of_below hba)).trans (Fr.grown hoa hgrow (fun g cs hg => ⟨hg, cs, rfl⟩))
        have hres : RTextP N (.var n) nums (.slice sa nums.length sc) w (.returned (.tuple #[.string ⟨(39 :: dec nums.length).toArray⟩, v'])) w4 := by
          have e : txt (.var n) nums = (39 :: dec nums.length, nums ++ [n]) := by rw [Un.txt, HIX.out]
          refine ⟨v', by rw [e], ?_, hlin⟩
          rw [e]
          show w4.ownsRow N 3 1 v' (nums ++ [n]).length (nats (nums ++ [n]))
          rw [nats_snoc, List.length_append]; exact hown
        have HRES := Lib.hid hres
        clear hres hlin hoa hba hown hgrow
        go_wp2
        go_ret2
        have e : ((⟨#[39]⟩ : ByteArray) ++ ⟨(dec nums.length).toArray⟩) = ⟨(39 :: dec nums.length).toArray⟩ := by apply ByteArray.ext; simp
        have hr := HRES.out
        rw [← e] at hr
        exact hr
  | pair s u ih1 ih2 =>
    intro x nums sv w h hx hv hown hN hs hz
    obtain ⟨sa, sc, rfl⟩ := own_form hown
    obtain ⟨m, y, hto, hvy⟩ := hv.to
    have hyl := hto.lt h.good.wf hx
    obtain ⟨k4, hvs, hvu⟩ : (tm T y).kind = 4 ∧ Val T (tm T y).a s ∧ Val T (tm T y).b u := by
      cases hvy with
      | is_ q _ => rw [hto.root] at q; cases q
      | pair _ q l r => exact ⟨q, l, r⟩
    obtain ⟨p1, p2⟩ := h.good.wf.parts y hyl k4
    have hsz : s.size + u.size + 1 ≤ 10000000 := hz
    have i1 := ih1 _ nums _ w h p1 hvs hown hN hs (by omega)
    have hos : ∀ q, s.Occ q → q < T.length := fun q hq => hvs.occ_lt h.good.wf p1 hq
    have hou : ∀ q, u.Occ q → q < T.length := fun q hq => hvu.occ_lt h.good.wf p2 hq
    have hs2 := hs.txt s hos
    have l1 := txt_len hT s hs hos
    have l2 := txt_len hT u hs2 hou
    have i2 := fun (sv' : Value) (w' : World) (h' : TermAt B w' bt T v) (ho' : w'.ownsRow N 3 1 sv' (txt s nums).2.length (nats (txt s nums).2)) (hN' : N ≤ w'.heap.size) => ih2 _ (txt s nums).2 sv' w' h' p2 hvu ho' hN' hs2 (by omega)
    obtain ⟨g, cap, rfl, hg, hne2, hcap⟩ := h.row (by omega)
    have hc := h.cell
    obtain ⟨c0, c1, c2, _⟩ := h.term hyl
    rw [k4] at c0
    have hl : T.length ≤ 100000 := h.few
    have H := Lib.hid h; have TO := Lib.hid hto; have OWN := Lib.hid hown; have I1 := Lib.hid i1; have I2 := Lib.hid i2
    clear h hto hv hvy k4 hown i1 i2 ih1 ih2 hvs hvu hs hos hou hs2
    go_enter Tryd.func28, Tryd.ntmps28
    go_wp2_with fail
    refine (rfind_any B bt T _ x y m w H.out hx TO.out).mono ?_
    rintro e w1 ⟨rfl, rfl⟩
    go_wp2_with fail
    refine I1.out.mono ?_
    rintro e w1 ⟨sv1, rfl, ho1, hl1⟩
    have h1 := H.out.lin hl1
    have hc1 := h1.cell
    have t2 := (h1.term hyl).2.2.1
    have HO1 := Lib.hid ho1; have HL1 := Lib.hid hl1; have H1 := Lib.hid h1
    clear ho1 hl1 h1
    go_wp2_with fail
    refine (I2.out sv1 w1 H1.out HO1.out (Nat.le_trans hN HL1.out.size)).mono ?_
    rintro e w2 ⟨sv2, rfl, ho2, hl2⟩
    have hres : RTextP N (.pair s u) nums (.slice sa nums.length sc) w (.returned (.tuple #[.string ⟨(txt (.pair s u) nums).1.toArray⟩, sv2])) w2 := ⟨sv2, rfl, ho2, HL1.out.trans hl2⟩
    have HRES := Lib.hid hres
    clear hres ho2 hl2
    go_wp2
    go_ret2
    have e : ((⟨#[40]⟩ : ByteArray) ++ ⟨(txt s nums).1.toArray⟩ ++ ⟨#[44, 32]⟩ ++ ⟨(txt u (txt s nums).2).1.toArray⟩ ++ ⟨#[41]⟩) = ⟨(txt (.pair s u) nums).1.toArray⟩ := by
      apply ByteArray.ext
      rw [Un.txt]
      simp
    have hr := HRES.out
    rw [← e] at hr
    exact hr
end Go.Proofs.YtjbihammbmiieaaDoor
