import Derived.Test.YtdkhkemllmegfaaGreatDoorPrt

/- Parts in brackets, commas between them. -/
namespace Go.Proofs.YtdkhkemllmegfaaGreatDoor.Sh
open Tn (Nd nd kid)
section
variable {ms : List Nd} {f : Nd → St → St}
theorem listGo_snoc (k : Int) : ∀ (l : List Int) (b : Bool) (s : St), listGo ms f b (l ++ [k]) s = part ms f k 0 (if (b && l.isEmpty) = true then listGo ms f b l s else tok (listGo ms f b l s) ⟨#[44]⟩)
  | [], b, s => by cases b <;> simp [listGo]
  | x :: l, b, s => by
    rw [List.cons_append, listGo, listGo_snoc k l false, listGo]
    simp
theorem listGo_step {l : List Int} {j : Nat} (h : j < l.length) (s : St) : listGo ms f true (l.take (j + 1)) s = part ms f (kid l j) 0 (if j = 0 then listGo ms f true (l.take j) s else tok (listGo ms f true (l.take j) s) ⟨#[44]⟩) := by
  rw [Tn.take_succ_kid h, listGo_snoc]
  cases j with
  | zero => simp
  | succ j =>
    have : (List.take (j + 1) l).isEmpty = false := by
      cases l with
      | nil => simp at h
      | cons x l => simp
    simp [this]
theorem listGo_part (hf : Grows f) (l : List Int) (s : St) : ∀ (d j : Nat), j + d = l.length → (listGo ms f true (l.take j) s).bs.length ≤ (listGo ms f true l s).bs.length
  | 0, j, h => by rw [show j = l.length by omega, List.take_length]; exact Nat.le_refl _
  | d + 1, j, h => by
    refine Nat.le_trans ?_ (listGo_part hf l s d (j + 1) (by omega))
    rw [listGo_step (by omega)]
    refine Nat.le_trans ?_ (part_mono hf _ _ _)
    split
    · exact Nat.le_refl _
    · exact tok_mono _ _
end
end Go.Proofs.YtdkhkemllmegfaaGreatDoor.Sh
namespace Go.Proofs.YtdkhkemllmegfaaGreatDoor
open Go.RowKit Go.Shelf Tn

/-- where the list is, behind j parts -/
structure LsAt (c : Pc) (bt : Nat) (ao : Option Addr) (cap : Nat) (ms : List Nd) (w0 w : World) (kids : List Int) (ka : Option Addr) (kc : Nat) (s : Sh.St) : Prop where
  en : En c bt ao cap ms w
  tk : TkP c w0 s w
  own : w.ownsRow 0 3 1 (.slice ka kids.length kc) kids.length (ints kids)
theorem LsAt.step {c : Pc} {bt : Nat} {ao : Option Addr} {cap : Nat} {ms : List Nd} {w0 w w' : World} {kids : List Int} {ka : Option Addr} {kc : Nat} {s s' : Sh.St} (h : LsAt c bt ao cap ms w0 w kids ka kc s) (k : TkP c w s' w') : LsAt c bt ao cap ms w0 w' kids ka kc s' :=
  ⟨h.en.tk h.tk.pr k, h.tk.trans k, h.tk.pr.own k h.own⟩

set_option maxHeartbeats 4000000 in
set_option maxRecDepth 100000 in
theorem list_any (c : Pc) (bt : Nat) (ao : Option Addr) (cap : Nat) (ms : List Nd) (f : Nd → Sh.St → Sh.St) (n : Nd) (s : Sh.St) (w : World) (ka : Option Addr) (kc : Nat)
    (hP : PartsC c bt ao cap ms f n) (he : En c bt ao cap ms w) (hp : Pr c w s) (ho : w.ownsRow 0 3 1 (.slice ka n.kids.length kc) n.kids.length (ints n.kids))
    (hl : (Sh.list ms f n.kids s).bs.length ≤ 1000000000) :
    Calls Tryz.prog 119 #[.pointer (some ⟨c.bp, 0, none⟩), .slice ka n.kids.length kc] w (TksP c w (Sh.list ms f n.kids s)) := by
  have hlen := hP.few
  obtain ⟨s0, e0⟩ : ∃ x, Sh.tok s Sh.opn = x := ⟨_, rfl⟩
  have m0 : s.bs.length ≤ s0.bs.length := by rw [← e0]; exact Sh.tok_mono _ _
  obtain ⟨sz, ez⟩ : ∃ x, Sh.listGo ms f true n.kids s0 = x := ⟨_, rfl⟩
  have mz : s0.bs.length ≤ sz.bs.length := by rw [← ez]; exact Sh.listGo_mono hP.grows _ _ _
  obtain ⟨s9, e9⟩ : ∃ x, Sh.tok sz Sh.cls = x := ⟨_, rfl⟩
  have m9 : sz.bs.length ≤ s9.bs.length := by rw [← e9]; exact Sh.tok_mono _ _
  have E : Sh.list ms f n.kids s = s9 := by rw [← e9, ← ez, ← e0]; rfl
  rw [E] at hl ⊢
  have HL0 : LsAt c bt ao cap ms w w n.kids ka kc s := ⟨he, ⟨hp, Pk.refl _ _⟩, ho⟩
  have HP := Lib.hid hP; have H0 := Lib.hid HL0; have E0 := Lib.hid e0; have EZ := Lib.hid ez; have E9 := Lib.hid e9
  clear HL0 hP he hp ho e0 ez e9 E
  go_enter Tryz.func119, Tryz.ntmps119
  go_wp2_with fail
  refine (toks1 c _ s Sh.opn H0.out.tk.pr (by rw [E0.out]; omega)).mono ?_
  rintro e w1 ⟨rfl, q⟩
  have H1 := Lib.hid (H0.out.step (E0.out ▸ q))
  clear q H0
  go_wp2_with fail
  go_loopw [11] (fun k wr => ∃ j : Nat, j ≤ n.kids.length ∧ k = .int .i64 j ∧ LsAt c bt ao cap ms w wr n.kids ka kc (Sh.listGo ms f true (n.kids.take j) s0)) (fun k _ => n.kids.length - (intOf k).toNat)
  case atStart => exact ⟨0, Nat.zero_le _, rfl, H1.out⟩
  case round =>
    obtain ⟨j, hj, rfl, hst⟩ := hrel
    by_cases hlt : j < n.kids.length
    · obtain ⟨g, rfl⟩ : ∃ g, ka = some ⟨g, 0, none⟩ := by
        rcases hst.own.2 with ⟨_, e⟩ | ⟨g, cp, cur, e, _⟩
        · omega
        · injection e with e1 _ _; exact ⟨g, e1⟩
      have kk : wr.cell? ⟨g, j, none⟩ = some (.int .i64 (kid n.kids j)) := own_cell hst.own (ints_kid hlt)
      obtain ⟨sj, ej⟩ : ∃ x, Sh.listGo ms f true (n.kids.take j) s0 = x := ⟨_, rfl⟩
      have hs := Sh.listGo_step (ms := ms) (f := f) hlt s0
      have hb := Sh.listGo_part (ms := ms) HP.out.grows n.kids s0 (n.kids.length - (j + 1)) (j + 1) (by omega)
      rw [EZ.out, hs] at hb
      rw [ej] at hst hs hb
      have HS := Lib.hid hs; have HST := Lib.hid hst
      clear hs hst ej
      by_cases h0 : j = 0
      · subst h0
        rw [if_pos rfl] at HS hb
        go_wp2_with fail
        refine (HP.out.part 0 hlt 0 sj _ HST.out.en HST.out.tk.pr (by omega)).mono ?_
        rintro e w2 ⟨rfl, q⟩
        have H2 := Lib.hid (HST.out.step q)
        clear q kk HST
        go_wp2
        go_roundw
        case rel => exact ⟨1, by omega, by go_num, by rw [show (1 : Nat) = 0 + 1 from rfl, HS.out]; exact H2.out⟩
        case measure => simp [intOf]; omega
      · rw [if_neg h0] at HS hb
        obtain ⟨sk, ek⟩ : ∃ x, Sh.tok sj ⟨#[44]⟩ = x := ⟨_, rfl⟩
        rw [ek] at HS hb
        have mk := Sh.part_mono (ms := ms) HP.out.grows (kid n.kids j) 0 sk
        have EK := Lib.hid ek
        clear ek
        have hpos : (0 : Int) < (j : Int) := by omega
        go_wp2_with fail
        refine (toks1 c _ sj ⟨#[44]⟩ HST.out.tk.pr (by rw [EK.out]; omega)).mono ?_
        rintro e w2 ⟨rfl, q⟩
        have H2 := Lib.hid (HST.out.step (EK.out ▸ q))
        clear q kk HST
        go_wp2_with fail
        refine (HP.out.part j hlt 0 sk _ H2.out.en H2.out.tk.pr (by omega)).mono ?_
        rintro e w3 ⟨rfl, q⟩
        have H3 := Lib.hid (H2.out.step q)
        clear q H2
        go_wp2
        go_roundw
        case rel => exact ⟨j + 1, by omega, by go_num, by rw [HS.out]; exact H3.out⟩
        case measure => simp [intOf]; omega
    · obtain rfl : j = n.kids.length := by omega
      rw [List.take_length, EZ.out] at hst
      have HST := Lib.hid hst
      clear hst
      go_wp2_with fail
      refine (toks1 c _ sz Sh.cls HST.out.tk.pr (by rw [E9.out]; omega)).mono ?_
      rintro e w2 ⟨rfl, q⟩
      have H2 := Lib.hid (HST.out.step (E9.out ▸ q))
      clear q HST
      go_wp2
      go_end0
      exact ⟨rfl, H2.out.tk⟩
end Go.Proofs.YtdkhkemllmegfaaGreatDoor


/- Unaries, as they are printed. -/
namespace Go.Proofs.YtdkhkemllmegfaaGreatDoor
open Go.RowKit Go.Shelf Tn

set_option maxHeartbeats 4000000 in
set_option maxRecDepth 100000 in
theorem unary_neg (c : Pc) (bt : Nat) (ao : Option Addr) (cap : Nat) (ms : List Nd) (f : Nd → Sh.St → Sh.St) (line col num : Int) (name : ByteArray) (kids : List Int) (s : Sh.St) (w : World) (ka : Option Addr) (kc : Nat)
    (hP : PartsC c bt ao cap ms f ⟨⟨#[110, 101, 103]⟩, line, col, name, num, kids⟩) (he : En c bt ao cap ms w) (hp : Pr c w s) (ho : w.ownsRow 0 3 1 (.slice ka kids.length kc) kids.length (ints kids)) (hk : kids.length = 1)
    (hl : (Sh.unary ms f dig ⟨⟨#[110, 101, 103]⟩, line, col, name, num, kids⟩ s).bs.length ≤ 1000000000) :
    Calls Tryz.prog 98 #[.pointer (some ⟨c.bp, 0, none⟩), nval ⟨⟨#[110, 101, 103]⟩, line, col, name, num, kids⟩ ka kc] w (TksP c w (Sh.unary ms f dig ⟨⟨#[110, 101, 103]⟩, line, col, name, num, kids⟩ s)) := by
  have h0 := Nx.start (n := ⟨⟨#[110, 101, 103]⟩, line, col, name, num, kids⟩) he hp ho
  obtain ⟨W, hW⟩ : ∃ W, w.alloc (.cells #[.string ⟨#[110, 101, 103]⟩, .int .i64 line, .int .i64 col, .string name, .int .i64 num, .slice ka kids.length kc] 40) = W := ⟨_, rfl⟩
  simp only at h0
  rw [hW] at h0
  obtain ⟨g, rfl⟩ := h0.some (by show 0 < kids.length; omega)
  obtain ⟨s1, e1⟩ : ∃ x, Sh.tok s ⟨#[45]⟩ = x := ⟨_, rfl⟩
  have m1 : s.bs.length ≤ s1.bs.length := by rw [← e1]; exact Sh.tok_mono _ _
  obtain ⟨s2, e2⟩ : ∃ x, Sh.part ms f (kid kids 0) 7 s1 = x := ⟨_, rfl⟩
  have m2 : s1.bs.length ≤ s2.bs.length := by rw [← e2]; exact Sh.part_mono hP.grows _ _ _
  have E : Sh.unary ms f dig ⟨⟨#[110, 101, 103]⟩, line, col, name, num, kids⟩ s = s2 := by rw [← e2, ← e1]; kernel_rfl
  rw [E] at hl ⊢
  have HP := Lib.hid hP; have HW := Lib.hid hW; have H0 := Lib.hid h0; have E1 := Lib.hid e1; have E2 := Lib.hid e2; have HK := Lib.hid hk
  clear hP hW h0 he hp ho E e1 e2 hk
  unfold nval
  go_enter Tryz.func98, Tryz.ntmps98
  go_upto_region 1 with fail
  rw [HW.out]
  have c0 := H0.out.c0
  simp only at c0
  go_wp2_with fail
  refine (toks1 c _ s _ H0.out.tk.pr (by rw [E1.out]; omega)).mono ?_
  rintro e w1 ⟨rfl, q⟩
  have H1 := Lib.hid (H0.out.step (E1.out ▸ q))
  clear q c0  H0
  have c5 := H1.out.c5; have kk := H1.out.kid rfl (j := 0) (by show _ < kids.length; rw [HK.out]; decide)
  simp only at c5 kk
  rw [HK.out] at c5
  go_wp2_with fail
  refine (HP.out.part 0 (by show _ < kids.length; rw [HK.out]; decide) 7 s1 _ H1.out.en H1.out.tk.pr (by rw [E2.out]; omega)).mono ?_
  rintro e w2 ⟨rfl, q⟩
  have H2 := Lib.hid (H1.out.step (E2.out ▸ q))
  clear q c5 kk H1
  go_wp2
  go_end0
  exact ⟨rfl, H2.out.tk⟩

set_option maxHeartbeats 4000000 in
set_option maxRecDepth 100000 in
theorem unary_not (c : Pc) (bt : Nat) (ao : Option Addr) (cap : Nat) (ms : List Nd) (f : Nd → Sh.St → Sh.St) (line col num : Int) (name : ByteArray) (kids : List Int) (s : Sh.St) (w : World) (ka : Option Addr) (kc : Nat)
    (hP : PartsC c bt ao cap ms f ⟨⟨#[110, 111, 116]⟩, line, col, name, num, kids⟩) (he : En c bt ao cap ms w) (hp : Pr c w s) (ho : w.ownsRow 0 3 1 (.slice ka kids.length kc) kids.length (ints kids)) (hk : kids.length = 1)
    (hl : (Sh.unary ms f dig ⟨⟨#[110, 111, 116]⟩, line, col, name, num, kids⟩ s).bs.length ≤ 1000000000) :
    Calls Tryz.prog 98 #[.pointer (some ⟨c.bp, 0, none⟩), nval ⟨⟨#[110, 111, 116]⟩, line, col, name, num, kids⟩ ka kc] w (TksP c w (Sh.unary ms f dig ⟨⟨#[110, 111, 116]⟩, line, col, name, num, kids⟩ s)) := by
  have h0 := Nx.start (n := ⟨⟨#[110, 111, 116]⟩, line, col, name, num, kids⟩) he hp ho
  obtain ⟨W, hW⟩ : ∃ W, w.alloc (.cells #[.string ⟨#[110, 111, 116]⟩, .int .i64 line, .int .i64 col, .string name, .int .i64 num, .slice ka kids.length kc] 40) = W := ⟨_, rfl⟩
  simp only at h0
  rw [hW] at h0
  obtain ⟨g, rfl⟩ := h0.some (by show 0 < kids.length; omega)
  obtain ⟨s1, e1⟩ : ∃ x, Sh.tok s ⟨#[110, 111, 116]⟩ = x := ⟨_, rfl⟩
  have m1 : s.bs.length ≤ s1.bs.length := by rw [← e1]; exact Sh.tok_mono _ _
  obtain ⟨s2, e2⟩ : ∃ x, Sh.part ms f (kid kids 0) 7 s1 = x := ⟨_, rfl⟩
  have m2 : s1.bs.length ≤ s2.bs.length := by rw [← e2]; exact Sh.part_mono hP.grows _ _ _
  have E : Sh.unary ms f dig ⟨⟨#[110, 111, 116]⟩, line, col, name, num, kids⟩ s = s2 := by rw [← e2, ← e1]; kernel_rfl
  rw [E] at hl ⊢
  have HP := Lib.hid hP; have HW := Lib.hid hW; have H0 := Lib.hid h0; have E1 := Lib.hid e1; have E2 := Lib.hid e2; have HK := Lib.hid hk
  clear hP hW h0 he hp ho E e1 e2 hk
  unfold nval
  go_enter Tryz.func98, Tryz.ntmps98
  go_upto_region 1 with fail
  rw [HW.out]
  have c0 := H0.out.c0
  simp only at c0
  go_wp2_with fail
  refine (toks1 c _ s _ H0.out.tk.pr (by rw [E1.out]; omega)).mono ?_
  rintro e w1 ⟨rfl, q⟩
  have H1 := Lib.hid (H0.out.step (E1.out ▸ q))
  clear q c0  H0
  have c5 := H1.out.c5; have kk := H1.out.kid rfl (j := 0) (by show _ < kids.length; rw [HK.out]; decide)
  simp only at c5 kk
  rw [HK.out] at c5
  go_wp2_with fail
  refine (HP.out.part 0 (by show _ < kids.length; rw [HK.out]; decide) 7 s1 _ H1.out.en H1.out.tk.pr (by rw [E2.out]; omega)).mono ?_
  rintro e w2 ⟨rfl, q⟩
  have H2 := Lib.hid (H1.out.step (E2.out ▸ q))
  clear q c5 kk H1
  go_wp2
  go_end0
  exact ⟨rfl, H2.out.tk⟩

set_option maxHeartbeats 4000000 in
set_option maxRecDepth 100000 in
theorem unary_fst (c : Pc) (bt : Nat) (ao : Option Addr) (cap : Nat) (ms : List Nd) (f : Nd → Sh.St → Sh.St) (line col num : Int) (name : ByteArray) (kids : List Int) (s : Sh.St) (w : World) (ka : Option Addr) (kc : Nat)
    (hP : PartsC c bt ao cap ms f ⟨⟨#[102, 115, 116]⟩, line, col, name, num, kids⟩) (he : En c bt ao cap ms w) (hp : Pr c w s) (ho : w.ownsRow 0 3 1 (.slice ka kids.length kc) kids.length (ints kids)) (hk : kids.length = 1)
    (hl : (Sh.unary ms f dig ⟨⟨#[102, 115, 116]⟩, line, col, name, num, kids⟩ s).bs.length ≤ 1000000000) :
    Calls Tryz.prog 98 #[.pointer (some ⟨c.bp, 0, none⟩), nval ⟨⟨#[102, 115, 116]⟩, line, col, name, num, kids⟩ ka kc] w (TksP c w (Sh.unary ms f dig ⟨⟨#[102, 115, 116]⟩, line, col, name, num, kids⟩ s)) := by
  have h0 := Nx.start (n := ⟨⟨#[102, 115, 116]⟩, line, col, name, num, kids⟩) he hp ho
  obtain ⟨W, hW⟩ : ∃ W, w.alloc (.cells #[.string ⟨#[102, 115, 116]⟩, .int .i64 line, .int .i64 col, .string name, .int .i64 num, .slice ka kids.length kc] 40) = W := ⟨_, rfl⟩
  simp only at h0
  rw [hW] at h0
  obtain ⟨g, rfl⟩ := h0.some (by show 0 < kids.length; omega)
  obtain ⟨s1, e1⟩ : ∃ x, Sh.tok s ⟨#[102, 115, 116]⟩ = x := ⟨_, rfl⟩
  have m1 : s.bs.length ≤ s1.bs.length := by rw [← e1]; exact Sh.tok_mono _ _
  obtain ⟨s2, e2⟩ : ∃ x, Sh.part ms f (kid kids 0) 7 s1 = x := ⟨_, rfl⟩
  have m2 : s1.bs.length ≤ s2.bs.length := by rw [← e2]; exact Sh.part_mono hP.grows _ _ _
  have E : Sh.unary ms f dig ⟨⟨#[102, 115, 116]⟩, line, col, name, num, kids⟩ s = s2 := by rw [← e2, ← e1]; kernel_rfl
  rw [E] at hl ⊢
  have HP := Lib.hid hP; have HW := Lib.hid hW; have H0 := Lib.hid h0; have E1 := Lib.hid e1; have E2 := Lib.hid e2; have HK := Lib.hid hk
  clear hP hW h0 he hp ho E e1 e2 hk
  unfold nval
  go_enter Tryz.func98, Tryz.ntmps98
  go_upto_region 1 with fail
  rw [HW.out]
  have c0 := H0.out.c0
  simp only at c0
  go_wp2_with fail
  refine (toks1 c _ s _ H0.out.tk.pr (by rw [E1.out]; omega)).mono ?_
  rintro e w1 ⟨rfl, q⟩
  have H1 := Lib.hid (H0.out.step (E1.out ▸ q))
  clear q c0  H0
  have c5 := H1.out.c5; have kk := H1.out.kid rfl (j := 0) (by show _ < kids.length; rw [HK.out]; decide)
  simp only at c5 kk
  rw [HK.out] at c5
  go_wp2_with fail
  refine (HP.out.part 0 (by show _ < kids.length; rw [HK.out]; decide) 7 s1 _ H1.out.en H1.out.tk.pr (by rw [E2.out]; omega)).mono ?_
  rintro e w2 ⟨rfl, q⟩
  have H2 := Lib.hid (H1.out.step (E2.out ▸ q))
  clear q c5 kk H1
  go_wp2
  go_end0
  exact ⟨rfl, H2.out.tk⟩

set_option maxHeartbeats 4000000 in
set_option maxRecDepth 100000 in
theorem unary_snd (c : Pc) (bt : Nat) (ao : Option Addr) (cap : Nat) (ms : List Nd) (f : Nd → Sh.St → Sh.St) (line col num : Int) (name : ByteArray) (kids : List Int) (s : Sh.St) (w : World) (ka : Option Addr) (kc : Nat)
    (hP : PartsC c bt ao cap ms f ⟨⟨#[115, 110, 100]⟩, line, col, name, num, kids⟩) (he : En c bt ao cap ms w) (hp : Pr c w s) (ho : w.ownsRow 0 3 1 (.slice ka kids.length kc) kids.length (ints kids)) (hk : kids.length = 1)
    (hl : (Sh.unary ms f dig ⟨⟨#[115, 110, 100]⟩, line, col, name, num, kids⟩ s).bs.length ≤ 1000000000) :
    Calls Tryz.prog 98 #[.pointer (some ⟨c.bp, 0, none⟩), nval ⟨⟨#[115, 110, 100]⟩, line, col, name, num, kids⟩ ka kc] w (TksP c w (Sh.unary ms f dig ⟨⟨#[115, 110, 100]⟩, line, col, name, num, kids⟩ s)) := by
  have h0 := Nx.start (n := ⟨⟨#[115, 110, 100]⟩, line, col, name, num, kids⟩) he hp ho
  obtain ⟨W, hW⟩ : ∃ W, w.alloc (.cells #[.string ⟨#[115, 110, 100]⟩, .int .i64 line, .int .i64 col, .string name, .int .i64 num, .slice ka kids.length kc] 40) = W := ⟨_, rfl⟩
  simp only at h0
  rw [hW] at h0
  obtain ⟨g, rfl⟩ := h0.some (by show 0 < kids.length; omega)
  obtain ⟨s1, e1⟩ : ∃ x, Sh.tok s ⟨#[115, 110, 100]⟩ = x := ⟨_, rfl⟩
  have m1 : s.bs.length ≤ s1.bs.length := by rw [← e1]; exact Sh.tok_mono _ _
  obtain ⟨s2, e2⟩ : ∃ x, Sh.part ms f (kid kids 0) 7 s1 = x := ⟨_, rfl⟩
  have m2 : s1.bs.length ≤ s2.bs.length := by rw [← e2]; exact Sh.part_mono hP.grows _ _ _
  have E : Sh.unary ms f dig ⟨⟨#[115, 110, 100]⟩, line, col, name, num, kids⟩ s = s2 := by rw [← e2, ← e1]; kernel_rfl
  rw [E] at hl ⊢
  have HP := Lib.hid hP; have HW := Lib.hid hW; have H0 := Lib.hid h0; have E1 := Lib.hid e1; have E2 := Lib.hid e2; have HK := Lib.hid hk
  clear hP hW h0 he hp ho E e1 e2 hk
  unfold nval
  go_enter Tryz.func98, Tryz.ntmps98
  go_upto_region 1 with fail
  rw [HW.out]
  have c0 := H0.out.c0
  simp only at c0
  go_wp2_with fail
  refine (toks1 c _ s _ H0.out.tk.pr (by rw [E1.out]; omega)).mono ?_
  rintro e w1 ⟨rfl, q⟩
  have H1 := Lib.hid (H0.out.step (E1.out ▸ q))
  clear q c0  H0
  have c5 := H1.out.c5; have kk := H1.out.kid rfl (j := 0) (by show _ < kids.length; rw [HK.out]; decide)
  simp only at c5 kk
  rw [HK.out] at c5
  go_wp2_with fail
  refine (HP.out.part 0 (by show _ < kids.length; rw [HK.out]; decide) 7 s1 _ H1.out.en H1.out.tk.pr (by rw [E2.out]; omega)).mono ?_
  rintro e w2 ⟨rfl, q⟩
  have H2 := Lib.hid (H1.out.step (E2.out ▸ q))
  clear q c5 kk H1
  go_wp2
  go_end0
  exact ⟨rfl, H2.out.tk⟩

set_option maxHeartbeats 4000000 in
set_option maxRecDepth 100000 in
theorem unary_get (c : Pc) (bt : Nat) (ao : Option Addr) (cap : Nat) (ms : List Nd) (f : Nd → Sh.St → Sh.St) (line col num : Int) (name : ByteArray) (kids : List Int) (s : Sh.St) (w : World) (ka : Option Addr) (kc : Nat)
    (hP : PartsC c bt ao cap ms f ⟨⟨#[103, 101, 116]⟩, line, col, name, num, kids⟩) (he : En c bt ao cap ms w) (hp : Pr c w s) (ho : w.ownsRow 0 3 1 (.slice ka kids.length kc) kids.length (ints kids))
    (hl : (Sh.unary ms f dig ⟨⟨#[103, 101, 116]⟩, line, col, name, num, kids⟩ s).bs.length ≤ 1000000000) :
    Calls Tryz.prog 98 #[.pointer (some ⟨c.bp, 0, none⟩), nval ⟨⟨#[103, 101, 116]⟩, line, col, name, num, kids⟩ ka kc] w (TksP c w (Sh.unary ms f dig ⟨⟨#[103, 101, 116]⟩, line, col, name, num, kids⟩ s)) := by
  have h0 := Nx.start (n := ⟨⟨#[103, 101, 116]⟩, line, col, name, num, kids⟩) he hp ho
  obtain ⟨W, hW⟩ : ∃ W, w.alloc (.cells #[.string ⟨#[103, 101, 116]⟩, .int .i64 line, .int .i64 col, .string name, .int .i64 num, .slice ka kids.length kc] 40) = W := ⟨_, rfl⟩
  simp only at h0
  rw [hW] at h0
  obtain ⟨s1, e1⟩ : ∃ x, Sh.tokens s [⟨#[33]⟩, name] = x := ⟨_, rfl⟩
  have m1 : s.bs.length ≤ s1.bs.length := by rw [← e1]; exact Sh.tokens_le _ _
  have E : Sh.unary ms f dig ⟨⟨#[103, 101, 116]⟩, line, col, name, num, kids⟩ s = s1 := by rw [← e1]; kernel_rfl
  rw [E] at hl ⊢
  have HP := Lib.hid hP; have HW := Lib.hid hW; have H0 := Lib.hid h0; have E1 := Lib.hid e1
  clear hP hW h0 he hp ho E e1
  unfold nval
  go_enter Tryz.func98, Tryz.ntmps98
  go_upto_region 1 with fail
  rw [HW.out]
  have c0 := H0.out.c0
  simp only at c0
  have c3 := H0.out.c3
  simp only at c3
  go_wp2_with fail
  refine (toks2 c _ s _ _ H0.out.tk.pr (by rw [E1.out]; omega)).mono ?_
  rintro e w1 ⟨rfl, q⟩
  have H1 := Lib.hid (H0.out.step (E1.out ▸ q))
  clear q c0 c3 H0
  go_wp2
  go_end0
  exact ⟨rfl, H1.out.tk⟩

set_option maxHeartbeats 4000000 in
set_option maxRecDepth 100000 in
theorem unary_true (c : Pc) (bt : Nat) (ao : Option Addr) (cap : Nat) (ms : List Nd) (f : Nd → Sh.St → Sh.St) (line col num : Int) (name : ByteArray) (kids : List Int) (s : Sh.St) (w : World) (ka : Option Addr) (kc : Nat)
    (hP : PartsC c bt ao cap ms f ⟨⟨#[116, 114, 117, 101]⟩, line, col, name, num, kids⟩) (he : En c bt ao cap ms w) (hp : Pr c w s) (ho : w.ownsRow 0 3 1 (.slice ka kids.length kc) kids.length (ints kids))
    (hl : (Sh.unary ms f dig ⟨⟨#[116, 114, 117, 101]⟩, line, col, name, num, kids⟩ s).bs.length ≤ 1000000000) :
    Calls Tryz.prog 98 #[.pointer (some ⟨c.bp, 0, none⟩), nval ⟨⟨#[116, 114, 117, 101]⟩, line, col, name, num, kids⟩ ka kc] w (TksP c w (Sh.unary ms f dig ⟨⟨#[116, 114, 117, 101]⟩, line, col, name, num, kids⟩ s)) := by
  have h0 := Nx.start (n := ⟨⟨#[116, 114, 117, 101]⟩, line, col, name, num, kids⟩) he hp ho
  obtain ⟨W, hW⟩ : ∃ W, w.alloc (.cells #[.string ⟨#[116, 114, 117, 101]⟩, .int .i64 line, .int .i64 col, .string name, .int .i64 num, .slice ka kids.length kc] 40) = W := ⟨_, rfl⟩
  simp only at h0
  rw [hW] at h0
  obtain ⟨s1, e1⟩ : ∃ x, Sh.tok s ⟨#[116, 114, 117, 101]⟩ = x := ⟨_, rfl⟩
  have m1 : s.bs.length ≤ s1.bs.length := by rw [← e1]; exact Sh.tok_mono _ _
  have E : Sh.unary ms f dig ⟨⟨#[116, 114, 117, 101]⟩, line, col, name, num, kids⟩ s = s1 := by rw [← e1]; kernel_rfl
  rw [E] at hl ⊢
  have HP := Lib.hid hP; have HW := Lib.hid hW; have H0 := Lib.hid h0; have E1 := Lib.hid e1
  clear hP hW h0 he hp ho E e1
  unfold nval
  go_enter Tryz.func98, Tryz.ntmps98
  go_upto_region 1 with fail
  rw [HW.out]
  have c0 := H0.out.c0
  simp only at c0
  go_wp2_with fail
  refine (toks1 c _ s _ H0.out.tk.pr (by rw [E1.out]; omega)).mono ?_
  rintro e w1 ⟨rfl, q⟩
  have H1 := Lib.hid (H0.out.step (E1.out ▸ q))
  clear q c0  H0
  go_wp2
  go_end0
  exact ⟨rfl, H1.out.tk⟩

set_option maxHeartbeats 4000000 in
set_option maxRecDepth 100000 in
theorem unary_false (c : Pc) (bt : Nat) (ao : Option Addr) (cap : Nat) (ms : List Nd) (f : Nd → Sh.St → Sh.St) (line col num : Int) (name : ByteArray) (kids : List Int) (s : Sh.St) (w : World) (ka : Option Addr) (kc : Nat)
    (hP : PartsC c bt ao cap ms f ⟨⟨#[102, 97, 108, 115, 101]⟩, line, col, name, num, kids⟩) (he : En c bt ao cap ms w) (hp : Pr c w s) (ho : w.ownsRow 0 3 1 (.slice ka kids.length kc) kids.length (ints kids))
    (hl : (Sh.unary ms f dig ⟨⟨#[102, 97, 108, 115, 101]⟩, line, col, name, num, kids⟩ s).bs.length ≤ 1000000000) :
    Calls Tryz.prog 98 #[.pointer (some ⟨c.bp, 0, none⟩), nval ⟨⟨#[102, 97, 108, 115, 101]⟩, line, col, name, num, kids⟩ ka kc] w (TksP c w (Sh.unary ms f dig ⟨⟨#[102, 97, 108, 115, 101]⟩, line, col, name, num, kids⟩ s)) := by
  have h0 := Nx.start (n := ⟨⟨#[102, 97, 108, 115, 101]⟩, line, col, name, num, kids⟩) he hp ho
  obtain ⟨W, hW⟩ : ∃ W, w.alloc (.cells #[.string ⟨#[102, 97, 108, 115, 101]⟩, .int .i64 line, .int .i64 col, .string name, .int .i64 num, .slice ka kids.length kc] 40) = W := ⟨_, rfl⟩
  simp only at h0
  rw [hW] at h0
  obtain ⟨s1, e1⟩ : ∃ x, Sh.tok s ⟨#[102, 97, 108, 115, 101]⟩ = x := ⟨_, rfl⟩
  have m1 : s.bs.length ≤ s1.bs.length := by rw [← e1]; exact Sh.tok_mono _ _
  have E : Sh.unary ms f dig ⟨⟨#[102, 97, 108, 115, 101]⟩, line, col, name, num, kids⟩ s = s1 := by rw [← e1]; kernel_rfl
  rw [E] at hl ⊢
  have HP := Lib.hid hP; have HW := Lib.hid hW; have H0 := Lib.hid h0; have E1 := Lib.hid e1
  clear hP hW h0 he hp ho E e1
  unfold nval
  go_enter Tryz.func98, Tryz.ntmps98
  go_upto_region 1 with fail
  rw [HW.out]
  have c0 := H0.out.c0
  simp only at c0
  go_wp2_with fail
  refine (toks1 c _ s _ H0.out.tk.pr (by rw [E1.out]; omega)).mono ?_
  rintro e w1 ⟨rfl, q⟩
  have H1 := Lib.hid (H0.out.step (E1.out ▸ q))
  clear q c0  H0
  go_wp2
  go_end0
  exact ⟨rfl, H1.out.tk⟩

set_option maxHeartbeats 4000000 in
set_option maxRecDepth 100000 in
theorem unary_hole (c : Pc) (bt : Nat) (ao : Option Addr) (cap : Nat) (ms : List Nd) (f : Nd → Sh.St → Sh.St) (line col num : Int) (name : ByteArray) (kids : List Int) (s : Sh.St) (w : World) (ka : Option Addr) (kc : Nat)
    (hP : PartsC c bt ao cap ms f ⟨⟨#[104, 111, 108, 101]⟩, line, col, name, num, kids⟩) (he : En c bt ao cap ms w) (hp : Pr c w s) (ho : w.ownsRow 0 3 1 (.slice ka kids.length kc) kids.length (ints kids))
    (hl : (Sh.unary ms f dig ⟨⟨#[104, 111, 108, 101]⟩, line, col, name, num, kids⟩ s).bs.length ≤ 1000000000) :
    Calls Tryz.prog 98 #[.pointer (some ⟨c.bp, 0, none⟩), nval ⟨⟨#[104, 111, 108, 101]⟩, line, col, name, num, kids⟩ ka kc] w (TksP c w (Sh.unary ms f dig ⟨⟨#[104, 111, 108, 101]⟩, line, col, name, num, kids⟩ s)) := by
  have h0 := Nx.start (n := ⟨⟨#[104, 111, 108, 101]⟩, line, col, name, num, kids⟩) he hp ho
  obtain ⟨W, hW⟩ : ∃ W, w.alloc (.cells #[.string ⟨#[104, 111, 108, 101]⟩, .int .i64 line, .int .i64 col, .string name, .int .i64 num, .slice ka kids.length kc] 40) = W := ⟨_, rfl⟩
  simp only at h0
  rw [hW] at h0
  obtain ⟨s1, e1⟩ : ∃ x, Sh.tokens s [⟨#[104, 111, 108, 101]⟩, name] = x := ⟨_, rfl⟩
  have m1 : s.bs.length ≤ s1.bs.length := by rw [← e1]; exact Sh.tokens_le _ _
  have E : Sh.unary ms f dig ⟨⟨#[104, 111, 108, 101]⟩, line, col, name, num, kids⟩ s = s1 := by rw [← e1]; kernel_rfl
  rw [E] at hl ⊢
  have HP := Lib.hid hP; have HW := Lib.hid hW; have H0 := Lib.hid h0; have E1 := Lib.hid e1
  clear hP hW h0 he hp ho E e1
  unfold nval
  go_enter Tryz.func98, Tryz.ntmps98
  go_upto_region 1 with fail
  rw [HW.out]
  have c0 := H0.out.c0
  simp only at c0
  have c3 := H0.out.c3
  simp only at c3
  go_wp2_with fail
  refine (toks2 c _ s _ _ H0.out.tk.pr (by rw [E1.out]; omega)).mono ?_
  rintro e w1 ⟨rfl, q⟩
  have H1 := Lib.hid (H0.out.step (E1.out ▸ q))
  clear q c0 c3 H0
  go_wp2
  go_end0
  exact ⟨rfl, H1.out.tk⟩

set_option maxHeartbeats 4000000 in
set_option maxRecDepth 100000 in
theorem unary_release (c : Pc) (bt : Nat) (ao : Option Addr) (cap : Nat) (ms : List Nd) (f : Nd → Sh.St → Sh.St) (line col num : Int) (name : ByteArray) (kids : List Int) (s : Sh.St) (w : World) (ka : Option Addr) (kc : Nat)
    (hP : PartsC c bt ao cap ms f ⟨⟨#[114, 101, 108, 101, 97, 115, 101]⟩, line, col, name, num, kids⟩) (he : En c bt ao cap ms w) (hp : Pr c w s) (ho : w.ownsRow 0 3 1 (.slice ka kids.length kc) kids.length (ints kids))
    (hl : (Sh.unary ms f dig ⟨⟨#[114, 101, 108, 101, 97, 115, 101]⟩, line, col, name, num, kids⟩ s).bs.length ≤ 1000000000) :
    Calls Tryz.prog 98 #[.pointer (some ⟨c.bp, 0, none⟩), nval ⟨⟨#[114, 101, 108, 101, 97, 115, 101]⟩, line, col, name, num, kids⟩ ka kc] w (TksP c w (Sh.unary ms f dig ⟨⟨#[114, 101, 108, 101, 97, 115, 101]⟩, line, col, name, num, kids⟩ s)) := by
  have h0 := Nx.start (n := ⟨⟨#[114, 101, 108, 101, 97, 115, 101]⟩, line, col, name, num, kids⟩) he hp ho
  obtain ⟨W, hW⟩ : ∃ W, w.alloc (.cells #[.string ⟨#[114, 101, 108, 101, 97, 115, 101]⟩, .int .i64 line, .int .i64 col, .string name, .int .i64 num, .slice ka kids.length kc] 40) = W := ⟨_, rfl⟩
  simp only at h0
  rw [hW] at h0
  obtain ⟨s1, e1⟩ : ∃ x, Sh.tokens s [⟨#[114, 101, 108, 101, 97, 115, 101]⟩, name] = x := ⟨_, rfl⟩
  have m1 : s.bs.length ≤ s1.bs.length := by rw [← e1]; exact Sh.tokens_le _ _
  obtain ⟨s2, e2⟩ : ∃ x, Sh.list ms f kids s1 = x := ⟨_, rfl⟩
  have m2 : s1.bs.length ≤ s2.bs.length := by rw [← e2]; exact Sh.list_mono hP.grows _ _
  have E : Sh.unary ms f dig ⟨⟨#[114, 101, 108, 101, 97, 115, 101]⟩, line, col, name, num, kids⟩ s = s2 := by rw [← e2, ← e1]; kernel_rfl
  rw [E] at hl ⊢
  have HP := Lib.hid hP; have HW := Lib.hid hW; have H0 := Lib.hid h0; have E1 := Lib.hid e1; have E2 := Lib.hid e2
  clear hP hW h0 he hp ho E e1 e2
  unfold nval
  go_enter Tryz.func98, Tryz.ntmps98
  go_upto_region 1 with fail
  rw [HW.out]
  have c0 := H0.out.c0
  simp only at c0
  have c3 := H0.out.c3
  simp only at c3
  go_wp2_with fail
  refine (toks2 c _ s _ _ H0.out.tk.pr (by rw [E1.out]; omega)).mono ?_
  rintro e w1 ⟨rfl, q⟩
  have H1 := Lib.hid (H0.out.step (E1.out ▸ q))
  clear q c0 c3 H0
  have c5 := H1.out.c5
  simp only at c5
  go_wp2_with fail
  refine (list_any c bt ao cap ms f ⟨⟨#[114, 101, 108, 101, 97, 115, 101]⟩, line, col, name, num, kids⟩ s1 _ ka kc HP.out H1.out.en H1.out.tk.pr H1.out.own (by rw [E2.out]; omega)).mono ?_
  rintro e w2 ⟨rfl, q⟩
  have H2 := Lib.hid (H1.out.step (E2.out ▸ q))
  clear q c5 H1
  go_wp2
  go_end0
  exact ⟨rfl, H2.out.tk⟩

set_option maxHeartbeats 4000000 in
set_option maxRecDepth 100000 in
theorem unary_unit (c : Pc) (bt : Nat) (ao : Option Addr) (cap : Nat) (ms : List Nd) (f : Nd → Sh.St → Sh.St) (line col num : Int) (name : ByteArray) (kids : List Int) (s : Sh.St) (w : World) (ka : Option Addr) (kc : Nat)
    (hP : PartsC c bt ao cap ms f ⟨⟨#[117, 110, 105, 116]⟩, line, col, name, num, kids⟩) (he : En c bt ao cap ms w) (hp : Pr c w s) (ho : w.ownsRow 0 3 1 (.slice ka kids.length kc) kids.length (ints kids))
    (hl : (Sh.unary ms f dig ⟨⟨#[117, 110, 105, 116]⟩, line, col, name, num, kids⟩ s).bs.length ≤ 1000000000) :
    Calls Tryz.prog 98 #[.pointer (some ⟨c.bp, 0, none⟩), nval ⟨⟨#[117, 110, 105, 116]⟩, line, col, name, num, kids⟩ ka kc] w (TksP c w (Sh.unary ms f dig ⟨⟨#[117, 110, 105, 116]⟩, line, col, name, num, kids⟩ s)) := by
  have h0 := Nx.start (n := ⟨⟨#[117, 110, 105, 116]⟩, line, col, name, num, kids⟩) he hp ho
  obtain ⟨W, hW⟩ : ∃ W, w.alloc (.cells #[.string ⟨#[117, 110, 105, 116]⟩, .int .i64 line, .int .i64 col, .string name, .int .i64 num, .slice ka kids.length kc] 40) = W := ⟨_, rfl⟩
  simp only at h0
  rw [hW] at h0
  obtain ⟨s1, e1⟩ : ∃ x, Sh.list ms f kids s = x := ⟨_, rfl⟩
  have m1 : s.bs.length ≤ s1.bs.length := by rw [← e1]; exact Sh.list_mono hP.grows _ _
  have E : Sh.unary ms f dig ⟨⟨#[117, 110, 105, 116]⟩, line, col, name, num, kids⟩ s = s1 := by rw [← e1]; kernel_rfl
  rw [E] at hl ⊢
  have HP := Lib.hid hP; have HW := Lib.hid hW; have H0 := Lib.hid h0; have E1 := Lib.hid e1
  clear hP hW h0 he hp ho E e1
  unfold nval
  go_enter Tryz.func98, Tryz.ntmps98
  go_upto_region 1 with fail
  rw [HW.out]
  have c0 := H0.out.c0
  simp only at c0
  have c5 := H0.out.c5
  simp only at c5
  go_wp2_with fail
  refine (list_any c bt ao cap ms f ⟨⟨#[117, 110, 105, 116]⟩, line, col, name, num, kids⟩ s _ ka kc HP.out H0.out.en H0.out.tk.pr H0.out.own (by rw [E1.out]; omega)).mono ?_
  rintro e w1 ⟨rfl, q⟩
  have H1 := Lib.hid (H0.out.step (E1.out ▸ q))
  clear q c0 c5 H0
  go_wp2
  go_end0
  exact ⟨rfl, H1.out.tk⟩

set_option maxHeartbeats 4000000 in
set_option maxRecDepth 100000 in
theorem unary_pair (c : Pc) (bt : Nat) (ao : Option Addr) (cap : Nat) (ms : List Nd) (f : Nd → Sh.St → Sh.St) (line col num : Int) (name : ByteArray) (kids : List Int) (s : Sh.St) (w : World) (ka : Option Addr) (kc : Nat)
    (hP : PartsC c bt ao cap ms f ⟨⟨#[112, 97, 105, 114]⟩, line, col, name, num, kids⟩) (he : En c bt ao cap ms w) (hp : Pr c w s) (ho : w.ownsRow 0 3 1 (.slice ka kids.length kc) kids.length (ints kids))
    (hl : (Sh.unary ms f dig ⟨⟨#[112, 97, 105, 114]⟩, line, col, name, num, kids⟩ s).bs.length ≤ 1000000000) :
    Calls Tryz.prog 98 #[.pointer (some ⟨c.bp, 0, none⟩), nval ⟨⟨#[112, 97, 105, 114]⟩, line, col, name, num, kids⟩ ka kc] w (TksP c w (Sh.unary ms f dig ⟨⟨#[112, 97, 105, 114]⟩, line, col, name, num, kids⟩ s)) := by
  have h0 := Nx.start (n := ⟨⟨#[112, 97, 105, 114]⟩, line, col, name, num, kids⟩) he hp ho
  obtain ⟨W, hW⟩ : ∃ W, w.alloc (.cells #[.string ⟨#[112, 97, 105, 114]⟩, .int .i64 line, .int .i64 col, .string name, .int .i64 num, .slice ka kids.length kc] 40) = W := ⟨_, rfl⟩
  simp only at h0
  rw [hW] at h0
  obtain ⟨s1, e1⟩ : ∃ x, Sh.list ms f kids s = x := ⟨_, rfl⟩
  have m1 : s.bs.length ≤ s1.bs.length := by rw [← e1]; exact Sh.list_mono hP.grows _ _
  have E : Sh.unary ms f dig ⟨⟨#[112, 97, 105, 114]⟩, line, col, name, num, kids⟩ s = s1 := by rw [← e1]; kernel_rfl
  rw [E] at hl ⊢
  have HP := Lib.hid hP; have HW := Lib.hid hW; have H0 := Lib.hid h0; have E1 := Lib.hid e1
  clear hP hW h0 he hp ho E e1
  unfold nval
  go_enter Tryz.func98, Tryz.ntmps98
  go_upto_region 1 with fail
  rw [HW.out]
  have c0 := H0.out.c0
  simp only at c0
  have c5 := H0.out.c5
  simp only at c5
  go_wp2_with fail
  refine (list_any c bt ao cap ms f ⟨⟨#[112, 97, 105, 114]⟩, line, col, name, num, kids⟩ s _ ka kc HP.out H0.out.en H0.out.tk.pr H0.out.own (by rw [E1.out]; omega)).mono ?_
  rintro e w1 ⟨rfl, q⟩
  have H1 := Lib.hid (H0.out.step (E1.out ▸ q))
  clear q c0 c5 H0
  go_wp2
  go_end0
  exact ⟨rfl, H1.out.tk⟩

set_option maxHeartbeats 4000000 in
set_option maxRecDepth 100000 in
theorem unary_int (c : Pc) (bt : Nat) (ao : Option Addr) (cap : Nat) (ms : List Nd) (f : Nd → Sh.St → Sh.St) (line col num : Int) (name : ByteArray) (kids : List Int) (s : Sh.St) (w : World) (ka : Option Addr) (kc : Nat)
    (hP : PartsC c bt ao cap ms f ⟨⟨#[105, 110, 116]⟩, line, col, name, num, kids⟩) (he : En c bt ao cap ms w) (hp : Pr c w s) (ho : w.ownsRow 0 3 1 (.slice ka kids.length kc) kids.length (ints kids)) (hn0 : -9223372036854775808 ≤ num) (hn1 : num ≤ 9223372036854775807)
    (hl : (Sh.unary ms f dig ⟨⟨#[105, 110, 116]⟩, line, col, name, num, kids⟩ s).bs.length ≤ 1000000000) :
    Calls Tryz.prog 98 #[.pointer (some ⟨c.bp, 0, none⟩), nval ⟨⟨#[105, 110, 116]⟩, line, col, name, num, kids⟩ ka kc] w (TksP c w (Sh.unary ms f dig ⟨⟨#[105, 110, 116]⟩, line, col, name, num, kids⟩ s)) := by
  have h0 := Nx.start (n := ⟨⟨#[105, 110, 116]⟩, line, col, name, num, kids⟩) he hp ho
  obtain ⟨W, hW⟩ : ∃ W, w.alloc (.cells #[.string ⟨#[105, 110, 116]⟩, .int .i64 line, .int .i64 col, .string name, .int .i64 num, .slice ka kids.length kc] 40) = W := ⟨_, rfl⟩
  simp only at h0
  rw [hW] at h0
  obtain ⟨s1, e1⟩ : ∃ x, Sh.tok s (dig num) = x := ⟨_, rfl⟩
  have m1 : s.bs.length ≤ s1.bs.length := by rw [← e1]; exact Sh.tok_mono _ _
  have E : Sh.unary ms f dig ⟨⟨#[105, 110, 116]⟩, line, col, name, num, kids⟩ s = s1 := by rw [← e1]; kernel_rfl
  rw [E] at hl ⊢
  have HP := Lib.hid hP; have HW := Lib.hid hW; have H0 := Lib.hid h0; have E1 := Lib.hid e1
  clear hP hW h0 he hp ho E e1
  unfold nval
  go_enter Tryz.func98, Tryz.ntmps98
  go_upto_region 1 with fail
  rw [HW.out]
  have c0 := H0.out.c0
  simp only at c0
  have c4 := H0.out.c4
  simp only at c4
  go_wp2_with fail
  refine (Tryz.strconv_FormatInt_10 num hn0 hn1 _ H0.out.en.tab).mono ?_
  rintro e wf ⟨rfl, kf, os, rfl⟩
  have HF := Lib.hid (H0.out.below (below_grown _ kf os))
  clear c4 H0
  generalize Sort.grow (World.drewN _ kf) os = wf at *
  go_wp2_with fail
  refine (toks1 c wf s (dig num) HF.out.tk.pr (by rw [E1.out]; omega)).mono ?_
  rintro e w1 ⟨rfl, q⟩
  have H1 := Lib.hid (HF.out.step (E1.out ▸ q))
  clear q c0  HF
  go_wp2
  go_end0
  exact ⟨rfl, H1.out.tk⟩

set_option maxHeartbeats 4000000 in
set_option maxRecDepth 100000 in
theorem unary_var (c : Pc) (bt : Nat) (ao : Option Addr) (cap : Nat) (ms : List Nd) (f : Nd → Sh.St → Sh.St) (line col num : Int) (name : ByteArray) (kids : List Int) (s : Sh.St) (w : World) (ka : Option Addr) (kc : Nat)
    (hP : PartsC c bt ao cap ms f ⟨⟨#[118, 97, 114]⟩, line, col, name, num, kids⟩) (he : En c bt ao cap ms w) (hp : Pr c w s) (ho : w.ownsRow 0 3 1 (.slice ka kids.length kc) kids.length (ints kids))
    (hl : (Sh.unary ms f dig ⟨⟨#[118, 97, 114]⟩, line, col, name, num, kids⟩ s).bs.length ≤ 1000000000) :
    Calls Tryz.prog 98 #[.pointer (some ⟨c.bp, 0, none⟩), nval ⟨⟨#[118, 97, 114]⟩, line, col, name, num, kids⟩ ka kc] w (TksP c w (Sh.unary ms f dig ⟨⟨#[118, 97, 114]⟩, line, col, name, num, kids⟩ s)) := by
  have h0 := Nx.start (n := ⟨⟨#[118, 97, 114]⟩, line, col, name, num, kids⟩) he hp ho
  obtain ⟨W, hW⟩ : ∃ W, w.alloc (.cells #[.string ⟨#[118, 97, 114]⟩, .int .i64 line, .int .i64 col, .string name, .int .i64 num, .slice ka kids.length kc] 40) = W := ⟨_, rfl⟩
  simp only at h0
  rw [hW] at h0
  obtain ⟨s1, e1⟩ : ∃ x, Sh.tok s name = x := ⟨_, rfl⟩
  have m1 : s.bs.length ≤ s1.bs.length := by rw [← e1]; exact Sh.tok_mono _ _
  have E : Sh.unary ms f dig ⟨⟨#[118, 97, 114]⟩, line, col, name, num, kids⟩ s = s1 := by rw [← e1]; kernel_rfl
  rw [E] at hl ⊢
  have HP := Lib.hid hP; have HW := Lib.hid hW; have H0 := Lib.hid h0; have E1 := Lib.hid e1
  clear hP hW h0 he hp ho E e1
  unfold nval
  go_enter Tryz.func98, Tryz.ntmps98
  go_upto_region 1 with fail
  rw [HW.out]
  have c0 := H0.out.c0
  simp only at c0
  have c3 := H0.out.c3
  simp only at c3
  go_wp2_with fail
  refine (toks1 c _ s _ H0.out.tk.pr (by rw [E1.out]; omega)).mono ?_
  rintro e w1 ⟨rfl, q⟩
  have H1 := Lib.hid (H0.out.step (E1.out ▸ q))
  clear q c0 c3 H0
  go_wp2
  go_end0
  exact ⟨rfl, H1.out.tk⟩

set_option maxHeartbeats 4000000 in
set_option maxRecDepth 100000 in
theorem unary_call (c : Pc) (bt : Nat) (ao : Option Addr) (cap : Nat) (ms : List Nd) (f : Nd → Sh.St → Sh.St) (line col num : Int) (name : ByteArray) (kids : List Int) (s : Sh.St) (w : World) (ka : Option Addr) (kc : Nat)
    (hP : PartsC c bt ao cap ms f ⟨⟨#[99, 97, 108, 108]⟩, line, col, name, num, kids⟩) (he : En c bt ao cap ms w) (hp : Pr c w s) (ho : w.ownsRow 0 3 1 (.slice ka kids.length kc) kids.length (ints kids))
    (hl : (Sh.unary ms f dig ⟨⟨#[99, 97, 108, 108]⟩, line, col, name, num, kids⟩ s).bs.length ≤ 1000000000) :
    Calls Tryz.prog 98 #[.pointer (some ⟨c.bp, 0, none⟩), nval ⟨⟨#[99, 97, 108, 108]⟩, line, col, name, num, kids⟩ ka kc] w (TksP c w (Sh.unary ms f dig ⟨⟨#[99, 97, 108, 108]⟩, line, col, name, num, kids⟩ s)) := by
  have h0 := Nx.start (n := ⟨⟨#[99, 97, 108, 108]⟩, line, col, name, num, kids⟩) he hp ho
  obtain ⟨W, hW⟩ : ∃ W, w.alloc (.cells #[.string ⟨#[99, 97, 108, 108]⟩, .int .i64 line, .int .i64 col, .string name, .int .i64 num, .slice ka kids.length kc] 40) = W := ⟨_, rfl⟩
  simp only at h0
  rw [hW] at h0
  obtain ⟨s1, e1⟩ : ∃ x, Sh.tok s name = x := ⟨_, rfl⟩
  have m1 : s.bs.length ≤ s1.bs.length := by rw [← e1]; exact Sh.tok_mono _ _
  obtain ⟨s2, e2⟩ : ∃ x, Sh.St.mk s1.bs true = x := ⟨_, rfl⟩
  have m2 : s1.bs.length ≤ s2.bs.length := by rw [← e2]; exact Nat.le_refl _
  obtain ⟨s3, e3⟩ : ∃ x, Sh.list ms f kids s2 = x := ⟨_, rfl⟩
  have m3 : s2.bs.length ≤ s3.bs.length := by rw [← e3]; exact Sh.list_mono hP.grows _ _
  have E : Sh.unary ms f dig ⟨⟨#[99, 97, 108, 108]⟩, line, col, name, num, kids⟩ s = s3 := by rw [← e3, ← e2, ← e1]; kernel_rfl
  rw [E] at hl ⊢
  have HP := Lib.hid hP; have HW := Lib.hid hW; have H0 := Lib.hid h0; have E1 := Lib.hid e1; have E2 := Lib.hid e2; have E3 := Lib.hid e3
  clear hP hW h0 he hp ho E e1 e2 e3
  unfold nval
  go_enter Tryz.func98, Tryz.ntmps98
  go_upto_region 1 with fail
  rw [HW.out]
  have c0 := H0.out.c0
  simp only at c0
  have c3 := H0.out.c3
  simp only at c3
  go_wp2_with fail
  refine (toks1 c _ s _ H0.out.tk.pr (by rw [E1.out]; omega)).mono ?_
  rintro e w1 ⟨rfl, q⟩
  have H1 := Lib.hid (H0.out.step (E1.out ▸ q))
  clear q c0 c3 H0
  have t3 := H1.out.tk.pr.tg; have f3 := H1.out.tk.pr.fz 3
  have c5 := H1.out.c5
  simp only at c5
  go_upto_region 30 with fail
  have H2 := Lib.hid (H1.out.step ((H1.out.refl).tight true))
  rw [E2.out] at H2
  clear t3 f3 c5 H1
  generalize World.setCell _ _ (Value.bool true) = w2 at *
  have c5 := H2.out.c5
  simp only at c5
  go_wp2_with fail
  refine (list_any c bt ao cap ms f ⟨⟨#[99, 97, 108, 108]⟩, line, col, name, num, kids⟩ s2 _ ka kc HP.out H2.out.en H2.out.tk.pr H2.out.own (by rw [E3.out]; omega)).mono ?_
  rintro e w3 ⟨rfl, q⟩
  have H3 := Lib.hid (H2.out.step (E3.out ▸ q))
  clear q c5 H2
  go_wp2
  go_end0
  exact ⟨rfl, H3.out.tk⟩

end Go.Proofs.YtdkhkemllmegfaaGreatDoor
