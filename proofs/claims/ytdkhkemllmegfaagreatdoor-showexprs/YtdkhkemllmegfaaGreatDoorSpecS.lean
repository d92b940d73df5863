import Derived.Test.YtdkhkemllmegfaaGreatDoorFitS
import Derived.Test.YtdkhkemllmegfaaGreatDoorEndsS

/- A node, printed by the level of its form. -/
namespace Go.Proofs.YtdkhkemllmegfaaGreatDoor
open Go.RowKit Go.Shelf Tn
attribute [local go_sem] form_field0

theorem form_at {op : ByteArray} {a b : Int} (h : Sh.formOf op = ⟨a, b, true⟩) (w : World) : Calls Tryz.prog 39 #[.string op] w fun e w' => e = .returned (.agg #[.int .i64 a, .int .i64 b, .bool true]) ∧ Below w.heap.size w w' :=
  (form_any op w).mono fun _ _ ⟨e, hb⟩ => ⟨by rw [e, h]; rfl, hb⟩

theorem item_all (c : Pc) (bt : Nat) (ao : Option Addr) (cap : Nat) (ms : List Nd) (f : Nd → Sh.St → Sh.St) (n : Nd) (s : Sh.St) (w : World) (ka : Option Addr) (kc : Nat)
    (hop : n.op = ⟨#[108, 101, 116]⟩ ∨ n.op = ⟨#[105, 102]⟩ ∨ n.op = ⟨#[116, 114, 121]⟩ ∨ n.op = ⟨#[114, 97, 105, 115, 101]⟩ ∨ n.op = ⟨#[111, 117, 116]⟩ ∨ n.op = ⟨#[115, 101, 116]⟩) (hk : NdOk n) (hP : PartsC c bt ao cap ms f n) (he : En c bt ao cap ms w) (hp : Pr c w s) (ho : w.ownsRow 0 3 1 (.slice ka n.kids.length kc) n.kids.length (ints n.kids))
    (hl : (Sh.item ms f n s).bs.length ≤ 1000000000) : Calls Tryz.prog 96 #[.pointer (some ⟨c.bp, 0, none⟩), nval n ka kc] w (TksP c w (Sh.item ms f n s)) := by
  obtain ⟨op, line, col, name, num, kids⟩ := n
  simp only at hop
  rcases hop with rfl | rfl | rfl | rfl | rfl | rfl
  · exact item_let c bt ao cap ms f line col num name kids s w ka kc hP he hp ho (by have := well_kids (a := 1) (b := 2) hk.well (by kernel_rfl) (by decide); simp only at this; omega) hl
  · exact item_if c bt ao cap ms f line col num name kids s w ka kc hP he hp ho (by have := well_kids (a := 1) (b := 3) hk.well (by kernel_rfl) (by decide); simp only at this; omega) hl
  · exact item_try c bt ao cap ms f line col num name kids s w ka kc hP he hp ho (by have := well_kids (a := 1) (b := 2) hk.well (by kernel_rfl) (by decide); simp only at this; omega) hl
  · exact item_raise c bt ao cap ms f line col num name kids s w ka kc hP he hp ho hl
  · exact item_out c bt ao cap ms f line col num name kids s w ka kc hP he hp ho (by have := well_kids (a := 1) (b := 1) hk.well (by kernel_rfl) (by decide); simp only at this; omega) hl
  · exact item_set c bt ao cap ms f line col num name kids s w ka kc hP he hp ho (by have := well_kids (a := 1) (b := 1) hk.well (by kernel_rfl) (by decide); simp only at this; omega) hl

theorem unary_all (c : Pc) (bt : Nat) (ao : Option Addr) (cap : Nat) (ms : List Nd) (f : Nd → Sh.St → Sh.St) (n : Nd) (s : Sh.St) (w : World) (ka : Option Addr) (kc : Nat)
    (hop : n.op = ⟨#[110, 101, 103]⟩ ∨ n.op = ⟨#[110, 111, 116]⟩ ∨ n.op = ⟨#[102, 115, 116]⟩ ∨ n.op = ⟨#[115, 110, 100]⟩ ∨ n.op = ⟨#[103, 101, 116]⟩ ∨ n.op = ⟨#[116, 114, 117, 101]⟩ ∨ n.op = ⟨#[102, 97, 108, 115, 101]⟩ ∨ n.op = ⟨#[104, 111, 108, 101]⟩ ∨ n.op = ⟨#[114, 101, 108, 101, 97, 115, 101]⟩ ∨ n.op = ⟨#[117, 110, 105, 116]⟩ ∨ n.op = ⟨#[112, 97, 105, 114]⟩ ∨ n.op = ⟨#[105, 110, 116]⟩ ∨ n.op = ⟨#[118, 97, 114]⟩ ∨ n.op = ⟨#[99, 97, 108, 108]⟩) (hk : NdOk n) (hP : PartsC c bt ao cap ms f n) (he : En c bt ao cap ms w) (hp : Pr c w s) (ho : w.ownsRow 0 3 1 (.slice ka n.kids.length kc) n.kids.length (ints n.kids))
    (hl : (Sh.unary ms f dig n s).bs.length ≤ 1000000000) : Calls Tryz.prog 98 #[.pointer (some ⟨c.bp, 0, none⟩), nval n ka kc] w (TksP c w (Sh.unary ms f dig n s)) := by
  obtain ⟨op, line, col, name, num, kids⟩ := n
  simp only at hop
  rcases hop with rfl | rfl | rfl | rfl | rfl | rfl | rfl | rfl | rfl | rfl | rfl | rfl | rfl | rfl
  · exact unary_neg c bt ao cap ms f line col num name kids s w ka kc hP he hp ho (by have := well_kids (a := 7) (b := 1) hk.well (by kernel_rfl) (by decide); simp only at this; omega) hl
  · exact unary_not c bt ao cap ms f line col num name kids s w ka kc hP he hp ho (by have := well_kids (a := 7) (b := 1) hk.well (by kernel_rfl) (by decide); simp only at this; omega) hl
  · exact unary_fst c bt ao cap ms f line col num name kids s w ka kc hP he hp ho (by have := well_kids (a := 7) (b := 1) hk.well (by kernel_rfl) (by decide); simp only at this; omega) hl
  · exact unary_snd c bt ao cap ms f line col num name kids s w ka kc hP he hp ho (by have := well_kids (a := 7) (b := 1) hk.well (by kernel_rfl) (by decide); simp only at this; omega) hl
  · exact unary_get c bt ao cap ms f line col num name kids s w ka kc hP he hp ho hl
  · exact unary_true c bt ao cap ms f line col num name kids s w ka kc hP he hp ho hl
  · exact unary_false c bt ao cap ms f line col num name kids s w ka kc hP he hp ho hl
  · exact unary_hole c bt ao cap ms f line col num name kids s w ka kc hP he hp ho hl
  · exact unary_release c bt ao cap ms f line col num name kids s w ka kc hP he hp ho hl
  · exact unary_unit c bt ao cap ms f line col num name kids s w ka kc hP he hp ho hl
  · exact unary_pair c bt ao cap ms f line col num name kids s w ka kc hP he hp ho hl
  · exact unary_int c bt ao cap ms f line col num name kids s w ka kc hP he hp ho hk.lo hk.hi hl
  · exact unary_var c bt ao cap ms f line col num name kids s w ka kc hP he hp ho hl
  · exact unary_call c bt ao cap ms f line col num name kids s w ka kc hP he hp ho hl

/-- what printing the first part of a sequence does -/
def SemiC (c : Pc) (bt : Nat) (ao : Option Addr) (cap : Nat) (ms : List Nd) (f : Nd → Sh.St → Sh.St) (e : Nd → Bool) (n : Nd) : Prop :=
  0 < n.kids.length → ∀ (s : Sh.St) (w : World), En c bt ao cap ms w → Pr c w s → (Sh.semi ms f e (kid n.kids 0) s).bs.length ≤ 1000000000 →
    Calls Tryz.prog 95 #[.pointer (some ⟨c.bp, 0, none⟩), .int .i64 (kid n.kids 0)] w (TksP c w (Sh.semi ms f e (kid n.kids 0) s))

set_option maxHeartbeats 4000000 in
set_option maxRecDepth 100000 in
theorem node_seq (c : Pc) (bt : Nat) (ao : Option Addr) (cap : Nat) (ms : List Nd) (f : Nd → Sh.St → Sh.St) (e : Nd → Bool) (n : Nd) (s : Sh.St) (w : World) (ka : Option Addr) (kc : Nat)
    (hF : Sh.formOf n.op = ⟨0, 2, true⟩) (hk : NdOk n) (hP : PartsC c bt ao cap ms f n) (hS : SemiC c bt ao cap ms f e n) (he : En c bt ao cap ms w) (hp : Pr c w s) (ho : w.ownsRow 0 3 1 (.slice ka n.kids.length kc) n.kids.length (ints n.kids))
    (hl : (Sh.nodeF ms f e dig n s).bs.length ≤ 1000000000) : Calls Tryz.prog 66 #[.pointer (some ⟨c.bp, 0, none⟩), nval n ka kc] w (TksP c w (Sh.nodeF ms f e dig n s)) := by
  have h0 := Nx.start he hp ho
  obtain ⟨W, hW⟩ : ∃ W, w.alloc (.cells #[.string n.op, .int .i64 n.line, .int .i64 n.col, .string n.name, .int .i64 n.num, .slice ka n.kids.length kc] 40) = W := ⟨_, rfl⟩
  rw [hW] at h0
  have E : Sh.nodeF ms f e dig n s = Sh.part ms f (kid n.kids 1) 0 (Sh.tok (Sh.semi ms f e (kid n.kids 0) s) ⟨#[59]⟩) := by unfold Sh.nodeF; rw [hF]; rfl
  rw [E] at hl ⊢
  have hkl : n.kids.length = 2 := by have := well_kids (a := 0) (b := 2) hk.well hF (by decide); omega
  obtain ⟨g, rfl⟩ := h0.some (by omega)
  obtain ⟨s1, e1⟩ : ∃ x, Sh.semi ms f e (kid n.kids 0) s = x := ⟨_, rfl⟩
  have m1 : s.bs.length ≤ s1.bs.length := by rw [← e1]; exact Sh.semi_mono hP.grows _ _ _
  obtain ⟨s2, e2⟩ : ∃ x, Sh.tok s1 ⟨#[59]⟩ = x := ⟨_, rfl⟩
  have m2 : s1.bs.length ≤ s2.bs.length := by rw [← e2]; exact Sh.tok_mono _ _
  obtain ⟨s3, e3⟩ : ∃ x, Sh.part ms f (kid n.kids 1) 0 s2 = x := ⟨_, rfl⟩
  have m3 : s2.bs.length ≤ s3.bs.length := by rw [← e3]; exact Sh.part_mono hP.grows _ _ _
  have E' : Sh.part ms f (kid n.kids 1) 0 (Sh.tok (Sh.semi ms f e (kid n.kids 0) s) ⟨#[59]⟩) = s3 := by rw [e1, e2, e3]
  rw [E'] at hl ⊢
  have E1 := Lib.hid e1; have E2 := Lib.hid e2; have E3 := Lib.hid e3; have HKL := Lib.hid hkl; have HS := Lib.hid hS
  clear E' e1 e2 e3 hkl hS
  have HP := Lib.hid hP; have HW := Lib.hid hW; have H0 := Lib.hid h0; have HF := Lib.hid (fun w => form_at hF w); have HK := Lib.hid hk
  clear hP hW h0 he hp ho E hF hk
  unfold nval
  go_enter Tryz.func66, Tryz.ntmps66
  go_upto_region 1 with fail
  rw [HW.out]
  have c0 := H0.out.c0
  go_wp2_with fail
  refine (HF.out _).mono ?_
  rintro e1 w1 ⟨rfl, hb1⟩
  have H1 := Lib.hid (H0.out.below hb1)
  clear hb1 c0 H0
  have c5 := H1.out.c5; have kk := H1.out.kid rfl (j := 0) (by rw [HKL.out]; decide)
  rw [HKL.out] at c5
  go_wp2_with fail
  refine (HS.out (by rw [HKL.out]; decide) s _ H1.out.en H1.out.tk.pr (by rw [E1.out]; omega)).mono ?_
  rintro e2 w2 ⟨rfl, q⟩
  have H2 := Lib.hid (H1.out.step (E1.out ▸ q))
  clear q c5 kk H1
  go_wp2_with fail
  refine (toks1 c _ s1 _ H2.out.tk.pr (by rw [E2.out]; omega)).mono ?_
  rintro e3 w3 ⟨rfl, q⟩
  have H3 := Lib.hid (H2.out.step (E2.out ▸ q))
  clear q H2
  have c5 := H3.out.c5; have kk := H3.out.kid rfl (j := 1) (by rw [HKL.out]; decide)
  rw [HKL.out] at c5
  go_wp2_with fail
  refine (HP.out.part 1 (by rw [HKL.out]; decide) 0 s2 _ H3.out.en H3.out.tk.pr (by rw [E3.out]; omega)).mono ?_
  rintro e4 w4 ⟨rfl, q⟩
  have H9 := Lib.hid (H3.out.step (E3.out ▸ q))
  clear q c5 kk H3
  go_wp2
  go_end0
  exact ⟨rfl, H9.out.tk⟩

set_option maxHeartbeats 4000000 in
set_option maxRecDepth 100000 in
theorem node_item (c : Pc) (bt : Nat) (ao : Option Addr) (cap : Nat) (ms : List Nd) (f : Nd → Sh.St → Sh.St) (e : Nd → Bool) (n : Nd) (s : Sh.St) (w : World) (ka : Option Addr) (kc : Nat)
    (b : Int) (hF : Sh.formOf n.op = ⟨1, b, true⟩) (hop : n.op = ⟨#[108, 101, 116]⟩ ∨ n.op = ⟨#[105, 102]⟩ ∨ n.op = ⟨#[116, 114, 121]⟩ ∨ n.op = ⟨#[114, 97, 105, 115, 101]⟩ ∨ n.op = ⟨#[111, 117, 116]⟩ ∨ n.op = ⟨#[115, 101, 116]⟩) (hk : NdOk n) (hP : PartsC c bt ao cap ms f n) (he : En c bt ao cap ms w) (hp : Pr c w s) (ho : w.ownsRow 0 3 1 (.slice ka n.kids.length kc) n.kids.length (ints n.kids))
    (hl : (Sh.nodeF ms f e dig n s).bs.length ≤ 1000000000) : Calls Tryz.prog 66 #[.pointer (some ⟨c.bp, 0, none⟩), nval n ka kc] w (TksP c w (Sh.nodeF ms f e dig n s)) := by
  have h0 := Nx.start he hp ho
  obtain ⟨W, hW⟩ : ∃ W, w.alloc (.cells #[.string n.op, .int .i64 n.line, .int .i64 n.col, .string n.name, .int .i64 n.num, .slice ka n.kids.length kc] 40) = W := ⟨_, rfl⟩
  rw [hW] at h0
  have E : Sh.nodeF ms f e dig n s = Sh.item ms f n s := by unfold Sh.nodeF; rw [hF]; rfl
  rw [E] at hl ⊢
  have HOP := Lib.hid hop
  clear hop
  have HP := Lib.hid hP; have HW := Lib.hid hW; have H0 := Lib.hid h0; have HF := Lib.hid (fun w => form_at hF w); have HK := Lib.hid hk
  clear hP hW h0 he hp ho E hF hk
  unfold nval
  go_enter Tryz.func66, Tryz.ntmps66
  go_upto_region 1 with fail
  rw [HW.out]
  have c0 := H0.out.c0
  go_wp2_with fail
  refine (HF.out _).mono ?_
  rintro e1 w1 ⟨rfl, hb1⟩
  have H1 := Lib.hid (H0.out.below hb1)
  clear hb1 c0 H0
  have c0 := H1.out.c0; have c1 := H1.out.c1; have c2 := H1.out.c2; have c3 := H1.out.c3; have c4 := H1.out.c4; have c5 := H1.out.c5
  go_wp2_with fail
  refine (item_all c bt ao cap ms f n s _ ka kc HOP.out HK.out HP.out H1.out.en H1.out.tk.pr H1.out.own hl).mono ?_
  rintro e2 w2 ⟨rfl, q⟩
  have H9 := Lib.hid (H1.out.step q)
  clear q c0 c1 c2 c3 c4 c5 H1
  go_wp2
  go_end0
  exact ⟨rfl, H9.out.tk⟩

set_option maxHeartbeats 4000000 in
set_option maxRecDepth 100000 in
theorem node_unary (c : Pc) (bt : Nat) (ao : Option Addr) (cap : Nat) (ms : List Nd) (f : Nd → Sh.St → Sh.St) (e : Nd → Bool) (n : Nd) (s : Sh.St) (w : World) (ka : Option Addr) (kc : Nat)
    (b : Int) (hF : Sh.formOf n.op = ⟨7, b, true⟩) (hop : n.op = ⟨#[110, 101, 103]⟩ ∨ n.op = ⟨#[110, 111, 116]⟩ ∨ n.op = ⟨#[102, 115, 116]⟩ ∨ n.op = ⟨#[115, 110, 100]⟩ ∨ n.op = ⟨#[103, 101, 116]⟩ ∨ n.op = ⟨#[116, 114, 117, 101]⟩ ∨ n.op = ⟨#[102, 97, 108, 115, 101]⟩ ∨ n.op = ⟨#[104, 111, 108, 101]⟩ ∨ n.op = ⟨#[114, 101, 108, 101, 97, 115, 101]⟩ ∨ n.op = ⟨#[117, 110, 105, 116]⟩ ∨ n.op = ⟨#[112, 97, 105, 114]⟩ ∨ n.op = ⟨#[105, 110, 116]⟩ ∨ n.op = ⟨#[118, 97, 114]⟩ ∨ n.op = ⟨#[99, 97, 108, 108]⟩) (hk : NdOk n) (hP : PartsC c bt ao cap ms f n) (he : En c bt ao cap ms w) (hp : Pr c w s) (ho : w.ownsRow 0 3 1 (.slice ka n.kids.length kc) n.kids.length (ints n.kids))
    (hl : (Sh.nodeF ms f e dig n s).bs.length ≤ 1000000000) : Calls Tryz.prog 66 #[.pointer (some ⟨c.bp, 0, none⟩), nval n ka kc] w (TksP c w (Sh.nodeF ms f e dig n s)) := by
  have h0 := Nx.start he hp ho
  obtain ⟨W, hW⟩ : ∃ W, w.alloc (.cells #[.string n.op, .int .i64 n.line, .int .i64 n.col, .string n.name, .int .i64 n.num, .slice ka n.kids.length kc] 40) = W := ⟨_, rfl⟩
  rw [hW] at h0
  have E : Sh.nodeF ms f e dig n s = Sh.unary ms f dig n s := by unfold Sh.nodeF; rw [hF]; rfl
  rw [E] at hl ⊢
  have HOP := Lib.hid hop
  clear hop
  have HP := Lib.hid hP; have HW := Lib.hid hW; have H0 := Lib.hid h0; have HF := Lib.hid (fun w => form_at hF w); have HK := Lib.hid hk
  clear hP hW h0 he hp ho E hF hk
  unfold nval
  go_enter Tryz.func66, Tryz.ntmps66
  go_upto_region 1 with fail
  rw [HW.out]
  have c0 := H0.out.c0
  go_wp2_with fail
  refine (HF.out _).mono ?_
  rintro e1 w1 ⟨rfl, hb1⟩
  have H1 := Lib.hid (H0.out.below hb1)
  clear hb1 c0 H0
  have c0 := H1.out.c0; have c1 := H1.out.c1; have c2 := H1.out.c2; have c3 := H1.out.c3; have c4 := H1.out.c4; have c5 := H1.out.c5
  go_wp2_with fail
  refine (unary_all c bt ao cap ms f n s _ ka kc HOP.out HK.out HP.out H1.out.en H1.out.tk.pr H1.out.own hl).mono ?_
  rintro e2 w2 ⟨rfl, q⟩
  have H9 := Lib.hid (H1.out.step q)
  clear q c0 c1 c2 c3 c4 c5 H1
  go_wp2
  go_end0
  exact ⟨rfl, H9.out.tk⟩

set_option maxHeartbeats 4000000 in
set_option maxRecDepth 100000 in
theorem node_bin2 (c : Pc) (bt : Nat) (ao : Option Addr) (cap : Nat) (ms : List Nd) (f : Nd → Sh.St → Sh.St) (e : Nd → Bool) (n : Nd) (s : Sh.St) (w : World) (ka : Option Addr) (kc : Nat)
    (hF : Sh.formOf n.op = ⟨2, 2, true⟩) (hk : NdOk n) (hP : PartsC c bt ao cap ms f n) (he : En c bt ao cap ms w) (hp : Pr c w s) (ho : w.ownsRow 0 3 1 (.slice ka n.kids.length kc) n.kids.length (ints n.kids))
    (hl : (Sh.nodeF ms f e dig n s).bs.length ≤ 1000000000) : Calls Tryz.prog 66 #[.pointer (some ⟨c.bp, 0, none⟩), nval n ka kc] w (TksP c w (Sh.nodeF ms f e dig n s)) := by
  have h0 := Nx.start he hp ho
  obtain ⟨W, hW⟩ : ∃ W, w.alloc (.cells #[.string n.op, .int .i64 n.line, .int .i64 n.col, .string n.name, .int .i64 n.num, .slice ka n.kids.length kc] 40) = W := ⟨_, rfl⟩
  rw [hW] at h0
  have E : Sh.nodeF ms f e dig n s = Sh.between ms f n 2 3 s := by unfold Sh.nodeF; rw [hF]; rfl
  rw [E] at hl ⊢
  have hkl : n.kids.length = 2 := by have := well_kids (a := 2) (b := 2) hk.well hF (by decide); omega
  have HKL := Lib.hid hkl
  clear hkl
  have HP := Lib.hid hP; have HW := Lib.hid hW; have H0 := Lib.hid h0; have HF := Lib.hid (fun w => form_at hF w); have HK := Lib.hid hk
  clear hP hW h0 he hp ho E hF hk
  unfold nval
  go_enter Tryz.func66, Tryz.ntmps66
  go_upto_region 1 with fail
  rw [HW.out]
  have c0 := H0.out.c0
  go_wp2_with fail
  refine (HF.out _).mono ?_
  rintro e1 w1 ⟨rfl, hb1⟩
  have H1 := Lib.hid (H0.out.below hb1)
  clear hb1 c0 H0
  have c0 := H1.out.c0; have c1 := H1.out.c1; have c2 := H1.out.c2; have c3 := H1.out.c3; have c4 := H1.out.c4; have c5 := H1.out.c5
  go_wp2_with fail
  refine (sbetween_any c bt ao cap ms f n 2 3 s _ ka kc HP.out H1.out.en H1.out.tk.pr H1.out.own HKL.out hl).mono ?_
  rintro e2 w2 ⟨rfl, q⟩
  have H9 := Lib.hid (H1.out.step q)
  clear q c0 c1 c2 c3 c4 c5 H1
  go_wp2
  go_end0
  exact ⟨rfl, H9.out.tk⟩

set_option maxHeartbeats 4000000 in
set_option maxRecDepth 100000 in
theorem node_bin3 (c : Pc) (bt : Nat) (ao : Option Addr) (cap : Nat) (ms : List Nd) (f : Nd → Sh.St → Sh.St) (e : Nd → Bool) (n : Nd) (s : Sh.St) (w : World) (ka : Option Addr) (kc : Nat)
    (hF : Sh.formOf n.op = ⟨3, 2, true⟩) (hk : NdOk n) (hP : PartsC c bt ao cap ms f n) (he : En c bt ao cap ms w) (hp : Pr c w s) (ho : w.ownsRow 0 3 1 (.slice ka n.kids.length kc) n.kids.length (ints n.kids))
    (hl : (Sh.nodeF ms f e dig n s).bs.length ≤ 1000000000) : Calls Tryz.prog 66 #[.pointer (some ⟨c.bp, 0, none⟩), nval n ka kc] w (TksP c w (Sh.nodeF ms f e dig n s)) := by
  have h0 := Nx.start he hp ho
  obtain ⟨W, hW⟩ : ∃ W, w.alloc (.cells #[.string n.op, .int .i64 n.line, .int .i64 n.col, .string n.name, .int .i64 n.num, .slice ka n.kids.length kc] 40) = W := ⟨_, rfl⟩
  rw [hW] at h0
  have E : Sh.nodeF ms f e dig n s = Sh.between ms f n 3 4 s := by unfold Sh.nodeF; rw [hF]; rfl
  rw [E] at hl ⊢
  have hkl : n.kids.length = 2 := by have := well_kids (a := 3) (b := 2) hk.well hF (by decide); omega
  have HKL := Lib.hid hkl
  clear hkl
  have HP := Lib.hid hP; have HW := Lib.hid hW; have H0 := Lib.hid h0; have HF := Lib.hid (fun w => form_at hF w); have HK := Lib.hid hk
  clear hP hW h0 he hp ho E hF hk
  unfold nval
  go_enter Tryz.func66, Tryz.ntmps66
  go_upto_region 1 with fail
  rw [HW.out]
  have c0 := H0.out.c0
  go_wp2_with fail
  refine (HF.out _).mono ?_
  rintro e1 w1 ⟨rfl, hb1⟩
  have H1 := Lib.hid (H0.out.below hb1)
  clear hb1 c0 H0
  have c0 := H1.out.c0; have c1 := H1.out.c1; have c2 := H1.out.c2; have c3 := H1.out.c3; have c4 := H1.out.c4; have c5 := H1.out.c5
  go_wp2_with fail
  refine (sbetween_any c bt ao cap ms f n 3 4 s _ ka kc HP.out H1.out.en H1.out.tk.pr H1.out.own HKL.out hl).mono ?_
  rintro e2 w2 ⟨rfl, q⟩
  have H9 := Lib.hid (H1.out.step q)
  clear q c0 c1 c2 c3 c4 c5 H1
  go_wp2
  go_end0
  exact ⟨rfl, H9.out.tk⟩

set_option maxHeartbeats 4000000 in
set_option maxRecDepth 100000 in
theorem node_bin4 (c : Pc) (bt : Nat) (ao : Option Addr) (cap : Nat) (ms : List Nd) (f : Nd → Sh.St → Sh.St) (e : Nd → Bool) (n : Nd) (s : Sh.St) (w : World) (ka : Option Addr) (kc : Nat)
    (hF : Sh.formOf n.op = ⟨4, 2, true⟩) (hk : NdOk n) (hP : PartsC c bt ao cap ms f n) (he : En c bt ao cap ms w) (hp : Pr c w s) (ho : w.ownsRow 0 3 1 (.slice ka n.kids.length kc) n.kids.length (ints n.kids))
    (hl : (Sh.nodeF ms f e dig n s).bs.length ≤ 1000000000) : Calls Tryz.prog 66 #[.pointer (some ⟨c.bp, 0, none⟩), nval n ka kc] w (TksP c w (Sh.nodeF ms f e dig n s)) := by
  have h0 := Nx.start he hp ho
  obtain ⟨W, hW⟩ : ∃ W, w.alloc (.cells #[.string n.op, .int .i64 n.line, .int .i64 n.col, .string n.name, .int .i64 n.num, .slice ka n.kids.length kc] 40) = W := ⟨_, rfl⟩
  rw [hW] at h0
  have E : Sh.nodeF ms f e dig n s = Sh.between ms f n 5 5 s := by unfold Sh.nodeF; rw [hF]; rfl
  rw [E] at hl ⊢
  have hkl : n.kids.length = 2 := by have := well_kids (a := 4) (b := 2) hk.well hF (by decide); omega
  have HKL := Lib.hid hkl
  clear hkl
  have HP := Lib.hid hP; have HW := Lib.hid hW; have H0 := Lib.hid h0; have HF := Lib.hid (fun w => form_at hF w); have HK := Lib.hid hk
  clear hP hW h0 he hp ho E hF hk
  unfold nval
  go_enter Tryz.func66, Tryz.ntmps66
  go_upto_region 1 with fail
  rw [HW.out]
  have c0 := H0.out.c0
  go_wp2_with fail
  refine (HF.out _).mono ?_
  rintro e1 w1 ⟨rfl, hb1⟩
  have H1 := Lib.hid (H0.out.below hb1)
  clear hb1 c0 H0
  have c0 := H1.out.c0; have c1 := H1.out.c1; have c2 := H1.out.c2; have c3 := H1.out.c3; have c4 := H1.out.c4; have c5 := H1.out.c5
  go_wp2_with fail
  refine (sbetween_any c bt ao cap ms f n 5 5 s _ ka kc HP.out H1.out.en H1.out.tk.pr H1.out.own HKL.out hl).mono ?_
  rintro e2 w2 ⟨rfl, q⟩
  have H9 := Lib.hid (H1.out.step q)
  clear q c0 c1 c2 c3 c4 c5 H1
  go_wp2
  go_end0
  exact ⟨rfl, H9.out.tk⟩

set_option maxHeartbeats 4000000 in
set_option maxRecDepth 100000 in
theorem node_bin5 (c : Pc) (bt : Nat) (ao : Option Addr) (cap : Nat) (ms : List Nd) (f : Nd → Sh.St → Sh.St) (e : Nd → Bool) (n : Nd) (s : Sh.St) (w : World) (ka : Option Addr) (kc : Nat)
    (hF : Sh.formOf n.op = ⟨5, 2, true⟩) (hk : NdOk n) (hP : PartsC c bt ao cap ms f n) (he : En c bt ao cap ms w) (hp : Pr c w s) (ho : w.ownsRow 0 3 1 (.slice ka n.kids.length kc) n.kids.length (ints n.kids))
    (hl : (Sh.nodeF ms f e dig n s).bs.length ≤ 1000000000) : Calls Tryz.prog 66 #[.pointer (some ⟨c.bp, 0, none⟩), nval n ka kc] w (TksP c w (Sh.nodeF ms f e dig n s)) := by
  have h0 := Nx.start he hp ho
  obtain ⟨W, hW⟩ : ∃ W, w.alloc (.cells #[.string n.op, .int .i64 n.line, .int .i64 n.col, .string n.name, .int .i64 n.num, .slice ka n.kids.length kc] 40) = W := ⟨_, rfl⟩
  rw [hW] at h0
  have E : Sh.nodeF ms f e dig n s = Sh.between ms f n 5 6 s := by unfold Sh.nodeF; rw [hF]; rfl
  rw [E] at hl ⊢
  have hkl : n.kids.length = 2 := by have := well_kids (a := 5) (b := 2) hk.well hF (by decide); omega
  have HKL := Lib.hid hkl
  clear hkl
  have HP := Lib.hid hP; have HW := Lib.hid hW; have H0 := Lib.hid h0; have HF := Lib.hid (fun w => form_at hF w); have HK := Lib.hid hk
  clear hP hW h0 he hp ho E hF hk
  unfold nval
  go_enter Tryz.func66, Tryz.ntmps66
  go_upto_region 1 with fail
  rw [HW.out]
  have c0 := H0.out.c0
  go_wp2_with fail
  refine (HF.out _).mono ?_
  rintro e1 w1 ⟨rfl, hb1⟩
  have H1 := Lib.hid (H0.out.below hb1)
  clear hb1 c0 H0
  have c0 := H1.out.c0; have c1 := H1.out.c1; have c2 := H1.out.c2; have c3 := H1.out.c3; have c4 := H1.out.c4; have c5 := H1.out.c5
  go_wp2_with fail
  refine (sbetween_any c bt ao cap ms f n 5 6 s _ ka kc HP.out H1.out.en H1.out.tk.pr H1.out.own HKL.out hl).mono ?_
  rintro e2 w2 ⟨rfl, q⟩
  have H9 := Lib.hid (H1.out.step q)
  clear q c0 c1 c2 c3 c4 c5 H1
  go_wp2
  go_end0
  exact ⟨rfl, H9.out.tk⟩

set_option maxHeartbeats 4000000 in
set_option maxRecDepth 100000 in
theorem node_bin6 (c : Pc) (bt : Nat) (ao : Option Addr) (cap : Nat) (ms : List Nd) (f : Nd → Sh.St → Sh.St) (e : Nd → Bool) (n : Nd) (s : Sh.St) (w : World) (ka : Option Addr) (kc : Nat)
    (hF : Sh.formOf n.op = ⟨6, 2, true⟩) (hk : NdOk n) (hP : PartsC c bt ao cap ms f n) (he : En c bt ao cap ms w) (hp : Pr c w s) (ho : w.ownsRow 0 3 1 (.slice ka n.kids.length kc) n.kids.length (ints n.kids))
    (hl : (Sh.nodeF ms f e dig n s).bs.length ≤ 1000000000) : Calls Tryz.prog 66 #[.pointer (some ⟨c.bp, 0, none⟩), nval n ka kc] w (TksP c w (Sh.nodeF ms f e dig n s)) := by
  have h0 := Nx.start he hp ho
  obtain ⟨W, hW⟩ : ∃ W, w.alloc (.cells #[.string n.op, .int .i64 n.line, .int .i64 n.col, .string n.name, .int .i64 n.num, .slice ka n.kids.length kc] 40) = W := ⟨_, rfl⟩
  rw [hW] at h0
  have E : Sh.nodeF ms f e dig n s = Sh.between ms f n 6 7 s := by unfold Sh.nodeF; rw [hF]; rfl
  rw [E] at hl ⊢
  have hkl : n.kids.length = 2 := by have := well_kids (a := 6) (b := 2) hk.well hF (by decide); omega
  have HKL := Lib.hid hkl
  clear hkl
  have HP := Lib.hid hP; have HW := Lib.hid hW; have H0 := Lib.hid h0; have HF := Lib.hid (fun w => form_at hF w); have HK := Lib.hid hk
  clear hP hW h0 he hp ho E hF hk
  unfold nval
  go_enter Tryz.func66, Tryz.ntmps66
  go_upto_region 1 with fail
  rw [HW.out]
  have c0 := H0.out.c0
  go_wp2_with fail
  refine (HF.out _).mono ?_
  rintro e1 w1 ⟨rfl, hb1⟩
  have H1 := Lib.hid (H0.out.below hb1)
  clear hb1 c0 H0
  have c0 := H1.out.c0; have c1 := H1.out.c1; have c2 := H1.out.c2; have c3 := H1.out.c3; have c4 := H1.out.c4; have c5 := H1.out.c5
  go_wp2_with fail
  refine (sbetween_any c bt ao cap ms f n 6 7 s _ ka kc HP.out H1.out.en H1.out.tk.pr H1.out.own HKL.out hl).mono ?_
  rintro e2 w2 ⟨rfl, q⟩
  have H9 := Lib.hid (H1.out.step q)
  clear q c0 c1 c2 c3 c4 c5 H1
  go_wp2
  go_end0
  exact ⟨rfl, H9.out.tk⟩

theorem node_any (c : Pc) (bt : Nat) (ao : Option Addr) (cap : Nat) (ms : List Nd) (f : Nd → Sh.St → Sh.St) (e : Nd → Bool) (n : Nd) (s : Sh.St) (w : World) (ka : Option Addr) (kc : Nat)
    (hk : NdOk n) (hP : PartsC c bt ao cap ms f n) (hS : SemiC c bt ao cap ms f e n) (he : En c bt ao cap ms w) (hp : Pr c w s) (ho : w.ownsRow 0 3 1 (.slice ka n.kids.length kc) n.kids.length (ints n.kids))
    (hl : (Sh.nodeF ms f e dig n s).bs.length ≤ 1000000000) : Calls Tryz.prog 66 #[.pointer (some ⟨c.bp, 0, none⟩), nval n ka kc] w (TksP c w (Sh.nodeF ms f e dig n s)) := by
  by_cases hn : n.op ∈ opList
  · simp only [opList, List.mem_cons, List.not_mem_nil, or_false] at hn
    rcases hn with h | h | h | h | h | h | h | h | h | h | h | h | h | h | h | h | h | h | h | h | h | h | h | h | h | h | h | h
    · exact node_seq c bt ao cap ms f e n s w ka kc (show Sh.formOf n.op = ⟨0, 2, true⟩ by rw [h]; kernel_rfl) hk hP hS he hp ho hl
    · exact node_item c bt ao cap ms f e n s w ka kc 3 (show Sh.formOf n.op = ⟨1, 3, true⟩ by rw [h]; kernel_rfl) (.inr (.inl h)) hk hP he hp ho hl
    · exact node_item c bt ao cap ms f e n s w ka kc 2 (show Sh.formOf n.op = ⟨1, 2, true⟩ by rw [h]; kernel_rfl) (.inl h) hk hP he hp ho hl
    · exact node_item c bt ao cap ms f e n s w ka kc 2 (show Sh.formOf n.op = ⟨1, 2, true⟩ by rw [h]; kernel_rfl) (.inr (.inr (.inl h))) hk hP he hp ho hl
    · exact node_item c bt ao cap ms f e n s w ka kc 1 (show Sh.formOf n.op = ⟨1, 1, true⟩ by rw [h]; kernel_rfl) (.inr (.inr (.inr (.inr (.inl h))))) hk hP he hp ho hl
    · exact node_item c bt ao cap ms f e n s w ka kc 1 (show Sh.formOf n.op = ⟨1, 1, true⟩ by rw [h]; kernel_rfl) (.inr (.inr (.inr (.inr (.inr (h)))))) hk hP he hp ho hl
    · exact node_item c bt ao cap ms f e n s w ka kc 0 (show Sh.formOf n.op = ⟨1, 0, true⟩ by rw [h]; kernel_rfl) (.inr (.inr (.inr (.inl h)))) hk hP he hp ho hl
    · exact node_bin2 c bt ao cap ms f e n s w ka kc (show Sh.formOf n.op = ⟨2, 2, true⟩ by rw [h]; kernel_rfl) hk hP he hp ho hl
    · exact node_bin3 c bt ao cap ms f e n s w ka kc (show Sh.formOf n.op = ⟨3, 2, true⟩ by rw [h]; kernel_rfl) hk hP he hp ho hl
    · exact node_bin4 c bt ao cap ms f e n s w ka kc (show Sh.formOf n.op = ⟨4, 2, true⟩ by rw [h]; kernel_rfl) hk hP he hp ho hl
    · exact node_bin4 c bt ao cap ms f e n s w ka kc (show Sh.formOf n.op = ⟨4, 2, true⟩ by rw [h]; kernel_rfl) hk hP he hp ho hl
    · exact node_bin5 c bt ao cap ms f e n s w ka kc (show Sh.formOf n.op = ⟨5, 2, true⟩ by rw [h]; kernel_rfl) hk hP he hp ho hl
    · exact node_bin5 c bt ao cap ms f e n s w ka kc (show Sh.formOf n.op = ⟨5, 2, true⟩ by rw [h]; kernel_rfl) hk hP he hp ho hl
    · exact node_bin6 c bt ao cap ms f e n s w ka kc (show Sh.formOf n.op = ⟨6, 2, true⟩ by rw [h]; kernel_rfl) hk hP he hp ho hl
    · exact node_unary c bt ao cap ms f e n s w ka kc 2 (show Sh.formOf n.op = ⟨7, 2, true⟩ by rw [h]; kernel_rfl) (.inr (.inr (.inr (.inr (.inr (.inr (.inr (.inr (.inr (.inr (.inl h))))))))))) hk hP he hp ho hl
    · exact node_unary c bt ao cap ms f e n s w ka kc 1 (show Sh.formOf n.op = ⟨7, 1, true⟩ by rw [h]; kernel_rfl) (.inl h) hk hP he hp ho hl
    · exact node_unary c bt ao cap ms f e n s w ka kc 1 (show Sh.formOf n.op = ⟨7, 1, true⟩ by rw [h]; kernel_rfl) (.inr (.inl h)) hk hP he hp ho hl
    · exact node_unary c bt ao cap ms f e n s w ka kc 1 (show Sh.formOf n.op = ⟨7, 1, true⟩ by rw [h]; kernel_rfl) (.inr (.inr (.inl h))) hk hP he hp ho hl
    · exact node_unary c bt ao cap ms f e n s w ka kc 1 (show Sh.formOf n.op = ⟨7, 1, true⟩ by rw [h]; kernel_rfl) (.inr (.inr (.inr (.inl h)))) hk hP he hp ho hl
    · exact node_unary c bt ao cap ms f e n s w ka kc 1 (show Sh.formOf n.op = ⟨7, 1, true⟩ by rw [h]; kernel_rfl) (.inr (.inr (.inr (.inr (.inr (.inr (.inr (.inr (.inl h))))))))) hk hP he hp ho hl
    · exact node_unary c bt ao cap ms f e n s w ka kc 0 (show Sh.formOf n.op = ⟨7, 0, true⟩ by rw [h]; kernel_rfl) (.inr (.inr (.inr (.inr (.inl h))))) hk hP he hp ho hl
    · exact node_unary c bt ao cap ms f e n s w ka kc 0 (show Sh.formOf n.op = ⟨7, 0, true⟩ by rw [h]; kernel_rfl) (.inr (.inr (.inr (.inr (.inr (.inl h)))))) hk hP he hp ho hl
    · exact node_unary c bt ao cap ms f e n s w ka kc 0 (show Sh.formOf n.op = ⟨7, 0, true⟩ by rw [h]; kernel_rfl) (.inr (.inr (.inr (.inr (.inr (.inr (.inl h))))))) hk hP he hp ho hl
    · exact node_unary c bt ao cap ms f e n s w ka kc 0 (show Sh.formOf n.op = ⟨7, 0, true⟩ by rw [h]; kernel_rfl) (.inr (.inr (.inr (.inr (.inr (.inr (.inr (.inl h)))))))) hk hP he hp ho hl
    · exact node_unary c bt ao cap ms f e n s w ka kc 0 (show Sh.formOf n.op = ⟨7, 0, true⟩ by rw [h]; kernel_rfl) (.inr (.inr (.inr (.inr (.inr (.inr (.inr (.inr (.inr (.inl h)))))))))) hk hP he hp ho hl
    · exact node_unary c bt ao cap ms f e n s w ka kc 0 (show Sh.formOf n.op = ⟨7, 0, true⟩ by rw [h]; kernel_rfl) (.inr (.inr (.inr (.inr (.inr (.inr (.inr (.inr (.inr (.inr (.inr (.inl h)))))))))))) hk hP he hp ho hl
    · exact node_unary c bt ao cap ms f e n s w ka kc 0 (show Sh.formOf n.op = ⟨7, 0, true⟩ by rw [h]; kernel_rfl) (.inr (.inr (.inr (.inr (.inr (.inr (.inr (.inr (.inr (.inr (.inr (.inr (.inl h))))))))))))) hk hP he hp ho hl
    · exact node_unary c bt ao cap ms f e n s w ka kc (-1) (show Sh.formOf n.op = ⟨7, (-1), true⟩ by rw [h]; kernel_rfl) (.inr (.inr (.inr (.inr (.inr (.inr (.inr (.inr (.inr (.inr (.inr (.inr (.inr (h)))))))))))))) hk hP he hp ho hl
  · have h := hk.well
    unfold Sh.well at h
    rw [form_no hn] at h
    simp at h
end Go.Proofs.YtdkhkemllmegfaaGreatDoor



/- Printing an expression, whatever its nodes: by induction over its number. -/
namespace Go.Proofs.YtdkhkemllmegfaaGreatDoor.Sh
open Tn (Nd nd kid WF kid_lt kid_mem)

theorem ends_fuel {ms : List Nd} (hw : WF ms) (u : Nat) : ∀ v i, i < ms.length → i < u → i < v → ends ms u (nd ms i) = ends ms v (nd ms i) := by
  induction u with
  | zero => intro v i _ h; omega
  | succ u ih =>
    intro v i hi hu hv
    obtain ⟨v, rfl⟩ : ∃ v', v = v' + 1 := ⟨v - 1, by omega⟩
    simp only [ends]
    by_cases hk : 0 < (nd ms i).kids.length
    · have hm := kid_mem (ks := (nd ms i).kids) (i := (nd ms i).kids.length - 1) (by omega)
      have := kid_lt hw hi hm
      rw [ih v _ (by omega) (by omega) (by omega)]
    · have e : (nd ms i).kids = [] := List.eq_nil_of_length_eq_zero (by omega)
      have h0 : (kid (nd ms i).kids ((nd ms i).kids.length - 1)).toNat = 0 := by rw [e]; rfl
      rw [h0]
      by_cases hu0 : i = 0
      · subst hu0
        by_cases h1 : (nd ms 0).op = ⟨#[108, 101, 116]⟩
        · simp only [h1, if_true]
        · -- an if, or a try, with no parts: as deep as the fuel; the same for all fuels
          have key : ∀ u, ends ms u (nd ms 0) = false := by
            intro u
            induction u with
            | zero => rfl
            | succ u ih2 =>
              rw [ends, if_neg h1, h0, ih2]
              split <;> rfl
          rw [key u, key v]
      · rw [ih v 0 (by omega) (by omega) (by omega)]

section
variable {ms : List Nd}
theorem part_congr {f g : Nd → St → St} {k : Int} (h : f (nd ms k.toNat) = g (nd ms k.toNat)) (l : Int) (s : St) : part ms f k l s = part ms g k l s := by unfold part; rw [h]
theorem semi_congr {f g : Nd → St → St} {e d : Nd → Bool} {k : Int} (h : f (nd ms k.toNat) = g (nd ms k.toNat)) (hd : e (nd ms k.toNat) = d (nd ms k.toNat)) (s : St) : semi ms f e k s = semi ms g d k s := by unfold semi; rw [h, hd]
end
end Go.Proofs.YtdkhkemllmegfaaGreatDoor.Sh
namespace Go.Proofs.YtdkhkemllmegfaaGreatDoor
open Go.RowKit Go.Shelf Tn

/-- a node, with fuel enough, does what the plain function says -/
theorem spec_node (c : Pc) (bt : Nat) (ao : Option Addr) (cap : Nat) (ms : List Nd) (hw : WF ms) (i : Nat) : i < ms.length → Fit ms i → ∀ u, i < u → NodeC c bt ao cap ms (nd ms i) (Sh.node ms dig u (nd ms i)) := by
  induction i using Nat.strongRecOn with
  | _ i ih =>
    intro hi hfit u hu
    obtain ⟨u, rfl⟩ : ∃ v, u = v + 1 := ⟨u - 1, by omega⟩
    have hself := hfit.self hw hi
    refine ⟨fun s => Sh.node_mono ms dig (u + 1) _ s, hself.few, fun s w ka kc he hp ho hl => ?_⟩
    have hkid : ∀ j, j < (nd ms i).kids.length → ∃ q : Nat, kid (nd ms i).kids j = (q : Int) ∧ q < i ∧ Fit ms q := fun j hj => by
      have hm := kid_mem hj
      have h1 := kid_lt hw hi hm
      exact ⟨(kid (nd ms i).kids j).toNat, h1.2.symm, h1.1, hfit.kid hw hi hm⟩
    rw [Sh.node] at hl ⊢
    refine node_any c bt ao cap ms (Sh.node ms dig u) (Sh.ends ms (u + 1)) (nd ms i) s w ka kc hself ⟨Sh.node_mono ms dig u, hself.few, ?_⟩ ?_ he hp ho hl
    · intro j hj least s w he hp hl
      obtain ⟨q, hq, hqi, hfq⟩ := hkid j hj
      rw [hq] at hl ⊢
      unfold Sh.part at hl ⊢
      rw [Int.toNat_natCast] at hl ⊢
      exact part_any c bt ao cap ms q (Sh.node ms dig u (nd ms q)) least s w (by omega) (ih q hqi (by omega) hfq u (by omega)) he hp hl
    · intro hj s w he hp hl
      obtain ⟨q, hq, hqi, hfq⟩ := hkid 0 hj
      rw [hq] at hl ⊢
      unfold Sh.semi at hl ⊢
      rw [Int.toNat_natCast] at hl ⊢
      exact semi_any c bt ao cap ms q (Sh.node ms dig u (nd ms q)) (Sh.ends ms (u + 1) (nd ms q)) s w (by omega) (ih q hqi (by omega) hfq u (by omega)) he hp
        (fun w ka kc he ht hN ho => ends_any c bt ao cap ms hw q (by omega) hfq (u + 1) (by omega) w ka kc he ht hN ho) hl

/-- the whole text, from its beginning -/
def Sh.full (ms : List Nd) (i : Nat) (s : Sh.St) : Sh.St := Sh.brk (Sh.node ms dig (i + 1) (nd ms i)) (decide ((Sh.formOf (nd ms i).op).level < 0)) s
theorem full_any (c : Pc) (bt : Nat) (ao : Option Addr) (cap : Nat) (ms : List Nd) (hw : WF ms) (i : Nat) (hi : i < ms.length) (hf : Fit ms i) (s : Sh.St) (w : World) (he : En c bt ao cap ms w) (hp : Pr c w s) (hl : (Sh.full ms i s).bs.length ≤ 1000000000) :
    Calls Tryz.prog 17 #[.pointer (some ⟨c.bp, 0, none⟩), .int .i64 (i : Int), .int .i64 0] w (TksP c w (Sh.full ms i s)) :=
  part_any c bt ao cap ms i _ 0 s w hi (spec_node c bt ao cap ms hw i hi hf (i + 1) (by omega)) he hp hl
end Go.Proofs.YtdkhkemllmegfaaGreatDoor
