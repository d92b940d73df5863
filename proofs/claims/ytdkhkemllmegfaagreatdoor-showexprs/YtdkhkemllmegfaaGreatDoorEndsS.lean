import Derived.Test.YtdkhkemllmegfaaGreatDoorFitS
import Derived.Test.YtdkhkemllmegfaaGreatDoorLFloat

/- An item that a ; follows. -/
namespace Go.Proofs.YtdkhkemllmegfaaGreatDoor
open Go.RowKit Go.Shelf Tn
attribute [local go_sem] form_field0

set_option maxHeartbeats 4000000 in
set_option maxRecDepth 100000 in
theorem semi_any (c : Pc) (bt : Nat) (ao : Option Addr) (cap : Nat) (ms : List Nd) (i : Nat) (g : Sh.St → Sh.St) (b : Bool) (s : Sh.St) (w : World)
    (hi : i < ms.length) (hN : NodeC c bt ao cap ms (nd ms i) g) (he : En c bt ao cap ms w) (hp : Pr c w s) 
    (hB : ∀ (w : World) (ka : Option Addr) (kc : Nat), En c bt ao cap ms w → w.cell? ⟨c.bp, 0, none⟩ = some c.tv → c.N ≤ w.heap.size → w.ownsRow 0 3 1 (.slice ka (nd ms i).kids.length kc) (nd ms i).kids.length (ints (nd ms i).kids) →
      Calls Tryz.prog 118 #[.pointer (some ⟨c.bp, 0, none⟩), nval (nd ms i) ka kc] w fun e w' => e = .returned (.bool b) ∧ Below w.heap.size w w')
    (hl : (Sh.brk g (decide ((Sh.formOf (nd ms i).op).level < 1) || b) s).bs.length ≤ 1000000000) :
    Calls Tryz.prog 95 #[.pointer (some ⟨c.bp, 0, none⟩), .int .i64 (i : Int)] w (TksP c w (Sh.brk g (decide ((Sh.formOf (nd ms i).op).level < 1) || b) s)) := by
  have hG := get_yes c.N bt ao cap ms i w he.tree hp.hN hi hN.few
  have ct := hp.t
  rw [he.tv] at ct
  obtain ⟨n, hn⟩ : ∃ n, nd ms i = n := ⟨_, rfl⟩
  rw [hn] at hN hG hB hl ⊢
  have HN := Lib.hid hN; have HE := Lib.hid he; have HPR := Lib.hid hp; have HG := Lib.hid hG; have HBB := Lib.hid hB
  clear hN he hp hG hB hi hn
  go_enter Tryz.func95, Tryz.ntmps95
  go_wp2_with fail
  refine HG.out.mono ?_
  rintro e w1 ⟨ka, kc, rfl, hown, hb1⟩
  have h0 := Nx.start (HE.out.below (hb1.mono HPR.out.hN)) (HPR.out.below hb1) (own_mono hown (Nat.zero_le _))
  obtain ⟨W, hW⟩ : ∃ W, w1.alloc (.cells #[.string n.op, .int .i64 n.line, .int .i64 n.col, .string n.name, .int .i64 n.num, .slice ka n.kids.length kc] 40) = W := ⟨_, rfl⟩
  rw [hW] at h0
  have HW := Lib.hid hW; have H0 := Lib.hid h0; have HB1 := Lib.hid hb1
  clear hW h0 hb1 hown ct HG
  unfold nval
  go_wp2_with fail
  rw [HW.out]
  have y0 := fun x : Later W => Later.cell H0.out.c0 x
  have y1 := fun x : Later W => Later.cell H0.out.c1 x
  have y2 := fun x : Later W => Later.cell H0.out.c2 x
  have y3 := fun x : Later W => Later.cell H0.out.c3 x
  have y4 := fun x : Later W => Later.cell H0.out.c4 x
  have y5 := fun x : Later W => Later.cell H0.out.c5 x
  have k1 : ∀ x : Later W, Calls Tryz.prog 39 #[.string n.op] x.wx fun e w'' => e = .returned (fval (Sh.formOf n.op)) ∧ ∃ y : Later W, w'' = y.wx := fun x => calls_later (form_any n.op x.wx)
  have k2 : ∀ x : Later W, Calls Tryz.prog 118 #[.pointer (some ⟨c.bp, 0, none⟩), .agg #[.string n.op, .int .i64 n.line, .int .i64 n.col, .string n.name, .int .i64 n.num, .slice ka n.kids.length kc]] x.wx fun e w'' => e = .returned (.bool b) ∧ ∃ y : Later W, w'' = y.wx := fun x =>
    calls_later (HBB.out x.wx ka kc (H0.out.below x.le).en (H0.out.below x.le).tk.pr.t (H0.out.below x.le).tk.pr.hN (H0.out.below x.le).own)
  generalize Sh.formOf n.op = F at *
  have K1 := Lib.hid k1; clear k1
  have K2 := Lib.hid k2; clear k2
  unfold fval at K1
  cases hlv : decide (F.level < 1)
  all_goals
    rw [hlv] at hl
    refine wp_region_later_tail 12 (by kernel_rfl) (by kernel_rfl) ?_
    simp only [List.take_succ_cons, List.take_zero, List.drop_succ_cons, List.drop_zero]
    repeat (go_big_quiet_step (first | (go_at_call 39; with_reducible exact K1.out _) | (go_at_call 118; with_reducible exact K2.out _)))
    refine wpQuiet_nil ?_
    intro x
    have HX := Lib.hid (H0.out.below x.le)
    clear y0 y1 y2 y3 y4 y5 K1 K2 H0
    generalize x.wx = wx at *
    go_wp2_with fail
    refine (brk_any c bt ao cap ms n g _ s _ ka kc HN.out HX.out.en HX.out.tk.pr HX.out.own hl).mono ?_
    rintro e w2 ⟨rfl, q⟩
    have H2 := Lib.hid (HX.out.step q)
    clear q HX
    go_wp2
    go_end0
    exact ⟨rfl, TkP.of_below HB1.out H2.out.tk⟩
end Go.Proofs.YtdkhkemllmegfaaGreatDoor


/- Whether an expression ends in a let. -/
namespace Go.Proofs.YtdkhkemllmegfaaGreatDoor
open Go.RowKit Go.Shelf Tn

theorem Sh_ends_no (ms : List Nd) (u : Nat) (n : Nd) (h1 : n.op ≠ ⟨#[108, 101, 116]⟩) (h2 : n.op ≠ ⟨#[105, 102]⟩) (h3 : n.op ≠ ⟨#[116, 114, 121]⟩) : Sh.ends ms (u + 1) n = false := by
  simp [Sh.ends, h1, h2, h3]
theorem Sh_ends_let (ms : List Nd) (u : Nat) (n : Nd) (h1 : n.op = ⟨#[108, 101, 116]⟩) : Sh.ends ms (u + 1) n = true := by simp [Sh.ends, h1]
theorem Sh_ends_if (ms : List Nd) (u : Nat) (n : Nd) (h1 : n.op = ⟨#[105, 102]⟩ ∨ n.op = ⟨#[116, 114, 121]⟩) : Sh.ends ms (u + 1) n = Sh.ends ms u (nd ms (kid n.kids (n.kids.length - 1)).toNat) := by
  have h0 : n.op ≠ ⟨#[108, 101, 116]⟩ := by rcases h1 with h | h <;> (rw [h]; exact fun e => by injection e with e; injection e with e; simp at e)
  rw [Sh.ends, if_neg h0, if_pos h1]

set_option maxHeartbeats 4000000 in
set_option maxRecDepth 100000 in
theorem ends_any (c : Pc) (bt : Nat) (ao : Option Addr) (cap : Nat) (ms : List Nd) (hw : WF ms) (i : Nat) : i < ms.length → Fit ms i → ∀ (u : Nat), i < u → ∀ (w : World) (ka : Option Addr) (kc : Nat), En c bt ao cap ms w → w.cell? ⟨c.bp, 0, none⟩ = some c.tv → c.N ≤ w.heap.size →
    w.ownsRow 0 3 1 (.slice ka (nd ms i).kids.length kc) (nd ms i).kids.length (ints (nd ms i).kids) →
    Calls Tryz.prog 118 #[.pointer (some ⟨c.bp, 0, none⟩), nval (nd ms i) ka kc] w fun e w' => e = .returned (.bool (Sh.ends ms u (nd ms i))) ∧ Below w.heap.size w w' := by
  induction i using Nat.strongRecOn with
  | _ i ih =>
    intro hi hfit u hu w ka kc he hct hN ho
    obtain ⟨u, rfl⟩ : ∃ v, u = v + 1 := ⟨u - 1, by omega⟩
    have hself := hfit.self hw hi
    have IH : ∀ q, q < i → (q : Int) ∈ (nd ms i).kids → ∀ (w : World) (ka : Option Addr) (kc : Nat), En c bt ao cap ms w → w.cell? ⟨c.bp, 0, none⟩ = some c.tv → c.N ≤ w.heap.size →
        w.ownsRow 0 3 1 (.slice ka (nd ms q).kids.length kc) (nd ms q).kids.length (ints (nd ms q).kids) →
        Calls Tryz.prog 118 #[.pointer (some ⟨c.bp, 0, none⟩), nval (nd ms q) ka kc] w fun e w' => e = .returned (.bool (Sh.ends ms u (nd ms q))) ∧ Below w.heap.size w w' := fun q hq hm => ih q hq (by omega) (by have := hfit.kid hw hi hm; rwa [Int.toNat_natCast] at this) u (by omega)
    have hkid := fun k hk => kid_lt hw hi (k := k) hk
    have hgood : ∀ q, q < i → q < ms.length := fun q hq => by omega
    have hfew : ∀ q, q < i → (q : Int) ∈ (nd ms i).kids → (nd ms q).kids.length ≤ 999000 := fun q hq hm => by
      have := (hfit.kid hw hi hm).self hw (by rw [Int.toNat_natCast]; omega)
      rw [Int.toNat_natCast] at this; exact this.few
    clear ih hfit
    generalize hn : nd ms i = n at *
    obtain ⟨W, hW⟩ : ∃ W, w.alloc (.cells #[.string n.op, .int .i64 n.line, .int .i64 n.col, .string n.name, .int .i64 n.num, .slice ka n.kids.length kc] 40) = W := ⟨_, rfl⟩
    have hbW : Below w.heap.size w W := by rw [← hW]; exact (Below.refl _ w).alloc (Nat.le_refl _) _
    have hbox : W.heap[w.heap.size]? = some (.cells #[.string n.op, .int .i64 n.line, .int .i64 n.col, .string n.name, .int .i64 n.num, .slice ka n.kids.length kc] 40 (0, 0)) := by rw [← hW]; exact blk_new w _
    have heW := he.below (hbW.mono hN)
    have hctW : W.cell? ⟨c.bp, 0, none⟩ = some (.pointer (some ⟨bt, 0, none⟩)) := by rw [hbW.cell (p := ⟨c.bp, 0, none⟩) (World.block_lt_of_cell? _ _ hct), hct, he.tv]
    have hoW := own_below ho hbW
    have hsz := hbW.size
    have HW := Lib.hid hW; have HB := Lib.hid hbW; have HBX := Lib.hid hbox; have HE := Lib.hid heW; have HC := Lib.hid hctW; have HO := Lib.hid hoW; have HI := Lib.hid IH; have HKD := Lib.hid hkid; have HGD := Lib.hid hgood; have HFW := Lib.hid hfew; have HS := Lib.hid hself
    clear hW hbW hbox heW hctW hoW IH hkid hgood hfew hself he hct ho hn hw
    by_cases hlet : n.op = ⟨#[108, 101, 116]⟩
    · rw [Sh_ends_let ms u n hlet]
      unfold nval
      rw [hlet] at HW ⊢
      go_enter Tryz.func118, Tryz.ntmps118
      go_wp2
      go_ret
      rw [HW.out]
      exact ⟨rfl, HB.out⟩
    · by_cases hif : n.op = ⟨#[105, 102]⟩ ∨ n.op = ⟨#[116, 114, 121]⟩
      · rw [Sh_ends_if ms u n hif]
        have tt : (n.op.toList == [108, 101, 116]) = false := by rw [tl_beq]; exact decide_eq_false hlet
        rcases hif with hop | hop
        · have hkl : n.kids.length = 3 := by have := well_kids (a := 1) (b := 3) HS.out.well (by rw [hop]; kernel_rfl) (by decide); omega
          have t2 : (n.op.toList == [105, 102]) = true := by rw [tl_beq]; exact decide_eq_true hop
          clear hop hlet
          obtain ⟨g, rfl⟩ : ∃ g, ka = some ⟨g, 0, none⟩ := by
            rcases HO.out.2 with ⟨_, e⟩ | ⟨g, cp, cur, e, _⟩
            · omega
            · injection e with e1 _ _; exact ⟨g, e1⟩
          have hm : n.kids.length = 3 := hkl
          have hmem := kid_mem (ks := n.kids) (i := 2) (by omega)
          obtain ⟨q, hq⟩ : ∃ q : Nat, kid n.kids 2 = (q : Int) := ⟨(kid n.kids 2).toNat, (HKD.out _ hmem).2.symm⟩
          have hqi : q < i := by have := (HKD.out _ hmem).1; rw [hq, Int.toNat_natCast] at this; exact this
          rw [hq] at hmem
          have hql := HGD.out q hqi
          have hqf := HFW.out q hqi hmem
          have hR := HI.out q hqi hmem
          rw [show n.kids.length - 1 = 2 by omega, hq, Int.toNat_natCast]
          have q1 := HC.out
          have q2 : W.cell? ⟨w.heap.size, 5, none⟩ = some (.slice (some ⟨g, 0, none⟩) 3 kc) := by rw [← hm]; exact (blk_cell HBX.out 5).trans rfl
          have q3 : W.cell? ⟨g, 2, none⟩ = some (.int .i64 (q : Int)) := by have := own_cell HO.out (ints_kid (l := n.kids) (j := 2) (by omega)); rwa [hq] at this
          have q0 : W.cell? ⟨w.heap.size, 0, none⟩ = some (.string n.op) := (blk_cell HBX.out 0).trans rfl
          have KB : ∀ X, Below W.heap.size W X → (X.cell? ⟨c.bp, 0, none⟩ = some (.pointer (some ⟨bt, 0, none⟩)) ∧ X.cell? ⟨w.heap.size, 5, none⟩ = some (.slice (some ⟨g, 0, none⟩) 3 kc) ∧ X.cell? ⟨g, 2, none⟩ = some (.int .i64 (q : Int)) ∧ Below W.heap.size W X) := fun X h =>
            ⟨(h.cell (p := ⟨c.bp, 0, none⟩) (World.block_lt_of_cell? _ _ q1)).trans q1, (h.cell (p := ⟨w.heap.size, 5, none⟩) (World.block_lt_of_cell? _ _ q2)).trans q2, (h.cell (p := ⟨g, 2, none⟩) (World.block_lt_of_cell? _ _ q3)).trans q3, h⟩
          have KA : ∀ X o, (X.cell? ⟨c.bp, 0, none⟩ = some (.pointer (some ⟨bt, 0, none⟩)) ∧ X.cell? ⟨w.heap.size, 5, none⟩ = some (.slice (some ⟨g, 0, none⟩) 3 kc) ∧ X.cell? ⟨g, 2, none⟩ = some (.int .i64 (q : Int)) ∧ Below W.heap.size W X) → ((X.alloc o).cell? ⟨c.bp, 0, none⟩ = some (.pointer (some ⟨bt, 0, none⟩)) ∧ (X.alloc o).cell? ⟨w.heap.size, 5, none⟩ = some (.slice (some ⟨g, 0, none⟩) 3 kc) ∧ (X.alloc o).cell? ⟨g, 2, none⟩ = some (.int .i64 (q : Int)) ∧ Below W.heap.size W (X.alloc o)) := fun X o h => KB _ (below_grow h.2.2.2 o)
          have KS : ∀ X X0 off v, (X0.cell? ⟨c.bp, 0, none⟩ = some (.pointer (some ⟨bt, 0, none⟩)) ∧ X0.cell? ⟨w.heap.size, 5, none⟩ = some (.slice (some ⟨g, 0, none⟩) 3 kc) ∧ X0.cell? ⟨g, 2, none⟩ = some (.int .i64 (q : Int)) ∧ Below W.heap.size W X0) → (X.cell? ⟨c.bp, 0, none⟩ = some (.pointer (some ⟨bt, 0, none⟩)) ∧ X.cell? ⟨w.heap.size, 5, none⟩ = some (.slice (some ⟨g, 0, none⟩) 3 kc) ∧ X.cell? ⟨g, 2, none⟩ = some (.int .i64 (q : Int)) ∧ Below W.heap.size W X) → ((X.setCell ⟨X0.heap.size, off, none⟩ v).cell? ⟨c.bp, 0, none⟩ = some (.pointer (some ⟨bt, 0, none⟩)) ∧ (X.setCell ⟨X0.heap.size, off, none⟩ v).cell? ⟨w.heap.size, 5, none⟩ = some (.slice (some ⟨g, 0, none⟩) 3 kc) ∧ (X.setCell ⟨X0.heap.size, off, none⟩ v).cell? ⟨g, 2, none⟩ = some (.int .i64 (q : Int)) ∧ Below W.heap.size W (X.setCell ⟨X0.heap.size, off, none⟩ v)) := fun X X0 off v h0 h => KB _ (h.2.2.2.setCell (p := ⟨X0.heap.size, off, none⟩) h0.2.2.2.size v)
          have HKS := Lib.hid KS; clear KS
          have KD := KB _ (Below.refl _ W).drew
          have hNW : c.N ≤ W.heap.size := by omega
          have gt : ∀ X, (X.cell? ⟨c.bp, 0, none⟩ = some (.pointer (some ⟨bt, 0, none⟩)) ∧ X.cell? ⟨w.heap.size, 5, none⟩ = some (.slice (some ⟨g, 0, none⟩) 3 kc) ∧ X.cell? ⟨g, 2, none⟩ = some (.int .i64 (q : Int)) ∧ Below W.heap.size W X) → Calls Tryz.prog 37 #[.pointer (some ⟨bt, 0, none⟩), .int .i64 (q : Int)] X fun e X' => ∃ ka1 kc1, e = .returned (.tuple #[nval (nd ms q) ka1 kc1, .bool true]) ∧ (X'.cell? ⟨c.bp, 0, none⟩ = some (.pointer (some ⟨bt, 0, none⟩)) ∧ X'.cell? ⟨w.heap.size, 5, none⟩ = some (.slice (some ⟨g, 0, none⟩) 3 kc) ∧ X'.cell? ⟨g, 2, none⟩ = some (.int .i64 (q : Int)) ∧ Below W.heap.size W X') ∧ X'.ownsRow X.heap.size 3 1 (.slice ka1 (nd ms q).kids.length kc1) (nd ms q).kids.length (ints (nd ms q).kids) ∧ Keeps X X' ∧ Hid (Below X.heap.size X X') := fun X h =>
            (get_yes c.N bt ao cap ms q X (HE.out.tree.below (h.2.2.2.mono hNW)) (Nat.le_trans hNW h.2.2.2.size) hql hqf).mono fun e X' ⟨ka1, kc1, he, hown, hb⟩ => ⟨ka1, kc1, he, KB _ (h.2.2.2.trans (hb.mono h.2.2.2.size)), hown, below_keeps hb, Lib.hid hb⟩
          have GT := Lib.hid gt; have HKA := Lib.hid KA; have HK0 := Lib.hid KD; have HK1 := Lib.hid (KB _ (Below.refl _ W)); have HK2 := Lib.hid (fun o => KB _ (below_grow (Below.refl _ W) o).drew); have HR := Lib.hid hR
          generalize hnq : nd ms q = nq at *
          clear gt KA KD KB hR hmem q0 hnq HI HKD HGD HFW HS HO hql hqf
          have HM := Lib.hid hm
          clear hm hkl hq
          have hw1 : IntKind.i64.wrap 2 = 2 := IntWalk.i64_in _ (by omega)
          have hw2 : IntKind.i64.wrap (3 - 1) = 2 := IntWalk.i64_in _ (by omega)
          unfold nval at GT
          unfold nval
          go_enter Tryz.func118, Tryz.ntmps118
          go_upto_region 6 with fail
          rw [HW.out]
          go_cut [5] (fun v wz => ∃ (b : Nat) (ka1 : Option Addr) (kc1 : Nat), v = .pointer (some ⟨b, 0, none⟩) ∧ Six wz b 40 (.string nq.op) (.int .i64 nq.line) (.int .i64 nq.col) (.string nq.name) (.int .i64 nq.num) (.slice ka1 nq.kids.length kc1) ∧ wz.ownsRow 0 3 1 (.slice ka1 nq.kids.length kc1) nq.kids.length (ints nq.kids) ∧ Below W.heap.size W wz)
          case first =>
            go_region_held3 (fun X => (X.cell? ⟨c.bp, 0, none⟩ = some (.pointer (some ⟨bt, 0, none⟩)) ∧ X.cell? ⟨w.heap.size, 5, none⟩ = some (.slice (some ⟨g, 0, none⟩) 3 kc) ∧ X.cell? ⟨g, 2, none⟩ = some (.int .i64 (q : Int)) ∧ Below W.heap.size W X)) (first | (with_reducible assumption) | (with_reducible exact HK0.out) | (with_reducible exact HK2.out _) | (with_reducible exact HKA.out _ _ (by first | with_reducible assumption | with_reducible exact HK0.out)) | ((repeat (with_reducible refine HKS.out _ _ _ _ (by first | with_reducible assumption | with_reducible exact HK0.out | with_reducible exact HK1.out) ?_)); with_reducible assumption)) (first | (go_at_call 37; (with_reducible refine (GT.out _ (by assumption)).mono ?_); rintro e w'' ⟨ka1, kc1, rfl, hS', hown, ⟨hcell, hfroz⟩, hbel⟩))
            all_goals
              have HSS := Lib.hid hS'; have HOW := Lib.hid hown
              clear hS' hown hcell hfroz
              go_wp2_with fail
              go_meet
              first
                | (refine ⟨W.heap.size, ka1, kc1, by with_reducible rfl, ?_⟩; exact ⟨((show Six (W.alloc (.cells #[.string ⟨#[]⟩, .int .i64 0, .int .i64 0, .string ⟨#[]⟩, .int .i64 0, .slice none 0 0] 40)).drew W.heap.size 40 (.string ⟨#[]⟩) (.int .i64 0) (.int .i64 0) (.string ⟨#[]⟩) (.int .i64 0) (.slice none 0 0) from ⟨blk_new W _⟩).below hbel.out (by show W.heap.size < (W.alloc _).heap.size; simp)).set _ _ _ _ _ _,
                    own_mono (own_setSix HOW.out (by show W.heap.size < (W.alloc _).heap.size; simp) _ _ _ _ _ _) (Nat.zero_le _), below_setSix HSS.out.2.2.2 (Nat.le_refl _) _ _ _ _ _ _⟩)
                | exact ⟨_, ka1, kc1, rfl, ⟨blk_new _ _⟩, (own_mono HOW.out (Nat.zero_le _)).alloc _, below_grow HSS.out.2.2.2 _⟩
          case rest =>
            obtain ⟨b, ka1, kc1, rfl, s6, own6, hb6⟩ := hcut
            have d0 := s6.c0; have d1 := s6.c1; have d2 := s6.c2; have d3 := s6.c3; have d4 := s6.c4; have d5 := s6.c5
            have he6 := HE.out.below (hb6.mono hNW)
            have ht6 : wc.cell? ⟨c.bp, 0, none⟩ = some c.tv := by rw [he6.tv, hb6.cell (p := ⟨c.bp, 0, none⟩) (World.block_lt_of_cell? _ _ HC.out)]; exact HC.out
            have HB6 := Lib.hid hb6; have H9 := Lib.hid (HR.out wc ka1 kc1 he6 ht6 (Nat.le_trans hNW hb6.size) own6)
            clear s6 own6 hb6 he6 ht6 HR
            unfold nval at H9
            go_wp2_with fail
            refine H9.out.mono ?_
            rintro e w9 ⟨rfl, hb9⟩
            have HB9 := Lib.hid (HB.out.trans ((HB6.out.trans (hb9.mono HB6.out.size)).mono hsz))
            clear hb9 d0 d1 d2 d3 d4 d5
            go_wp2
            go_ret
            exact ⟨rfl, HB9.out⟩
        · have hkl : n.kids.length = 2 := by have := well_kids (a := 1) (b := 2) HS.out.well (by rw [hop]; kernel_rfl) (by decide); omega
          have t2 : (n.op.toList == [105, 102]) = false := by rw [tl_beq]; refine decide_eq_false ?_; rw [hop]; exact fun e => by injection e with e; injection e with e; simp at e
          have t3 : (n.op.toList == [116, 114, 121]) = true := by rw [tl_beq]; exact decide_eq_true hop
          clear hop hlet
          obtain ⟨g, rfl⟩ : ∃ g, ka = some ⟨g, 0, none⟩ := by
            rcases HO.out.2 with ⟨_, e⟩ | ⟨g, cp, cur, e, _⟩
            · omega
            · injection e with e1 _ _; exact ⟨g, e1⟩
          have hm : n.kids.length = 2 := hkl
          have hmem := kid_mem (ks := n.kids) (i := 1) (by omega)
          obtain ⟨q, hq⟩ : ∃ q : Nat, kid n.kids 1 = (q : Int) := ⟨(kid n.kids 1).toNat, (HKD.out _ hmem).2.symm⟩
          have hqi : q < i := by have := (HKD.out _ hmem).1; rw [hq, Int.toNat_natCast] at this; exact this
          rw [hq] at hmem
          have hql := HGD.out q hqi
          have hqf := HFW.out q hqi hmem
          have hR := HI.out q hqi hmem
          rw [show n.kids.length - 1 = 1 by omega, hq, Int.toNat_natCast]
          have q1 := HC.out
          have q2 : W.cell? ⟨w.heap.size, 5, none⟩ = some (.slice (some ⟨g, 0, none⟩) 2 kc) := by rw [← hm]; exact (blk_cell HBX.out 5).trans rfl
          have q3 : W.cell? ⟨g, 1, none⟩ = some (.int .i64 (q : Int)) := by have := own_cell HO.out (ints_kid (l := n.kids) (j := 1) (by omega)); rwa [hq] at this
          have q0 : W.cell? ⟨w.heap.size, 0, none⟩ = some (.string n.op) := (blk_cell HBX.out 0).trans rfl
          have KB : ∀ X, Below W.heap.size W X → (X.cell? ⟨c.bp, 0, none⟩ = some (.pointer (some ⟨bt, 0, none⟩)) ∧ X.cell? ⟨w.heap.size, 5, none⟩ = some (.slice (some ⟨g, 0, none⟩) 2 kc) ∧ X.cell? ⟨g, 1, none⟩ = some (.int .i64 (q : Int)) ∧ Below W.heap.size W X) := fun X h =>
            ⟨(h.cell (p := ⟨c.bp, 0, none⟩) (World.block_lt_of_cell? _ _ q1)).trans q1, (h.cell (p := ⟨w.heap.size, 5, none⟩) (World.block_lt_of_cell? _ _ q2)).trans q2, (h.cell (p := ⟨g, 1, none⟩) (World.block_lt_of_cell? _ _ q3)).trans q3, h⟩
          have KA : ∀ X o, (X.cell? ⟨c.bp, 0, none⟩ = some (.pointer (some ⟨bt, 0, none⟩)) ∧ X.cell? ⟨w.heap.size, 5, none⟩ = some (.slice (some ⟨g, 0, none⟩) 2 kc) ∧ X.cell? ⟨g, 1, none⟩ = some (.int .i64 (q : Int)) ∧ Below W.heap.size W X) → ((X.alloc o).cell? ⟨c.bp, 0, none⟩ = some (.pointer (some ⟨bt, 0, none⟩)) ∧ (X.alloc o).cell? ⟨w.heap.size, 5, none⟩ = some (.slice (some ⟨g, 0, none⟩) 2 kc) ∧ (X.alloc o).cell? ⟨g, 1, none⟩ = some (.int .i64 (q : Int)) ∧ Below W.heap.size W (X.alloc o)) := fun X o h => KB _ (below_grow h.2.2.2 o)
          have KS : ∀ X X0 off v, (X0.cell? ⟨c.bp, 0, none⟩ = some (.pointer (some ⟨bt, 0, none⟩)) ∧ X0.cell? ⟨w.heap.size, 5, none⟩ = some (.slice (some ⟨g, 0, none⟩) 2 kc) ∧ X0.cell? ⟨g, 1, none⟩ = some (.int .i64 (q : Int)) ∧ Below W.heap.size W X0) → (X.cell? ⟨c.bp, 0, none⟩ = some (.pointer (some ⟨bt, 0, none⟩)) ∧ X.cell? ⟨w.heap.size, 5, none⟩ = some (.slice (some ⟨g, 0, none⟩) 2 kc) ∧ X.cell? ⟨g, 1, none⟩ = some (.int .i64 (q : Int)) ∧ Below W.heap.size W X) → ((X.setCell ⟨X0.heap.size, off, none⟩ v).cell? ⟨c.bp, 0, none⟩ = some (.pointer (some ⟨bt, 0, none⟩)) ∧ (X.setCell ⟨X0.heap.size, off, none⟩ v).cell? ⟨w.heap.size, 5, none⟩ = some (.slice (some ⟨g, 0, none⟩) 2 kc) ∧ (X.setCell ⟨X0.heap.size, off, none⟩ v).cell? ⟨g, 1, none⟩ = some (.int .i64 (q : Int)) ∧ Below W.heap.size W (X.setCell ⟨X0.heap.size, off, none⟩ v)) := fun X X0 off v h0 h => KB _ (h.2.2.2.setCell (p := ⟨X0.heap.size, off, none⟩) h0.2.2.2.size v)
          have HKS := Lib.hid KS; clear KS
          have KD := KB _ (Below.refl _ W).drew
          have hNW : c.N ≤ W.heap.size := by omega
          have gt : ∀ X, (X.cell? ⟨c.bp, 0, none⟩ = some (.pointer (some ⟨bt, 0, none⟩)) ∧ X.cell? ⟨w.heap.size, 5, none⟩ = some (.slice (some ⟨g, 0, none⟩) 2 kc) ∧ X.cell? ⟨g, 1, none⟩ = some (.int .i64 (q : Int)) ∧ Below W.heap.size W X) → Calls Tryz.prog 37 #[.pointer (some ⟨bt, 0, none⟩), .int .i64 (q : Int)] X fun e X' => ∃ ka1 kc1, e = .returned (.tuple #[nval (nd ms q) ka1 kc1, .bool true]) ∧ (X'.cell? ⟨c.bp, 0, none⟩ = some (.pointer (some ⟨bt, 0, none⟩)) ∧ X'.cell? ⟨w.heap.size, 5, none⟩ = some (.slice (some ⟨g, 0, none⟩) 2 kc) ∧ X'.cell? ⟨g, 1, none⟩ = some (.int .i64 (q : Int)) ∧ Below W.heap.size W X') ∧ X'.ownsRow X.heap.size 3 1 (.slice ka1 (nd ms q).kids.length kc1) (nd ms q).kids.length (ints (nd ms q).kids) ∧ Keeps X X' ∧ Hid (Below X.heap.size X X') := fun X h =>
            (get_yes c.N bt ao cap ms q X (HE.out.tree.below (h.2.2.2.mono hNW)) (Nat.le_trans hNW h.2.2.2.size) hql hqf).mono fun e X' ⟨ka1, kc1, he, hown, hb⟩ => ⟨ka1, kc1, he, KB _ (h.2.2.2.trans (hb.mono h.2.2.2.size)), hown, below_keeps hb, Lib.hid hb⟩
          have GT := Lib.hid gt; have HKA := Lib.hid KA; have HK0 := Lib.hid KD; have HK1 := Lib.hid (KB _ (Below.refl _ W)); have HK2 := Lib.hid (fun o => KB _ (below_grow (Below.refl _ W) o).drew); have HR := Lib.hid hR
          generalize hnq : nd ms q = nq at *
          clear gt KA KD KB hR hmem q0 hnq HI HKD HGD HFW HS HO hql hqf
          have HM := Lib.hid hm
          clear hm hkl hq
          have hw1 : IntKind.i64.wrap 1 = 1 := IntWalk.i64_in _ (by omega)
          have hw2 : IntKind.i64.wrap (2 - 1) = 1 := IntWalk.i64_in _ (by omega)
          unfold nval at GT
          unfold nval
          go_enter Tryz.func118, Tryz.ntmps118
          go_upto_region 6 with fail
          rw [HW.out]
          go_cut [5] (fun v wz => ∃ (b : Nat) (ka1 : Option Addr) (kc1 : Nat), v = .pointer (some ⟨b, 0, none⟩) ∧ Six wz b 40 (.string nq.op) (.int .i64 nq.line) (.int .i64 nq.col) (.string nq.name) (.int .i64 nq.num) (.slice ka1 nq.kids.length kc1) ∧ wz.ownsRow 0 3 1 (.slice ka1 nq.kids.length kc1) nq.kids.length (ints nq.kids) ∧ Below W.heap.size W wz)
          case first =>
            go_region_held3 (fun X => (X.cell? ⟨c.bp, 0, none⟩ = some (.pointer (some ⟨bt, 0, none⟩)) ∧ X.cell? ⟨w.heap.size, 5, none⟩ = some (.slice (some ⟨g, 0, none⟩) 2 kc) ∧ X.cell? ⟨g, 1, none⟩ = some (.int .i64 (q : Int)) ∧ Below W.heap.size W X)) (first | (with_reducible assumption) | (with_reducible exact HK0.out) | (with_reducible exact HK2.out _) | (with_reducible exact HKA.out _ _ (by first | with_reducible assumption | with_reducible exact HK0.out)) | ((repeat (with_reducible refine HKS.out _ _ _ _ (by first | with_reducible assumption | with_reducible exact HK0.out | with_reducible exact HK1.out) ?_)); with_reducible assumption)) (first | (go_at_call 37; (with_reducible refine (GT.out _ (by assumption)).mono ?_); rintro e w'' ⟨ka1, kc1, rfl, hS', hown, ⟨hcell, hfroz⟩, hbel⟩))
            all_goals
              have HSS := Lib.hid hS'; have HOW := Lib.hid hown
              clear hS' hown hcell hfroz
              go_wp2_with fail
              go_meet
              first
                | (refine ⟨W.heap.size, ka1, kc1, by with_reducible rfl, ?_⟩; exact ⟨((show Six (W.alloc (.cells #[.string ⟨#[]⟩, .int .i64 0, .int .i64 0, .string ⟨#[]⟩, .int .i64 0, .slice none 0 0] 40)).drew W.heap.size 40 (.string ⟨#[]⟩) (.int .i64 0) (.int .i64 0) (.string ⟨#[]⟩) (.int .i64 0) (.slice none 0 0) from ⟨blk_new W _⟩).below hbel.out (by show W.heap.size < (W.alloc _).heap.size; simp)).set _ _ _ _ _ _,
                    own_mono (own_setSix HOW.out (by show W.heap.size < (W.alloc _).heap.size; simp) _ _ _ _ _ _) (Nat.zero_le _), below_setSix HSS.out.2.2.2 (Nat.le_refl _) _ _ _ _ _ _⟩)
                | exact ⟨_, ka1, kc1, rfl, ⟨blk_new _ _⟩, (own_mono HOW.out (Nat.zero_le _)).alloc _, below_grow HSS.out.2.2.2 _⟩
          case rest =>
            obtain ⟨b, ka1, kc1, rfl, s6, own6, hb6⟩ := hcut
            have d0 := s6.c0; have d1 := s6.c1; have d2 := s6.c2; have d3 := s6.c3; have d4 := s6.c4; have d5 := s6.c5
            have he6 := HE.out.below (hb6.mono hNW)
            have ht6 : wc.cell? ⟨c.bp, 0, none⟩ = some c.tv := by rw [he6.tv, hb6.cell (p := ⟨c.bp, 0, none⟩) (World.block_lt_of_cell? _ _ HC.out)]; exact HC.out
            have HB6 := Lib.hid hb6; have H9 := Lib.hid (HR.out wc ka1 kc1 he6 ht6 (Nat.le_trans hNW hb6.size) own6)
            clear s6 own6 hb6 he6 ht6 HR
            unfold nval at H9
            go_wp2_with fail
            refine H9.out.mono ?_
            rintro e w9 ⟨rfl, hb9⟩
            have HB9 := Lib.hid (HB.out.trans ((HB6.out.trans (hb9.mono HB6.out.size)).mono hsz))
            clear hb9 d0 d1 d2 d3 d4 d5
            go_wp2
            go_ret
            exact ⟨rfl, HB9.out⟩
      · rw [Sh_ends_no ms u n hlet (fun e => hif (.inl e)) (fun e => hif (.inr e))]
        have t1 : (n.op.toList == [108, 101, 116]) = false := by rw [tl_beq]; exact decide_eq_false hlet
        have t2 : (n.op.toList == [105, 102]) = false := by rw [tl_beq]; exact decide_eq_false (fun e => hif (.inl e))
        have t3 : (n.op.toList == [116, 114, 121]) = false := by rw [tl_beq]; exact decide_eq_false (fun e => hif (.inr e))
        clear hlet hif
        unfold nval
        go_enter Tryz.func118, Tryz.ntmps118
        go_wp2
        go_ret
        rw [HW.out]
        exact ⟨rfl, HB.out⟩
end Go.Proofs.YtdkhkemllmegfaaGreatDoor
