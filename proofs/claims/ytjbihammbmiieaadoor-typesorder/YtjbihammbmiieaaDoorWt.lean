/- One thing is written. -/
import Derived.Test.YtjbihammbmiieaaDoorNm
namespace Go.Proofs.YtjbihammbmiieaaDoor
open Go.RowKit Un

def zs (l : List Int) : List Value := l.map fun (k : Int) => Value.int .i64 k
theorem zs_len (l : List Int) : (zs l).length = l.length := by simp [zs]
theorem zs_get {l : List Int} {i : Nat} {x : Int} (h : l[i]? = some x) : (zs l)[i]? = some (.int .i64 x) := by simp [zs, h]
theorem zs_app (l k : List Int) : zs (l ++ k) = zs l ++ zs k := by simp [zs]
/-- what a list of things comes to -/
def emit (τ : Nat → Ty) : List Int → List Nat → List UInt8 × List Nat
  | [], n => ([], n)
  | x :: l, n => if x = -1 then (44 :: 32 :: (emit τ l n).1, (emit τ l n).2) else if x = -2 then (41 :: (emit τ l n).1, (emit τ l n).2) else ((txt (τ x.toNat) n).1 ++ (emit τ l (txt (τ x.toNat) n).2).1, (emit τ l (txt (τ x.toNat) n).2).2)
def wts (τ : Nat → Ty) : List Int → Nat
  | [] => 0
  | x :: l => (if x < 0 then 1 else 3 * (τ x.toNat).size) + wts τ l
theorem wts_len (τ : Nat → Ty) : ∀ l : List Int, l.length ≤ wts τ l
  | [] => Nat.le_refl _
  | x :: l => by
    have := wts_len τ l
    have h2 := (τ x.toNat).size_pos
    rw [List.length_cons, wts]; split <;> omega
/-- things to be written -/
def Wrt (N : Nat) (l : List Int) : Prop := ∀ x ∈ l, x = -1 ∨ x = -2 ∨ (0 ≤ x ∧ x < N)
structure WrSt (B bt : Nat) (c : Pc) (mb : Nat) (L : Nat) (v : Value) (τ : Nat → Ty) (N : Nat) (F : List UInt8 × List Nat) (k : Nat) (tv : Value) (R : List Nx) (s : List UInt8) (nums : List Nat) (l : List Int) (w : World) : Prop where
  sh : ShowAt B bt c mb R v s nums w
  own : w.ownsRow N 35 1 tv l.length (zs l.reverse)
  len : R.length = L
  val : ∀ x, x < R.length + 3 → Val (abs R) x (τ x)
  clear : ∀ n ∈ R, n.s = false
  wrt : Wrt (L + 3) l
  slim : Slim (L + 3) nums
  out : (s ++ (emit τ l nums).1, (emit τ l nums).2) = F
  rank : wts τ l = k
  hN : N ≤ w.heap.size
/-- nothing but what showing turns, and a list -/
def Fr2 (p : Nat → Obj → Prop) (u : Value) (w w' : World) : Prop := But (fun k => (∃ o, w.heap[k]? = some o ∧ p k o) ∨ u.ownBlock = some k) w w'
theorem Fr.two {p : Nat → Obj → Prop} {u : Value} {a b : World} (h : Fr p a b) : Fr2 p u a b := But.mono h (fun _ _ e => .inl e)
theorem Fr2.size {p : Nat → Obj → Prop} {u : Value} {a b : World} (h : Fr2 p u a b) : a.heap.size ≤ b.heap.size := But.size h
theorem Fr.fresh2 {p : Nat → Obj → Prop} {u : Value} {w a b : World} (h : Fr p w a) (k : Fr2 p u a b) (hn : ∀ q, u.ownBlock = some q → w.heap.size ≤ q) : Fr p w b :=
  ⟨k.os.trans h.os, k.tape.trans h.tape, k.output.trans h.output, Nat.le_trans h.size k.size, fun i hi hp => by
    have e := h.block i hi hp
    refine (k.block i (Nat.lt_of_lt_of_le hi h.size) ?_).trans e
    rintro (⟨o, e1, e2⟩ | e1)
    · exact hp ⟨o, e ▸ e1, e2⟩
    · have := hn i e1; omega⟩
theorem ShowAt.grown {B bt : Nat} {c : Pc} {mb : Nat} {R : List Nx} {v : Value} {s : List UInt8} {nums : List Nat} {w w' : World} (h : ShowAt B bt c mb R v s nums w) {N : Nat} {u : Value} {n : Nat} {xs : List Value} (ho : w.ownsRow N 35 1 u n xs) (k : w.grownBy w' u.ownBlock) : ShowAt B bt c mb R v s nums w' := by
  obtain ⟨adr, pv, hp⟩ := h.pr
  have hb : But (fun q => u.ownBlock = some q) w w' := But.of_grown k (fun _ e => e)
  have tag : ∀ {q : Nat} {o : Obj}, w.heap[q]? = some o → (∀ cur, o ≠ .cells cur 35 (0, 0)) → u.ownBlock ≠ some q := fun hq hne e => by
    obtain ⟨_, cur, e1⟩ := own_tag ho e
    rw [hq] at e1; injection e1 with e1; exact hne cur e1
  have hbt := tag h.tab.blk (fun cur e => by injection e with _ e; exact absurd e (by decide))
  have hbp := tag hp.blk (fun cur e => by injection e with _ e; exact absurd e (by decide))
  have hmb := tag h.num (fun cur e => by cases e)
  exact ⟨h.tab.grown k hbt (row_apart h.tab.own ho (by decide)), h.tok, ⟨adr, pv, hp.lo, Nat.le_trans hp.hN hb.size, hb.heap hp.blk hbp, hp.adr, hb.own hp.own (fun g hg e => row_apart hp.own ho (by decide) g e hg)⟩, hb.heap h.num hmb, h.tv, h.mv, h.lo, h.bN⟩
def WriteP (B bt : Nat) (c : Pc) (mb : Nat) (L : Nat) (v : Value) (τ : Nat → Ty) (N : Nat) (F : List UInt8 × List Nat) (k : Nat) (tv : Value) (w : World) (e : Ending) (w' : World) : Prop :=
  ∃ tv' k' R s nums l, e = .returned tv' ∧ k' < k ∧ WrSt B bt c mb L v τ N F k' tv' R s nums l w' ∧ Fr2 (FS c mb v) tv w w'
set_option maxRecDepth 100000 in
set_option maxHeartbeats 2000000 in
theorem write_any (B bt : Nat) (c : Pc) (mb : Nat) (L : Nat) (v : Value) (τ : Nat → Ty) (N : Nat) (F : List UInt8 × List Nat) (k : Nat) (tv tw : Value) (R : List Nx) (s : List UInt8) (nums : List Nat) (x : Int) (l : List Int) (w : World)
    (h : WrSt B bt c mb L v τ N F k tw R s nums (x :: l) w) (hown : w.ownsRow N 35 1 tv l.length (zs l.reverse)) (hL : L ≤ 90) (hF : F.1.length ≤ 100000000) (hk : k ≤ 100000000) :
    Calls Tryd.prog 35 #[.pointer (some ⟨c.bp, 0, none⟩), .int .i64 x, tv] w (WriteP B bt c mb L v τ N F k tv w) := by
  obtain ⟨ta, tc, rfl⟩ := own_form hown
  have hout := h.out
  have hrk := h.rank
  have hsl : s.length ≤ F.1.length := by rw [← hout]; simp
  have hw := h.wrt x (List.mem_cons_self ..)
  have hwl : Wrt (L + 3) l := fun y hy => h.wrt y (List.mem_cons_of_mem _ hy)
  have H := Lib.hid h; have HOWN := Lib.hid hown; have HWL := Lib.hid hwl
  clear h hown hwl
  rcases hw with rfl | rfl | ⟨h0, h1⟩
  · have ho2 : ((s ++ [44, 32]) ++ (emit τ l nums).1, (emit τ l nums).2) = F := by
      rw [← hout]; simp [emit]
    have hl2 : s.length + 2 ≤ F.1.length := by rw [← ho2]; simp
    have HO := Lib.hid ho2; have HR := Lib.hid hrk
    clear hout ho2 hrk
    go_enter Tryd.func35, Tryd.ntmps35
    go_wp2_with fail
    refine (wstr_any c w s ⟨#[44, 32]⟩ H.out.sh.pr (by show s.length + 2 ≤ _; omega)).mono ?_
    rintro e w1 ⟨rfl, hp, hkk⟩
    have hf := hkk.fs (mb := mb) (v := v) H.out.sh.pr
    have hres : WriteP B bt c mb L v τ N F k (.slice ta l.length tc) w (.returned (.slice ta l.length tc)) w1 :=
      ⟨_, wts τ l, R, s ++ [44, 32], nums, l, rfl, by rw [← HR.out, wts]; simp, ⟨H.out.sh.wrote hp hkk, H.out.sh.keep hf HOWN.out, H.out.len, H.out.val, H.out.clear, HWL.out, H.out.slim, HO.out, rfl, Nat.le_trans H.out.hN hkk.size⟩, hf.two⟩
    have HRES := Lib.hid hres
    clear hres hf hp hkk
    go_wp2
    go_ret
    exact HRES.out
  · have ho2 : ((s ++ [41]) ++ (emit τ l nums).1, (emit τ l nums).2) = F := by
      rw [← hout]; simp [emit]
    have hl2 : s.length + 1 ≤ F.1.length := by rw [← ho2]; simp
    have HO := Lib.hid ho2; have HR := Lib.hid hrk
    clear hout ho2 hrk
    go_enter Tryd.func35, Tryd.ntmps35
    go_wp2_with fail
    refine (wbyte_any c w s 41 H.out.sh.pr (by omega)).mono ?_
    rintro e w1 ⟨rfl, hp, hkk⟩
    have hf := hkk.fs (mb := mb) (v := v) H.out.sh.pr
    have hres : WriteP B bt c mb L v τ N F k (.slice ta l.length tc) w (.returned (.slice ta l.length tc)) w1 :=
      ⟨_, wts τ l, R, s ++ [41], nums, l, rfl, by rw [← HR.out, wts]; simp, ⟨H.out.sh.wrote hp hkk, H.out.sh.keep hf HOWN.out, H.out.len, H.out.val, H.out.clear, HWL.out, H.out.slim, HO.out, rfl, Nat.le_trans H.out.hN hkk.size⟩, hf.two⟩
    have HRES := Lib.hid hres
    clear hres hf hp hkk
    go_wp2
    go_ret
    exact HRES.out
  · obtain ⟨a, rfl⟩ : ∃ a : Nat, x = a := ⟨x.toNat, by omega⟩
    have hal : a < R.length + 3 := by rw [H.out.len]; omega
    have hva := H.out.val a hal
    obtain ⟨m, y, hto, hvy⟩ := hva.to
    have hyl : y < R.length + 3 := by have := hto.lt H.out.sh.tok.good.wf (by rw [abs_len]; exact hal); rwa [abs_len] at this
    have hn1 : ¬ (a : Int) = -1 := by omega
    have hn2 : ¬ (a : Int) = -2 := by omega
    have hem : emit τ ((a : Int) :: l) nums = ((txt (τ a) nums).1 ++ (emit τ l (txt (τ a) nums).2).1, (emit τ l (txt (τ a) nums).2).2) := by
      rw [emit, if_neg hn1, if_neg hn2]; rfl
    rw [hem] at hout
    have hwt : wts τ ((a : Int) :: l) = 3 * (τ a).size + wts τ l := by rw [wts, if_neg (by omega)]; rfl
    rw [hwt] at hrk
    have HO := Lib.hid hout; have HR := Lib.hid hrk; have HTO := Lib.hid hto; have HVY := Lib.hid hvy
    have hsh := H.out.sh
    obtain ⟨_, _, hpp⟩ := hsh.pr
    have c0 := hpp.c0
    rw [hsh.tv] at c0
    have HC0 := Lib.hid c0
    clear hout hrk hto hva hem hwt hvy hpp hsh
    have hrl := H.out.len
    go_enter Tryd.func35, Tryd.ntmps35
    go_wp2_with fail
    refine (now_any B bt R v a y m w H.out.sh.tab H.out.sh.tok hal HTO.out).mono ?_
    rintro e w1 ⟨rfl, ⟨R1, ht1, hm1⟩, ho1⟩
    have hsh1 := H.out.sh.turned ht1 hm1.tok ho1
    have hown1 := H.out.sh.keep (ho1.fs H.out.sh.tab) HOWN.out
    have hl1 := hm1.len
    obtain ⟨_, _, hpp⟩ := hsh1.pr
    have c01 := hpp.c0
    rw [hsh1.tv] at c01
    have SH1 := Lib.hid hsh1; have OWN1 := Lib.hid hown1; have M1 := Lib.hid hm1; have O1 := Lib.hid ho1
    clear hsh1 hown1 hm1 ho1 ht1 hpp c0
    go_wp2_with fail
    refine (get_any B bt R1 v y w1 SH1.out.tab (by omega)).mono ?_
    rintro e w2 ⟨rfl, hb2⟩
    obtain ⟨n, hn⟩ : ∃ n, nx R1 y = n := ⟨_, rfl⟩
    rw [hn]
    have hb3 := hb2.trans (((Below.refl _ w2).alloc (Nat.le_refl _) (.cells #[.int .u8 n.k, .bool n.s, .int .i64 n.f, .int .i64 n.g] 66)).mono hb2.size)
    have hnode : NodeAt (w2.alloc (.cells #[.int .u8 n.k, .bool n.s, .int .i64 n.f, .int .i64 n.g] 66)) w2.heap.size n := ⟨blk_new w2 _⟩
    unfold nval
    go_upto_if 37 with fail
    generalize w2.alloc (.cells #[.int .u8 n.k, .bool n.s, .int .i64 n.f, .int .i64 n.g] 66) = W3 at *
    generalize w2.heap.size = xb at *
    have hsh3 := SH1.out.below hb3
    have hown3 := own_below OWN1.out hb3
    have hvy1 : Val (abs R1) y (τ a) := M1.out.same.val _ _ (by rw [abs_len]; exact hyl) HVY.out
    have hval1 : ∀ x, x < R1.length + 3 → Val (abs R1) x (τ x) := fun x hx => M1.out.same.val _ _ (by rw [abs_len, ← hl1]; exact hx) (H.out.val x (by rw [← hl1]; exact hx))
    have hclr1 : ∀ n ∈ R1, n.s = false := all_seen fun x => by rw [moved_seen H.out.sh.tok M1.out]; exact seen_all H.out.clear x
    have hfr3 : Fr (FS c mb v) w W3 := (O1.out.fs H.out.sh.tab).trans (Fr.of_below hb3)
    have hroot : (nx R1 y).k ≠ 3 := fun e => by
      have e1 := (nx_told e).2.2
      obtain ⟨_, q⟩ := M1.out.way _ _ _ HTO.out
      rw [q.root] at e1; cases e1
    have hocc : ∀ x, x < R1.length + 3 → ∀ q, (τ x).Occ q → q < L + 3 := fun x hx q hq => by
      have := (hval1 x hx).occ_lt M1.out.tok.good.wf (by rw [abs_len]; exact hx) hq
      rw [abs_len] at this; omega
    obtain ⟨_, _, hpp⟩ := hsh3.pr
    have c03 := hpp.c0
    rw [hsh3.tv] at c03
    have k0 := hnode.c0; have k2 := hnode.c2; have k3 := hnode.c3
    have SH3 := Lib.hid hsh3; have OWN3 := Lib.hid hown3; have VY1 := Lib.hid hvy1; have VAL1 := Lib.hid hval1; have CLR1 := Lib.hid hclr1; have FR3 := Lib.hid hfr3; have HROOT := Lib.hid hroot; have HOCC := Lib.hid hocc; have HN := Lib.hid hn; have NODE := Lib.hid hnode
    clear hsh3 hown3 hvy1 hval1 hclr1 hfr3 hroot hocc hn hb3 hb2 hpp c01 hnode
    by_cases hq : n.k = 2
    · have hq' : (nx R1 y).k = 2 := by rw [HN.out]; exact hq
      obtain ⟨_, _, etm⟩ := nx_pair hq'
      rw [HN.out] at etm
      have hp := SH3.out.tok.good.wf.parts y (by rw [abs_len]; omega) (by rw [etm])
      rw [etm, abs_len] at hp
      obtain ⟨hfl, hgl⟩ : n.f < R1.length + 3 ∧ n.g < R1.length + 3 := hp
      have hta : τ a = .pair (τ n.f) (τ n.g) := VY1.out.same (.pair (by rw [etm]) (by rw [etm]) (by rw [etm]; exact VAL1.out _ hfl) (by rw [etm]; exact VAL1.out _ hgl))
      have hsz : (τ a).size = (τ n.f).size + (τ n.g).size + 1 := by rw [hta]; rfl
      have hnf1 : ¬ (n.f : Int) = -1 := by omega
      have hnf2 : ¬ (n.f : Int) = -2 := by omega
      have hng1 : ¬ (n.g : Int) = -1 := by omega
      have hng2 : ¬ (n.g : Int) = -2 := by omega
      have ho2 : ((s ++ [40]) ++ (emit τ ((n.f : Int) :: -1 :: (n.g : Int) :: -2 :: l) nums).1, (emit τ ((n.f : Int) :: -1 :: (n.g : Int) :: -2 :: l) nums).2) = F := by
        rw [← HO.out, hta]
        simp only [emit, if_neg hnf1, if_neg hnf2, if_neg hng1, if_neg hng2, if_true, show ¬ (-2 : Int) = -1 by omega, if_false, Int.toNat_natCast, Un.txt]
        simp
      have hl2 : s.length + 1 ≤ F.1.length := by rw [← ho2]; simp
      have hw2 : wts τ ((n.f : Int) :: -1 :: (n.g : Int) :: -2 :: l) < k := by
        rw [← HR.out, hsz]
        simp only [wts, if_neg (show ¬ (n.f : Int) < 0 by omega), if_neg (show ¬ (n.g : Int) < 0 by omega), if_pos (show (-1 : Int) < 0 by omega), if_pos (show (-2 : Int) < 0 by omega), Int.toNat_natCast]
        omega
      have hwr2 : Wrt (L + 3) ((n.f : Int) :: -1 :: (n.g : Int) :: -2 :: l) := fun z hz => by
        rcases List.mem_cons.1 hz with rfl | hz
        · exact .inr (.inr ⟨by omega, by omega⟩)
        rcases List.mem_cons.1 hz with rfl | hz
        · exact .inl rfl
        rcases List.mem_cons.1 hz with rfl | hz
        · exact .inr (.inr ⟨by omega, by omega⟩)
        rcases List.mem_cons.1 hz with rfl | hz
        · exact .inr (.inl rfl)
        · exact HWL.out z hz
      have hll : l.length ≤ 100000000 := by
        have := wts_len τ l
        have := HR.out
        omega
      have HO2 := Lib.hid ho2; have HW2 := Lib.hid hw2; have HWR2 := Lib.hid hwr2
      rw [hq] at k0
      clear ho2 hw2 hwr2 hq' etm hta hsz
      go_wp2_with fail
      refine (wbyte_any c W3 s 40 SH3.out.pr (by omega)).mono ?_
      rintro e w4 ⟨rfl, hp4, hk4⟩
      have hsh4 := SH3.out.wrote hp4 hk4
      have hf4 := hk4.fs (mb := mb) (v := v) SH3.out.pr
      have hown4 := SH3.out.keep hf4 OWN3.out
      have hN4 : N ≤ w4.heap.size := Nat.le_trans H.out.hN (FR3.out.trans hf4).size
      have hnode4 : NodeAt w4 xb n := ⟨But.heap hk4 NODE.out.blk (by
        rintro (e | ⟨_, cs, fr, e⟩)
        · obtain ⟨_, _, hpp⟩ := SH3.out.pr
          have h1 := hpp.blk; rw [← e, NODE.out.blk] at h1; injection h1 with h1; injection h1 with _ h1; exact absurd h1 (by decide)
        · rw [NODE.out.blk] at e; injection e with e; injection e with _ e; exact absurd e (by decide))⟩
      have k2 := hnode4.c2; have k3 := hnode4.c3
      have SH4 := Lib.hid hsh4; have F4 := Lib.hid hf4; have OWN4 := Lib.hid hown4; have HN4 := Lib.hid hN4
      obtain ⟨i0, hi, hz0, hz1, hz2⟩ := info_parts Tryd.info35
      have HI := Lib.hid hi; have HZ := Lib.hid hz0; have HZ1 := Lib.hid hz1; have HZ2 := Lib.hid hz2
      clear hsh4 hf4 hown4 hN4 hnode4 hp4 hk4 hi hz0 hz1 hz2
      go_wp2_with (at_builtin; refine wpList_append_own _ rfl _ _ 44 rfl N 35 i0 _ 1 8 Tryd.underlying44 HI.out HZ.out HZ1.out HZ2.out rfl (by decide) _ l.length (zs l.reverse) rfl (OWN4.out.alloc _) ⟨w4.heap.size, 0, none⟩ 4 4 (zs [-2, (n.g : Int), -1, (n.f : Int)]) rfl rfl ?c1 ?c2 ?c3 ?c4 ?c5 ?_)
      case c1 => exact World.news_of_block (heap_alloc_new w4 _)
      case c2 => intro u hu; simp [zs] at hu; rcases hu with rfl | rfl | rfl | rfl <;> rfl
      case c3 => unfold maxLen; omega
      case c4 => omega
      case c5 => have := HN4.out; simp; omega
      intro v' w6 hown hgrow _
      obtain ⟨ao', cap', rfl⟩ := own_form hown
      have hba := (Below.refl _ w4).alloc (Nat.le_refl _) (.cells #[.int .i64 (-2), .int .i64 (n.g : Int), .int .i64 (-1), .int .i64 (n.f : Int)] 35)
      have hsa := SH4.out.below hba
      have hoa := own_below OWN4.out hba
      have hs6 := hsa.grown hoa hgrow
      have hf6 : Fr2 (FS c mb v) (.slice ta l.length tc) w w6 := (((FR3.out.trans F4.out).trans (Fr.of_below hba)).two).trans (But.of_grown hgrow (fun k e => .inr e))
      have hown6 : w6.ownsRow N 35 1 (.slice ao' (l.length + 4) cap') ((n.f : Int) :: -1 :: (n.g : Int) :: -2 :: l).length (zs ((n.f : Int) :: -1 :: (n.g : Int) :: -2 :: l).reverse) := by
        have e : ((n.f : Int) :: -1 :: (n.g : Int) :: -2 :: l).reverse = l.reverse ++ [-2, (n.g : Int), -1, (n.f : Int)] := by simp
        rw [e, zs_app]
        exact hown
      have hN6 : N ≤ w6.heap.size := Nat.le_trans H.out.hN hf6.size
      have hres : WriteP B bt c mb L v τ N F k (.slice ta l.length tc) w (.returned (.slice ao' (l.length + 4) cap')) w6 :=
        ⟨_, _, R1, s ++ [40], nums, _, rfl, HW2.out, ⟨hs6, hown6, by omega, VAL1.out, CLR1.out, HWR2.out, H.out.slim, HO2.out, rfl, hN6⟩, hf6⟩
      have HRES := Lib.hid hres
      clear hres hN6 hown6 hf6 hs6 hoa hsa hba hown hgrow k0 k2 k3 c03
      go_wp2
      go_ret
      exact HRES.out
    · have hkr : (nx R1 y).k = 0 ∧ y < 3 ∨ (nx R1 y).k = 1 ∧ 3 ≤ y := by
        rcases SH3.out.tok.range (x := y) (by omega) with h | h | h | h
        · exact .inl h
        · exact .inr h
        · exact absurd (by rw [← HN.out]; exact h.1) hq
        · exact absurd h.1 HROOT.out
      have hcn : ∀ w', ShowAt B bt c mb R1 v s nums w' → Calls Tryd.prog 43 #[.pointer (some ⟨c.bp, 0, none⟩), .int .i64 y] w' (NameP B bt c mb R1 v s nums (τ a) w') := fun w' hw' => by
        rcases hkr with ⟨_, h3⟩ | ⟨h1, h3⟩
        · exact name_low B bt c mb R1 v s nums y (τ a) w' hw' h3 VY1.out
        · have e : τ a = .var y := VY1.out.same (.var (by rw [(nx_open h1).2.2]) (by rw [(nx_open h1).2.2]))
          rw [e]
          exact name_open B bt c mb R1 v s nums y w' hw' h3 (by omega) (by have := H.out.slim.le; omega)
      have ho2 : ((s ++ (txt (τ a) nums).1) ++ (emit τ l (txt (τ a) nums).2).1, (emit τ l (txt (τ a) nums).2).2) = F := by
        rw [← HO.out]; simp
      have hl2 : s.length + (txt (τ a) nums).1.length ≤ F.1.length := by rw [← ho2]; simp
      have hslim : Slim (L + 3) (txt (τ a) nums).2 := H.out.slim.txt (τ a) (HOCC.out a (by omega))
      have hwk : wts τ l < k := by rw [← HR.out]; have := (τ a).size_pos; omega
      have CN := Lib.hid hcn; have HO2 := Lib.hid ho2; have SLIM := Lib.hid hslim
      have hd := SH3.out.below (Below.drew (Below.refl _ W3))
      have SHD := Lib.hid hd
      clear hcn ho2 hslim hd
      go_wp2
      go_region_with (first
        | (go_at_call 43
           with_reducible refine (CN.out _ (by exact SHD.out)).mono ?_
           rintro e w4 ⟨rfl, hsh4, hf4⟩
           have SH4 := Lib.hid hsh4; have F4 := Lib.hid hf4
           clear hsh4 hf4)
        | (go_at_call 41
           refine (wstr_any c _ s ⟨(txt (τ a) nums).1.toArray⟩ SH4.out.pr (by show s.length + (txt (τ a) nums).1.toArray.size ≤ _; rw [List.size_toArray]; omega)).mono ?_
           rintro e w5 ⟨rfl, hp5, hk5⟩))
      all_goals
        have hsh5 := SH4.out.wrote hp5 hk5
        have hf5 := hk5.fs (mb := mb) (v := v) SH4.out.pr
        have hf05 := ((FR3.out.drew).trans F4.out).trans hf5
        have hown5 := SH4.out.keep hf5 (SHD.out.keep F4.out (own_below OWN3.out (Below.drew (Below.refl _ W3))))
        have hres : WriteP B bt c mb L v τ N F k (.slice ta l.length tc) w (.returned (.slice ta l.length tc)) w5 :=
          ⟨_, wts τ l, R1, _, _, l, rfl, hwk, ⟨hsh5, hown5, by omega, VAL1.out, CLR1.out, HWL.out, SLIM.out, HO2.out, rfl, Nat.le_trans H.out.hN hf05.size⟩, hf05.two⟩
        have HRES := Lib.hid hres
        clear hres hsh5 hf5 hf05 hown5 hp5 hk5 k0 k2 k3 c03
        go_wp2
        go_ret
        exact HRES.out
end Go.Proofs.YtjbihammbmiieaaDoor
