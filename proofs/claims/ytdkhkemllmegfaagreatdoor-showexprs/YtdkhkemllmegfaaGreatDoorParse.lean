/- A text's expression. -/
import Derived.Test.YtdkhkemllmegfaaGreatDoorExpr
namespace Go.Proofs.YtdkhkemllmegfaaGreatDoor
open Go.RowKit Tn Lx
attribute [local go_sem] tok_field0 tok_field1 tok_field3

namespace Lx
theorem toks_len : ∀ (f : Nat) (note : Bool) (p : Pos) (l : B) (ts : List Tok), toks f note p l = .ok ts → ts.length ≤ f
  | 0, _, _, _, _, h => by simp [toks] at h; subst h; simp
  | f + 1, note, p, l, ts, h => by
    rw [toks] at h
    cases ho : one (l.drop (blanks note l)) with
    | bad e => rw [ho] at h; cases h
    | tok k n v =>
      rw [ho] at h
      simp only at h
      by_cases hk : k = 0
      · rw [if_pos hk] at h; cases h; simp
      · rw [if_neg hk] at h
        cases hr : toks f false (adv p (l.take (blanks note l + n))) (l.drop (blanks note l + n)) with
        | bad c' q' => rw [hr] at h; simp [Res.after] at h
        | ok us =>
          have := toks_len f _ _ _ _ hr
          rw [hr] at h; simp only [Res.after, Res.ok.injEq] at h; subst h; simp; omega
theorem whole_len {l : B} {ts : List Tok} (h : whole l = .ok ts) : ts.length ≤ 65537 := by
  unfold whole at h
  split at h
  · cases h
  · rename_i hl
    split at h
    · cases h
    · have := toks_len _ _ _ _ _ h; omega
end Lx

/-- a new reader -/
def NewP (w : World) (ts : List Tok) (e : Ending) (w' : World) : Prop :=
  ∃ c : Cx, c.ts = ts ∧ e = .returned (.tuple #[.pointer (some ⟨c.r, 0, none⟩), .nilIface]) ∧ Rd c (fun _ => False) w' ⟨0, []⟩ ∧ Below w.heap.size w w' ∧ w.heap.size ≤ c.r ∧ w.heap.size ≤ c.bt ∧ w.heap.size ≤ c.B

set_option maxRecDepth 100000 in
set_option maxHeartbeats 4000000 in
theorem new_ok (s : ByteArray) (ts : List Tok) (w : World) (hs : s.size ≤ 1000000000000) (hT : Lib.Utf8Tabs 1 2 w) (hw : Lx.whole s.data.toList = .ok ts) : Calls Tryz.prog 12 #[.string s] w (NewP w ts) := by
  have hA := tokens_any s w hs hT
  rw [hw] at hA
  have hp := Lx.whole_some hw
  have hl := Lx.whole_len hw
  have HA := Lib.hid hA
  clear hA hT hw
  go_enter Tryz.func12, Tryz.ntmps12
  go_wp2_with fail
  refine HA.out.mono ?_
  rintro e w1 ⟨hb1, v, rfl, hown⟩
  obtain ⟨g, cap, rfl, hc1, hm1, hx⟩ := own_slice2 hown hp
  obtain ⟨hg0, cur, hgb⟩ := own_tag hown rfl
  have hgl : g < w1.heap.size := lt_of_heap hgb
  obtain ⟨V, hV⟩ : ∃ V, (w1.alloc (.cells #[.slice none 0 0] 74)).alloc (.cells #[.pointer (some ⟨w1.heap.size, 0, none⟩), .slice (some ⟨g, 0, none⟩) ts.length cap, .int .i64 0] 58) = V := ⟨_, rfl⟩
  have hbV : Below w1.heap.size w1 V := by rw [← hV]; exact ((Below.refl _ w1).alloc (Nat.le_refl _) _).alloc (by simp) _
  have hVs : V.heap.size = w1.heap.size + 2 := by rw [← hV]; simp
  have kt : V.heap[w1.heap.size]? = some (.cells #[.slice none 0 0] 74 (0, 0)) := by rw [← hV]; exact blk_alloc (blk_new w1 _) _
  have kr : V.heap[w1.heap.size + 1]? = some (.cells #[.pointer (some ⟨w1.heap.size, 0, none⟩), .slice (some ⟨g, 0, none⟩) ts.length cap, .int .i64 0] 58 (0, 0)) := by
    rw [← hV]; have := blk_new (w1.alloc (.cells #[.slice none 0 0] 74)) (.cells #[.pointer (some ⟨w1.heap.size, 0, none⟩), .slice (some ⟨g, 0, none⟩) ts.length cap, .int .i64 0] 58); rwa [World.size_alloc] at this
  have hw1 := hb1.size
  have hRd : Rd ⟨V.heap.size, w1.heap.size + 1, w1.heap.size, g, cap, ts⟩ (fun _ => False) V ⟨0, []⟩ :=
    ⟨kr, fun i u hu => (hbV.cell (p := ⟨g, i, none⟩) hgl).trans (hx i u hu), ⟨.slice none 0 0, [], rfl, ⟨kt, ⟨rfl, .inl ⟨rfl, rfl⟩⟩, fun q hq => by simp at hq, by simp only; omega⟩, fun _ _ e => e, fun _ _ _ _ e => e⟩, Nat.zero_le _, by simp only; omega, hc1, by simp, by simp only; omega, by simp only; omega, by simp only; omega, by simp only; omega, by simp only; omega, by simp only; omega, Nat.le_refl _, fun _ e => e.elim⟩
  have HRD := Lib.hid hRd; have HV := Lib.hid hV; have HB := Lib.hid (hb1.trans (hbV.mono hb1.size)); have HVS := Lib.hid hVs
  clear hRd hV hbV hVs kt kr hx hown hgb hb1 HA
  go_wp2
  rw [HV.out]
  go_ret2
  exact ⟨_, rfl, rfl, HRD.out, HB.out, by simp only; omega, by simp only; omega, by simp only; have := HVS.out; omega⟩

set_option maxRecDepth 100000 in
set_option maxHeartbeats 4000000 in
theorem new_bad (s : ByteArray) (cd : Int) (p : Pos) (w : World) (hs : s.size ≤ 1000000000000) (hT : Lib.Utf8Tabs 1 2 w) (hw : Lx.whole s.data.toList = .bad cd p) : Calls Tryz.prog 12 #[.string s] w fun e w' => e = .returned (.tuple #[.pointer none, dval cd p]) ∧ Below w.heap.size w w' := by
  have hA := tokens_any s w hs hT
  rw [hw] at hA
  have HA := Lib.hid hA
  clear hA hT hw
  go_enter Tryz.func12, Tryz.ntmps12
  go_wp2_with fail
  refine HA.out.mono ?_
  rintro e w1 ⟨hb1, rfl⟩
  go_wp2
  go_ret2
  exact ⟨rfl, hb1⟩

namespace Ex
/-- a text's expression: its number and nodes; or what is wrong; or the fuel is used up -/
inductive PRes where
  | ok (i : Nat) (ns : List Nd)
  | bad (c : Int) (p : Pos)
  | out
def parseT (n : Nat) (ts : List Tok) : PRes := match rec_ ts n .all 0 ⟨0, []⟩ with
  | .ok i s => if ((tk ts s.p).kind == 0) = true then .ok i s.ns else .bad 5 (at_ ts s)
  | .bad c p => .bad c p
  | .out => .out
def parse (n : Nat) (l : B) : PRes := match Lx.whole l with
  | .bad c p => .bad c p
  | .ok ts => parseT n ts
end Ex

/-- the tree and the number; or what is wrong -/
def ParseP (w : World) (R : Ex.PRes) (e : Ending) (w' : World) : Prop :=
  Below w.heap.size w w' ∧ ((∃ i ns B bt v l, R = .ok i ns ∧ e = .returned (.tuple #[.pointer (some ⟨bt, 0, none⟩), .int .i64 ((i : Nat) : Int), .nilIface]) ∧ nds l = ns ∧ TreeOwn B w' bt v l ∧ w.heap.size ≤ bt) ∨ (∃ cd p, R = .bad cd p ∧ e = .returned (.tuple #[.pointer none, .int .i64 0, dval cd p])))

theorem Kp.below {c : Cx} {a b : World} (h : Kp c a b) {N : Nat} (hN : N ≤ a.heap.size) (h1 : N ≤ c.r) (h2 : N ≤ c.bt) (h3 : N ≤ c.B) : Below N a b :=
  But.below h hN (fun k hk => by
    rcases hk with e | e | ⟨e, _⟩ <;> omega)

set_option maxRecDepth 100000 in
set_option maxHeartbeats 4000000 in
theorem parse_any (n : Nat) (hn : n ≤ 900000) (s : ByteArray) (w : World) (hs : s.size ≤ 1000000000000) (hT : Lib.Utf8Tabs 1 2 w)
    (hg : w.cell? ⟨0, 0, none⟩ = some (.iface 158 (.agg #[.pointer (some ⟨9, 25, none⟩)]))) (hne : Ex.parse n s.data.toList ≠ .out) : Calls Tryz.prog 6 #[.string s] w (ParseP w (Ex.parse n s.data.toList)) := by
  cases hw : Lx.whole s.data.toList with
  | bad cd p =>
    have hR : Ex.parse n s.data.toList = .bad cd p := by rw [Ex.parse, hw]
    rw [hR]
    have HA := Lib.hid (new_bad s cd p w hs hT hw)
    clear hT hg hne hw hR
    unfold dval at HA
    go_enter Tryz.func6, Tryz.ntmps6
    go_wp2_with fail
    refine HA.out.mono ?_
    rintro e w1 ⟨rfl, hb1⟩
    go_wp2
    go_ret3
    exact ⟨hb1, .inr ⟨cd, p, rfl, rfl⟩⟩
  | ok ts =>
    have hR : Ex.parse n s.data.toList = Ex.parseT n ts := by rw [Ex.parse, hw]
    rw [hR] at hne ⊢
    have hglt : 0 < w.heap.size := World.block_lt_of_cell? _ _ hg
    have HA := Lib.hid (new_ok s ts w hs hT hw); have HG := Lib.hid hg; have HNE := Lib.hid hne
    clear hT hg hne hw hR
    go_enter Tryz.func6, Tryz.ntmps6
    go_wp2_with fail
    refine HA.out.mono ?_
    rintro e w1 ⟨c, rfl, rfl, hRd, hb1, hcr, hcb, hcB⟩
    have hg1 := (hb1.cell (p := ⟨0, 0, none⟩) hglt).trans HG.out
    have hne1 : Ex.rec_ c.ts n .all 0 ⟨0, []⟩ ≠ .out := fun e => HNE.out (by rw [Ex.parseT, e])
    have hE := expr_any c (fun _ => False) w1 ⟨0, []⟩ n hn hRd hg1 ⟨by omega, by omega, by omega⟩ hne1
    have hb1s := hb1.size
    have HE := Lib.hid hE; have HB1 := Lib.hid hb1
    clear hE hRd hg1 hne1 HA hb1
    go_wp2_with fail
    refine HE.out.mono ?_
    rintro e w2 (⟨i, s2, hE2, rfl, hR2, hK2⟩ | ⟨cd, p2, hE2, rfl, hK2⟩)
    rotate_left
    · have hb2 := HB1.out.trans (hK2.below (N := w.heap.size) hb1s hcr hcb hcB)
      have hF : Ex.parseT n c.ts = .bad cd p2 := by rw [Ex.parseT, hE2]
      have HF := Lib.hid hF; have HB2 := Lib.hid hb2
      clear hE2 hK2 hF hb2
      unfold dval
      go_wp2
      go_ret3
      exact ⟨HB2.out, .inr ⟨cd, p2, HF.out, rfl⟩⟩
    have hb2 := HB1.out.trans (hK2.below (N := w.heap.size) hb1s hcr hcb hcB)
    have hN := next_any c (fun _ => False) w2 s2 hR2
    have hW := fun w3 (hR : Rd c (fun _ => False) w3 s2) => wrong_at c (fun _ => False) w3 s2 5 hR
    have hF : Ex.parseT n c.ts = if ((Ex.tk c.ts s2.p).kind == 0) = true then .ok i s2.ns else .bad 5 (Ex.at_ c.ts s2) := by rw [Ex.parseT, hE2]
    generalize Ex.tk c.ts s2.p = t at *
    generalize Ex.at_ c.ts s2 = p at *
    have HN := Lib.hid hN; have HW := Lib.hid hW; have HR2 := Lib.hid hR2; have HB2 := Lib.hid hb2; have HF := Lib.hid hF
    clear hN hW hR2 hb2 hF hE2 hK2
    cases hk : (t.kind == 0) with
    | true =>
      have hk2 : (t.kind != 0) = false := by simpa using hk
      have HK := Lib.hid hk
      go_wp2_with fail
      refine HN.out.mono ?_
      rintro e w3 ⟨rfl, hb3⟩
      have hR3 := HR2.out.below hb3
      have c0 := hR3.c0
      have HR3 := Lib.hid hR3; have HB3 := Lib.hid (HB2.out.trans (hb3.mono HB2.out.size))
      clear hR3 hb3
      unfold tval
      go_wp2
      go_ret3
      obtain ⟨v, l, e1, ht, _⟩ := HR3.out.tree
      exact ⟨HB3.out, .inl ⟨i, s2.ns, c.B, c.bt, v, l, by rw [HF.out, HK.out]; rfl, rfl, e1, ht, hcb⟩⟩
    | false =>
      have hk2 : (t.kind != 0) = true := by simpa using hk
      have HK := Lib.hid hk
      go_wp2_with fail
      refine HN.out.mono ?_
      rintro e w3 ⟨rfl, hb3⟩
      have HR3 := Lib.hid (HR2.out.below hb3); have HB3 := Lib.hid (HB2.out.trans (hb3.mono HB2.out.size))
      clear hb3
      unfold tval
      go_wp2_with fail
      refine (HW.out _ HR3.out).mono ?_
      rintro e w4 ⟨rfl, hb4⟩
      go_wp2
      go_ret3
      exact ⟨HB3.out.trans (hb4.mono HB3.out.size), .inr ⟨5, p, by rw [HF.out, HK.out]; rfl, rfl⟩⟩
end Go.Proofs.YtdkhkemllmegfaaGreatDoor
