/- One more type in a list, if it wasn't seen. -/
import Derived.Test.YtjbihammbmiieaaDoorTw
namespace Go.Proofs.YtjbihammbmiieaaDoor
open Go.RowKit Un

def nats (l : List Nat) : List Value := l.map fun (k : Nat) => Value.int .i64 (k : Int)
theorem nats_len (l : List Nat) : (nats l).length = l.length := by simp [nats]
theorem nats_get {l : List Nat} {i x : Nat} (h : l[i]? = some x) : (nats l)[i]? = some (.int .i64 (x : Int)) := by simp [nats, h]
theorem nats_snoc (l : List Nat) (x : Nat) : nats (l ++ [x]) = nats l ++ [.int .i64 (x : Int)] := by simp [nats]
def seen (n : Nx) (b : Bool) : Nx := ⟨n.k, b, n.f, n.g⟩
/-- nothing but two rows is turned -/
def Ow2 (v u : Value) (w w' : World) : Prop := But (fun k => v.ownBlock = some k ∨ u.ownBlock = some k) w w'
theorem Ow.two {v u : Value} {a b : World} (h : Ow v a b) : Ow2 v u a b := But.mono h (fun _ _ e => .inl e)
theorem Ow2.size {v u : Value} {a b : World} (h : Ow2 v u a b) : a.heap.size ≤ b.heap.size := But.size h
theorem Ow.fresh2 {v u : Value} {w a b : World} (h : Ow v w a) (k : Ow2 v u a b) (hn : ∀ q, u.ownBlock = some q → w.heap.size ≤ q) : Ow v w b :=
  ⟨k.os.trans h.os, k.tape.trans h.tape, k.output.trans h.output, Nat.le_trans h.size k.size, fun i hi hp => (k.block i (Nat.lt_of_lt_of_le hi h.size) (fun e => by
    rcases e with e | e
    · exact hp e
    · have := hn i e; omega)).trans (h.block i hi hp)⟩
theorem Ow2.trans {v u : Value} {a b c : World} (h : Ow2 v u a b) (k : Ow2 v u b c) : Ow2 v u a c := But.trans h k
theorem row_apart {w : World} {b1 b2 : Nat} {t1 t2 : TypeId} {z1 z2 n1 n2 : Nat} {v u : Value} {xs ys : List Value} (h : w.ownsRow b1 t1 z1 v n1 xs) (k : w.ownsRow b2 t2 z2 u n2 ys) (ht : t1 ≠ t2) : ∀ g, u.ownBlock = some g → v.ownBlock ≠ some g := fun g hg e => by
  obtain ⟨_, c1, h1⟩ := own_tag h e
  obtain ⟨_, c2, h2⟩ := own_tag k hg
  rw [h1] at h2; injection h2 with h2; injection h2 with _ h2; exact ht h2
theorem TabAt.grown {B bt : Nat} {R : List Nx} {v u : Value} {w w' : World} (h : TabAt B w bt R v) (k : w.grownBy w' u.ownBlock) (h1 : u.ownBlock ≠ some bt) (h2 : ∀ g, u.ownBlock = some g → v.ownBlock ≠ some g) : TabAt B w' bt R v := by
  have hb : But (fun q => u.ownBlock = some q) w w' := But.of_grown k (fun _ e => e)
  exact ⟨Nat.le_trans h.hB hb.size, h.lo, hb.heap h.blk h1, hb.own h.own (fun g hg e => h2 g e hg), h.few⟩
theorem Tryd.info35 : (Tryd.prog.info? 35).map (fun i => (i.zero, i.size, i.bytes)) = some (some (.int .i64 0), 1, 8) := by kernel_rfl

theorem nx_field1 (a b c d : Value) (w : World) : (Instr.field 66 (.agg #[a, b, c, d]) 1).run Tryd.prog w = .ok b w := by kernel_rfl
/-- what it comes to -/
def AddR (R : List Nx) (l : List Nat) (x : Nat) (R2 : List Nx) (l2 : List Nat) : Prop :=
  ∃ y m R1, To (abs R) m x y ∧ Moved R R1 ∧ (((y < 3 ∨ (nx R1 y).s = true) ∧ R2 = R1 ∧ l2 = l) ∨ (3 ≤ y ∧ (nx R1 y).s = false ∧ R2 = R1.set (y - 3) (seen (nx R1 y) true) ∧ l2 = l ++ [y]))
def AddUP (B bt N : Nat) (R : List Nx) (v : Value) (l : List Nat) (lv : Value) (x : Nat) (w : World) (e : Ending) (w' : World) : Prop :=
  ∃ R2 l2 lv2, AddR R l x R2 l2 ∧ e = .returned lv2 ∧ TabAt B w' bt R2 v ∧ w'.ownsRow N 35 1 lv2 l2.length (nats l2) ∧ Ow2 v lv w w'

set_option maxRecDepth 100000 in
set_option maxHeartbeats 2000000 in
theorem addUnseen_any (B bt N : Nat) (R : List Nx) (v : Value) (l : List Nat) (lv : Value) (x : Nat) (w : World) (h : TabAt B w bt R v) (ht : Tok R) (hx : x < R.length + 3) (hl : w.ownsRow N 35 1 lv l.length (nats l)) (hN : N ≤ w.heap.size) (hln : l.length ≤ 1000000) :
    Calls Tryd.prog 45 #[.pointer (some ⟨bt, 0, none⟩), lv, .int .i64 x] w (AddUP B bt N R v l lv x w) := by
  obtain ⟨t, hv⟩ := ht.good.full x (by rw [abs_len]; exact hx)
  obtain ⟨m, y, hto, _⟩ := hv.to
  have hy : y < R.length + 3 := by have := hto.lt ht.good.wf (by rw [abs_len]; exact hx); rwa [abs_len] at this
  have hf := h.few
  obtain ⟨la, lc, rfl⟩ := own_form hl
  have H := Lib.hid h; have HT := Lib.hid ht; have HTO := Lib.hid hto; have HL := Lib.hid hl
  obtain ⟨i0, hi, hz0, hz1, hz2⟩ := info_parts Tryd.info35
  have HI := Lib.hid hi; have HZ := Lib.hid hz0; have HZ1 := Lib.hid hz1; have HZ2 := Lib.hid hz2
  clear h ht hto hl hv hi hz0 hz1 hz2
  go_enter Tryd.func45, Tryd.ntmps45
  go_wp2_with fail
  refine (now_any B bt R v x y m w H.out HT.out hx HTO.out).mono ?_
  rintro e w1 ⟨rfl, ⟨R1, htab1, hm1⟩, how1⟩
  have hlen := hm1.len
  have hl1 := how1.own HL.out (row_apart htab1.own (how1.own HL.out (fun g hg => row_apart H.out.own HL.out (by decide) g hg)) (by decide))
  have H1 := Lib.hid htab1; have HM := Lib.hid hm1; have HO := Lib.hid how1; have HL1 := Lib.hid hl1
  clear htab1 hm1 how1 hl1
  by_cases h3 : y < 3
  · go_wp2
    go_ret
    exact ⟨R1, l, _, ⟨y, m, R1, HTO.out, HM.out, .inl ⟨.inl h3, rfl, rfl⟩⟩, rfl, H1.out, HL1.out, HO.out.two⟩
  · obtain ⟨g, cap, rfl, hg, hne, hcap⟩ := H1.out.row (by omega)
    obtain ⟨z, rfl⟩ : ∃ z, y = z + 3 := ⟨y - 3, by omega⟩
    go_wp2_with fail
    refine (get_any B bt R1 _ (z + 3) w1 H1.out (by omega)).mono ?_
    rintro e w2 ⟨rfl, hb2⟩
    have hl2 := own_below HL1.out hb2
    have h2 := H1.out.below hb2
    have HB2 := Lib.hid hb2; have HL2 := Lib.hid hl2; have H2 := Lib.hid h2
    unfold nval
    by_cases hs : (nx R1 (z + 3)).s = true
    · have HS := Lib.hid hs
      rw [hs]
      clear hs hb2 hl2 h2
      go_wp2
      rw [nx_field1]
      simp only [Result.andThen]
      rw [Oper.upon_value]
      go_wp2
      go_ret
      exact ⟨R1, l, _, ⟨z + 3, m, R1, HTO.out, HM.out, .inl ⟨.inr HS.out, rfl, rfl⟩⟩, rfl, H2.out, HL2.out, (HO.out.trans (Ow.of_below HB2.out)).two⟩
    · have hs' : (nx R1 (z + 3)).s = false := by simpa using hs
      have HS := Lib.hid hs'
      rw [hs']
      have c1 := (h2.node (x := z + 3) (by omega) (by omega)).2.1
      rw [show z + 3 - 3 = z by omega, hs'] at c1
      have hc := h2.cell
      have hfz := h2.frozen
      have hs1 := h2.set1 (x := z + 3) true (by omega) (by omega)
      have hl3 := hs1.2.own hl2 (row_apart h2.own hl2 (by decide))
      rw [show z + 3 - 3 = z by omega] at hs1 hl3
      have hN3 : N ≤ (w2.setCell ⟨g, z * 4 + 1, none⟩ (.bool true)).heap.size := by have := HO.out.size; have := HB2.out.size; simp; omega
      have H3 := Lib.hid hs1.1; have HO3 := Lib.hid hs1.2; have HL3 := Lib.hid hl3; have HN3 := Lib.hid hN3
      have hz : z < R1.length := by omega
      clear hs hs' hb2 hl2 h2 hs1 hl3 hN3
      go_wp2
      rw [nx_field1]
      simp only [Result.andThen]
      rw [Oper.upon_value]
      go_wp2_with (at_builtin; refine wpList_append_own _ rfl _ _ 44 rfl N 35 i0 (.int .i64 0) 1 8 Tryd.underlying44 HI.out HZ.out HZ1.out HZ2.out rfl (by decide) _ l.length (nats l) rfl (HL3.out.alloc _) ⟨w2.heap.size, 0, none⟩ 1 1 [.int .i64 ((z + 3 : Nat) : Int)] rfl rfl ?c1 ?c2 ?c3 ?c4 ?c5 ?_)
      case c1 => exact World.news_of_block (cs := #[.int .i64 ((z + 3 : Nat) : Int)]) (t := 35) (fr := (0, 0)) (by have := heap_alloc_new (w2.setCell ⟨g, z * 4 + 1, none⟩ (.bool true)) (.cells #[.int .i64 ((z : Int) + 3)] 35); simpa using this)
      case c2 => intro u hu; simp at hu; subst hu; rfl
      case c3 => unfold maxLen; omega
      case c4 => omega
      case c5 => have := HN3.out; simp at *; omega
      intro v' w4 hown hgrow _
      have hba : Below (w2.setCell ⟨g, z * 4 + 1, none⟩ (.bool true)).heap.size (w2.setCell ⟨g, z * 4 + 1, none⟩ (.bool true)) ((w2.setCell ⟨g, z * 4 + 1, none⟩ (.bool true)).alloc (.cells #[.int .i64 ((z : Int) + 3)] 35)) := (Below.refl _ _).alloc (Nat.le_refl _) _
      have ha := H3.out.below hba
      have hla := own_below HL3.out hba
      have hbt : (Value.slice la l.length lc).ownBlock ≠ some bt := fun e => by
        obtain ⟨_, cur, e1⟩ := own_tag hla e
        rw [ha.blk] at e1; injection e1 with e1; injection e1 with _ e1; exact absurd e1 (by decide)
      have h4 := ha.grown hgrow hbt (row_apart ha.own hla (by decide))
      have ho4 : Ow2 (.slice (some ⟨g, 0, none⟩) R1.length cap) (.slice la l.length lc) w w4 :=
        ((((HO.out.trans (Ow.of_below HB2.out)).trans HO3.out).trans (Ow.of_below hba)).two).trans (But.of_grown hgrow (fun k e => .inr e))
      have H4 := Lib.hid h4; have HO4 := Lib.hid ho4; have HW4 := Lib.hid hown
      clear hba ha hla hbt h4 ho4 hown hgrow c1 hc hfz
      go_wp2
      go_ret
      refine ⟨R1.set z (seen (nx R1 (z + 3)) true), l ++ [z + 3], v', ⟨z + 3, m, R1, HTO.out, HM.out, .inr ⟨by omega, HS.out, rfl, rfl⟩⟩, rfl, H4.out, ?_, HO4.out⟩
      rw [nats_snoc, List.length_append]
      exact HW4.out
end Go.Proofs.YtjbihammbmiieaaDoor
