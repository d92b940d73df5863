/- The table of the items' readers. -/
import Derived.Test.YtcelelnmphdlbaaGreatDoorYOrder
import Derived.Test.YtcelelnmphdlbaaGreatDoorMaps
namespace Go.Proofs.YtcelelnmphdlbaaGreatDoor
open Go.RowKit Tn Lx

section
variable (w : World)
theorem map_make : (Instr.makeMap 88 none).run Tryz.prog w = .ok (.map (some w.heap.size)) (w.alloc (.map #[] 0)) := rfl
theorem alloc_set (a b : Obj) : { (w.alloc a) with heap := (w.alloc a).heap.setIfInBounds w.heap.size b } = w.alloc b := by
  have e : (w.heap.push a).setIfInBounds w.heap.size b = w.heap.push b := by
    apply Array.ext'
    rw [Array.toList_setIfInBounds, Array.toList_push, Array.toList_push, List.set_append_right _ _ (by simp)]
    simp
  show { w with heap := (w.heap.push a).setIfInBounds w.heap.size b } = { w with heap := w.heap.push b }
  rw [e]
theorem map_up (es : Array MapEntry) (cl : Nat) (k : ByteArray) (v : Value) (h : Instr.findNow .string (.string k) es.toList 0 = some none) : (Instr.mapUpdate 88 (.map (some w.heap.size)) (.string k) v).run Tryz.prog (w.alloc (.map es cl)) = .ok () (w.alloc (.map (es.push ⟨.string k, v, cl⟩) (cl + 1))) := by
  have hb : (w.alloc (.map es cl)).heap[w.heap.size]? = some (.map es cl) := by unfold World.alloc; simp
  rw [Instr.mapUpdate]
  simp only [Sem.run_bind, run_underlying Tryz.underlying88, Result.andThen, obj_get hb, key_check, key_find k es.toList none _ h, obj_set _ hb, alloc_set]
theorem map_look {r : Nat} {es : Array MapEntry} {cl i : Nat} {v : Value} {k : ByteArray} {W : World} (hb : W.heap[r]? = some (.map es cl)) (h : Instr.findNow .string (.string k) es.toList 0 = some (some (i, v))) : (Instr.lookup 88 (.map (some r)) (.string k) true).run Tryz.prog W = .ok (.tuple #[v, .bool true]) W := by
  rw [Instr.lookup]
  simp only [Sem.run_bind, run_underlying Tryz.underlying88, Result.andThen, obj_get hb, key_check, key_find k es.toList _ _ h, Sem.run_pure, if_true]
end
theorem blk_new_map (w : World) {es : Array MapEntry} {cl : Nat} : (w.alloc (.map es cl)).heap[w.heap.size]? = some (.map es cl) := by unfold World.alloc; simp
abbrev e0 : MapEntry := ⟨.string ⟨#[99, 111, 110, 102]⟩, .func (.func 44) #[] #[], 0⟩
abbrev e1 : MapEntry := ⟨.string ⟨#[105, 110, 116, 101, 103]⟩, .func (.func 47) #[] #[], 1⟩
abbrev e2 : MapEntry := ⟨.string ⟨#[111, 114, 100, 101, 114]⟩, .func (.func 48) #[] #[], 2⟩
abbrev e3 : MapEntry := ⟨.string ⟨#[97, 116, 116, 97, 99, 107, 101, 114]⟩, .func (.func 49) #[] #[], 3⟩
abbrev e4 : MapEntry := ⟨.string ⟨#[104, 97, 116, 99, 104]⟩, .func (.func 50) #[] #[], 4⟩
/-- the readers -/
def tabE : Array MapEntry := #[e0, e1, e2, e3, e4]

set_option maxRecDepth 100000 in
set_option maxHeartbeats 4000000 in
theorem items_any (w : World) : Calls Tryz.prog 31 #[] w fun e w' => e = .returned (.map (some w.heap.size)) ∧ w' = w.alloc (.map tabE 5) := by
  have h0 := map_make w
  have h1 := map_up w #[] 0 ⟨#[99, 111, 110, 102]⟩ (.func (.func 44) #[] #[]) (by rfl)
  have h2 := map_up w #[e0] 1 ⟨#[105, 110, 116, 101, 103]⟩ (.func (.func 47) #[] #[]) (by kernel_rfl)
  have h3 := map_up w #[e0, e1] 2 ⟨#[111, 114, 100, 101, 114]⟩ (.func (.func 48) #[] #[]) (by kernel_rfl)
  have h4 := map_up w #[e0, e1, e2] 3 ⟨#[97, 116, 116, 97, 99, 107, 101, 114]⟩ (.func (.func 49) #[] #[]) (by kernel_rfl)
  have h5 := map_up w #[e0, e1, e2, e3] 4 ⟨#[104, 97, 116, 99, 104]⟩ (.func (.func 50) #[] #[]) (by kernel_rfl)
  simp only [List.push_toArray, List.nil_append, List.cons_append, Nat.reduceAdd] at h1 h2 h3 h4 h5
  go_enter Tryz.func31, Tryz.ntmps31
  go_wp2
  go_ret
  exact ⟨rfl, rfl⟩
theorem look_conf {r : Nat} {W : World} (hb : W.heap[r]? = some (.map tabE 5)) : (Instr.lookup 88 (.map (some r)) (.string ⟨Py.wConf.toArray⟩) true).run Tryz.prog W = .ok (.tuple #[.func (.func 44) #[] #[], .bool true]) W := map_look hb (i := 0) (by kernel_rfl)
theorem look_integ {r : Nat} {W : World} (hb : W.heap[r]? = some (.map tabE 5)) : (Instr.lookup 88 (.map (some r)) (.string ⟨Py.wInteg.toArray⟩) true).run Tryz.prog W = .ok (.tuple #[.func (.func 47) #[] #[], .bool true]) W := map_look hb (i := 1) (by kernel_rfl)
theorem look_order {r : Nat} {W : World} (hb : W.heap[r]? = some (.map tabE 5)) : (Instr.lookup 88 (.map (some r)) (.string ⟨Py.wOrder.toArray⟩) true).run Tryz.prog W = .ok (.tuple #[.func (.func 48) #[] #[], .bool true]) W := map_look hb (i := 2) (by kernel_rfl)
theorem look_att {r : Nat} {W : World} (hb : W.heap[r]? = some (.map tabE 5)) : (Instr.lookup 88 (.map (some r)) (.string ⟨Py.wAtt.toArray⟩) true).run Tryz.prog W = .ok (.tuple #[.func (.func 49) #[] #[], .bool true]) W := map_look hb (i := 3) (by kernel_rfl)

/-- the reader that the table has for a word -/
theorem reads_any (c : Cx) (X : Nat → Prop) (n q pp bm : Nat) (word : B) (g g1 : Py.St) (s s1 : Ex.S) (hr : Py.restO c.ts n word g s = some (g1, s1)) (hf1 : g.conf.length + n ≤ 2000) (hf2 : g.integ.length + n ≤ 2000) (hf3 : g.ord.length ≤ 2000) :
    ∃ fid, (∀ args w, (callFunc fid args).run Tryz.prog w = .ok (.enter fid args) w) ∧ (∀ W : World, W.heap[bm]? = some (.map tabE 5) → (Instr.lookup 88 (.map (some bm)) (.string ⟨word.toArray⟩) true).run Tryz.prog W = .ok (.tuple #[.func (.func fid) #[] #[], .bool true]) W) ∧
      (∀ W v1 v2 v3, Rd c X W s → Pm c q pp v1 v2 v3 W g → Calls Tryz.prog fid #[.pointer (some ⟨pp, 0, none⟩)] W (ReadY c X W q pp g1 s1)) := by
  rw [Py.restO] at hr
  by_cases hx : (word == Py.wConf) = true
  · rw [if_pos hx] at hr
    obtain ⟨⟨l, s2⟩, hl, hr⟩ := Option.bind_eq_some_iff.1 hr
    injection hr with hr; injection hr with h1 h2
    obtain rfl : word = Py.wConf := by simpa using hx
    subst h1
    obtain rfl : s2 = s1 := h2
    exact ⟨44, enters_of Tryz.func44 (by kernel_rfl) rfl, fun W hb => look_conf hb, fun W v1 v2 v3 hR hP => conf_ok c X W s _ q pp n v1 v2 v3 g l hR hP hl hf1⟩
  rw [if_neg hx] at hr
  by_cases hi : (word == Py.wInteg) = true
  · rw [if_pos hi] at hr
    obtain ⟨⟨l, s2⟩, hl, hr⟩ := Option.bind_eq_some_iff.1 hr
    injection hr with hr; injection hr with h1 h2
    obtain rfl : word = Py.wInteg := by simpa using hi
    subst h1
    obtain rfl : s2 = s1 := h2
    exact ⟨47, enters_of Tryz.func47 (by kernel_rfl) rfl, fun W hb => look_integ hb, fun W v1 v2 v3 hR hP => integ_ok c X W s _ q pp n v1 v2 v3 g l hR hP hl hf2⟩
  rw [if_neg hi] at hr
  by_cases ho : (word == Py.wOrder) = true
  · rw [if_pos ho] at hr
    obtain ⟨⟨⟨a, b⟩, s2⟩, hl, hr⟩ := Option.bind_eq_some_iff.1 hr
    injection hr with hr; injection hr with h1 h2
    obtain rfl : word = Py.wOrder := by simpa using ho
    subst h1
    obtain rfl : s2 = s1 := h2
    exact ⟨48, enters_of Tryz.func48 (by kernel_rfl) rfl, fun W hb => look_order hb, fun W v1 v2 v3 hR hP => order_ok c X W s _ q pp v1 v2 v3 g a b hR hP hl hf3⟩
  rw [if_neg ho] at hr
  by_cases ha : (word == Py.wAtt) = true
  · rw [if_pos ha] at hr
    obtain ⟨⟨m, s2⟩, hl, hr⟩ := Option.bind_eq_some_iff.1 hr
    by_cases hg : (g.att.text == []) = true
    · simp only [hg, if_true] at hr
      injection hr with hr; injection hr with h1 h2
      obtain rfl : word = Py.wAtt := by simpa using ha
      subst h1
      obtain rfl : s2 = s1 := h2
      exact ⟨49, enters_of Tryz.func49 (by kernel_rfl) rfl, fun W hb => look_att hb, fun W v1 v2 v3 hR hP => att_ok c X W s _ q pp v1 v2 v3 g m hR hP hl (by simpa using hg)⟩
    · simp only [hg] at hr; cases hr
  rw [if_neg ha] at hr
  cases hr
end Go.Proofs.YtcelelnmphdlbaaGreatDoor
