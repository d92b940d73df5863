import Derived.Test.YtdkhkemllmegfaaGreatDoorExprS
import Derived.Lib.ItoaLen

/- Each operation's text as tokens and parts; what is the same has the same text; how long it is. -/
namespace Go.Proofs.YtdkhkemllmegfaaGreatDoor
open Tn
section
variable (ms : List Nd) (f : Nd → Sh.St → Sh.St) (e : Nd → Bool) (line col num : Int) (name : ByteArray) (kids : List Int) (s : Sh.St)
theorem x0 : Sh.nodeF ms f e dig ⟨⟨#[115, 101, 113]⟩, line, col, name, num, kids⟩ s = (Sh.part ms f (kid kids 1) 0 (Sh.tok (Sh.semi ms f e (kid kids 0) s) ⟨#[59]⟩)) := by kernel_rfl
theorem x1 : Sh.nodeF ms f e dig ⟨⟨#[105, 102]⟩, line, col, name, num, kids⟩ s = (Sh.part ms f (kid kids 2) 1 (Sh.tok (Sh.part ms f (kid kids 1) 1 (Sh.tok (Sh.part ms f (kid kids 0) 0 (Sh.tok s ⟨#[105, 102]⟩)) ⟨#[116, 104, 101, 110]⟩)) ⟨#[101, 108, 115, 101]⟩)) := by kernel_rfl
theorem x2 : Sh.nodeF ms f e dig ⟨⟨#[108, 101, 116]⟩, line, col, name, num, kids⟩ s = (Sh.part ms f (kid kids 1) 0 (Sh.tok (Sh.part ms f (kid kids 0) 0 (Sh.tokens s [⟨#[108, 101, 116]⟩, name, ⟨#[61]⟩])) ⟨#[105, 110]⟩)) := by kernel_rfl
theorem x3 : Sh.nodeF ms f e dig ⟨⟨#[116, 114, 121]⟩, line, col, name, num, kids⟩ s = (Sh.part ms f (kid kids 1) 1 (Sh.tokens (Sh.part ms f (kid kids 0) 0 (Sh.tok s ⟨#[116, 114, 121]⟩)) [⟨#[119, 105, 116, 104]⟩, name, ⟨#[45, 62]⟩])) := by kernel_rfl
theorem x4 : Sh.nodeF ms f e dig ⟨⟨#[111, 117, 116]⟩, line, col, name, num, kids⟩ s = (Sh.part ms f (kid kids 0) 2 (Sh.tokens s [⟨#[111, 117, 116]⟩, name])) := by kernel_rfl
theorem x5 : Sh.nodeF ms f e dig ⟨⟨#[115, 101, 116]⟩, line, col, name, num, kids⟩ s = (Sh.part ms f (kid kids 0) 2 (Sh.tokens s [name, ⟨#[58, 61]⟩])) := by kernel_rfl
theorem x6 : Sh.nodeF ms f e dig ⟨⟨#[114, 97, 105, 115, 101]⟩, line, col, name, num, kids⟩ s = (Sh.tokens s [⟨#[114, 97, 105, 115, 101]⟩, name]) := by kernel_rfl
theorem x7 : Sh.nodeF ms f e dig ⟨⟨#[111, 114]⟩, line, col, name, num, kids⟩ s = (Sh.part ms f (kid kids 1) 3 (Sh.tok (Sh.part ms f (kid kids 0) 2 s) ⟨#[111, 114]⟩)) := by kernel_rfl
theorem x8 : Sh.nodeF ms f e dig ⟨⟨#[97, 110, 100]⟩, line, col, name, num, kids⟩ s = (Sh.part ms f (kid kids 1) 4 (Sh.tok (Sh.part ms f (kid kids 0) 3 s) ⟨#[97, 110, 100]⟩)) := by kernel_rfl
theorem x9 : Sh.nodeF ms f e dig ⟨⟨#[61]⟩, line, col, name, num, kids⟩ s = (Sh.part ms f (kid kids 1) 5 (Sh.tok (Sh.part ms f (kid kids 0) 5 s) ⟨#[61]⟩)) := by kernel_rfl
theorem x10 : Sh.nodeF ms f e dig ⟨⟨#[60]⟩, line, col, name, num, kids⟩ s = (Sh.part ms f (kid kids 1) 5 (Sh.tok (Sh.part ms f (kid kids 0) 5 s) ⟨#[60]⟩)) := by kernel_rfl
theorem x11 : Sh.nodeF ms f e dig ⟨⟨#[43]⟩, line, col, name, num, kids⟩ s = (Sh.part ms f (kid kids 1) 6 (Sh.tok (Sh.part ms f (kid kids 0) 5 s) ⟨#[43]⟩)) := by kernel_rfl
theorem x12 : Sh.nodeF ms f e dig ⟨⟨#[45]⟩, line, col, name, num, kids⟩ s = (Sh.part ms f (kid kids 1) 6 (Sh.tok (Sh.part ms f (kid kids 0) 5 s) ⟨#[45]⟩)) := by kernel_rfl
theorem x13 : Sh.nodeF ms f e dig ⟨⟨#[42]⟩, line, col, name, num, kids⟩ s = (Sh.part ms f (kid kids 1) 7 (Sh.tok (Sh.part ms f (kid kids 0) 6 s) ⟨#[42]⟩)) := by kernel_rfl
theorem x14 : Sh.nodeF ms f e dig ⟨⟨#[112, 97, 105, 114]⟩, line, col, name, num, kids⟩ s = (Sh.list ms f kids s) := by kernel_rfl
theorem x15 : Sh.nodeF ms f e dig ⟨⟨#[110, 101, 103]⟩, line, col, name, num, kids⟩ s = (Sh.part ms f (kid kids 0) 7 (Sh.tok s ⟨#[45]⟩)) := by kernel_rfl
theorem x16 : Sh.nodeF ms f e dig ⟨⟨#[110, 111, 116]⟩, line, col, name, num, kids⟩ s = (Sh.part ms f (kid kids 0) 7 (Sh.tok s ⟨#[110, 111, 116]⟩)) := by kernel_rfl
theorem x17 : Sh.nodeF ms f e dig ⟨⟨#[102, 115, 116]⟩, line, col, name, num, kids⟩ s = (Sh.part ms f (kid kids 0) 7 (Sh.tok s ⟨#[102, 115, 116]⟩)) := by kernel_rfl
theorem x18 : Sh.nodeF ms f e dig ⟨⟨#[115, 110, 100]⟩, line, col, name, num, kids⟩ s = (Sh.part ms f (kid kids 0) 7 (Sh.tok s ⟨#[115, 110, 100]⟩)) := by kernel_rfl
theorem x19 : Sh.nodeF ms f e dig ⟨⟨#[114, 101, 108, 101, 97, 115, 101]⟩, line, col, name, num, kids⟩ s = (Sh.list ms f kids (Sh.tokens s [⟨#[114, 101, 108, 101, 97, 115, 101]⟩, name])) := by kernel_rfl
theorem x20 : Sh.nodeF ms f e dig ⟨⟨#[103, 101, 116]⟩, line, col, name, num, kids⟩ s = (Sh.tokens s [⟨#[33]⟩, name]) := by kernel_rfl
theorem x21 : Sh.nodeF ms f e dig ⟨⟨#[116, 114, 117, 101]⟩, line, col, name, num, kids⟩ s = (Sh.tok s ⟨#[116, 114, 117, 101]⟩) := by kernel_rfl
theorem x22 : Sh.nodeF ms f e dig ⟨⟨#[102, 97, 108, 115, 101]⟩, line, col, name, num, kids⟩ s = (Sh.tok s ⟨#[102, 97, 108, 115, 101]⟩) := by kernel_rfl
theorem x23 : Sh.nodeF ms f e dig ⟨⟨#[104, 111, 108, 101]⟩, line, col, name, num, kids⟩ s = (Sh.tokens s [⟨#[104, 111, 108, 101]⟩, name]) := by kernel_rfl
theorem x24 : Sh.nodeF ms f e dig ⟨⟨#[117, 110, 105, 116]⟩, line, col, name, num, kids⟩ s = (Sh.list ms f kids s) := by kernel_rfl
theorem x25 : Sh.nodeF ms f e dig ⟨⟨#[105, 110, 116]⟩, line, col, name, num, kids⟩ s = (Sh.tok s (dig num)) := by kernel_rfl
theorem x26 : Sh.nodeF ms f e dig ⟨⟨#[118, 97, 114]⟩, line, col, name, num, kids⟩ s = (Sh.tok s name) := by kernel_rfl
theorem x27 : Sh.nodeF ms f e dig ⟨⟨#[99, 97, 108, 108]⟩, line, col, name, num, kids⟩ s = (Sh.list ms f kids (Sh.St.mk (Sh.tok s name).bs true)) := by kernel_rfl
end
theorem plist_congr {ns ms : List Nd} {f g : Nd → Sh.St → Sh.St} : ∀ (l m : List Int) (b : Bool) (s : Sh.St), l.length = m.length → (∀ j, j < l.length → ∀ lv s, Sh.part ns f (kid l j) lv s = Sh.part ms g (kid m j) lv s) → Sh.listGo ns f b l s = Sh.listGo ms g b m s
  | [], [], b, s, _, _ => by simp [Sh.listGo]
  | x :: l, y :: m, b, s, h, hp => by
    rw [Sh.listGo, Sh.listGo]
    have h0 := hp 0 (by simp)
    simp only [kid, List.getD_cons_zero] at h0
    rw [h0]
    exact plist_congr l m false _ (by simpa using h) (fun j hj lv s => by have := hp (j + 1) (by simp; omega) lv s; simpa [kid] using this)
  | [], y :: m, _, _, h, _ => by simp at h
  | x :: l, [], _, _, h, _ => by simp at h
theorem nodeF_congr {ns ms : List Nd} {f g : Nd → Sh.St → Sh.St} {e d : Nd → Bool} {n m : Nd} (hop : n.op = m.op) (hname : n.name = m.name) (hnum : n.num = m.num) (hlen : n.kids.length = m.kids.length) (hw : Sh.well n = true)
    (hp : ∀ j, j < n.kids.length → ∀ l s, Sh.part ns f (kid n.kids j) l s = Sh.part ms g (kid m.kids j) l s) (hs : 0 < n.kids.length → ∀ s, Sh.semi ns f e (kid n.kids 0) s = Sh.semi ms g d (kid m.kids 0) s) (s : Sh.St) : Sh.nodeF ns f e dig n s = Sh.nodeF ms g d dig m s := by
  have hL : ∀ s, Sh.list ns f n.kids s = Sh.list ms g m.kids s := fun s => by unfold Sh.list; rw [plist_congr n.kids m.kids true _ hlen hp]
  by_cases hn : n.op ∈ opList
  · obtain ⟨op, line, col, name, num, kids⟩ := n
    obtain ⟨op2, line2, col2, name2, num2, kids2⟩ := m
    simp only at hop hname hnum hlen hp hs hL hn
    subst hop hname hnum
    simp only [opList, List.mem_cons, List.not_mem_nil, or_false] at hn
    rcases hn with rfl | rfl | rfl | rfl | rfl | rfl | rfl | rfl | rfl | rfl | rfl | rfl | rfl | rfl | rfl | rfl | rfl | rfl | rfl | rfl | rfl | rfl | rfl | rfl | rfl | rfl | rfl | rfl
    · have hk : kids.length = 2 := by have := well_kids (a := 0) (b := 2) hw (by kernel_rfl) (by decide); simp only at this; omega
      rw [x0, x0, hs (by omega), hp 1 (by omega)]
    · have hk : kids.length = 3 := by have := well_kids (a := 1) (b := 3) hw (by kernel_rfl) (by decide); simp only at this; omega
      rw [x1, x1, hp 0 (by omega), hp 1 (by omega), hp 2 (by omega)]
    · have hk : kids.length = 2 := by have := well_kids (a := 1) (b := 2) hw (by kernel_rfl) (by decide); simp only at this; omega
      rw [x2, x2, hp 0 (by omega), hp 1 (by omega)]
    · have hk : kids.length = 2 := by have := well_kids (a := 1) (b := 2) hw (by kernel_rfl) (by decide); simp only at this; omega
      rw [x3, x3, hp 0 (by omega), hp 1 (by omega)]
    · have hk : kids.length = 1 := by have := well_kids (a := 1) (b := 1) hw (by kernel_rfl) (by decide); simp only at this; omega
      rw [x4, x4, hp 0 (by omega)]
    · have hk : kids.length = 1 := by have := well_kids (a := 1) (b := 1) hw (by kernel_rfl) (by decide); simp only at this; omega
      rw [x5, x5, hp 0 (by omega)]
    · rw [x6, x6]
    · have hk : kids.length = 2 := by have := well_kids (a := 2) (b := 2) hw (by kernel_rfl) (by decide); simp only at this; omega
      rw [x7, x7, hp 0 (by omega), hp 1 (by omega)]
    · have hk : kids.length = 2 := by have := well_kids (a := 3) (b := 2) hw (by kernel_rfl) (by decide); simp only at this; omega
      rw [x8, x8, hp 0 (by omega), hp 1 (by omega)]
    · have hk : kids.length = 2 := by have := well_kids (a := 4) (b := 2) hw (by kernel_rfl) (by decide); simp only at this; omega
      rw [x9, x9, hp 0 (by omega), hp 1 (by omega)]
    · have hk : kids.length = 2 := by have := well_kids (a := 4) (b := 2) hw (by kernel_rfl) (by decide); simp only at this; omega
      rw [x10, x10, hp 0 (by omega), hp 1 (by omega)]
    · have hk : kids.length = 2 := by have := well_kids (a := 5) (b := 2) hw (by kernel_rfl) (by decide); simp only at this; omega
      rw [x11, x11, hp 0 (by omega), hp 1 (by omega)]
    · have hk : kids.length = 2 := by have := well_kids (a := 5) (b := 2) hw (by kernel_rfl) (by decide); simp only at this; omega
      rw [x12, x12, hp 0 (by omega), hp 1 (by omega)]
    · have hk : kids.length = 2 := by have := well_kids (a := 6) (b := 2) hw (by kernel_rfl) (by decide); simp only at this; omega
      rw [x13, x13, hp 0 (by omega), hp 1 (by omega)]
    · rw [x14, x14, hL]
    · have hk : kids.length = 1 := by have := well_kids (a := 7) (b := 1) hw (by kernel_rfl) (by decide); simp only at this; omega
      rw [x15, x15, hp 0 (by omega)]
    · have hk : kids.length = 1 := by have := well_kids (a := 7) (b := 1) hw (by kernel_rfl) (by decide); simp only at this; omega
      rw [x16, x16, hp 0 (by omega)]
    · have hk : kids.length = 1 := by have := well_kids (a := 7) (b := 1) hw (by kernel_rfl) (by decide); simp only at this; omega
      rw [x17, x17, hp 0 (by omega)]
    · have hk : kids.length = 1 := by have := well_kids (a := 7) (b := 1) hw (by kernel_rfl) (by decide); simp only at this; omega
      rw [x18, x18, hp 0 (by omega)]
    · rw [x19, x19, hL]
    · rw [x20, x20]
    · rw [x21, x21]
    · rw [x22, x22]
    · rw [x23, x23]
    · rw [x24, x24, hL]
    · rw [x25, x25]
    · rw [x26, x26]
    · rw [x27, x27, hL]
  · unfold Sh.well at hw
    rw [form_no hn] at hw
    simp at hw

theorem tok_up (s : Sh.St) (x : ByteArray) (k : Nat) (h : x.size ≤ k) : (Sh.tok s x).bs.length ≤ s.bs.length + (k + 1) := by have := Sh.tok_ge s x; omega
theorem toks2_up (s : Sh.St) (x y : ByteArray) (a b : Nat) (h : x.size ≤ a) (h2 : y.size ≤ b) : (Sh.tokens s [x, y]).bs.length ≤ s.bs.length + (a + b + 2) := by
  have := tok_up s x a h; have := tok_up (Sh.tok s x) y b h2
  show (Sh.tok (Sh.tok s x) y).bs.length ≤ _; omega
theorem toks3_up (s : Sh.St) (x y z : ByteArray) (a b c : Nat) (h : x.size ≤ a) (h2 : y.size ≤ b) (h3 : z.size ≤ c) : (Sh.tokens s [x, y, z]).bs.length ≤ s.bs.length + (a + b + c + 3) := by
  have := toks2_up s x y a b h h2; have := tok_up (Sh.tokens s [x, y]) z c h3
  show (Sh.tok (Sh.tokens s [x, y]) z).bs.length ≤ _; omega
theorem plist_up {ms : List Nd} {f : Nd → Sh.St → Sh.St} (kids : List Int) (hp : ∀ j, j < kids.length → ∀ l s, (Sh.part ms f (kid kids j) l s).bs.length + 6 ≤ s.bs.length + 300 * (Pl ms (kid kids j).toNat).length) (s : Sh.St) :
    ∀ j, j ≤ kids.length → (Sh.listGo ms f true (kids.take j) s).bs.length ≤ s.bs.length + 300 * (partPl ms kids j).length
  | 0, _ => by simp [Sh.listGo, partPl]
  | j + 1, h => by
    have ih := plist_up kids hp s j (by omega)
    rw [Sh.listGo_step (by omega), partPl_succ ms (by omega), List.length_append]
    have hq := hp j (by omega) 0 (if j = 0 then Sh.listGo ms f true (kids.take j) s else Sh.tok (Sh.listGo ms f true (kids.take j) s) ⟨#[44]⟩)
    have ht := tok_up (Sh.listGo ms f true (kids.take j) s) ⟨#[44]⟩ 1 (by decide)
    by_cases h0 : j = 0
    · rw [if_pos h0] at hq ⊢; omega
    · rw [if_neg h0] at hq ⊢; omega
theorem nodeF_up {ms : List Nd} {f : Nd → Sh.St → Sh.St} {e : Nd → Bool} {n : Nd} (hw : Sh.well n = true) (hname : n.name.size ≤ 40) (h0 : -9223372036854775808 ≤ n.num) (h1 : n.num ≤ 9223372036854775807)
    (hp : ∀ j, j < n.kids.length → ∀ l s, (Sh.part ms f (kid n.kids j) l s).bs.length + 6 ≤ s.bs.length + 300 * (Pl ms (kid n.kids j).toNat).length)
    (hs : 0 < n.kids.length → ∀ s, (Sh.semi ms f e (kid n.kids 0) s).bs.length + 6 ≤ s.bs.length + 300 * (Pl ms (kid n.kids 0).toNat).length) (s : Sh.St) :
    (Sh.nodeF ms f e dig n s).bs.length + 10 ≤ s.bs.length + 300 * ((partPl ms n.kids n.kids.length).length + 1) := by
  have hd : (dig n.num).size ≤ 21 := by
    have := Lib.itoa_length_le n.num h0 h1
    show (Lib.itoa n.num).toArray.size ≤ 21
    simpa using this
  have hL : ∀ s, (Sh.list ms f n.kids s).bs.length ≤ s.bs.length + 4 + 300 * (partPl ms n.kids n.kids.length).length := fun s => by
    have a := tok_up s Sh.opn 1 (by decide)
    have b := plist_up n.kids hp (Sh.tok s Sh.opn) n.kids.length (Nat.le_refl _)
    rw [List.take_length] at b
    have c := tok_up (Sh.listGo ms f true n.kids (Sh.tok s Sh.opn)) Sh.cls 1 (by decide)
    show (Sh.tok (Sh.listGo ms f true n.kids (Sh.tok s Sh.opn)) Sh.cls).bs.length ≤ _
    omega
  by_cases hn : n.op ∈ opList
  · obtain ⟨op, line, col, name, num, kids⟩ := n
    simp only at hname hd hp hs hL hn ⊢
    simp only [opList, List.mem_cons, List.not_mem_nil, or_false] at hn
    rcases hn with rfl | rfl | rfl | rfl | rfl | rfl | rfl | rfl | rfl | rfl | rfl | rfl | rfl | rfl | rfl | rfl | rfl | rfl | rfl | rfl | rfl | rfl | rfl | rfl | rfl | rfl | rfl | rfl
    · have hk : kids.length = 2 := by have := well_kids (a := 0) (b := 2) hw (by kernel_rfl) (by decide); simp only at this; omega
      have p0 := partPl_succ ms (ks := kids) (j := 0) (by omega)
      have p1 := partPl_succ ms (ks := kids) (j := 1) (by omega)
      have pz : (partPl ms kids 0).length = 0 := rfl
      have q := fun j (h : j < kids.length) => congrArg List.length (partPl_succ ms (ks := kids) h)
      simp only [List.length_append] at q
      have q0 := q 0 (by omega)
      have q1 := q 1 (by omega)
      simp only [Nat.zero_add, Nat.reduceAdd] at q0 q1
      rw [hk]
      rw [x0]
      have a1 := hs (by omega) s
      generalize Sh.semi ms f e (kid kids 0) s = s1 at *
      have a2 := tok_up s1 ⟨#[59]⟩ 1 (by decide)
      generalize Sh.tok s1 ⟨#[59]⟩ = s2 at *
      have a3 := hp 1 (by omega) 0 s2
      generalize Sh.part ms f (kid kids 1) 0 s2 = s3 at *
      omega
    · have hk : kids.length = 3 := by have := well_kids (a := 1) (b := 3) hw (by kernel_rfl) (by decide); simp only at this; omega
      have p0 := partPl_succ ms (ks := kids) (j := 0) (by omega)
      have p1 := partPl_succ ms (ks := kids) (j := 1) (by omega)
      have p2 := partPl_succ ms (ks := kids) (j := 2) (by omega)
      have pz : (partPl ms kids 0).length = 0 := rfl
      have q := fun j (h : j < kids.length) => congrArg List.length (partPl_succ ms (ks := kids) h)
      simp only [List.length_append] at q
      have q0 := q 0 (by omega)
      have q1 := q 1 (by omega)
      have q2 := q 2 (by omega)
      simp only [Nat.zero_add, Nat.reduceAdd] at q0 q1 q2
      rw [hk]
      rw [x1]
      have a1 := tok_up s ⟨#[105, 102]⟩ 2 (by decide)
      generalize Sh.tok s ⟨#[105, 102]⟩ = s1 at *
      have a2 := hp 0 (by omega) 0 s1
      generalize Sh.part ms f (kid kids 0) 0 s1 = s2 at *
      have a3 := tok_up s2 ⟨#[116, 104, 101, 110]⟩ 4 (by decide)
      generalize Sh.tok s2 ⟨#[116, 104, 101, 110]⟩ = s3 at *
      have a4 := hp 1 (by omega) 1 s3
      generalize Sh.part ms f (kid kids 1) 1 s3 = s4 at *
      have a5 := tok_up s4 ⟨#[101, 108, 115, 101]⟩ 4 (by decide)
      generalize Sh.tok s4 ⟨#[101, 108, 115, 101]⟩ = s5 at *
      have a6 := hp 2 (by omega) 1 s5
      generalize Sh.part ms f (kid kids 2) 1 s5 = s6 at *
      omega
    · have hk : kids.length = 2 := by have := well_kids (a := 1) (b := 2) hw (by kernel_rfl) (by decide); simp only at this; omega
      have p0 := partPl_succ ms (ks := kids) (j := 0) (by omega)
      have p1 := partPl_succ ms (ks := kids) (j := 1) (by omega)
      have pz : (partPl ms kids 0).length = 0 := rfl
      have q := fun j (h : j < kids.length) => congrArg List.length (partPl_succ ms (ks := kids) h)
      simp only [List.length_append] at q
      have q0 := q 0 (by omega)
      have q1 := q 1 (by omega)
      simp only [Nat.zero_add, Nat.reduceAdd] at q0 q1
      rw [hk]
      rw [x2]
      have a1 := toks3_up s ⟨#[108, 101, 116]⟩ name ⟨#[61]⟩ 3 40 1 (by decide) hname (by decide)
      generalize Sh.tokens s [⟨#[108, 101, 116]⟩, name, ⟨#[61]⟩] = s1 at *
      have a2 := hp 0 (by omega) 0 s1
      generalize Sh.part ms f (kid kids 0) 0 s1 = s2 at *
      have a3 := tok_up s2 ⟨#[105, 110]⟩ 2 (by decide)
      generalize Sh.tok s2 ⟨#[105, 110]⟩ = s3 at *
      have a4 := hp 1 (by omega) 0 s3
      generalize Sh.part ms f (kid kids 1) 0 s3 = s4 at *
      omega
    · have hk : kids.length = 2 := by have := well_kids (a := 1) (b := 2) hw (by kernel_rfl) (by decide); simp only at this; omega
      have p0 := partPl_succ ms (ks := kids) (j := 0) (by omega)
      have p1 := partPl_succ ms (ks := kids) (j := 1) (by omega)
      have pz : (partPl ms kids 0).length = 0 := rfl
      have q := fun j (h : j < kids.length) => congrArg List.length (partPl_succ ms (ks := kids) h)
      simp only [List.length_append] at q
      have q0 := q 0 (by omega)
      have q1 := q 1 (by omega)
      simp only [Nat.zero_add, Nat.reduceAdd] at q0 q1
      rw [hk]
      rw [x3]
      have a1 := tok_up s ⟨#[116, 114, 121]⟩ 3 (by decide)
      generalize Sh.tok s ⟨#[116, 114, 121]⟩ = s1 at *
      have a2 := hp 0 (by omega) 0 s1
      generalize Sh.part ms f (kid kids 0) 0 s1 = s2 at *
      have a3 := toks3_up s2 ⟨#[119, 105, 116, 104]⟩ name ⟨#[45, 62]⟩ 4 40 2 (by decide) hname (by decide)
      generalize Sh.tokens s2 [⟨#[119, 105, 116, 104]⟩, name, ⟨#[45, 62]⟩] = s3 at *
      have a4 := hp 1 (by omega) 1 s3
      generalize Sh.part ms f (kid kids 1) 1 s3 = s4 at *
      omega
    · have hk : kids.length = 1 := by have := well_kids (a := 1) (b := 1) hw (by kernel_rfl) (by decide); simp only at this; omega
      have p0 := partPl_succ ms (ks := kids) (j := 0) (by omega)
      have pz : (partPl ms kids 0).length = 0 := rfl
      have q := fun j (h : j < kids.length) => congrArg List.length (partPl_succ ms (ks := kids) h)
      simp only [List.length_append] at q
      have q0 := q 0 (by omega)
      simp only [Nat.zero_add, Nat.reduceAdd] at q0
      rw [hk]
      rw [x4]
      have a1 := toks2_up s ⟨#[111, 117, 116]⟩ name 3 40 (by decide) hname
      generalize Sh.tokens s [⟨#[111, 117, 116]⟩, name] = s1 at *
      have a2 := hp 0 (by omega) 2 s1
      generalize Sh.part ms f (kid kids 0) 2 s1 = s2 at *
      omega
    · have hk : kids.length = 1 := by have := well_kids (a := 1) (b := 1) hw (by kernel_rfl) (by decide); simp only at this; omega
      have p0 := partPl_succ ms (ks := kids) (j := 0) (by omega)
      have pz : (partPl ms kids 0).length = 0 := rfl
      have q := fun j (h : j < kids.length) => congrArg List.length (partPl_succ ms (ks := kids) h)
      simp only [List.length_append] at q
      have q0 := q 0 (by omega)
      simp only [Nat.zero_add, Nat.reduceAdd] at q0
      rw [hk]
      rw [x5]
      have a1 := toks2_up s name ⟨#[58, 61]⟩ 40 2 hname (by decide)
      generalize Sh.tokens s [name, ⟨#[58, 61]⟩] = s1 at *
      have a2 := hp 0 (by omega) 2 s1
      generalize Sh.part ms f (kid kids 0) 2 s1 = s2 at *
      omega
    · rw [x6]
      have a1 := toks2_up s ⟨#[114, 97, 105, 115, 101]⟩ name 5 40 (by decide) hname
      generalize Sh.tokens s [⟨#[114, 97, 105, 115, 101]⟩, name] = s1 at *
      omega
    · have hk : kids.length = 2 := by have := well_kids (a := 2) (b := 2) hw (by kernel_rfl) (by decide); simp only at this; omega
      have p0 := partPl_succ ms (ks := kids) (j := 0) (by omega)
      have p1 := partPl_succ ms (ks := kids) (j := 1) (by omega)
      have pz : (partPl ms kids 0).length = 0 := rfl
      have q := fun j (h : j < kids.length) => congrArg List.length (partPl_succ ms (ks := kids) h)
      simp only [List.length_append] at q
      have q0 := q 0 (by omega)
      have q1 := q 1 (by omega)
      simp only [Nat.zero_add, Nat.reduceAdd] at q0 q1
      rw [hk]
      rw [x7]
      have a1 := hp 0 (by omega) 2 s
      generalize Sh.part ms f (kid kids 0) 2 s = s1 at *
      have a2 := tok_up s1 ⟨#[111, 114]⟩ 2 (by decide)
      generalize Sh.tok s1 ⟨#[111, 114]⟩ = s2 at *
      have a3 := hp 1 (by omega) 3 s2
      generalize Sh.part ms f (kid kids 1) 3 s2 = s3 at *
      omega
    · have hk : kids.length = 2 := by have := well_kids (a := 3) (b := 2) hw (by kernel_rfl) (by decide); simp only at this; omega
      have p0 := partPl_succ ms (ks := kids) (j := 0) (by omega)
      have p1 := partPl_succ ms (ks := kids) (j := 1) (by omega)
      have pz : (partPl ms kids 0).length = 0 := rfl
      have q := fun j (h : j < kids.length) => congrArg List.length (partPl_succ ms (ks := kids) h)
      simp only [List.length_append] at q
      have q0 := q 0 (by omega)
      have q1 := q 1 (by omega)
      simp only [Nat.zero_add, Nat.reduceAdd] at q0 q1
      rw [hk]
      rw [x8]
      have a1 := hp 0 (by omega) 3 s
      generalize Sh.part ms f (kid kids 0) 3 s = s1 at *
      have a2 := tok_up s1 ⟨#[97, 110, 100]⟩ 3 (by decide)
      generalize Sh.tok s1 ⟨#[97, 110, 100]⟩ = s2 at *
      have a3 := hp 1 (by omega) 4 s2
      generalize Sh.part ms f (kid kids 1) 4 s2 = s3 at *
      omega
    · have hk : kids.length = 2 := by have := well_kids (a := 4) (b := 2) hw (by kernel_rfl) (by decide); simp only at this; omega
      have p0 := partPl_succ ms (ks := kids) (j := 0) (by omega)
      have p1 := partPl_succ ms (ks := kids) (j := 1) (by omega)
      have pz : (partPl ms kids 0).length = 0 := rfl
      have q := fun j (h : j < kids.length) => congrArg List.length (partPl_succ ms (ks := kids) h)
      simp only [List.length_append] at q
      have q0 := q 0 (by omega)
      have q1 := q 1 (by omega)
      simp only [Nat.zero_add, Nat.reduceAdd] at q0 q1
      rw [hk]
      rw [x9]
      have a1 := hp 0 (by omega) 5 s
      generalize Sh.part ms f (kid kids 0) 5 s = s1 at *
      have a2 := tok_up s1 ⟨#[61]⟩ 1 (by decide)
      generalize Sh.tok s1 ⟨#[61]⟩ = s2 at *
      have a3 := hp 1 (by omega) 5 s2
      generalize Sh.part ms f (kid kids 1) 5 s2 = s3 at *
      omega
    · have hk : kids.length = 2 := by have := well_kids (a := 4) (b := 2) hw (by kernel_rfl) (by decide); simp only at this; omega
      have p0 := partPl_succ ms (ks := kids) (j := 0) (by omega)
      have p1 := partPl_succ ms (ks := kids) (j := 1) (by omega)
      have pz : (partPl ms kids 0).length = 0 := rfl
      have q := fun j (h : j < kids.length) => congrArg List.length (partPl_succ ms (ks := kids) h)
      simp only [List.length_append] at q
      have q0 := q 0 (by omega)
      have q1 := q 1 (by omega)
      simp only [Nat.zero_add, Nat.reduceAdd] at q0 q1
      rw [hk]
      rw [x10]
      have a1 := hp 0 (by omega) 5 s
      generalize Sh.part ms f (kid kids 0) 5 s = s1 at *
      have a2 := tok_up s1 ⟨#[60]⟩ 1 (by decide)
      generalize Sh.tok s1 ⟨#[60]⟩ = s2 at *
      have a3 := hp 1 (by omega) 5 s2
      generalize Sh.part ms f (kid kids 1) 5 s2 = s3 at *
      omega
    · have hk : kids.length = 2 := by have := well_kids (a := 5) (b := 2) hw (by kernel_rfl) (by decide); simp only at this; omega
      have p0 := partPl_succ ms (ks := kids) (j := 0) (by omega)
      have p1 := partPl_succ ms (ks := kids) (j := 1) (by omega)
      have pz : (partPl ms kids 0).length = 0 := rfl
      have q := fun j (h : j < kids.length) => congrArg List.length (partPl_succ ms (ks := kids) h)
      simp only [List.length_append] at q
      have q0 := q 0 (by omega)
      have q1 := q 1 (by omega)
      simp only [Nat.zero_add, Nat.reduceAdd] at q0 q1
      rw [hk]
      rw [x11]
      have a1 := hp 0 (by omega) 5 s
      generalize Sh.part ms f (kid kids 0) 5 s = s1 at *
      have a2 := tok_up s1 ⟨#[43]⟩ 1 (by decide)
      generalize Sh.tok s1 ⟨#[43]⟩ = s2 at *
      have a3 := hp 1 (by omega) 6 s2
      generalize Sh.part ms f (kid kids 1) 6 s2 = s3 at *
      omega
    · have hk : kids.length = 2 := by have := well_kids (a := 5) (b := 2) hw (by kernel_rfl) (by decide); simp only at this; omega
      have p0 := partPl_succ ms (ks := kids) (j := 0) (by omega)
      have p1 := partPl_succ ms (ks := kids) (j := 1) (by omega)
      have pz : (partPl ms kids 0).length = 0 := rfl
      have q := fun j (h : j < kids.length) => congrArg List.length (partPl_succ ms (ks := kids) h)
      simp only [List.length_append] at q
      have q0 := q 0 (by omega)
      have q1 := q 1 (by omega)
      simp only [Nat.zero_add, Nat.reduceAdd] at q0 q1
      rw [hk]
      rw [x12]
      have a1 := hp 0 (by omega) 5 s
      generalize Sh.part ms f (kid kids 0) 5 s = s1 at *
      have a2 := tok_up s1 ⟨#[45]⟩ 1 (by decide)
      generalize Sh.tok s1 ⟨#[45]⟩ = s2 at *
      have a3 := hp 1 (by omega) 6 s2
      generalize Sh.part ms f (kid kids 1) 6 s2 = s3 at *
      omega
    · have hk : kids.length = 2 := by have := well_kids (a := 6) (b := 2) hw (by kernel_rfl) (by decide); simp only at this; omega
      have p0 := partPl_succ ms (ks := kids) (j := 0) (by omega)
      have p1 := partPl_succ ms (ks := kids) (j := 1) (by omega)
      have pz : (partPl ms kids 0).length = 0 := rfl
      have q := fun j (h : j < kids.length) => congrArg List.length (partPl_succ ms (ks := kids) h)
      simp only [List.length_append] at q
      have q0 := q 0 (by omega)
      have q1 := q 1 (by omega)
      simp only [Nat.zero_add, Nat.reduceAdd] at q0 q1
      rw [hk]
      rw [x13]
      have a1 := hp 0 (by omega) 6 s
      generalize Sh.part ms f (kid kids 0) 6 s = s1 at *
      have a2 := tok_up s1 ⟨#[42]⟩ 1 (by decide)
      generalize Sh.tok s1 ⟨#[42]⟩ = s2 at *
      have a3 := hp 1 (by omega) 7 s2
      generalize Sh.part ms f (kid kids 1) 7 s2 = s3 at *
      omega
    · rw [x14]
      have a1 := hL s
      generalize Sh.list ms f kids s = s1 at *
      omega
    · have hk : kids.length = 1 := by have := well_kids (a := 7) (b := 1) hw (by kernel_rfl) (by decide); simp only at this; omega
      have p0 := partPl_succ ms (ks := kids) (j := 0) (by omega)
      have pz : (partPl ms kids 0).length = 0 := rfl
      have q := fun j (h : j < kids.length) => congrArg List.length (partPl_succ ms (ks := kids) h)
      simp only [List.length_append] at q
      have q0 := q 0 (by omega)
      simp only [Nat.zero_add, Nat.reduceAdd] at q0
      rw [hk]
      rw [x15]
      have a1 := tok_up s ⟨#[45]⟩ 1 (by decide)
      generalize Sh.tok s ⟨#[45]⟩ = s1 at *
      have a2 := hp 0 (by omega) 7 s1
      generalize Sh.part ms f (kid kids 0) 7 s1 = s2 at *
      omega
    · have hk : kids.length = 1 := by have := well_kids (a := 7) (b := 1) hw (by kernel_rfl) (by decide); simp only at this; omega
      have p0 := partPl_succ ms (ks := kids) (j := 0) (by omega)
      have pz : (partPl ms kids 0).length = 0 := rfl
      have q := fun j (h : j < kids.length) => congrArg List.length (partPl_succ ms (ks := kids) h)
      simp only [List.length_append] at q
      have q0 := q 0 (by omega)
      simp only [Nat.zero_add, Nat.reduceAdd] at q0
      rw [hk]
      rw [x16]
      have a1 := tok_up s ⟨#[110, 111, 116]⟩ 3 (by decide)
      generalize Sh.tok s ⟨#[110, 111, 116]⟩ = s1 at *
      have a2 := hp 0 (by omega) 7 s1
      generalize Sh.part ms f (kid kids 0) 7 s1 = s2 at *
      omega
    · have hk : kids.length = 1 := by have := well_kids (a := 7) (b := 1) hw (by kernel_rfl) (by decide); simp only at this; omega
      have p0 := partPl_succ ms (ks := kids) (j := 0) (by omega)
      have pz : (partPl ms kids 0).length = 0 := rfl
      have q := fun j (h : j < kids.length) => congrArg List.length (partPl_succ ms (ks := kids) h)
      simp only [List.length_append] at q
      have q0 := q 0 (by omega)
      simp only [Nat.zero_add, Nat.reduceAdd] at q0
      rw [hk]
      rw [x17]
      have a1 := tok_up s ⟨#[102, 115, 116]⟩ 3 (by decide)
      generalize Sh.tok s ⟨#[102, 115, 116]⟩ = s1 at *
      have a2 := hp 0 (by omega) 7 s1
      generalize Sh.part ms f (kid kids 0) 7 s1 = s2 at *
      omega
    · have hk : kids.length = 1 := by have := well_kids (a := 7) (b := 1) hw (by kernel_rfl) (by decide); simp only at this; omega
      have p0 := partPl_succ ms (ks := kids) (j := 0) (by omega)
      have pz : (partPl ms kids 0).length = 0 := rfl
      have q := fun j (h : j < kids.length) => congrArg List.length (partPl_succ ms (ks := kids) h)
      simp only [List.length_append] at q
      have q0 := q 0 (by omega)
      simp only [Nat.zero_add, Nat.reduceAdd] at q0
      rw [hk]
      rw [x18]
      have a1 := tok_up s ⟨#[115, 110, 100]⟩ 3 (by decide)
      generalize Sh.tok s ⟨#[115, 110, 100]⟩ = s1 at *
      have a2 := hp 0 (by omega) 7 s1
      generalize Sh.part ms f (kid kids 0) 7 s1 = s2 at *
      omega
    · rw [x19]
      have a1 := toks2_up s ⟨#[114, 101, 108, 101, 97, 115, 101]⟩ name 7 40 (by decide) hname
      generalize Sh.tokens s [⟨#[114, 101, 108, 101, 97, 115, 101]⟩, name] = s1 at *
      have a2 := hL s1
      generalize Sh.list ms f kids s1 = s2 at *
      omega
    · rw [x20]
      have a1 := toks2_up s ⟨#[33]⟩ name 1 40 (by decide) hname
      generalize Sh.tokens s [⟨#[33]⟩, name] = s1 at *
      omega
    · rw [x21]
      have a1 := tok_up s ⟨#[116, 114, 117, 101]⟩ 4 (by decide)
      generalize Sh.tok s ⟨#[116, 114, 117, 101]⟩ = s1 at *
      omega
    · rw [x22]
      have a1 := tok_up s ⟨#[102, 97, 108, 115, 101]⟩ 5 (by decide)
      generalize Sh.tok s ⟨#[102, 97, 108, 115, 101]⟩ = s1 at *
      omega
    · rw [x23]
      have a1 := toks2_up s ⟨#[104, 111, 108, 101]⟩ name 4 40 (by decide) hname
      generalize Sh.tokens s [⟨#[104, 111, 108, 101]⟩, name] = s1 at *
      omega
    · rw [x24]
      have a1 := hL s
      generalize Sh.list ms f kids s = s1 at *
      omega
    · rw [x25]
      have a1 := tok_up s (dig num) 21 hd
      generalize Sh.tok s (dig num) = s1 at *
      omega
    · rw [x26]
      have a1 := tok_up s name 40 hname
      generalize Sh.tok s name = s1 at *
      omega
    · rw [x27]
      have a1 := tok_up s name 40 hname
      generalize Sh.tok s name = s1 at *
      have a2 := (show (Sh.St.mk s1.bs true).bs.length ≤ s1.bs.length from Nat.le_refl _)
      generalize Sh.St.mk s1.bs true = s2 at *
      have a3 := hL s2
      generalize Sh.list ms f kids s2 = s3 at *
      omega
  · unfold Sh.well at hw
    rw [form_no hn] at hw
    simp at hw
end Go.Proofs.YtdkhkemllmegfaaGreatDoor



/- What is the same has the same text, and fits alike; how long a text is. -/
namespace Go.Proofs.YtdkhkemllmegfaaGreatDoor
open Tn

theorem head_well {x y : Nd} (h : headB x y = true) : Sh.well x = Sh.well y := by
  obtain ⟨a, _, _, d⟩ := headB_iff.1 h
  unfold Sh.well; rw [a, d]
theorem head_okN {x y : Nd} (h : headB x y = true) : okN x = okN y := by
  obtain ⟨_, b, _, _⟩ := headB_iff.1 h
  unfold okN; rw [head_well h, b]

theorem ends_same {ns ms : List Nd} (hwn : WF ns) (hwm : WF ms) (i : Nat) : i < ns.length → Fit ns i → ∀ k, k < ms.length → sameB ns ms i k = true → ∀ u v, i < u → k < v → Sh.ends ns u (nd ns i) = Sh.ends ms v (nd ms k) := by
  induction i using Nat.strongRecOn with
  | _ i ih =>
    intro hi hf k hk hs u v hu hv
    obtain ⟨u, rfl⟩ : ∃ v, u = v + 1 := ⟨u - 1, by omega⟩
    obtain ⟨v, rfl⟩ : ∃ w, v = w + 1 := ⟨v - 1, by omega⟩
    obtain ⟨hh, hkd⟩ := sameB_inv hwn hi hs
    obtain ⟨e1, _, _, e4⟩ := headB_iff.1 hh
    have hself := hf.self hwn hi
    by_cases hif : (nd ns i).op = ⟨#[105, 102]⟩ ∨ (nd ns i).op = ⟨#[116, 114, 121]⟩
    · have hpos : 0 < (nd ns i).kids.length := by
        rcases hif with h | h
        · have := well_kids (a := 1) (b := 3) hself.well (by rw [h]; kernel_rfl) (by decide); omega
        · have := well_kids (a := 1) (b := 2) hself.well (by rw [h]; kernel_rfl) (by decide); omega
      rw [Sh_ends_if ns u _ hif, Sh_ends_if ms v _ (by rw [← e1]; exact hif)]
      have hj : (nd ns i).kids.length - 1 < (nd ns i).kids.length := by omega
      have hm := kid_mem hj
      have a := kid_lt hwn hi hm
      have hm2 := kid_mem (ks := (nd ms k).kids) (i := (nd ms k).kids.length - 1) (by omega)
      have b := kid_lt hwm hk hm2
      have hs2 := hkd _ hj
      rw [e4] at hs2
      have a2 := a; rw [e4] at a2
      rw [e4]
      exact ih _ a2.1 (by omega) (by have := hf.kid hwn hi hm; rwa [e4] at this) _ (by omega) hs2 u v (by omega) (by omega)
    · by_cases hl : (nd ns i).op = ⟨#[108, 101, 116]⟩
      · rw [Sh_ends_let ns u _ hl, Sh_ends_let ms v _ (by rw [← e1]; exact hl)]
      · rw [Sh_ends_no ns u _ hl (fun e => hif (.inl e)) (fun e => hif (.inr e)), Sh_ends_no ms v _ (by rw [← e1]; exact hl) (by rw [← e1]; exact fun e => hif (.inl e)) (by rw [← e1]; exact fun e => hif (.inr e))]

theorem node_same {ns ms : List Nd} (hwn : WF ns) (hwm : WF ms) (i : Nat) : i < ns.length → Fit ns i → ∀ k, k < ms.length → sameB ns ms i k = true → ∀ u v, i < u → k < v → ∀ s, Sh.node ns dig u (nd ns i) s = Sh.node ms dig v (nd ms k) s := by
  induction i using Nat.strongRecOn with
  | _ i ih =>
    intro hi hf k hk hs u v hu hv s
    obtain ⟨u, rfl⟩ : ∃ v, u = v + 1 := ⟨u - 1, by omega⟩
    obtain ⟨v, rfl⟩ : ∃ w, v = w + 1 := ⟨v - 1, by omega⟩
    obtain ⟨hh, hkd⟩ := sameB_inv hwn hi hs
    obtain ⟨e1, e2, e3, e4⟩ := headB_iff.1 hh
    have hself := hf.self hwn hi
    have key : ∀ j, j < (nd ns i).kids.length → (kid (nd ns i).kids j).toNat < i ∧ (kid (nd ms k).kids j).toNat < k ∧ Fit ns (kid (nd ns i).kids j).toNat ∧ (nd ns (kid (nd ns i).kids j).toNat).op = (nd ms (kid (nd ms k).kids j).toNat).op ∧
        Sh.node ns dig u (nd ns (kid (nd ns i).kids j).toNat) = Sh.node ms dig v (nd ms (kid (nd ms k).kids j).toNat) := fun j hj => by
      have a := kid_lt hwn hi (kid_mem hj)
      have b := kid_lt hwm hk (kid_mem (ks := (nd ms k).kids) (i := j) (by omega))
      have hfk := hf.kid hwn hi (kid_mem hj)
      have h2 := sameB_inv hwn (by omega) (hkd j hj)
      exact ⟨a.1, b.1, hfk, (headB_iff.1 h2.1).1, funext fun s => ih _ a.1 (by omega) hfk _ (by omega) (hkd j hj) u v (by omega) (by omega) s⟩
    rw [Sh.node, Sh.node]
    refine nodeF_congr e1 e2 e3 e4 hself.well (fun j hj l s => ?_) (fun hj s => ?_) s
    · obtain ⟨_, _, _, ho, hq⟩ := key j hj
      unfold Sh.part; rw [ho, hq]
    · obtain ⟨a, b, hfk, ho, hq⟩ := key 0 hj
      unfold Sh.semi; rw [ho, hq, ends_same hwn hwm _ (by omega) hfk _ (by omega) (hkd 0 hj) (u + 1) (v + 1) (by omega) (by omega)]
theorem txt_same {ns ms : List Nd} (hwn : WF ns) (hwm : WF ms) {i k : Nat} (hi : i < ns.length) (hf : Fit ns i) (hk : k < ms.length) (hs : sameB ns ms i k = true) : txt ns i = txt ms k := by
  obtain ⟨hh, _⟩ := sameB_inv hwn hi hs
  obtain ⟨e1, _⟩ := headB_iff.1 hh
  have := funext fun s => node_same hwn hwm i hi hf k hk hs (i + 1) (k + 1) (by omega) (by omega) s
  unfold txt Sh.full
  rw [this, e1]

theorem pl_same {ns ms : List Nd} (hwn : WF ns) (hwm : WF ms) (i : Nat) : i < ns.length → ∀ k, k < ms.length → sameB ns ms i k = true → (Pl ns i).map (fun j => okN (nd ns j)) = (Pl ms k).map (fun j => okN (nd ms j)) := by
  induction i using Nat.strongRecOn with
  | _ i ih =>
    intro hi k hk hs
    obtain ⟨hh, hkd⟩ := sameB_inv hwn hi hs
    obtain ⟨_, _, _, e4⟩ := headB_iff.1 hh
    have part : ∀ j, j ≤ (nd ns i).kids.length → (partPl ns (nd ns i).kids j).map (fun j => okN (nd ns j)) = (partPl ms (nd ms k).kids j).map (fun j => okN (nd ms j)) := fun j => by
      induction j with
      | zero => intro _; rfl
      | succ j ihj =>
        intro hj
        have a := kid_lt hwn hi (kid_mem (ks := (nd ns i).kids) (i := j) (by omega))
        have b := kid_lt hwm hk (kid_mem (ks := (nd ms k).kids) (i := j) (by omega))
        rw [partPl_succ ns (by omega), partPl_succ ms (by omega), List.map_append, List.map_append, ihj (by omega), ih _ a.1 (by omega) _ (by omega) (hkd j (by omega))]
    rw [Pl_eq hwn hi, Pl_eq hwm hk, List.map_cons, List.map_cons, head_okN hh, part _ (Nat.le_refl _), e4]
theorem fitsB_map (ms : List Nd) (i : Nat) : fitsB ms i = (decide (((Pl ms i).map fun j => okN (nd ms j)).length ≤ 4000) && ((Pl ms i).map fun j => okN (nd ms j)).all id) := by
  unfold fitsB
  rw [List.length_map, List.all_map]; rfl
theorem fits_same {ns ms : List Nd} (hwn : WF ns) (hwm : WF ms) {i k : Nat} (hi : i < ns.length) (hk : k < ms.length) (hs : sameB ns ms i k = true) : fitsB ns i = fitsB ms k := by
  rw [fitsB_map, fitsB_map, pl_same hwn hwm i hi k hk hs]

/-- names that fit -/
def Short (ms : List Nd) (i : Nat) : Prop := ∀ j ∈ Pl ms i, (nd ms j).name.size ≤ 40
theorem node_up {ms : List Nd} (hw : WF ms) (i : Nat) : i < ms.length → Fit ms i → Short ms i → ∀ u, i < u → ∀ s, (Sh.node ms dig u (nd ms i) s).bs.length + 10 ≤ s.bs.length + 300 * (Pl ms i).length := by
  induction i using Nat.strongRecOn with
  | _ i ih =>
    intro hi hf hn u hu s
    obtain ⟨u, rfl⟩ : ∃ v, u = v + 1 := ⟨u - 1, by omega⟩
    have hself := hf.self hw hi
    have hsub : ∀ j, j < (nd ms i).kids.length → Short ms (kid (nd ms i).kids j).toNat := fun j hj q hq => hn q (by
      rw [Pl_eq hw hi]
      refine List.mem_cons_of_mem _ ?_
      rw [partPl, List.take_length]
      exact List.mem_flatMap.2 ⟨_, kid_mem hj, hq⟩)
    have hb : ∀ j, j < (nd ms i).kids.length → ∀ (b : Bool) s, (Sh.brk (Sh.node ms dig u (nd ms (kid (nd ms i).kids j).toNat)) b s).bs.length + 6 ≤ s.bs.length + 300 * (Pl ms (kid (nd ms i).kids j).toNat).length := fun j hj b s => by
      have a := kid_lt hw hi (kid_mem hj)
      have hq := fun s => ih _ a.1 (by omega) (hf.kid hw hi (kid_mem hj)) (hsub j hj) u (by omega) s
      unfold Sh.brk
      split
      · have h1 := tok_up s Sh.opn 1 (by decide)
        have h2 := hq (Sh.tok s Sh.opn)
        have h3 := tok_up (Sh.node ms dig u (nd ms (kid (nd ms i).kids j).toNat) (Sh.tok s Sh.opn)) Sh.cls 1 (by decide)
        omega
      · have := hq s; omega
    rw [Sh.node, Pl_eq hw hi, List.length_cons]
    exact nodeF_up hself.well (hn i (by rw [Pl_eq hw hi]; exact List.mem_cons_self ..)) hself.lo hself.hi (fun j hj l s => hb j hj _ s) (fun hj s => hb 0 hj _ s) s
theorem txt_len {ms : List Nd} (hw : WF ms) {i : Nat} (hi : i < ms.length) (hk : ∀ i, i < ms.length → (nd ms i).kids.length ≤ 999000) (hn : ∀ i, i < ms.length → -9223372036854775808 ≤ (nd ms i).num ∧ (nd ms i).num ≤ 9223372036854775807) (h : fitsB ms i = true) : (txt ms i).length ≤ 1000000000 := by
  have hf := fits_fit h hw hi hk hn (Pl_lt_len hw i hi)
  unfold fitsB at h
  rw [Bool.and_eq_true, decide_eq_true_iff, List.all_eq_true] at h
  have hs : Short ms i := fun j hj => by
    have := h.2 j hj
    unfold okN at this
    rw [Bool.and_eq_true, decide_eq_true_iff] at this
    exact this.1
  have hu := fun s => node_up hw i hi hf hs (i + 1) (by omega) s
  have h1 := h.1
  unfold txt Sh.full Sh.brk
  split
  · have a := tok_up ⟨[], true⟩ Sh.opn 1 (by decide)
    have b := hu (Sh.tok ⟨[], true⟩ Sh.opn)
    have c := tok_up (Sh.node ms dig (i + 1) (nd ms i) (Sh.tok ⟨[], true⟩ Sh.opn)) Sh.cls 1 (by decide)
    simp only [List.length_nil] at a
    omega
  · have b := hu ⟨[], true⟩
    simp only [List.length_nil] at b
    omega

/-- what is shown of something, is shown of what is read from it -/
theorem show_again {n : Nat} {ms ns : List Nd} {i j : Nat} {t : Lx.B} (hwm : WF ms) (hi : i < ms.length) (hf : fitsB ms i = true → Fit ms i) (h : showT n ms i = some t) (hp : Ex.parse n t = .ok j ns) (hr : Ex.Read j ns) : sameB ms ns i j = true ∧ showT n ns j = some t := by
  cases hfb : fitsB ms i with
  | false => rw [showT_no hfb] at h; cases h
  | true =>
    have ht : t = txt ms i := by
      unfold showT at h
      rw [hfb, if_pos rfl] at h
      split at h
      · split at h
        · exact (Option.some.inj h).symm
        · cases h
      · cases h
    subst ht
    rw [showT_ok hfb hp] at h
    cases hs : sameB ms ns i j with
    | false => rw [hs] at h; simp at h
    | true =>
      have e := txt_same hwm hr.wf hi (hf hfb) hr.lt hs
      have f := fits_same hwm hr.wf hi hr.lt hs
      refine ⟨rfl, ?_⟩
      rw [e] at hp ⊢
      rw [showT_ok (f ▸ hfb) hp, if_pos (sameB_refl hr.wf j hr.lt)]
end Go.Proofs.YtdkhkemllmegfaaGreatDoor


/- The law: of any text its expression's text is read as it, and its text is the same once more. -/
namespace Go.Proofs.YtdkhkemllmegfaaGreatDoor
open Go.RowKit Tn Lx

abbrev z0 : Nd := ⟨⟨#[118, 97, 114]⟩, 1, 3, ⟨#[97]⟩, 0, []⟩
abbrev z1 : Nd := ⟨⟨#[118, 97, 114]⟩, 1, 6, ⟨#[98]⟩, 0, []⟩
abbrev z2 : Nd := ⟨⟨#[115, 101, 113]⟩, 1, 4, ⟨#[]⟩, 0, [0, 1]⟩
abbrev z3 : Nd := ⟨⟨#[105, 110, 116]⟩, 1, 16, ⟨#[]⟩, 1, []⟩
abbrev z4 : Nd := ⟨⟨#[118, 97, 114]⟩, 1, 18, ⟨#[120]⟩, 0, []⟩
abbrev z5 : Nd := ⟨⟨#[99, 97, 108, 108]⟩, 1, 14, ⟨#[102]⟩, 0, [3, 4]⟩
abbrev z6 : Nd := ⟨⟨#[110, 101, 103]⟩, 1, 12, ⟨#[]⟩, 0, [5]⟩
abbrev z7 : Nd := ⟨⟨#[42]⟩, 1, 10, ⟨#[]⟩, 0, [2, 6]⟩
abbrev zs : List Nd := [z0, z1, z2, z3, z4, z5, z6, z7]
abbrev zText : B := [40, 40, 97, 59, 32, 98, 41, 41, 32, 42, 32, 45, 40, 102, 40, 49, 44, 120, 41, 41]
abbrev zOut : B := [40, 97, 59, 32, 98, 41, 32, 42, 32, 45, 32, 102, 40, 49, 44, 32, 120, 41]
theorem z_parse : Ex.parse 300 zText = .ok 7 zs := by kernel_rfl
theorem z_txt : txt zs 7 = zOut := by kernel_rfl
theorem z_fits : fitsB zs 7 = true := by kernel_rfl
abbrev ys8 : List Nd := [⟨⟨#[118, 97, 114]⟩, 1, 2, ⟨#[97]⟩, 0, []⟩, ⟨⟨#[118, 97, 114]⟩, 1, 5, ⟨#[98]⟩, 0, []⟩, ⟨⟨#[115, 101, 113]⟩, 1, 3, ⟨#[]⟩, 0, [0, 1]⟩, ⟨⟨#[105, 110, 116]⟩, 1, 14, ⟨#[]⟩, 1, []⟩, ⟨⟨#[118, 97, 114]⟩, 1, 17, ⟨#[120]⟩, 0, []⟩,
  ⟨⟨#[99, 97, 108, 108]⟩, 1, 12, ⟨#[102]⟩, 0, [3, 4]⟩, ⟨⟨#[110, 101, 103]⟩, 1, 10, ⟨#[]⟩, 0, [5]⟩, ⟨⟨#[42]⟩, 1, 8, ⟨#[]⟩, 0, [2, 6]⟩]
theorem z_again : Ex.parse 300 zOut = .ok 7 ys8 := by kernel_rfl
theorem z_same : sameB zs ys8 7 7 = true := by kernel_rfl
theorem z_show : showT 300 zs 7 = some zOut := by
  rw [showT_ok z_fits (by rw [z_txt]; exact z_again), if_pos z_same, z_txt]
theorem len_fuel {l : B} (h : l.length ≤ 25) : ∀ ts, Lx.whole l = .ok ts → 10 * ts.length + 8 < 300 := fun ts hw => by
  have : ts.length ≤ 27 := by
    unfold whole at hw
    split at hw
    · cases hw
    · split at hw
      · cases hw
      · have := toks_len _ _ _ _ _ hw; omega
  omega

set_option maxRecDepth 100000 in
set_option maxHeartbeats 4000000 in
theorem lives8_any (w : World) (hw : Wd w) : Calls Tryz.prog 5 #[] w fun e w' => e = .returned (.bool true) ∧ Below w.heap.size w w' := by
  have hp := parse_any 300 (by omega) ⟨zText.toArray⟩ w (by decide) hw.u8 hw.err (by show Ex.parse 300 zText ≠ _; rw [z_parse]; exact fun e => by cases e)
  have hread := (Ex.parse_read (n := 300) (l := zText) (len_fuel (by decide))).2 7 zs z_parse
  rw [show Ex.parse 300 (⟨zText.toArray⟩ : ByteArray).data.toList = .ok 7 zs from z_parse] at hp
  have HP := Lib.hid hp; have HW := Lib.hid hw
  clear hp hw
  go_enter Tryz.func5, Tryz.ntmps5
  go_wp2_with fail
  refine HP.out.mono ?_
  rintro e w1 ⟨hb1, ⟨i, ns, B, bt, v, l, he, rfl, hl, ht, hlt⟩ | ⟨cd, p, he, _⟩⟩
  rotate_left
  · cases he
  injection he with he1 he2
  subst he1 he2
  have htr := Tr.of_read ht hl hread
  have hs := show_any 300 (by omega) bt zs 7 w1 (HW.out.below hb1) htr hread.lt (fun _ => by rw [z_txt]; decide) (fun _ => by rw [z_txt]; exact (Ex.parse_read (n := 300) (l := zOut) (len_fuel (by decide))).1) (fun j ns h => (Ex.parse_read (n := 300) (l := zOut) (len_fuel (by decide))).2 j ns (by rw [← z_txt]; exact h))
  rw [z_show] at hs
  have HS := Lib.hid hs; have HB1 := Lib.hid hb1
  clear hs hb1 htr ht hl HP
  go_wp2_with fail
  refine HS.out.mono ?_
  rintro e w2 ⟨rfl, hb2⟩
  have HB2 := Lib.hid (HB1.out.trans (hb2.mono HB1.out.size))
  clear hb2
  unfold showV
  go_wp2
  go_ret
  exact ⟨rfl, HB2.out⟩

/-- what Expr does of something that was read -/
theorem show_read (bt i : Nat) (ns : List Nd) (w : World) (hw : Wd w) (ht : Tr w bt ns) (hi : i < ns.length) : Calls Tryz.prog 7 #[.pointer (some ⟨bt, 0, none⟩), .int .i64 (i : Int)] w (ShowP (showT Ex.FU ns i) w) :=
  show_any Ex.FU (by unfold Ex.FU; omega) bt ns i w hw ht hi (fun h => txt_len ht.wf hi ht.kids ht.nums h) (fun _ => (Ex.parse_all _).1) (fun j ns h => (Ex.parse_all _).2 j ns h)

set_option maxRecDepth 100000 in
set_option maxHeartbeats 4000000 in
theorem showexprs_any (s : ByteArray) (w : World) (hw : Wd w) : Calls Tryz.prog 3 #[.string s] w fun e w' => e = .returned (.bool true) ∧ Below w.heap.size w w' := by
  have hL := lives8_any w hw
  have hL2 := fun w1 (h : Below w.heap.size w w1) => lives8_any w1 (hw.below h)
  have HL := Lib.hid hL; have HL2 := Lib.hid hL2; have HW := Lib.hid hw
  clear hL hL2 hw
  by_cases h5 : 5000 < s.size
  · go_enter Tryz.func3, Tryz.ntmps3
    go_wp2_with fail
    refine HL.out.mono ?_
    rintro e w1 ⟨rfl, hb1⟩
    have HB1 := Lib.hid hb1
    clear hb1
    go_wp2_with fail
    refine (HL2.out w1 HB1.out).mono ?_
    rintro e w2 ⟨rfl, hb2⟩
    have HB2 := Lib.hid (HB1.out.trans (hb2.mono HB1.out.size))
    clear hb2
    go_wp2
    go_ret
    exact ⟨rfl, HB2.out⟩
  go_enter Tryz.func3, Tryz.ntmps3
  go_wp2_with fail
  refine HL.out.mono ?_
  rintro e w1 ⟨rfl, hb1⟩
  have hw1 := HW.out.below hb1
  have hP := parse_any Ex.FU (by unfold Ex.FU; omega) s w1 (by omega) hw1.u8 hw1.err (Ex.parse_all _).1
  have HP := Lib.hid hP; have HB1 := Lib.hid hb1; have HW1 := Lib.hid hw1
  clear hP hb1 hw1 HL HL2
  go_wp2_with fail
  refine HP.out.mono ?_
  rintro e w2 ⟨hb2, ⟨i, ns, B, bt, v, l, hpe, rfl, hl, hto, hlt⟩ | ⟨cd, p, hpe, rfl⟩⟩
  rotate_left
  · have HB2 := Lib.hid (HB1.out.trans (hb2.mono HB1.out.size))
    clear hb2 hpe HP
    unfold dval
    go_wp2
    go_ret
    exact ⟨rfl, HB2.out⟩
  have hread := (Ex.parse_all _).2 i ns hpe
  have htr := Tr.of_read hto hl hread
  have hS := show_read bt i ns w2 (HW1.out.below hb2) htr hread.lt
  have HB2 := Lib.hid (HB1.out.trans (hb2.mono HB1.out.size)); have HW2 := Lib.hid (HW1.out.below hb2); have HTR := Lib.hid htr; have HRD := Lib.hid hread
  cases hsh : showT Ex.FU ns i with
  | none =>
    rw [hsh] at hS
    have HS := Lib.hid hS
    clear hS hb2 hpe hl hto htr hread HP hsh
    go_wp2_with fail
    refine HS.out.mono ?_
    rintro e w3 ⟨rfl, hb3⟩
    have HB3 := Lib.hid (HB2.out.trans (hb3.mono HB2.out.size))
    clear hb3
    unfold showV
    go_wp2
    go_ret
    exact ⟨rfl, HB3.out⟩
  | some t =>
    rw [hsh] at hS
    have HS := Lib.hid hS; have HSH := Lib.hid hsh
    clear hS hb2 hpe hl hto htr hread HP hsh
    go_wp2_with fail
    refine HS.out.mono ?_
    rintro e w3 ⟨rfl, hb3⟩
    have hB3 := HB2.out.trans (hb3.mono HB2.out.size)
    have hw3 := HW2.out.below hb3
    have htl : t.length ≤ 1000000000 := by
      have h := HSH.out
      cases hfb : fitsB ns i with
      | false => rw [showT_no hfb] at h; cases h
      | true =>
        unfold showT at h
        rw [hfb, if_pos rfl] at h
        split at h
        · split at h
          · rw [← Option.some.inj h]; exact txt_len HRD.out.wf HRD.out.lt HTR.out.kids HTR.out.nums hfb
          · cases h
        · cases h
    have hP2 := parse_any Ex.FU (by unfold Ex.FU; omega) ⟨t.toArray⟩ w3 (by show t.toArray.size ≤ _; simp; omega) hw3.u8 hw3.err (Ex.parse_all _).1
    have HP2 := Lib.hid hP2; have HB3 := Lib.hid hB3; have HW3 := Lib.hid hw3; have HTR3 := Lib.hid (HTR.out.below hb3)
    clear hP2 hB3 hw3 hb3 htl
    unfold showV
    go_wp2_with fail
    refine HP2.out.mono ?_
    rintro e w4 ⟨hb4, ⟨j, ms, B2, bt2, v2, l2, hpe2, rfl, hl2, hto2, hlt2⟩ | ⟨cd, p, hpe2, rfl⟩⟩
    rotate_left
    · exfalso
      have h := HSH.out
      unfold showT at h
      split at h
      · split at h
        · rename_i _ j ms hq
          split at h
          · have e := Option.some.inj h
            rw [e] at hq
            rw [hq] at hpe2
            cases hpe2
          · cases h
        · cases h
      · cases h
    have hread2 := (Ex.parse_all _).2 j ms hpe2
    have hag := show_again HRD.out.wf HRD.out.lt (fun h => fits_fit h HRD.out.wf HRD.out.lt HTR.out.kids HTR.out.nums (Pl_lt_len HRD.out.wf i HRD.out.lt)) HSH.out hpe2 hread2
    have htr2 := Tr.of_read hto2 hl2 hread2
    have hw4 := HW3.out.below hb4
    have hS2 := show_read bt2 j ms w4 hw4 htr2 hread2.lt
    rw [hag.2] at hS2
    have HS2 := Lib.hid hS2; have HB4 := Lib.hid (HB3.out.trans (hb4.mono HB3.out.size)); have HTR4 := Lib.hid (HTR3.out.below hb4); have HTRB := Lib.hid htr2; have HAG := Lib.hid hag.1; have HRD2 := Lib.hid hread2
    clear hS2 hb4 hpe2 hl2 hto2 htr2 hw4 hag hread2 HP2
    go_wp2_with fail
    refine HS2.out.mono ?_
    rintro e w5 ⟨rfl, hb5⟩
    obtain ⟨ao, cap, hta⟩ := (HTR4.out.below hb5).at_
    obtain ⟨ao2, cap2, hta2⟩ := (HTRB.out.below hb5).at_
    have hSm := same_any bt bt2 ao ao2 cap cap2 ns ms HRD.out.wf HRD2.out.wf HTR.out.kids HTR.out.few HRD2.out.few i j HRD.out.lt HRD2.out.lt w5 hta hta2
    rw [HAG.out] at hSm
    have HSM := Lib.hid hSm; have HB5 := Lib.hid (HB4.out.trans (hb5.mono HB4.out.size))
    clear hSm hta hta2 hb5
    unfold showV
    go_wp2_with fail
    refine HSM.out.mono ?_
    rintro e w6 ⟨rfl, hb6⟩
    have HB6 := Lib.hid (HB5.out.trans (hb6.mono HB5.out.size))
    clear hb6
    go_wp2
    go_ret
    exact ⟨rfl, HB6.out⟩
end Go.Proofs.YtdkhkemllmegfaaGreatDoor
