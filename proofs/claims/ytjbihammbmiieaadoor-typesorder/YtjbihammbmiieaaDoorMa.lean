/- TypesOrder's closure: what it makes. -/
import Derived.Test.YtjbihammbmiieaaDoorLv
import Derived.Deep.CutBlock
namespace Go.Proofs.YtjbihammbmiieaaDoor
open Go.RowKit Un

def il (l : List Nat) : List Int := l.map fun n : Nat => (n : Int)
theorem il_len (l : List Nat) : (il l).length = l.length := by simp [il]
theorem il_app (l k : List Nat) : il (l ++ k) = il l ++ il k := by simp [il]
theorem zs_il_get {l : List Nat} {i : Nat} (h : i < l.length) : (zs (il l))[i]? = some (.int .i64 ((l.getD i 0 : Nat) : Int)) := by
  simp [zs, il, h]
/-- the types that pairs are made of -/
def al0 (m : Nat) : List Nat := (List.range m).map (· + 3) ++ [0, 1]
def pr (m j : Nat) : List Nx := (List.range j).map fun i => ⟨2, false, (al0 m).getD i 0, (al0 m).getD (i + 1) 0⟩
def tb (m j : Nat) : List Nx := List.replicate m ⟨1, false, 0, 0⟩ ++ pr m j
def al (m j : Nat) : List Nat := al0 m ++ (List.range j).map fun i => m + 3 + i
theorem al0_len (m : Nat) : (al0 m).length = m + 2 := by simp [al0]
theorem tb_len (m j : Nat) : (tb m j).length = m + j := by simp [tb, pr]
theorem al_len (m j : Nat) : (al m j).length = m + 2 + j := by simp [al, al0_len]
theorem al_zero (m : Nat) : al m 0 = al0 m := by simp [al]
theorem al_succ (m j : Nat) : al m (j + 1) = al m j ++ [m + 3 + j] := by simp [al, List.range_succ]
theorem tb_succ (m j : Nat) : tb m (j + 1) = tb m j ++ [⟨2, false, (al0 m).getD j 0, (al0 m).getD (j + 1) 0⟩] := by simp [tb, pr, List.range_succ]
theorem al_low (m j : Nat) {i : Nat} (hi : i < m + 2) : (al m j).getD i 0 = (al0 m).getD i 0 := by
  have : i < (al0 m).length := by rw [al0_len]; exact hi
  simp [al, List.getD_eq_getElem?_getD, List.getElem?_append_left this]
theorem al0_mem {m x : Nat} (h : x ∈ al0 m) : x < m + 3 := by
  rcases List.mem_append.1 h with h | h
  · obtain ⟨k, hk, e⟩ := List.mem_map.1 h
    have := List.mem_range.1 hk
    have e' : k + 3 = x := e
    omega
  · have : x = 0 ∨ x = 1 := by simpa using h
    omega
theorem al0_lt (m : Nat) (i : Nat) : (al0 m).getD i 0 < m + 3 := by
  by_cases h : i < (al0 m).length
  · rw [List.getD_eq_getElem?_getD, List.getElem?_eq_getElem h]
    exact al0_mem (List.getElem_mem h)
  · rw [List.getD_eq_getElem?_getD, List.getElem?_eq_none (by omega)]; simp
theorem al_lt (m j : Nat) {x : Nat} (hx : x ∈ al m j) : x < m + j + 3 := by
  rcases List.mem_append.1 hx with hx | hx
  · have := al0_mem hx
    omega
  · obtain ⟨k, hk, e⟩ := List.mem_map.1 hx
    have := List.mem_range.1 hk
    have e' : m + 3 + k = x := e
    omega
theorem al_get (m j x : Nat) (h : x < (al m j).length) : (al m j).getD x 0 < m + j + 3 := by
  rw [List.getD_eq_getElem?_getD, List.getElem?_eq_getElem h]
  exact al_lt m j (List.getElem_mem h)
/-- the types made, and their numbers -/
structure MkAt (w0 : World) (bt : Nat) (A : List Nat) (R : List Nx) (tv lv : Value) (wr : World) : Prop where
  tab : TabAt w0.heap.size wr bt R tv
  tok : Tok R
  clear : ∀ n ∈ R, n.s = false
  own : wr.ownsRow w0.heap.size 35 1 lv A.length (zs (il A))
  below : Below w0.heap.size w0 wr
theorem MkAt.later {w0 wr w' : World} {bt : Nat} {A : List Nat} {R : List Nx} {tv lv : Value} (h : MkAt w0 bt A R tv lv wr) (k : Below wr.heap.size wr w') : MkAt w0 bt A R tv lv w' :=
  ⟨h.tab.below k, h.tok, h.clear, own_below h.own k, h.below.trans (k.mono h.below.size)⟩
theorem MkAt.types {w0 wr w' : World} {bt : Nat} {A : List Nat} {R R' : List Nx} {tv tv' lv : Value} (h : MkAt w0 bt A R tv lv wr) (ht : TabAt w0.heap.size w' bt R' tv') (hk : Tok R') (hc : ∀ n ∈ R', n.s = false) (hf : Fr (FT w0.heap.size) wr w') : MkAt w0 bt A R' tv' lv w' :=
  ⟨ht, hk, hc, hf.own h.own (fun g cs _ => by
    rintro ⟨_, cs', t, e, h⟩
    injection e with _ e; subst e
    rcases h with h | h <;> exact absurd h (by decide)), h.below.trans (hf.below h.below.size (fun k o e => e.1))⟩
theorem MkAt.more {w0 wr w' : World} {bt : Nat} {A C : List Nat} {R : List Nx} {tv lv v' : Value} {o : Obj} (h : MkAt w0 bt A R tv lv wr) (hown : w'.ownsRow w0.heap.size 35 1 v' (A.length + C.length) (zs (il A) ++ zs (il C))) (hg : (wr.alloc o).grownBy w' lv.ownBlock) : MkAt w0 bt (A ++ C) R tv v' w' := by
  have hba : Below wr.heap.size wr (wr.alloc o) := (Below.refl _ wr).alloc (Nat.le_refl _) _
  have hm := h.later hba
  have hg4 : But (fun q => lv.ownBlock = some q) (wr.alloc o) w' := But.of_grown hg (fun _ e => e)
  refine ⟨hm.tab.grown hg ?_ (row_apart hm.tab.own hm.own (by decide)), h.tok, h.clear, ?_, ?_⟩
  · intro e
    obtain ⟨_, cur, e1⟩ := own_tag hm.own e
    rw [hm.tab.blk] at e1; injection e1 with e1; injection e1 with _ e1; exact absurd e1 (by decide)
  · rw [il_app, zs_app, List.length_append]; exact hown
  · exact hm.below.trans (But.below hg4 hm.below.size (fun q e => (own_tag hm.own e).1))
end Go.Proofs.YtjbihammbmiieaaDoor
