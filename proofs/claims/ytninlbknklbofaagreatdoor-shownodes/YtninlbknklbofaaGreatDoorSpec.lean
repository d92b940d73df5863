/- A part of the proof: What the parts of the reading are to do, each by its tag. -/
import Derived.Test.YtninlbknklbofaaGreatDoorAddE
set_option linter.unusedSimpArgs false
set_option linter.unusedVariables false
namespace Go.Proofs.YtninlbknklbofaaGreatDoor
open Go.RowKit Tn Lx
structure Spec (c:Cx)(f:Ex.Rec):Prop where
 all:∀ (d:Nat) (s:Ex.S) (X:Nat->Prop) (w:World),d<=64->Rd c X w s->f .all d s ≠ .out->Calls Tryz.prog 47 #[.pointer (some ⟨c.r,0,none⟩),.int .i64 (d:Int)] w (Post c X w (f .all d s))
 item:∀ (d:Nat) (s:Ex.S) (X:Nat->Prop) (w:World),d<=64->Rd c X w s->f .item d s ≠ .out->Calls Tryz.prog 66 #[.pointer (some ⟨c.r,0,none⟩),.int .i64 (d:Int)] w (Post c X w (f .item d s))
 or:∀ (d:Nat) (s:Ex.S) (X:Nat->Prop) (w:World),d<=64->Rd c X w s->f .or d s ≠ .out->Calls Tryz.prog 101 #[.pointer (some ⟨c.r,0,none⟩),.int .i64 (d:Int)] w (Post c X w (f .or d s))
 and:∀ (d:Nat) (s:Ex.S) (X:Nat->Prop) (w:World),d<=64->Rd c X w s->f .and d s ≠ .out->Calls Tryz.prog 128 #[.pointer (some ⟨c.r,0,none⟩),.int .i64 (d:Int)] w (Post c X w (f .and d s))
 test:∀ (d:Nat) (s:Ex.S) (X:Nat->Prop) (w:World),d<=64->Rd c X w s->f .test d s ≠ .out->Calls Tryz.prog 144 #[.pointer (some ⟨c.r,0,none⟩),.int .i64 (d:Int)] w (Post c X w (f .test d s))
 sum:∀ (d:Nat) (s:Ex.S) (X:Nat->Prop) (w:World),d<=64->Rd c X w s->f .sum d s ≠ .out->Calls Tryz.prog 157 #[.pointer (some ⟨c.r,0,none⟩),.int .i64 (d:Int)] w (Post c X w (f .sum d s))
 times:∀ (d:Nat) (s:Ex.S) (X:Nat->Prop) (w:World),d<=64->Rd c X w s->f .times d s ≠ .out->Calls Tryz.prog 170 #[.pointer (some ⟨c.r,0,none⟩),.int .i64 (d:Int)] w (Post c X w (f .times d s))
 unary:∀ (d:Nat) (s:Ex.S) (X:Nat->Prop) (w:World),d<=64->Rd c X w s->f .unary d s ≠ .out->Calls Tryz.prog 174 #[.pointer (some ⟨c.r,0,none⟩),.int .i64 (d:Int)] w (Post c X w (f .unary d s))
structure PosAt (w:World)(b:Nat)(p:Pos):Prop where
 blk:w.heap[b]? = some (.cells #[.int .i64 p.line,.int .i64 p.col] 27 (0,0))
theorem PosAt.c0 {w:World}{b:Nat}{p:Pos}(h:PosAt w b p):w.cell? ⟨b,0,none⟩=some (.int .i64 p.line):=(blk_cell h.blk 0).trans rfl
theorem PosAt.c1 {w:World}{b:Nat}{p:Pos}(h:PosAt w b p):w.cell? ⟨b,1,none⟩=some (.int .i64 p.col):=(blk_cell h.blk 1).trans rfl
theorem PosAt.kp {c:Cx}{w w':World}{b:Nat}{p:Pos}(h:PosAt w b p)(hk:Kp c w w')(hr:c.r<b)(hb:c.bt<b):PosAt w' b p:=⟨hk.heap h.blk (by omega) (by omega) (fun e=>absurd e (by decide))⟩
theorem PosAt.below {w w':World}{b:Nat}{p:Pos}(h:PosAt w b p)(hb:Below w.heap.size w w'):PosAt w' b p:=⟨(hb.block b (lt_of_heap h.blk)).trans h.blk⟩
theorem PosAt.alloc {w:World}{b:Nat}{p:Pos}(h:PosAt w b p)(o:Obj):PosAt (w.alloc o) b p:=⟨blk_alloc h.blk o⟩
theorem ints_at1 (w:World)(i:Nat)(t:TypeId):IntsAt (w.alloc (.cells #[.int .i64 (i:Int)] t)).heap.size (w.alloc (.cells #[.int .i64 (i:Int)] t)) (some ⟨w.heap.size,0,none⟩) ([i].map fun (k:Nat)=>(k:Int)):=by
 intro k hk;have hk0:k=0:=by simp at hk;omega
 subst hk0;exact ⟨w.heap.size,0,rfl,by simp,by rw [World.cell?_alloc_new];rfl⟩
theorem ints_at2 (w:World)(i j:Nat)(t:TypeId):IntsAt (w.alloc (.cells #[.int .i64 (i:Int),.int .i64 (j:Int)] t)).heap.size (w.alloc (.cells #[.int .i64 (i:Int),.int .i64 (j:Int)] t)) (some ⟨w.heap.size,0,none⟩) ([i,j].map fun (k:Nat)=>(k:Int)):=by
 intro k hk;have hk2:k<2:=by simpa using hk
 refine ⟨w.heap.size,0,rfl,by simp, ?_⟩;rw [Nat.zero_add,World.cell?_alloc_new]
 match k,hk2 with
 | 0,_=>rfl
 | 1,_=>rfl
theorem ints_at3 (w:World)(i j l:Nat)(t:TypeId):IntsAt (w.alloc (.cells #[.int .i64 (i:Int),.int .i64 (j:Int),.int .i64 (l:Int)] t)).heap.size (w.alloc (.cells #[.int .i64 (i:Int),.int .i64 (j:Int),.int .i64 (l:Int)] t)) (some ⟨w.heap.size,0,none⟩) ([i,j,l].map fun (k:Nat)=>(k:Int)):=by
 intro k hk;have hk2:k<3:=by simpa using hk
 refine ⟨w.heap.size,0,rfl,by simp, ?_⟩;rw [Nat.zero_add,World.cell?_alloc_new]
 match k,hk2 with
 | 0,_=>rfl
 | 1,_=>rfl
 | 2,_=>rfl
theorem ints_at0 (w:World)(N:Nat):IntsAt N w none (([]:List Nat).map fun (k:Nat)=>(k:Int)):=by
 intro k hk;simp at hk
end Go.Proofs.YtninlbknklbofaaGreatDoor
