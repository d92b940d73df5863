/- A part of the proof: A part of the proof. -/
import Derived.Test.YtdfpkmfeldoamaaGreatDoorMem6
set_option linter.unusedSimpArgs false
set_option linter.unusedVariables false
set_option maxRecDepth 100000
set_option maxHeartbeats 4000000
namespace Go.Proofs.YtdfpkmfeldoamaaGreatDoor
section
open Go.RowKit Tn Lx
def Diag1 (w:World)(x:Nat)(cd:Int):Prop:=w.heap[x]? = some (.cells #[.int .i64 cd,.int .i64 0,.int .i64 0,.string ⟨#[]⟩] 43 (0,0))
theorem nil_end {w V:World}{b:Nat}{t:TypeId}{x y:Value}(kr:V.heap[b]? = some (.cells #[.slice none 0 0,.slice none 0 0] t (0,0)))(hB:Below w.heap.size w V)(hb:w.heap.size<=b):
  (((((V.setCell ⟨b,0,none⟩ x).setCell ⟨b,1,none⟩ y).alloc (.cells #[.int .i64 1,.int .i64 0,.int .i64 0,.string ⟨#[]⟩] 43)).alloc (.cells #[.int .i64 1,.int .i64 0,.int .i64 0,.string ⟨#[]⟩] 43)).drew).cell? ⟨b,0,none⟩=some x /\
  (((((V.setCell ⟨b,0,none⟩ x).setCell ⟨b,1,none⟩ y).alloc (.cells #[.int .i64 1,.int .i64 0,.int .i64 0,.string ⟨#[]⟩] 43)).alloc (.cells #[.int .i64 1,.int .i64 0,.int .i64 0,.string ⟨#[]⟩] 43)).drew).cell? ⟨b,1,none⟩=some y /\
  Below w.heap.size w (((((V.setCell ⟨b,0,none⟩ x).setCell ⟨b,1,none⟩ y).alloc (.cells #[.int .i64 1,.int .i64 0,.int .i64 0,.string ⟨#[]⟩] 43)).alloc (.cells #[.int .i64 1,.int .i64 0,.int .i64 0,.string ⟨#[]⟩] 43)).drew) /\
  Diag1 (((((V.setCell ⟨b,0,none⟩ x).setCell ⟨b,1,none⟩ y).alloc (.cells #[.int .i64 1,.int .i64 0,.int .i64 0,.string ⟨#[]⟩] 43)).alloc (.cells #[.int .i64 1,.int .i64 0,.int .i64 0,.string ⟨#[]⟩] 43)).drew) V.heap.size 1 /\
  Diag1 (((((V.setCell ⟨b,0,none⟩ x).setCell ⟨b,1,none⟩ y).alloc (.cells #[.int .i64 1,.int .i64 0,.int .i64 0,.string ⟨#[]⟩] 43)).alloc (.cells #[.int .i64 1,.int .i64 0,.int .i64 0,.string ⟨#[]⟩] 43)).drew) (V.heap.size+1) 1:=by
 have kM:=blk_set (blk_set kr 0 x) 1 y;have hBM:Below w.heap.size w ((V.setCell ⟨b,0,none⟩ x).setCell ⟨b,1,none⟩ y):=(hB.setCell hb x).setCell hb y;obtain ⟨M,hM⟩:∃ M,(V.setCell ⟨b,0,none⟩ x).setCell ⟨b,1,none⟩ y=M:=⟨_,rfl⟩;have hs:M.heap.size=V.heap.size:=by rw [<- hM];simp
 rw [hM] at kM hBM ⊢;rw [<- hs];have k1:((M.alloc (.cells #[.int .i64 1,.int .i64 0,.int .i64 0,.string ⟨#[]⟩] 43)).alloc (.cells #[.int .i64 1,.int .i64 0,.int .i64 0,.string ⟨#[]⟩] 43)).drew.heap[b]? = some (.cells ((#[.slice none 0 0,.slice none 0 0].setIfInBounds 0 x).setIfInBounds 1 y) t (0,0)):=blk_alloc (blk_alloc kM _) _;have d1:((M.alloc (.cells #[.int .i64 1,.int .i64 0,.int .i64 0,.string ⟨#[]⟩] 43)).alloc (.cells #[.int .i64 1,.int .i64 0,.int .i64 0,.string ⟨#[]⟩] 43)).drew.heap[M.heap.size]? = some (.cells #[.int .i64 1,.int .i64 0,.int .i64 0,.string ⟨#[]⟩] 43 (0,0)):=blk_alloc (blk_new M _) _;have d2:((M.alloc (.cells #[.int .i64 1,.int .i64 0,.int .i64 0,.string ⟨#[]⟩] 43)).alloc (.cells #[.int .i64 1,.int .i64 0,.int .i64 0,.string ⟨#[]⟩] 43)).drew.heap[M.heap.size+1]? = some (.cells #[.int .i64 1,.int .i64 0,.int .i64 0,.string ⟨#[]⟩] 43 (0,0)):=by
  have:=blk_new (M.alloc (.cells #[.int .i64 1,.int .i64 0,.int .i64 0,.string ⟨#[]⟩] 43)) (.cells #[.int .i64 1,.int .i64 0,.int .i64 0,.string ⟨#[]⟩] 43);rw [World.size_alloc] at this;exact this
 exact ⟨(blk_cell k1 0).trans rfl,(blk_cell k1 1).trans rfl,((hBM.alloc hBM.size _).alloc (by simp;exact Nat.le_trans hBM.size (Nat.le_succ _)) _).drew,d1,d2⟩
theorem scOf_nil (w:World)(a b:Option Addr)(h:a=none\/b=none):Calls Tryz.prog 8 #[.pointer a,.pointer b] w fun e w'=>∃ x y,e = .returned (.tuple #[.pointer none,.agg #[.slice (some ⟨x,0,none⟩) 1 1,.slice (some ⟨y,0,none⟩) 1 1]])/\Below w.heap.size w w'/\Diag1 w' x 1/\Diag1 w' y 1:=by
 obtain ⟨V,hV⟩:∃ V,(w.alloc (.cells #[.slice none 0 0,.slice none 0 0] 36)).alloc (.cells #[.int .i64 1,.int .i64 0,.int .i64 0,.string ⟨#[]⟩] 43)=V:=⟨_,rfl⟩;have hbV:Below w.heap.size w V:=by rw [<- hV];exact ((Below.refl _ w).alloc (Nat.le_refl _) _).alloc (by simp) _
 have kr:V.heap[w.heap.size]? = some (.cells #[.slice none 0 0,.slice none 0 0] 36 (0,0)):=by rw [<- hV];exact blk_alloc (blk_new w _) _
 have kd:V.heap[w.heap.size+1]? = some (.cells #[.int .i64 1,.int .i64 0,.int .i64 0,.string ⟨#[]⟩] 43 (0,0)):=by
  rw [<- hV];have:=blk_new (w.alloc (.cells #[.slice none 0 0,.slice none 0 0] 36)) (.cells #[.int .i64 1,.int .i64 0,.int .i64 0,.string ⟨#[]⟩] 43);rwa [World.size_alloc] at this
 have y0:V.cell? ⟨w.heap.size+1,0,none⟩=some (.int .i64 1):=(blk_cell kd 0).trans rfl;have y1:V.cell? ⟨w.heap.size+1,1,none⟩=some (.int .i64 0):=(blk_cell kd 1).trans rfl;have y2:V.cell? ⟨w.heap.size+1,2,none⟩=some (.int .i64 0):=(blk_cell kd 2).trans rfl;have y3:V.cell? ⟨w.heap.size+1,3,none⟩=some (.string ⟨#[]⟩):=(blk_cell kd 3).trans rfl;have y0':=fun o=>(World.cell?_alloc_lt V o _ (World.block_lt_of_cell? _ _ y0)).trans y0;have y1':=fun o=>(World.cell?_alloc_lt V o _ (World.block_lt_of_cell? _ _ y1)).trans y1;have y2':=fun o=>(World.cell?_alloc_lt V o _ (World.block_lt_of_cell? _ _ y2)).trans y2;have y3':=fun o=>(World.cell?_alloc_lt V o _ (World.block_lt_of_cell? _ _ y3)).trans y3;have z0:V.cell? ⟨w.heap.size,0,none⟩=some (.slice none 0 0):=(blk_cell kr 0).trans rfl;have z1:V.cell? ⟨w.heap.size,1,none⟩=some (.slice none 0 0):=(blk_cell kr 1).trans rfl;have zf:∀ i,V.frozen? ⟨w.heap.size,i,none⟩=false:=fun i=>blk_frozen kr i;have hsV:w.heap.size<V.heap.size:=lt_of_heap kr;have HV:=Lib.hid hV;have HB:=Lib.hid hbV;have HKR:=Lib.hid kr;clear hV hbV kr kd
 cases a with
 | none =>
  go_enter Tryz.func8,Tryz.ntmps8
  go_upto_region 7 with fail
  rw [HV.out]
  go_region
  all_goals
   go_wp2
   first
   | (obtain ⟨r0,r1,hbel,d1,d2⟩:=nil_end (x := .slice (some ⟨V.heap.size,0,none⟩) 1 1) (y := .slice (some ⟨V.heap.size+1,0,none⟩) 1 1) HKR.out HB.out (Nat.le_refl _);refine bodyPost_ret (v := .tuple #[.pointer none,.agg #[.slice (some ⟨V.heap.size,0,none⟩) 1 1,.slice (some ⟨V.heap.size+1,0,none⟩) 1 1]]) (by simp [results,Tryz.results8,go_sem,r0,r1]) rfl ⟨_,_,rfl,hbel,d1,d2⟩)
   | (obtain ⟨r0,r1,hbel,d1,d2⟩:=nil_end (x := .slice (some ⟨V.heap.size+1,0,none⟩) 1 1) (y := .slice (some ⟨V.heap.size,0,none⟩) 1 1) HKR.out HB.out (Nat.le_refl _);refine bodyPost_ret (v := .tuple #[.pointer none,.agg #[.slice (some ⟨V.heap.size+1,0,none⟩) 1 1,.slice (some ⟨V.heap.size,0,none⟩) 1 1]]) (by simp [results,Tryz.results8,go_sem,r0,r1]) rfl ⟨_,_,rfl,hbel,d2,d1⟩)
 | some a =>
  obtain rfl:b=none:=by rcases h with h | h;cases h;exact h
  go_enter Tryz.func8,Tryz.ntmps8
  go_upto_region 7 with fail
  rw [HV.out]
  go_region
  all_goals
   go_wp2
   first
   | (obtain ⟨r0,r1,hbel,d1,d2⟩:=nil_end (x := .slice (some ⟨V.heap.size,0,none⟩) 1 1) (y := .slice (some ⟨V.heap.size+1,0,none⟩) 1 1) HKR.out HB.out (Nat.le_refl _);refine bodyPost_ret (v := .tuple #[.pointer none,.agg #[.slice (some ⟨V.heap.size,0,none⟩) 1 1,.slice (some ⟨V.heap.size+1,0,none⟩) 1 1]]) (by simp [results,Tryz.results8,go_sem,r0,r1]) rfl ⟨_,_,rfl,hbel,d1,d2⟩)
   | (obtain ⟨r0,r1,hbel,d1,d2⟩:=nil_end (x := .slice (some ⟨V.heap.size+1,0,none⟩) 1 1) (y := .slice (some ⟨V.heap.size,0,none⟩) 1 1) HKR.out HB.out (Nat.le_refl _);refine bodyPost_ret (v := .tuple #[.pointer none,.agg #[.slice (some ⟨V.heap.size+1,0,none⟩) 1 1,.slice (some ⟨V.heap.size,0,none⟩) 1 1]]) (by simp [results,Tryz.results8,go_sem,r0,r1]) rfl ⟨_,_,rfl,hbel,d2,d1⟩)
theorem hasP_nil (w:World):Calls Tryz.prog 24 #[.pointer none] w fun e w'=>e = .returned (.bool false)/\w=w':=by
 go_enter Tryz.func24,Tryz.ntmps24
 go_wp2
 go_ret
 exact ⟨rfl,rfl⟩
theorem scIn_nil (w:World)(s:ByteArray):Calls Tryz.prog 9 #[.pointer none,.string s] w fun e w'=>e = .returned (.tuple #[.agg #[.int .i64 0,.int .i64 0],.bool false])/\Below w.heap.size w w':=by
 have kr:=blk_new w (.cells #[.int .i64 0,.int .i64 0] 45);have r0:(w.alloc (.cells #[.int .i64 0,.int .i64 0] 45)).cell? ⟨w.heap.size,0,none⟩=some (.int .i64 0):=(blk_cell kr 0).trans rfl;have r1:(w.alloc (.cells #[.int .i64 0,.int .i64 0] 45)).cell? ⟨w.heap.size,1,none⟩=some (.int .i64 0):=(blk_cell kr 1).trans rfl
 go_enter Tryz.func9,Tryz.ntmps9
 go_wp2_with fail
 refine (hasP_nil _).mono ?_;rintro e w1 ⟨rfl,rfl⟩
 go_wp2
 exact bodyPost_ret (v := .tuple #[.agg #[.int .i64 0,.int .i64 0],.bool false]) (by simp [results,Tryz.results9,go_sem,r0,r1]) rfl ⟨rfl,(Below.refl _ w).alloc (Nat.le_refl _) _⟩
theorem scGl_nil (w:World)(s:ByteArray):Calls Tryz.prog 10 #[.pointer none,.string s] w fun e w'=>e = .returned (.tuple #[.agg #[.int .i64 0,.int .i64 0],.bool false])/\Below w.heap.size w w':=by
 have kr:=blk_new w (.cells #[.int .i64 0,.int .i64 0] 45);have r0:(w.alloc (.cells #[.int .i64 0,.int .i64 0] 45)).cell? ⟨w.heap.size,0,none⟩=some (.int .i64 0):=(blk_cell kr 0).trans rfl;have r1:(w.alloc (.cells #[.int .i64 0,.int .i64 0] 45)).cell? ⟨w.heap.size,1,none⟩=some (.int .i64 0):=(blk_cell kr 1).trans rfl
 go_enter Tryz.func10,Tryz.ntmps10
 go_wp2_with fail
 refine (hasP_nil _).mono ?_;rintro e w1 ⟨rfl,rfl⟩
 go_wp2
 exact bodyPost_ret (v := .tuple #[.agg #[.int .i64 0,.int .i64 0],.bool false]) (by simp [results,Tryz.results10,go_sem,r0,r1]) rfl ⟨rfl,(Below.refl _ w).alloc (Nat.le_refl _) _⟩
theorem scCh_nil (w:World)(s:ByteArray):Calls Tryz.prog 11 #[.pointer none,.string s] w fun e w'=>e = .returned (.tuple #[.agg #[.int .i64 0,.int .i64 0],.bool false])/\Below w.heap.size w w':=by
 have kr:=blk_new w (.cells #[.int .i64 0,.int .i64 0] 45);have r0:(w.alloc (.cells #[.int .i64 0,.int .i64 0] 45)).cell? ⟨w.heap.size,0,none⟩=some (.int .i64 0):=(blk_cell kr 0).trans rfl;have r1:(w.alloc (.cells #[.int .i64 0,.int .i64 0] 45)).cell? ⟨w.heap.size,1,none⟩=some (.int .i64 0):=(blk_cell kr 1).trans rfl
 go_enter Tryz.func11,Tryz.ntmps11
 go_wp2_with fail
 refine (hasP_nil _).mono ?_;rintro e w1 ⟨rfl,rfl⟩
 go_wp2
 exact bodyPost_ret (v := .tuple #[.agg #[.int .i64 0,.int .i64 0],.bool false]) (by simp [results,Tryz.results11,go_sem,r0,r1]) rfl ⟨rfl,(Below.refl _ w).alloc (Nat.le_refl _) _⟩
theorem schat_nil (w:World)(s:ByteArray):Calls Tryz.prog 29 #[.pointer none,.string s] w fun e w'=>e = .returned (.tuple #[.agg #[.string ⟨#[]⟩,.int .i64 0,.int .i64 0,.int .i64 0,.string ⟨#[]⟩,.int .i64 0,.int .i64 0,.slice none 0 0],.bool false])/\Below w.heap.size w w':=by
 have kr:=blk_new w (.cells #[.string ⟨#[]⟩,.int .i64 0,.int .i64 0,.int .i64 0,.string ⟨#[]⟩,.int .i64 0,.int .i64 0,.slice none 0 0] 56);have r0:(w.alloc (.cells #[.string ⟨#[]⟩,.int .i64 0,.int .i64 0,.int .i64 0,.string ⟨#[]⟩,.int .i64 0,.int .i64 0,.slice none 0 0] 56)).cell? ⟨w.heap.size,0,none⟩=some (.string ⟨#[]⟩):=(blk_cell kr 0).trans rfl;have r1:(w.alloc (.cells #[.string ⟨#[]⟩,.int .i64 0,.int .i64 0,.int .i64 0,.string ⟨#[]⟩,.int .i64 0,.int .i64 0,.slice none 0 0] 56)).cell? ⟨w.heap.size,1,none⟩=some (.int .i64 0):=(blk_cell kr 1).trans rfl;have r2:(w.alloc (.cells #[.string ⟨#[]⟩,.int .i64 0,.int .i64 0,.int .i64 0,.string ⟨#[]⟩,.int .i64 0,.int .i64 0,.slice none 0 0] 56)).cell? ⟨w.heap.size,2,none⟩=some (.int .i64 0):=(blk_cell kr 2).trans rfl;have r3:(w.alloc (.cells #[.string ⟨#[]⟩,.int .i64 0,.int .i64 0,.int .i64 0,.string ⟨#[]⟩,.int .i64 0,.int .i64 0,.slice none 0 0] 56)).cell? ⟨w.heap.size,3,none⟩=some (.int .i64 0):=(blk_cell kr 3).trans rfl;have r4:(w.alloc (.cells #[.string ⟨#[]⟩,.int .i64 0,.int .i64 0,.int .i64 0,.string ⟨#[]⟩,.int .i64 0,.int .i64 0,.slice none 0 0] 56)).cell? ⟨w.heap.size,4,none⟩=some (.string ⟨#[]⟩):=(blk_cell kr 4).trans rfl;have r5:(w.alloc (.cells #[.string ⟨#[]⟩,.int .i64 0,.int .i64 0,.int .i64 0,.string ⟨#[]⟩,.int .i64 0,.int .i64 0,.slice none 0 0] 56)).cell? ⟨w.heap.size,5,none⟩=some (.int .i64 0):=(blk_cell kr 5).trans rfl;have r6:(w.alloc (.cells #[.string ⟨#[]⟩,.int .i64 0,.int .i64 0,.int .i64 0,.string ⟨#[]⟩,.int .i64 0,.int .i64 0,.slice none 0 0] 56)).cell? ⟨w.heap.size,6,none⟩=some (.int .i64 0):=(blk_cell kr 6).trans rfl;have r7:(w.alloc (.cells #[.string ⟨#[]⟩,.int .i64 0,.int .i64 0,.int .i64 0,.string ⟨#[]⟩,.int .i64 0,.int .i64 0,.slice none 0 0] 56)).cell? ⟨w.heap.size,7,none⟩=some (.slice none 0 0):=(blk_cell kr 7).trans rfl
 go_enter Tryz.func29,Tryz.ntmps29
 go_wp2
 exact bodyPost_ret (v := .tuple #[.agg #[.string ⟨#[]⟩,.int .i64 0,.int .i64 0,.int .i64 0,.string ⟨#[]⟩,.int .i64 0,.int .i64 0,.slice none 0 0],.bool false]) (by simp [results,Tryz.results29,go_sem,r0,r1,r2,r3,r4,r5,r6,r7]) rfl ⟨rfl,(Below.refl _ w).alloc (Nat.le_refl _) _⟩
theorem scFun_nil (w:World)(s:ByteArray):Calls Tryz.prog 12 #[.pointer none,.string s] w fun e w'=>e = .returned (.tuple #[.agg #[.string ⟨#[]⟩,.int .i64 0,.int .i64 0,.slice none 0 0,.int .i64 0],.bool false])/\Below w.heap.size w w':=by
 have kr:=blk_new w (.cells #[.string ⟨#[]⟩,.int .i64 0,.int .i64 0,.slice none 0 0,.int .i64 0] 52);have r0:(w.alloc (.cells #[.string ⟨#[]⟩,.int .i64 0,.int .i64 0,.slice none 0 0,.int .i64 0] 52)).cell? ⟨w.heap.size,0,none⟩=some (.string ⟨#[]⟩):=(blk_cell kr 0).trans rfl;have r1:(w.alloc (.cells #[.string ⟨#[]⟩,.int .i64 0,.int .i64 0,.slice none 0 0,.int .i64 0] 52)).cell? ⟨w.heap.size,1,none⟩=some (.int .i64 0):=(blk_cell kr 1).trans rfl;have r2:(w.alloc (.cells #[.string ⟨#[]⟩,.int .i64 0,.int .i64 0,.slice none 0 0,.int .i64 0] 52)).cell? ⟨w.heap.size,2,none⟩=some (.int .i64 0):=(blk_cell kr 2).trans rfl;have r3:(w.alloc (.cells #[.string ⟨#[]⟩,.int .i64 0,.int .i64 0,.slice none 0 0,.int .i64 0] 52)).cell? ⟨w.heap.size,3,none⟩=some (.slice none 0 0):=(blk_cell kr 3).trans rfl;have r4:(w.alloc (.cells #[.string ⟨#[]⟩,.int .i64 0,.int .i64 0,.slice none 0 0,.int .i64 0] 52)).cell? ⟨w.heap.size,4,none⟩=some (.int .i64 0):=(blk_cell kr 4).trans rfl
 go_enter Tryz.func12,Tryz.ntmps12
 go_wp2_with fail
 refine (hasP_nil _).mono ?_;rintro e w1 ⟨rfl,rfl⟩
 go_wp2
 exact bodyPost_ret (v := .tuple #[.agg #[.string ⟨#[]⟩,.int .i64 0,.int .i64 0,.slice none 0 0,.int .i64 0],.bool false]) (by simp [results,Tryz.results12,go_sem,r0,r1,r2,r3,r4]) rfl ⟨rfl,(Below.refl _ w).alloc (Nat.le_refl _) _⟩
theorem scIs_nil (w:World)(s:ByteArray)(a:Value)(i:Int):Calls Tryz.prog 15 #[.pointer none,.string s,a,.int .i64 i] w fun e w'=>e = .returned (.bool false)/\Below w.heap.size w w':=by
 go_enter Tryz.func15,Tryz.ntmps15
 go_wp2_with fail
 refine (schat_nil _ _).mono ?_;rintro e w1 ⟨rfl,hb⟩;have HB:=Lib.hid (fun o=>hb.alloc hb.size o);clear hb
 go_wp2_with fail
 go_region
 all_goals
  go_wp2
  go_ret
  exact ⟨rfl,(HB.out _).drew⟩
theorem scHat_nil (w:World)(s:ByteArray):Calls Tryz.prog 13 #[.pointer none,.string s] w fun e w'=>e = .returned (.tuple #[.agg #[.string ⟨#[]⟩,.int .i64 0,.int .i64 0,.int .i64 0,.string ⟨#[]⟩,.int .i64 0,.int .i64 0,.slice none 0 0],.agg #[.int .i64 0,.int .i64 0],.agg #[.int .i64 0,.int .i64 0],.bool false])/\Below w.heap.size w w':=by
 obtain ⟨V,hV⟩:∃ V,((w.alloc (.cells #[.string ⟨#[]⟩,.int .i64 0,.int .i64 0,.int .i64 0,.string ⟨#[]⟩,.int .i64 0,.int .i64 0,.slice none 0 0] 56)).alloc (.cells #[.int .i64 0,.int .i64 0] 45)).alloc (.cells #[.int .i64 0,.int .i64 0] 45)=V:=⟨_,rfl⟩;have hbV:Below w.heap.size w V:=by rw [<- hV];exact (((Below.refl _ w).alloc (Nat.le_refl _) _).alloc (by simp) _).alloc (by simp;omega) _
 have k0:V.heap[w.heap.size]? = some (.cells #[.string ⟨#[]⟩,.int .i64 0,.int .i64 0,.int .i64 0,.string ⟨#[]⟩,.int .i64 0,.int .i64 0,.slice none 0 0] 56 (0,0)):=by rw [<- hV];exact blk_alloc (blk_alloc (blk_new w _) _) _
 have k1:V.heap[w.heap.size+1]? = some (.cells #[.int .i64 0,.int .i64 0] 45 (0,0)):=by
  rw [<- hV];refine blk_alloc ?_ _;have:=blk_new (w.alloc (.cells #[.string ⟨#[]⟩,.int .i64 0,.int .i64 0,.int .i64 0,.string ⟨#[]⟩,.int .i64 0,.int .i64 0,.slice none 0 0] 56)) (.cells #[.int .i64 0,.int .i64 0] 45);rwa [World.size_alloc] at this
 have k2:V.heap[w.heap.size+1+1]? = some (.cells #[.int .i64 0,.int .i64 0] 45 (0,0)):=by
  rw [<- hV];have:=blk_new ((w.alloc (.cells #[.string ⟨#[]⟩,.int .i64 0,.int .i64 0,.int .i64 0,.string ⟨#[]⟩,.int .i64 0,.int .i64 0,.slice none 0 0] 56)).alloc (.cells #[.int .i64 0,.int .i64 0] 45)) (.cells #[.int .i64 0,.int .i64 0] 45);rwa [World.size_alloc,World.size_alloc] at this
 have HV:=Lib.hid hV;have HB:=Lib.hid hbV;have HK0:=Lib.hid k0;have HK1:=Lib.hid k1;have HK2:=Lib.hid k2;clear hV hbV k0 k1 k2
 go_enter Tryz.func13,Tryz.ntmps13
 go_wp2_with fail
 rw [HV.out];refine (schat_nil _ _).mono ?_;rintro e w1 ⟨rfl,hb⟩;obtain ⟨W,hW⟩:∃ W,w1.alloc (.cells #[.string ⟨#[]⟩,.int .i64 0,.int .i64 0,.int .i64 0,.string ⟨#[]⟩,.int .i64 0,.int .i64 0,.slice none 0 0] 56)=W:=⟨_,rfl⟩;have hbW:Below w1.heap.size w1 W:=by rw [<- hW];exact (Below.refl _ w1).alloc (Nat.le_refl _) _
 have hb2:=hb.trans (hbW.mono hb.size);have k0:=(hb2.block _ (lt_of_heap HK0.out)).trans HK0.out;have k1:=(hb2.block _ (lt_of_heap HK1.out)).trans HK1.out;have k2:=(hb2.block _ (lt_of_heap HK2.out)).trans HK2.out;have hbw:=HB.out.trans (hb2.mono HB.out.size);have x0:W.cell? ⟨w.heap.size,0,none⟩=some (.string ⟨#[]⟩):=(blk_cell k0 0).trans rfl;have x1:W.cell? ⟨w.heap.size,1,none⟩=some (.int .i64 0):=(blk_cell k0 1).trans rfl;have x2:W.cell? ⟨w.heap.size,2,none⟩=some (.int .i64 0):=(blk_cell k0 2).trans rfl;have x3:W.cell? ⟨w.heap.size,3,none⟩=some (.int .i64 0):=(blk_cell k0 3).trans rfl;have x4:W.cell? ⟨w.heap.size,4,none⟩=some (.string ⟨#[]⟩):=(blk_cell k0 4).trans rfl;have x5:W.cell? ⟨w.heap.size,5,none⟩=some (.int .i64 0):=(blk_cell k0 5).trans rfl;have x6:W.cell? ⟨w.heap.size,6,none⟩=some (.int .i64 0):=(blk_cell k0 6).trans rfl;have x7:W.cell? ⟨w.heap.size,7,none⟩=some (.slice none 0 0):=(blk_cell k0 7).trans rfl;have y0:W.cell? ⟨w.heap.size+1,0,none⟩=some (.int .i64 0):=(blk_cell k1 0).trans rfl;have y1:W.cell? ⟨w.heap.size+1,1,none⟩=some (.int .i64 0):=(blk_cell k1 1).trans rfl;have z0:W.cell? ⟨w.heap.size+1+1,0,none⟩=some (.int .i64 0):=(blk_cell k2 0).trans rfl;have z1:W.cell? ⟨w.heap.size+1+1,1,none⟩=some (.int .i64 0):=(blk_cell k2 1).trans rfl;have f0:∀ i,W.frozen? ⟨w.heap.size,i,none⟩=false:=fun i=>blk_frozen k0 i;have f1:∀ i,W.frozen? ⟨w.heap.size+1,i,none⟩=false:=fun i=>blk_frozen k1 i;have f2:∀ i,W.frozen? ⟨w.heap.size+1+1,i,none⟩=false:=fun i=>blk_frozen k2 i;rw [<- hW] at f0 f1 f2 x0 x1 x2 x3 x4 x5 x6 x7 y0 y1 z0 z1;have HBW:=Lib.hid hbw;have HL0:=Lib.hid k0;have HL1:=Lib.hid k1;have HL2:=Lib.hid k2;have HW:=Lib.hid hW;clear hb hb2 hbW hbw k0 k1 k2 hW
 go_wp2
 rw [HW.out];obtain ⟨A,hA⟩:∃ A,((((((((W.setCell ⟨w.heap.size,0,none⟩ (.string ⟨#[]⟩)).setCell ⟨w.heap.size,1,none⟩ (.int .i64 0)).setCell ⟨w.heap.size,2,none⟩ (.int .i64 0)).setCell ⟨w.heap.size,3,none⟩ (.int .i64 0)).setCell ⟨w.heap.size,4,none⟩ (.string ⟨#[]⟩)).setCell ⟨w.heap.size,5,none⟩ (.int .i64 0)).setCell ⟨w.heap.size,6,none⟩ (.int .i64 0)).setCell ⟨w.heap.size,7,none⟩ (.slice none 0 0))=A:=⟨_,rfl⟩;have kA:A.heap[w.heap.size]? = some (.cells #[.string ⟨#[]⟩,.int .i64 0,.int .i64 0,.int .i64 0,.string ⟨#[]⟩,.int .i64 0,.int .i64 0,.slice none 0 0] 56 (0,0)):=by rw [<- hA];exact (blk_set (blk_set (blk_set (blk_set (blk_set (blk_set (blk_set (blk_set HL0.out 0 (.string ⟨#[]⟩)) 1 (.int .i64 0)) 2 (.int .i64 0)) 3 (.int .i64 0)) 4 (.string ⟨#[]⟩)) 5 (.int .i64 0)) 6 (.int .i64 0)) 7 (.slice none 0 0)).trans rfl
 have hAb:But (fun k=>k=w.heap.size) W A:=by
  rw [<- hA];exact ((((((((But.setCell (p:=fun k=>k=w.heap.size) W rfl 0 _)).trans (But.setCell (p:=fun k=>k=w.heap.size) _ rfl 1 _)).trans (But.setCell (p:=fun k=>k=w.heap.size) _ rfl 2 _)).trans (But.setCell (p:=fun k=>k=w.heap.size) _ rfl 3 _)).trans (But.setCell (p:=fun k=>k=w.heap.size) _ rfl 4 _)).trans (But.setCell (p:=fun k=>k=w.heap.size) _ rfl 5 _)).trans (But.setCell (p:=fun k=>k=w.heap.size) _ rfl 6 _)).trans (But.setCell (p:=fun k=>k=w.heap.size) _ rfl 7 _)
 have kA1:=hAb.heap HL1.out (by omega);have kA2:=hAb.heap HL2.out (by omega);have hbA:Below w.heap.size w A:=by
  rw [<- hA];exact ((((((((HBW.out.setCell (Nat.le_refl _) _).setCell (Nat.le_refl _) _).setCell (Nat.le_refl _) _).setCell (Nat.le_refl _) _).setCell (Nat.le_refl _) _).setCell (Nat.le_refl _) _).setCell (Nat.le_refl _) _).setCell (Nat.le_refl _) _)
 rw [hA];obtain ⟨F,hF⟩:∃ F,(((A.setCell ⟨w.heap.size+1,0,none⟩ (.int .i64 0)).setCell ⟨w.heap.size+1,1,none⟩ (.int .i64 0)).setCell ⟨w.heap.size+1+1,0,none⟩ (.int .i64 0)).setCell ⟨w.heap.size+1+1,1,none⟩ (.int .i64 0)=F:=⟨_,rfl⟩;have hB1:But (fun k=>k=w.heap.size+1) A ((A.setCell ⟨w.heap.size+1,0,none⟩ (.int .i64 0)).setCell ⟨w.heap.size+1,1,none⟩ (.int .i64 0)):=(But.setCell (p:=fun k=>k=w.heap.size+1) A rfl 0 _).trans (But.setCell (p:=fun k=>k=w.heap.size+1) _ rfl 1 _);have hB2:But (fun k=>k=w.heap.size+1+1) ((A.setCell ⟨w.heap.size+1,0,none⟩ (.int .i64 0)).setCell ⟨w.heap.size+1,1,none⟩ (.int .i64 0)) F:=by
  rw [<- hF];exact (But.setCell (p:=fun k=>k=w.heap.size+1+1) _ rfl 0 _).trans (But.setCell (p:=fun k=>k=w.heap.size+1+1) _ rfl 1 _)
 have kF0:=hB2.heap (hB1.heap kA (by omega)) (by omega);have kF1:=hB2.heap (blk_set (blk_set kA1 0 (.int .i64 0)) 1 (.int .i64 0)) (by omega);have kF2:F.heap[w.heap.size+1+1]? = some (.cells #[.int .i64 0,.int .i64 0] 45 (0,0)):=by
  rw [<- hF];exact (blk_set (blk_set (hB1.heap kA2 (by omega)) 0 (.int .i64 0)) 1 (.int .i64 0)).trans rfl
 have hbF:Below w.heap.size w F:=by
  rw [<- hF];exact (((hbA.setCell (by simp only;omega) _).setCell (by simp only;omega) _).setCell (by simp only;omega) _).setCell (by simp only;omega) _
 rw [hF];have r0:F.cell? ⟨w.heap.size,0,none⟩=some (.string ⟨#[]⟩):=(blk_cell kF0 0).trans rfl;have r1:F.cell? ⟨w.heap.size,1,none⟩=some (.int .i64 0):=(blk_cell kF0 1).trans rfl;have r2:F.cell? ⟨w.heap.size,2,none⟩=some (.int .i64 0):=(blk_cell kF0 2).trans rfl;have r3:F.cell? ⟨w.heap.size,3,none⟩=some (.int .i64 0):=(blk_cell kF0 3).trans rfl;have r4:F.cell? ⟨w.heap.size,4,none⟩=some (.string ⟨#[]⟩):=(blk_cell kF0 4).trans rfl;have r5:F.cell? ⟨w.heap.size,5,none⟩=some (.int .i64 0):=(blk_cell kF0 5).trans rfl;have r6:F.cell? ⟨w.heap.size,6,none⟩=some (.int .i64 0):=(blk_cell kF0 6).trans rfl;have r7:F.cell? ⟨w.heap.size,7,none⟩=some (.slice none 0 0):=(blk_cell kF0 7).trans rfl;have p0:F.cell? ⟨w.heap.size+1,0,none⟩=some (.int .i64 0):=(blk_cell kF1 0).trans rfl;have p1:F.cell? ⟨w.heap.size+1,1,none⟩=some (.int .i64 0):=(blk_cell kF1 1).trans rfl;have q0:F.cell? ⟨w.heap.size+1+1,0,none⟩=some (.int .i64 0):=(blk_cell kF2 0).trans rfl;have q1:F.cell? ⟨w.heap.size+1+1,1,none⟩=some (.int .i64 0):=(blk_cell kF2 1).trans rfl;exact bodyPost_ret (v := .tuple #[.agg #[.string ⟨#[]⟩,.int .i64 0,.int .i64 0,.int .i64 0,.string ⟨#[]⟩,.int .i64 0,.int .i64 0,.slice none 0 0],.agg #[.int .i64 0,.int .i64 0],.agg #[.int .i64 0,.int .i64 0],.bool false]) (by simp [results,Tryz.results13,go_sem,r0,r1,r2,r3,r4,r5,r6,r7,p0,p1,q0,q1]) rfl ⟨rfl,hbF⟩
end
section
open Go.RowKit Tn Lx
theorem eqd_one (w:World)(x y:Nat)(cd:Int)(hx:Diag1 w x cd)(hy:Diag1 w y cd):Calls Tryz.prog 14 #[.slice (some ⟨x,0,none⟩) 1 1,.slice (some ⟨y,0,none⟩) 1 1] w fun e w'=>e = .returned (.bool true)/\Below w.heap.size w w':=by
 unfold Diag1 at hx hy;have x0:w.cell? ⟨x,0,none⟩=some (.int .i64 cd):=(blk_cell hx 0).trans rfl;have x1:w.cell? ⟨x,1,none⟩=some (.int .i64 0):=(blk_cell hx 1).trans rfl;have x2:w.cell? ⟨x,2,none⟩=some (.int .i64 0):=(blk_cell hx 2).trans rfl;have x3:w.cell? ⟨x,3,none⟩=some (.string ⟨#[]⟩):=(blk_cell hx 3).trans rfl;have y0:w.cell? ⟨y,0,none⟩=some (.int .i64 cd):=(blk_cell hy 0).trans rfl;have y1:w.cell? ⟨y,1,none⟩=some (.int .i64 0):=(blk_cell hy 1).trans rfl;have y2:w.cell? ⟨y,2,none⟩=some (.int .i64 0):=(blk_cell hy 2).trans rfl;have y3:w.cell? ⟨y,3,none⟩=some (.string ⟨#[]⟩):=(blk_cell hy 3).trans rfl
 go_enter Tryz.func14,Tryz.ntmps14
 go_wp2_with fail
 refine wp_loop_rounds 2 ?_;rw [rounds_succ]
 go_upto_region 9 with fail
 go_region
 all_goals
  go_wp2_with fail
  rw [rounds_succ]
  go_wp2
  go_ret
  exact ⟨rfl,(Below.refl _ w).drew⟩
end
end Go.Proofs.YtdfpkmfeldoamaaGreatDoor
