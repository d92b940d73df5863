/- A part of the proof: How many bytes the code point has that comes: the document's own walk. -/
import Derived.Test.YtninlbknklbofaaGreatDoorLPoint
import Derived.Lib.DecodeN
import Derived.LoopN
set_option linter.unusedSimpArgs false
set_option linter.unusedVariables false
set_option maxRecDepth 100000
set_option maxHeartbeats 2000000
namespace Go.Proofs.YtninlbknklbofaaGreatDoor
open Go.RowKit
theorem mo (s:ByteArray)(i lo hi:Nat)(b:Bool)(h:moreL s.data.toList i lo hi=b)(w:World):Calls Tryz.prog 131 #[.string s,.int .i64 (i:Int),.int .u8 (lo:Int),.int .u8 (hi:Int)] w fun e w'=>e = .returned (.bool b)/\w=w':=by
 have:=more_any s i lo hi w;rw [moreB_L,h] at this;exact this
theorem rpoint_C2 (s:ByteArray)(w:World)(hne:0<s.size)(z:Nat)(hz:((s[0]'hne).toNat)=z)(hc:194<=z/\z<=223)(b1 b2 b3:Bool)(h1:moreL s.data.toList 1 128 191=b1)(h2:moreL s.data.toList 2 128 191=b2)(h3:moreL s.data.toList 3 128 191=b3):
  Calls Tryz.prog 111 #[.string s] w fun e w'=>e = .returned (.int .i64 ((if b1 && ((decide (2<=2) || b2) && (decide (2<=3) || b3)) then 2 else 0:Nat):Int))/\w=w':=by
 have m1:∀ w,Calls Tryz.prog 131 #[.string s,.int .i64 1,.int .u8 128,.int .u8 191] w fun e w'=>e = .returned (.bool b1)/\w=w':=mo s 1 128 191 b1 h1;have m2:∀ w,Calls Tryz.prog 131 #[.string s,.int .i64 2,.int .u8 128,.int .u8 191] w fun e w'=>e = .returned (.bool b2)/\w=w':=mo s 2 128 191 b2 h2;have m3:∀ w,Calls Tryz.prog 131 #[.string s,.int .i64 3,.int .u8 128,.int .u8 191] w fun e w'=>e = .returned (.bool b3)/\w=w':=mo s 3 128 191 b3 h3;have M1:=Lib.hid m1;have M2:=Lib.hid m2;have M3:=Lib.hid m3;clear h1 h2 h3 m1 m2 m3;generalize hX:s[0]'hne=c at *;have a1:decide ((c.toNat:Int)<128)=false:=by simp;omega
 have q1:((c.toNat:Int)==224)=false:=by simp;omega
 have q2:((c.toNat:Int)==237)=false:=by simp;omega
 have q3:((c.toNat:Int)==240)=false:=by simp;omega
 have q4:((c.toNat:Int)==244)=false:=by simp;omega
 have r1:decide (194<=(c.toNat:Int))=true:=by simp;omega
 have r2:decide ((c.toNat:Int)<=223)=true:=by simp;omega
 have r3:decide (224<=(c.toNat:Int))=false:=by simp;omega
 have r5:decide (240<=(c.toNat:Int))=false:=by simp;omega
 clear hz hc
 cases b1
 ·go_enter Tryz.func111,Tryz.ntmps111
  go_wp2
  refine wp_loop_rounds 2 ?_;rw [rounds_succ]
  go_wp2_with fail
  refine (M1.out _).mono ?_;rintro e w' ⟨rfl,rfl⟩
  go_wp2
  go_ret;exact ⟨rfl,rfl⟩
 ·go_enter Tryz.func111,Tryz.ntmps111
  go_wp2
  refine wp_loop_rounds 2 ?_;rw [rounds_succ]
  go_wp2_with fail
  refine (M1.out _).mono ?_;rintro e w' ⟨rfl,rfl⟩
  go_wp2
  rw [rounds_succ]
  go_wp2
  go_ret;exact ⟨rfl,rfl⟩
theorem rpoint_E0 (s:ByteArray)(w:World)(hne:0<s.size)(z:Nat)(hz:((s[0]'hne).toNat)=z)(hc:z=224)(b1 b2 b3:Bool)(h1:moreL s.data.toList 1 160 191=b1)(h2:moreL s.data.toList 2 128 191=b2)(h3:moreL s.data.toList 3 128 191=b3):
  Calls Tryz.prog 111 #[.string s] w fun e w'=>e = .returned (.int .i64 ((if b1 && ((decide (3<=2) || b2) && (decide (3<=3) || b3)) then 3 else 0:Nat):Int))/\w=w':=by
 have m1:∀ w,Calls Tryz.prog 131 #[.string s,.int .i64 1,.int .u8 160,.int .u8 191] w fun e w'=>e = .returned (.bool b1)/\w=w':=mo s 1 160 191 b1 h1;have m2:∀ w,Calls Tryz.prog 131 #[.string s,.int .i64 2,.int .u8 128,.int .u8 191] w fun e w'=>e = .returned (.bool b2)/\w=w':=mo s 2 128 191 b2 h2;have m3:∀ w,Calls Tryz.prog 131 #[.string s,.int .i64 3,.int .u8 128,.int .u8 191] w fun e w'=>e = .returned (.bool b3)/\w=w':=mo s 3 128 191 b3 h3;have M1:=Lib.hid m1;have M2:=Lib.hid m2;have M3:=Lib.hid m3;clear h1 h2 h3 m1 m2 m3;generalize hX:s[0]'hne=c at *;have hzz:(c.toNat:Int)=224:=by omega
 clear hz hc
 cases b1
 ·go_enter Tryz.func111,Tryz.ntmps111
  go_wp2
  refine wp_loop_rounds 3 ?_;rw [rounds_succ]
  go_wp2_with fail
  refine (M1.out _).mono ?_;rintro e w' ⟨rfl,rfl⟩
  go_wp2
  go_ret;exact ⟨rfl,rfl⟩
 ·cases b2
  ·go_enter Tryz.func111,Tryz.ntmps111
   go_wp2
   refine wp_loop_rounds 3 ?_;rw [rounds_succ]
   go_wp2_with fail
   refine (M1.out _).mono ?_;rintro e w' ⟨rfl,rfl⟩
   go_wp2
   rw [rounds_succ]
   go_wp2_with fail
   refine (M2.out _).mono ?_;rintro e w' ⟨rfl,rfl⟩
   go_wp2
   go_ret;exact ⟨rfl,rfl⟩
  ·go_enter Tryz.func111,Tryz.ntmps111
   go_wp2
   refine wp_loop_rounds 3 ?_;rw [rounds_succ]
   go_wp2_with fail
   refine (M1.out _).mono ?_;rintro e w' ⟨rfl,rfl⟩
   go_wp2
   rw [rounds_succ]
   go_wp2_with fail
   refine (M2.out _).mono ?_;rintro e w' ⟨rfl,rfl⟩
   go_wp2
   rw [rounds_succ]
   go_wp2
   go_ret;exact ⟨rfl,rfl⟩
theorem rpoint_E1 (s:ByteArray)(w:World)(hne:0<s.size)(z:Nat)(hz:((s[0]'hne).toNat)=z)(hc:(225<=z/\z<237)\/(238<=z/\z<240))(b1 b2 b3:Bool)(h1:moreL s.data.toList 1 128 191=b1)(h2:moreL s.data.toList 2 128 191=b2)(h3:moreL s.data.toList 3 128 191=b3):
  Calls Tryz.prog 111 #[.string s] w fun e w'=>e = .returned (.int .i64 ((if b1 && ((decide (3<=2) || b2) && (decide (3<=3) || b3)) then 3 else 0:Nat):Int))/\w=w':=by
 have m1:∀ w,Calls Tryz.prog 131 #[.string s,.int .i64 1,.int .u8 128,.int .u8 191] w fun e w'=>e = .returned (.bool b1)/\w=w':=mo s 1 128 191 b1 h1;have m2:∀ w,Calls Tryz.prog 131 #[.string s,.int .i64 2,.int .u8 128,.int .u8 191] w fun e w'=>e = .returned (.bool b2)/\w=w':=mo s 2 128 191 b2 h2;have m3:∀ w,Calls Tryz.prog 131 #[.string s,.int .i64 3,.int .u8 128,.int .u8 191] w fun e w'=>e = .returned (.bool b3)/\w=w':=mo s 3 128 191 b3 h3;have M1:=Lib.hid m1;have M2:=Lib.hid m2;have M3:=Lib.hid m3;clear h1 h2 h3 m1 m2 m3;generalize hX:s[0]'hne=c at *;have a1:decide ((c.toNat:Int)<128)=false:=by simp;omega
 have q1:((c.toNat:Int)==224)=false:=by simp;omega
 have q2:((c.toNat:Int)==237)=false:=by simp;omega
 have q3:((c.toNat:Int)==240)=false:=by simp;omega
 have q4:((c.toNat:Int)==244)=false:=by simp;omega
 have r1:decide (194<=(c.toNat:Int))=true:=by simp;omega
 have r2:decide ((c.toNat:Int)<=223)=false:=by simp;omega
 have r3:decide (224<=(c.toNat:Int))=true:=by simp;omega
 have r4:decide ((c.toNat:Int)<=239)=true:=by simp;omega
 have r5:decide (240<=(c.toNat:Int))=false:=by simp;omega
 clear hz hc
 cases b1
 ·go_enter Tryz.func111,Tryz.ntmps111
  go_wp2
  refine wp_loop_rounds 3 ?_;rw [rounds_succ]
  go_wp2_with fail
  refine (M1.out _).mono ?_;rintro e w' ⟨rfl,rfl⟩
  go_wp2
  go_ret;exact ⟨rfl,rfl⟩
 ·cases b2
  ·go_enter Tryz.func111,Tryz.ntmps111
   go_wp2
   refine wp_loop_rounds 3 ?_;rw [rounds_succ]
   go_wp2_with fail
   refine (M1.out _).mono ?_;rintro e w' ⟨rfl,rfl⟩
   go_wp2
   rw [rounds_succ]
   go_wp2_with fail
   refine (M2.out _).mono ?_;rintro e w' ⟨rfl,rfl⟩
   go_wp2
   go_ret;exact ⟨rfl,rfl⟩
  ·go_enter Tryz.func111,Tryz.ntmps111
   go_wp2
   refine wp_loop_rounds 3 ?_;rw [rounds_succ]
   go_wp2_with fail
   refine (M1.out _).mono ?_;rintro e w' ⟨rfl,rfl⟩
   go_wp2
   rw [rounds_succ]
   go_wp2_with fail
   refine (M2.out _).mono ?_;rintro e w' ⟨rfl,rfl⟩
   go_wp2
   rw [rounds_succ]
   go_wp2
   go_ret;exact ⟨rfl,rfl⟩
theorem rpoint_ED (s:ByteArray)(w:World)(hne:0<s.size)(z:Nat)(hz:((s[0]'hne).toNat)=z)(hc:z=237)(b1 b2 b3:Bool)(h1:moreL s.data.toList 1 128 159=b1)(h2:moreL s.data.toList 2 128 191=b2)(h3:moreL s.data.toList 3 128 191=b3):
  Calls Tryz.prog 111 #[.string s] w fun e w'=>e = .returned (.int .i64 ((if b1 && ((decide (3<=2) || b2) && (decide (3<=3) || b3)) then 3 else 0:Nat):Int))/\w=w':=by
 have m1:∀ w,Calls Tryz.prog 131 #[.string s,.int .i64 1,.int .u8 128,.int .u8 159] w fun e w'=>e = .returned (.bool b1)/\w=w':=mo s 1 128 159 b1 h1;have m2:∀ w,Calls Tryz.prog 131 #[.string s,.int .i64 2,.int .u8 128,.int .u8 191] w fun e w'=>e = .returned (.bool b2)/\w=w':=mo s 2 128 191 b2 h2;have m3:∀ w,Calls Tryz.prog 131 #[.string s,.int .i64 3,.int .u8 128,.int .u8 191] w fun e w'=>e = .returned (.bool b3)/\w=w':=mo s 3 128 191 b3 h3;have M1:=Lib.hid m1;have M2:=Lib.hid m2;have M3:=Lib.hid m3;clear h1 h2 h3 m1 m2 m3;generalize hX:s[0]'hne=c at *;have hzz:(c.toNat:Int)=237:=by omega
 clear hz hc
 cases b1
 ·go_enter Tryz.func111,Tryz.ntmps111
  go_wp2
  refine wp_loop_rounds 3 ?_;rw [rounds_succ]
  go_wp2_with fail
  refine (M1.out _).mono ?_;rintro e w' ⟨rfl,rfl⟩
  go_wp2
  go_ret;exact ⟨rfl,rfl⟩
 ·cases b2
  ·go_enter Tryz.func111,Tryz.ntmps111
   go_wp2
   refine wp_loop_rounds 3 ?_;rw [rounds_succ]
   go_wp2_with fail
   refine (M1.out _).mono ?_;rintro e w' ⟨rfl,rfl⟩
   go_wp2
   rw [rounds_succ]
   go_wp2_with fail
   refine (M2.out _).mono ?_;rintro e w' ⟨rfl,rfl⟩
   go_wp2
   go_ret;exact ⟨rfl,rfl⟩
  ·go_enter Tryz.func111,Tryz.ntmps111
   go_wp2
   refine wp_loop_rounds 3 ?_;rw [rounds_succ]
   go_wp2_with fail
   refine (M1.out _).mono ?_;rintro e w' ⟨rfl,rfl⟩
   go_wp2
   rw [rounds_succ]
   go_wp2_with fail
   refine (M2.out _).mono ?_;rintro e w' ⟨rfl,rfl⟩
   go_wp2
   rw [rounds_succ]
   go_wp2
   go_ret;exact ⟨rfl,rfl⟩
theorem rpoint_F0 (s:ByteArray)(w:World)(hne:0<s.size)(z:Nat)(hz:((s[0]'hne).toNat)=z)(hc:z=240)(b1 b2 b3:Bool)(h1:moreL s.data.toList 1 144 191=b1)(h2:moreL s.data.toList 2 128 191=b2)(h3:moreL s.data.toList 3 128 191=b3):
  Calls Tryz.prog 111 #[.string s] w fun e w'=>e = .returned (.int .i64 ((if b1 && ((decide (4<=2) || b2) && (decide (4<=3) || b3)) then 4 else 0:Nat):Int))/\w=w':=by
 have m1:∀ w,Calls Tryz.prog 131 #[.string s,.int .i64 1,.int .u8 144,.int .u8 191] w fun e w'=>e = .returned (.bool b1)/\w=w':=mo s 1 144 191 b1 h1;have m2:∀ w,Calls Tryz.prog 131 #[.string s,.int .i64 2,.int .u8 128,.int .u8 191] w fun e w'=>e = .returned (.bool b2)/\w=w':=mo s 2 128 191 b2 h2;have m3:∀ w,Calls Tryz.prog 131 #[.string s,.int .i64 3,.int .u8 128,.int .u8 191] w fun e w'=>e = .returned (.bool b3)/\w=w':=mo s 3 128 191 b3 h3;have M1:=Lib.hid m1;have M2:=Lib.hid m2;have M3:=Lib.hid m3;clear h1 h2 h3 m1 m2 m3;generalize hX:s[0]'hne=c at *;have hzz:(c.toNat:Int)=240:=by omega
 clear hz hc
 cases b1
 ·go_enter Tryz.func111,Tryz.ntmps111
  go_wp2
  refine wp_loop_rounds 4 ?_;rw [rounds_succ]
  go_wp2_with fail
  refine (M1.out _).mono ?_;rintro e w' ⟨rfl,rfl⟩
  go_wp2
  go_ret;exact ⟨rfl,rfl⟩
 ·cases b2
  ·go_enter Tryz.func111,Tryz.ntmps111
   go_wp2
   refine wp_loop_rounds 4 ?_;rw [rounds_succ]
   go_wp2_with fail
   refine (M1.out _).mono ?_;rintro e w' ⟨rfl,rfl⟩
   go_wp2
   rw [rounds_succ]
   go_wp2_with fail
   refine (M2.out _).mono ?_;rintro e w' ⟨rfl,rfl⟩
   go_wp2
   go_ret;exact ⟨rfl,rfl⟩
  ·cases b3
   ·go_enter Tryz.func111,Tryz.ntmps111
    go_wp2
    refine wp_loop_rounds 4 ?_;rw [rounds_succ]
    go_wp2_with fail
    refine (M1.out _).mono ?_;rintro e w' ⟨rfl,rfl⟩
    go_wp2
    rw [rounds_succ]
    go_wp2_with fail
    refine (M2.out _).mono ?_;rintro e w' ⟨rfl,rfl⟩
    go_wp2
    rw [rounds_succ]
    go_wp2_with fail
    refine (M3.out _).mono ?_;rintro e w' ⟨rfl,rfl⟩
    go_wp2
    go_ret;exact ⟨rfl,rfl⟩
   ·go_enter Tryz.func111,Tryz.ntmps111
    go_wp2
    refine wp_loop_rounds 4 ?_;rw [rounds_succ]
    go_wp2_with fail
    refine (M1.out _).mono ?_;rintro e w' ⟨rfl,rfl⟩
    go_wp2
    rw [rounds_succ]
    go_wp2_with fail
    refine (M2.out _).mono ?_;rintro e w' ⟨rfl,rfl⟩
    go_wp2
    rw [rounds_succ]
    go_wp2_with fail
    refine (M3.out _).mono ?_;rintro e w' ⟨rfl,rfl⟩
    go_wp2
    rw [rounds_succ]
    go_wp2
    go_ret;exact ⟨rfl,rfl⟩
theorem rpoint_F1 (s:ByteArray)(w:World)(hne:0<s.size)(z:Nat)(hz:((s[0]'hne).toNat)=z)(hc:241<=z/\z<244)(b1 b2 b3:Bool)(h1:moreL s.data.toList 1 128 191=b1)(h2:moreL s.data.toList 2 128 191=b2)(h3:moreL s.data.toList 3 128 191=b3):
  Calls Tryz.prog 111 #[.string s] w fun e w'=>e = .returned (.int .i64 ((if b1 && ((decide (4<=2) || b2) && (decide (4<=3) || b3)) then 4 else 0:Nat):Int))/\w=w':=by
 have m1:∀ w,Calls Tryz.prog 131 #[.string s,.int .i64 1,.int .u8 128,.int .u8 191] w fun e w'=>e = .returned (.bool b1)/\w=w':=mo s 1 128 191 b1 h1;have m2:∀ w,Calls Tryz.prog 131 #[.string s,.int .i64 2,.int .u8 128,.int .u8 191] w fun e w'=>e = .returned (.bool b2)/\w=w':=mo s 2 128 191 b2 h2;have m3:∀ w,Calls Tryz.prog 131 #[.string s,.int .i64 3,.int .u8 128,.int .u8 191] w fun e w'=>e = .returned (.bool b3)/\w=w':=mo s 3 128 191 b3 h3;have M1:=Lib.hid m1;have M2:=Lib.hid m2;have M3:=Lib.hid m3;clear h1 h2 h3 m1 m2 m3;generalize hX:s[0]'hne=c at *;have a1:decide ((c.toNat:Int)<128)=false:=by simp;omega
 have q1:((c.toNat:Int)==224)=false:=by simp;omega
 have q2:((c.toNat:Int)==237)=false:=by simp;omega
 have q3:((c.toNat:Int)==240)=false:=by simp;omega
 have q4:((c.toNat:Int)==244)=false:=by simp;omega
 have r1:decide (194<=(c.toNat:Int))=true:=by simp;omega
 have r2:decide ((c.toNat:Int)<=223)=false:=by simp;omega
 have r3:decide (224<=(c.toNat:Int))=true:=by simp;omega
 have r4:decide ((c.toNat:Int)<=239)=false:=by simp;omega
 have r5:decide (240<=(c.toNat:Int))=true:=by simp;omega
 have r6:decide ((c.toNat:Int)<=244)=true:=by simp;omega
 clear hz hc
 cases b1
 ·go_enter Tryz.func111,Tryz.ntmps111
  go_wp2
  refine wp_loop_rounds 4 ?_;rw [rounds_succ]
  go_wp2_with fail
  refine (M1.out _).mono ?_;rintro e w' ⟨rfl,rfl⟩
  go_wp2
  go_ret;exact ⟨rfl,rfl⟩
 ·cases b2
  ·go_enter Tryz.func111,Tryz.ntmps111
   go_wp2
   refine wp_loop_rounds 4 ?_;rw [rounds_succ]
   go_wp2_with fail
   refine (M1.out _).mono ?_;rintro e w' ⟨rfl,rfl⟩
   go_wp2
   rw [rounds_succ]
   go_wp2_with fail
   refine (M2.out _).mono ?_;rintro e w' ⟨rfl,rfl⟩
   go_wp2
   go_ret;exact ⟨rfl,rfl⟩
  ·cases b3
   ·go_enter Tryz.func111,Tryz.ntmps111
    go_wp2
    refine wp_loop_rounds 4 ?_;rw [rounds_succ]
    go_wp2_with fail
    refine (M1.out _).mono ?_;rintro e w' ⟨rfl,rfl⟩
    go_wp2
    rw [rounds_succ]
    go_wp2_with fail
    refine (M2.out _).mono ?_;rintro e w' ⟨rfl,rfl⟩
    go_wp2
    rw [rounds_succ]
    go_wp2_with fail
    refine (M3.out _).mono ?_;rintro e w' ⟨rfl,rfl⟩
    go_wp2
    go_ret;exact ⟨rfl,rfl⟩
   ·go_enter Tryz.func111,Tryz.ntmps111
    go_wp2
    refine wp_loop_rounds 4 ?_;rw [rounds_succ]
    go_wp2_with fail
    refine (M1.out _).mono ?_;rintro e w' ⟨rfl,rfl⟩
    go_wp2
    rw [rounds_succ]
    go_wp2_with fail
    refine (M2.out _).mono ?_;rintro e w' ⟨rfl,rfl⟩
    go_wp2
    rw [rounds_succ]
    go_wp2_with fail
    refine (M3.out _).mono ?_;rintro e w' ⟨rfl,rfl⟩
    go_wp2
    rw [rounds_succ]
    go_wp2
    go_ret;exact ⟨rfl,rfl⟩
theorem rpoint_F4 (s:ByteArray)(w:World)(hne:0<s.size)(z:Nat)(hz:((s[0]'hne).toNat)=z)(hc:z=244)(b1 b2 b3:Bool)(h1:moreL s.data.toList 1 128 143=b1)(h2:moreL s.data.toList 2 128 191=b2)(h3:moreL s.data.toList 3 128 191=b3):
  Calls Tryz.prog 111 #[.string s] w fun e w'=>e = .returned (.int .i64 ((if b1 && ((decide (4<=2) || b2) && (decide (4<=3) || b3)) then 4 else 0:Nat):Int))/\w=w':=by
 have m1:∀ w,Calls Tryz.prog 131 #[.string s,.int .i64 1,.int .u8 128,.int .u8 143] w fun e w'=>e = .returned (.bool b1)/\w=w':=mo s 1 128 143 b1 h1;have m2:∀ w,Calls Tryz.prog 131 #[.string s,.int .i64 2,.int .u8 128,.int .u8 191] w fun e w'=>e = .returned (.bool b2)/\w=w':=mo s 2 128 191 b2 h2;have m3:∀ w,Calls Tryz.prog 131 #[.string s,.int .i64 3,.int .u8 128,.int .u8 191] w fun e w'=>e = .returned (.bool b3)/\w=w':=mo s 3 128 191 b3 h3;have M1:=Lib.hid m1;have M2:=Lib.hid m2;have M3:=Lib.hid m3;clear h1 h2 h3 m1 m2 m3;generalize hX:s[0]'hne=c at *;have hzz:(c.toNat:Int)=244:=by omega
 clear hz hc
 cases b1
 ·go_enter Tryz.func111,Tryz.ntmps111
  go_wp2
  refine wp_loop_rounds 4 ?_;rw [rounds_succ]
  go_wp2_with fail
  refine (M1.out _).mono ?_;rintro e w' ⟨rfl,rfl⟩
  go_wp2
  go_ret;exact ⟨rfl,rfl⟩
 ·cases b2
  ·go_enter Tryz.func111,Tryz.ntmps111
   go_wp2
   refine wp_loop_rounds 4 ?_;rw [rounds_succ]
   go_wp2_with fail
   refine (M1.out _).mono ?_;rintro e w' ⟨rfl,rfl⟩
   go_wp2
   rw [rounds_succ]
   go_wp2_with fail
   refine (M2.out _).mono ?_;rintro e w' ⟨rfl,rfl⟩
   go_wp2
   go_ret;exact ⟨rfl,rfl⟩
  ·cases b3
   ·go_enter Tryz.func111,Tryz.ntmps111
    go_wp2
    refine wp_loop_rounds 4 ?_;rw [rounds_succ]
    go_wp2_with fail
    refine (M1.out _).mono ?_;rintro e w' ⟨rfl,rfl⟩
    go_wp2
    rw [rounds_succ]
    go_wp2_with fail
    refine (M2.out _).mono ?_;rintro e w' ⟨rfl,rfl⟩
    go_wp2
    rw [rounds_succ]
    go_wp2_with fail
    refine (M3.out _).mono ?_;rintro e w' ⟨rfl,rfl⟩
    go_wp2
    go_ret;exact ⟨rfl,rfl⟩
   ·go_enter Tryz.func111,Tryz.ntmps111
    go_wp2
    refine wp_loop_rounds 4 ?_;rw [rounds_succ]
    go_wp2_with fail
    refine (M1.out _).mono ?_;rintro e w' ⟨rfl,rfl⟩
    go_wp2
    rw [rounds_succ]
    go_wp2_with fail
    refine (M2.out _).mono ?_;rintro e w' ⟨rfl,rfl⟩
    go_wp2
    rw [rounds_succ]
    go_wp2_with fail
    refine (M3.out _).mono ?_;rintro e w' ⟨rfl,rfl⟩
    go_wp2
    rw [rounds_succ]
    go_wp2
    go_ret;exact ⟨rfl,rfl⟩
theorem rpoint_any (s:ByteArray)(w:World)(hne:0<s.size):Calls Tryz.prog 111 #[.string s] w fun e w'=>e = .returned (.int .i64 (Lx.point s.data.toList:Int))/\w=w':=by
 obtain ⟨c,hc,hd⟩:=byte_at s 0 hne;simp only [List.drop_zero] at hd;have h0:(s.data.toList.getD 0 0).toNat=c.toNat:=by rw [hd];rfl
 have hz:(s[0]'hne).toNat=c.toNat:=by rw [hc]
 have hn:1<=s.data.toList.length:=by rw [hd];simp
 have hlt:=c.toNat_lt;have g:=Lx.getD_lt s.data.toList;rw [<- h0] at hz
 by_cases k0:c.toNat<128
 ·have hp:Lx.point s.data.toList=1:=by rw [hd];exact Lx.point_ascii c _ k0
  rw [hp];have a1:decide ((c.toNat:Int)<128)=true:=by simp;omega
  clear hd h0 hz hn g hp hlt
  go_enter Tryz.func111,Tryz.ntmps111
  go_wp2
  go_ret;exact ⟨rfl,rfl⟩
 by_cases k1:c.toNat<=193\/245<=c.toNat
 ·have hp:Lx.point s.data.toList=0:=point_none _ fun n b1 b2 b3=>by
   rw [h0];unfold Lib.decodeN
   repeat' split
   all_goals first | rfl | (exfalso;omega)
  rw [hp];have a1:decide ((c.toNat:Int)<128)=false:=by simp;omega
  have q1:((c.toNat:Int)==224)=false:=by simp;omega
  have q2:((c.toNat:Int)==237)=false:=by simp;omega
  have q3:((c.toNat:Int)==240)=false:=by simp;omega
  have q4:((c.toNat:Int)==244)=false:=by simp;omega
  clear hd h0 hz hn g hp hlt
  rcases k1 with k1 | k1
  ·have r1:decide (194<=(c.toNat:Int))=false:=by simp;omega
   have r3:decide (224<=(c.toNat:Int))=false:=by simp;omega
   have r5:decide (240<=(c.toNat:Int))=false:=by simp;omega
   clear k0 k1
   go_enter Tryz.func111,Tryz.ntmps111
   go_wp2
   refine wp_loop_rounds 1 ?_;rw [rounds_succ]
   go_wp2
   go_ret;exact ⟨rfl,rfl⟩
  ·have r1:decide (194<=(c.toNat:Int))=true:=by simp;omega
   have r2:decide ((c.toNat:Int)<=223)=false:=by simp;omega
   have r3:decide (224<=(c.toNat:Int))=true:=by simp;omega
   have r4:decide ((c.toNat:Int)<=239)=false:=by simp;omega
   have r5:decide (240<=(c.toNat:Int))=true:=by simp;omega
   have r6:decide ((c.toNat:Int)<=244)=false:=by simp;omega
   clear k0 k1
   go_enter Tryz.func111,Tryz.ntmps111
   go_wp2
   refine wp_loop_rounds 1 ?_;rw [rounds_succ]
   go_wp2
   go_ret;exact ⟨rfl,rfl⟩
 rw [<- h0] at k0 k1
 by_cases c2:(s.data.toList.getD 0 0).toNat<224
 ·rw [point_of_slow _ 2 128 191 (by omega) (by omega) (Lib.slow_C2 _ _ _ _ _ hn (g 1) (g 2) (g 3) (by omega))];exact rpoint_C2 s w hne _ hz (by omega) _ _ _ rfl rfl rfl
 by_cases e0:(s.data.toList.getD 0 0).toNat=224
 ·rw [point_of_slow _ 3 160 191 (by omega) (by omega) (Lib.slow_E0 _ _ _ _ _ hn (g 1) (g 2) (g 3) e0)];exact rpoint_E0 s w hne _ hz e0 _ _ _ rfl rfl rfl
 by_cases ed:(s.data.toList.getD 0 0).toNat=237
 ·rw [point_of_slow _ 3 128 159 (by omega) (by omega) (Lib.slow_ED _ _ _ _ _ hn (g 1) (g 2) (g 3) ed)];exact rpoint_ED s w hne _ hz ed _ _ _ rfl rfl rfl
 by_cases e1:(s.data.toList.getD 0 0).toNat<240
 ·rw [point_of_slow _ 3 128 191 (by omega) (by omega) (Lib.slow_E1 _ _ _ _ _ hn (g 1) (g 2) (g 3) (by omega))];exact rpoint_E1 s w hne _ hz (by omega) _ _ _ rfl rfl rfl
 by_cases f0:(s.data.toList.getD 0 0).toNat=240
 ·rw [point_of_slow _ 4 144 191 (by omega) (by omega) (Lib.slow_F0 _ _ _ _ _ hn (g 1) (g 2) (g 3) f0)];exact rpoint_F0 s w hne _ hz f0 _ _ _ rfl rfl rfl
 by_cases f4:(s.data.toList.getD 0 0).toNat=244
 ·rw [point_of_slow _ 4 128 143 (by omega) (by omega) (Lib.slow_F4 _ _ _ _ _ hn (g 1) (g 2) (g 3) f4)];exact rpoint_F4 s w hne _ hz f4 _ _ _ rfl rfl rfl
 rw [point_of_slow _ 4 128 191 (by omega) (by omega) (Lib.slow_F1 _ _ _ _ _ hn (g 1) (g 2) (g 3) (by omega))];exact rpoint_F1 s w hne _ hz (by omega) _ _ _ rfl rfl rfl
end Go.Proofs.YtninlbknklbofaaGreatDoor
