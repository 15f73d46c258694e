/- What grad's calls and rows are told as, in regions whose order is drawn. · Examples cut in two; what Sum tells, in regions whose order is drawn. · What the reference's own small functions hand back: bits, sums, differences of numbers of four words. What the reference's functions on signed numbers of four words hand back. What the reference's signed numbers, its sum and its held answer are: as whole numbers. What the reference's sum of two signed numbers is. The reference's signed sum and its held answer, as whole numbers; its sums and differences of two Fix. · Bits of numbers of four words: pl -/
import Derived.Test.YtjlofobnmjompaaGreatDoorJ40
import Derived.Test.YtjlofobnmjompaaGreatDoorJ43
import Derived.BigQuiet
import Derived.Test.YtjlofobnmjompaaGreatDoorProg
import Derived.Test.YtjlofobnmjompaaGreatDoorJ01
import Derived.WalkKit
import Derived.ProofKit
import Derived.WalkSpells
import Derived.Deep.QuietTactic
import Derived.WalkSmall
import Derived.Below
import Derived.Handy
import Derived.Deep.RegionWith
import Derived.Test.YtjlofobnmjompaaGreatDoorJ07
import Derived.Test.YtjlofobnmjompaaGreatDoorJ08
import Derived.Test.YtjlofobnmjompaaGreatDoorJ09
import Derived.Deep.RegionHeld3
import Derived.Test.YtjlofobnmjompaaGreatDoorRows
import Derived.Test.YtjlofobnmjompaaGreatDoorJ26
import Derived.Lib.LaidTab
set_option linter.unusedVariables false
set_option linter.unusedSimpArgs false
set_option maxHeartbeats 16000000
set_option maxRecDepth 16000
namespace Go.Proofs.YtjlofobnmjompaaGreatDoor.Wd
open Go.RowKit Fx
def LineV (v:Value) (W:World):Prop:=∃ q r,v = .agg #[.slice (some ⟨q,0,none⟩) 1 1,.slice (some ⟨r,0,none⟩) 1 1]∧Nums .i64 W (.slice (some ⟨q,0,none⟩) 1 1) [1]∧LyR 0 W (some ⟨r,0,none⟩) 1 liL
theorem LineV.up {v:Value} {W W':World} (h:LineV v W) (hB:Below W.heap.size W W'):LineV v W':=by
 obtain ⟨q,r,e,a,b⟩:=h
 exact ⟨q,r,e,a.up hB,b.up hB⟩
def MadeW (n:Nat) (v:Value) (W:World):Prop:=∃ g,v = .slice (some ⟨g,0,none⟩) n n∧WdR W (some ⟨g,0,none⟩) n (List.replicate n 0)
theorem MadeW.up {n:Nat} {v:Value} {W W':World} (h:MadeW n v W) (hB:Below W.heap.size W W'):MadeW n v W':=by
 obtain ⟨g,e,a⟩:=h
 exact ⟨g,e,a.up hB⟩
def TupS (A1 A2 E:Int) (S:List Int) (v:Value) (W:World):Prop:=∃ u,v = .tuple #[u,.agg #[.int .i64 A1,.int .u64 A2],.int .i64 E]∧WRd W u S
theorem TupS.up {A1 A2 E:Int} {S:List Int} {v:Value} {W W':World} (h:TupS A1 A2 E S v W) (hB:Below W.heap.size W W'):TupS A1 A2 E S v W':=by
 obtain ⟨u,e,r⟩:=h
 exact ⟨u,e,r.up hB⟩
def SlW (S:List Int) (v:Value) (W:World):Prop:=WRd W v S
theorem SlW.up {S:List Int} {v:Value} {W W':World} (h:SlW S v W) (hB:Below W.heap.size W W'):SlW S v W':=WRd.up h hB
def NewW (B:Nat) (v:Value) (W:World):Prop:=∃ g,v = .pointer (some ⟨g,0,none⟩)∧W.heap[g]?=some (.cells #[.int .i64 0,.int .u64 0] 45 (0,0))∧B≤g
theorem NewW.up {B:Nat} {v:Value} {W W':World} (h:NewW B v W) (hB:Below W.heap.size W W'):NewW B v W':=by
 obtain ⟨g,e,a,b⟩:=h
 exact ⟨g,e,(hB.block _ (heap_lt a)).trans a,b⟩
end Go.Proofs.YtjlofobnmjompaaGreatDoor.Wd
namespace Go.Proofs.YtjlofobnmjompaaGreatDoor.Rf
open Go.RowKit Fx
theorem setCell_drewN (w:World) (n:Nat) (a:Addr) (v:Value):(w.drewN n).setCell a v=(w.setCell a v).drewN n:=rfl
theorem alloc_drewN (w:World) (n:Nat) (o:Obj):(w.drewN n).alloc o=(w.alloc o).drewN n:=rfl
attribute [local go_sem] setCell_drewN alloc_drewN
def U (a:Int):Prop:=0≤a∧a < 18446744073709551616
def pk (a:Int) (r:Nat):Int:=a / 2 ^ r % 2
def PS (k:Nat) (a0 a1 a2 a3:Int):Int:=
 if k=0 then 0 else if k=1 then a0 else if k=2 then a0+a1*18446744073709551616 else if k=3 then a0+a1*18446744073709551616+a2*340282366920938463463374607431768211456
 else a0+a1*18446744073709551616+a2*340282366920938463463374607431768211456+a3*6277101735386680763835789423207666416102355444464034512896
def BP (k:Nat):Int:=
 if k=0 then 1 else if k=1 then 18446744073709551616 else if k=2 then 340282366920938463463374607431768211456 else if k=3 then 6277101735386680763835789423207666416102355444464034512896
 else 115792089237316195423570985008687907853269984665640564039457584007913129639936
def A4 (a0 a1 a2 a3:Int):Array Value:=#[.int .u64 a0,.int .u64 a1,.int .u64 a2,.int .u64 a3]
theorem wr_U (n:Int):U (IntKind.u64.wrap n):=by unfold U;rw [IntKind.wrap_u64];omega
theorem c_yes (a b cr:Int) (ha:0≤a∧a < 18446744073709551616) (hb:0≤b∧b < 18446744073709551616) (h0:0≤cr) (h1:cr≤1) (h:IntKind.u64.wrap (a+b) < a∨IntKind.u64.wrap (IntKind.u64.wrap (a+b)+cr) < IntKind.u64.wrap (a+b)):
  IntKind.u64.wrap (IntKind.u64.wrap (a+b)+cr)+1*18446744073709551616=a+b+cr:=by
 simp only [IntKind.wrap_u64] at *
 omega
theorem c_no (a b cr:Int) (ha:0≤a∧a < 18446744073709551616) (hb:0≤b∧b < 18446744073709551616) (h0:0≤cr) (h1:cr≤1) (h:a≤IntKind.u64.wrap (a+b)∧IntKind.u64.wrap (a+b)≤IntKind.u64.wrap (IntKind.u64.wrap (a+b)+cr)):
  IntKind.u64.wrap (IntKind.u64.wrap (a+b)+cr)+0*18446744073709551616=a+b+cr:=by
 simp only [IntKind.wrap_u64] at *
 omega
theorem plus_step0 {a0 a1 a2 a3 b0 b1 b2 b3 c0 c1 c2 c3 cr t d:Int} (h:Hid (PS 0 c0 c1 c2 c3+cr*BP 0=PS 0 a0 a1 a2 a3+PS 0 b0 b1 b2 b3)) (e:t+d*18446744073709551616=a0+b0+cr):
  Hid (PS 1 t c1 c2 c3+d*BP 1=PS 1 a0 a1 a2 a3+PS 1 b0 b1 b2 b3):=by
 have h':=h.out
 show PS 1 t c1 c2 c3+d*BP 1=PS 1 a0 a1 a2 a3+PS 1 b0 b1 b2 b3
 simp [PS,BP] at h' ⊢
 omega
theorem plus_step1 {a0 a1 a2 a3 b0 b1 b2 b3 c0 c1 c2 c3 cr t d:Int} (h:Hid (PS 1 c0 c1 c2 c3+cr*BP 1=PS 1 a0 a1 a2 a3+PS 1 b0 b1 b2 b3)) (e:t+d*18446744073709551616=a1+b1+cr):
  Hid (PS 2 c0 t c2 c3+d*BP 2=PS 2 a0 a1 a2 a3+PS 2 b0 b1 b2 b3):=by
 have h':=h.out
 show PS 2 c0 t c2 c3+d*BP 2=PS 2 a0 a1 a2 a3+PS 2 b0 b1 b2 b3
 simp [PS,BP] at h' ⊢
 omega
theorem plus_step2 {a0 a1 a2 a3 b0 b1 b2 b3 c0 c1 c2 c3 cr t d:Int} (h:Hid (PS 2 c0 c1 c2 c3+cr*BP 2=PS 2 a0 a1 a2 a3+PS 2 b0 b1 b2 b3)) (e:t+d*18446744073709551616=a2+b2+cr):
  Hid (PS 3 c0 c1 t c3+d*BP 3=PS 3 a0 a1 a2 a3+PS 3 b0 b1 b2 b3):=by
 have h':=h.out
 show PS 3 c0 c1 t c3+d*BP 3=PS 3 a0 a1 a2 a3+PS 3 b0 b1 b2 b3
 simp [PS,BP] at h' ⊢
 omega
theorem plus_step3 {a0 a1 a2 a3 b0 b1 b2 b3 c0 c1 c2 c3 cr t d:Int} (h:Hid (PS 3 c0 c1 c2 c3+cr*BP 3=PS 3 a0 a1 a2 a3+PS 3 b0 b1 b2 b3)) (e:t+d*18446744073709551616=a3+b3+cr):
  Hid (PS 4 c0 c1 c2 t+d*BP 4=PS 4 a0 a1 a2 a3+PS 4 b0 b1 b2 b3):=by
 have h':=h.out
 show PS 4 c0 c1 c2 t+d*BP 4=PS 4 a0 a1 a2 a3+PS 4 b0 b1 b2 b3
 simp [PS,BP] at h' ⊢
 omega
theorem plus_low (a0 a1 a2 a3 b0 b1 b2 b3:Int) (p0:U a0) (p1:U a1) (p2:U a2) (p3:U a3) (q0:U b0) (q1:U b1) (q2:U b2) (q3:U b3) (w:World):
  Calls Tryz.prog 52 #[.agg #[.int .u64 a0,.int .u64 a1,.int .u64 a2,.int .u64 a3],.agg #[.int .u64 b0,.int .u64 b1,.int .u64 b2,.int .u64 b3]] w fun e w'=>
   ∃ c0 c1 c2 c3 cr:Int,e = .returned (.agg #[.int .u64 c0,.int .u64 c1,.int .u64 c2,.int .u64 c3])∧U c0∧U c1∧U c2∧U c3∧Hid (0≤cr∧cr≤1∧PS 4 c0 c1 c2 c3+cr*BP 4=PS 4 a0 a1 a2 a3+PS 4 b0 b1 b2 b3)∧Below w.heap.size w w':=by
 unfold U at p0 p1 p2 p3 q0 q1 q2 q3
 go_enter Tryz.func52,Tryz.ntmps52
 go_wp2
 go_loopw [6,7] (fun u v wr=>∃ (k n:Nat) (cr c0 c1 c2 c3:Int),k≤4∧v = .int .i64 (k:Int)∧u = .int .u64 cr∧0≤cr∧cr≤1∧U c0∧U c1∧U c2∧U c3∧Hid (PS k c0 c1 c2 c3+cr*BP k=PS k a0 a1 a2 a3+PS k b0 b1 b2 b3)∧
   wr=((((w.alloc (.cells #[.int .u64 a0,.int .u64 a1,.int .u64 a2,.int .u64 a3] 83)).alloc (.cells #[.int .u64 b0,.int .u64 b1,.int .u64 b2,.int .u64 b3] 83)).alloc (.cells #[.int .u64 0,.int .u64 0,.int .u64 0,.int .u64 0] 83)).alloc (.cells #[.int .u64 c0,.int .u64 c1,.int .u64 c2,.int .u64 c3] 83)).drewN n) (fun _ v _=>4 - (intOf v).toNat)
 case atStart=>exact ⟨0,0,0,0,0,0,0,by omega,rfl,rfl,by omega,by omega,by unfold U;omega,by unfold U;omega,by unfold U;omega,by unfold U;omega,by show PS 0 0 0 0 0+0*BP 0=PS 0 a0 a1 a2 a3+PS 0 b0 b1 b2 b3;simp [PS,BP],rfl⟩
 case round=>
  obtain ⟨k,n,cr,c0,c1,c2,c3,hk,rfl,rfl,hc0,hc1,u0,u1,u2,u3,hinv,rfl⟩:=hrel
  match k,hk with
  | 0,_=>
   go_wp2_with fail
   go_quiet (fail)
   go_wp2
   all_goals
    go_roundw
    case rel=>
     first
     |exact ⟨1,_,1,_,c1,c2,c3,by omega,rfl,rfl,by omega,by omega,(wr_U _),u1,u2,u3,plus_step0 hinv (c_yes _ _ _ p0 q0 hc0 hc1 ‹_›),rfl⟩
     |exact ⟨1,_,1,_,c1,c2,c3,by omega,rfl,rfl,by omega,by omega,(wr_U _),u1,u2,u3,plus_step0 hinv (c_yes _ _ _ p0 q0 hc0 hc1 (Or.inl (by omega))),rfl⟩
     |exact ⟨1,_,0,_,c1,c2,c3,by omega,rfl,rfl,by omega,by omega,(wr_U _),u1,u2,u3,plus_step0 hinv (c_no _ _ _ p0 q0 hc0 hc1 ‹_›),rfl⟩
    case measure=>simp [intOf]
  | 1,_=>
   go_wp2_with fail
   go_quiet (fail)
   go_wp2
   all_goals
    go_roundw
    case rel=>
     first
     |exact ⟨2,_,1,c0,_,c2,c3,by omega,rfl,rfl,by omega,by omega,u0,(wr_U _),u2,u3,plus_step1 hinv (c_yes _ _ _ p1 q1 hc0 hc1 ‹_›),rfl⟩
     |exact ⟨2,_,1,c0,_,c2,c3,by omega,rfl,rfl,by omega,by omega,u0,(wr_U _),u2,u3,plus_step1 hinv (c_yes _ _ _ p1 q1 hc0 hc1 (Or.inl (by omega))),rfl⟩
     |exact ⟨2,_,0,c0,_,c2,c3,by omega,rfl,rfl,by omega,by omega,u0,(wr_U _),u2,u3,plus_step1 hinv (c_no _ _ _ p1 q1 hc0 hc1 ‹_›),rfl⟩
    case measure=>simp [intOf]
  | 2,_=>
   go_wp2_with fail
   go_quiet (fail)
   go_wp2
   all_goals
    go_roundw
    case rel=>
     first
     |exact ⟨3,_,1,c0,c1,_,c3,by omega,rfl,rfl,by omega,by omega,u0,u1,(wr_U _),u3,plus_step2 hinv (c_yes _ _ _ p2 q2 hc0 hc1 ‹_›),rfl⟩
     |exact ⟨3,_,1,c0,c1,_,c3,by omega,rfl,rfl,by omega,by omega,u0,u1,(wr_U _),u3,plus_step2 hinv (c_yes _ _ _ p2 q2 hc0 hc1 (Or.inl (by omega))),rfl⟩
     |exact ⟨3,_,0,c0,c1,_,c3,by omega,rfl,rfl,by omega,by omega,u0,u1,(wr_U _),u3,plus_step2 hinv (c_no _ _ _ p2 q2 hc0 hc1 ‹_›),rfl⟩
    case measure=>simp [intOf]
  | 3,_=>
   go_wp2_with fail
   go_quiet (fail)
   go_wp2
   all_goals
    go_roundw
    case rel=>
     first
     |exact ⟨4,_,1,c0,c1,c2,_,by omega,rfl,rfl,by omega,by omega,u0,u1,u2,(wr_U _),plus_step3 hinv (c_yes _ _ _ p3 q3 hc0 hc1 ‹_›),rfl⟩
     |exact ⟨4,_,1,c0,c1,c2,_,by omega,rfl,rfl,by omega,by omega,u0,u1,u2,(wr_U _),plus_step3 hinv (c_yes _ _ _ p3 q3 hc0 hc1 (Or.inl (by omega))),rfl⟩
     |exact ⟨4,_,0,c0,c1,c2,_,by omega,rfl,rfl,by omega,by omega,u0,u1,u2,(wr_U _),plus_step3 hinv (c_no _ _ _ p3 q3 hc0 hc1 ‹_›),rfl⟩
    case measure=>simp [intOf]
  | 4,_=>
   go_wp2
   exact bodyPost_ret (v:=.agg #[.int .u64 c0,.int .u64 c1,.int .u64 c2,.int .u64 c3]) (by simp [results,Tryz.results52,go_sem]) rfl
    ⟨c0,c1,c2,c3,cr,rfl,u0,u1,u2,u3,⟨hc0,hc1,hinv.out⟩,below_drewN (by go_grown) _⟩
theorem b_yes (a b cr:Int) (ha:0≤a∧a < 18446744073709551616) (hb:0≤b∧b < 18446744073709551616) (h0:0≤cr) (h1:cr≤1) (h:a < b∨IntKind.u64.wrap (a - b) < cr):
  IntKind.u64.wrap (IntKind.u64.wrap (a - b) - cr) - 1*18446744073709551616=a - b - cr:=by
 simp only [IntKind.wrap_u64] at *
 omega
theorem minus_step0 {a0 a1 a2 a3 b0 b1 b2 b3 c0 c1 c2 c3 cr t d:Int} (h:Hid (PS 0 c0 c1 c2 c3 - cr*BP 0=PS 0 a0 a1 a2 a3 - PS 0 b0 b1 b2 b3)) (e:t - d*18446744073709551616=a0 - b0 - cr):
  Hid (PS 1 t c1 c2 c3 - d*BP 1=PS 1 a0 a1 a2 a3 - PS 1 b0 b1 b2 b3):=by
 have h':=h.out
 show PS 1 t c1 c2 c3 - d*BP 1=PS 1 a0 a1 a2 a3 - PS 1 b0 b1 b2 b3
 simp [PS,BP] at h' ⊢
 omega
theorem minus_step1 {a0 a1 a2 a3 b0 b1 b2 b3 c0 c1 c2 c3 cr t d:Int} (h:Hid (PS 1 c0 c1 c2 c3 - cr*BP 1=PS 1 a0 a1 a2 a3 - PS 1 b0 b1 b2 b3)) (e:t - d*18446744073709551616=a1 - b1 - cr):
  Hid (PS 2 c0 t c2 c3 - d*BP 2=PS 2 a0 a1 a2 a3 - PS 2 b0 b1 b2 b3):=by
 have h':=h.out
 show PS 2 c0 t c2 c3 - d*BP 2=PS 2 a0 a1 a2 a3 - PS 2 b0 b1 b2 b3
 simp [PS,BP] at h' ⊢
 omega
theorem minus_step2 {a0 a1 a2 a3 b0 b1 b2 b3 c0 c1 c2 c3 cr t d:Int} (h:Hid (PS 2 c0 c1 c2 c3 - cr*BP 2=PS 2 a0 a1 a2 a3 - PS 2 b0 b1 b2 b3)) (e:t - d*18446744073709551616=a2 - b2 - cr):
  Hid (PS 3 c0 c1 t c3 - d*BP 3=PS 3 a0 a1 a2 a3 - PS 3 b0 b1 b2 b3):=by
 have h':=h.out
 show PS 3 c0 c1 t c3 - d*BP 3=PS 3 a0 a1 a2 a3 - PS 3 b0 b1 b2 b3
 simp [PS,BP] at h' ⊢
 omega
theorem minus_step3 {a0 a1 a2 a3 b0 b1 b2 b3 c0 c1 c2 c3 cr t d:Int} (h:Hid (PS 3 c0 c1 c2 c3 - cr*BP 3=PS 3 a0 a1 a2 a3 - PS 3 b0 b1 b2 b3)) (e:t - d*18446744073709551616=a3 - b3 - cr):
  Hid (PS 4 c0 c1 c2 t - d*BP 4=PS 4 a0 a1 a2 a3 - PS 4 b0 b1 b2 b3):=by
 have h':=h.out
 show PS 4 c0 c1 c2 t - d*BP 4=PS 4 a0 a1 a2 a3 - PS 4 b0 b1 b2 b3
 simp [PS,BP] at h' ⊢
 omega
theorem minus_low (a0 a1 a2 a3 b0 b1 b2 b3:Int) (p0:U a0) (p1:U a1) (p2:U a2) (p3:U a3) (q0:U b0) (q1:U b1) (q2:U b2) (q3:U b3) (w:World):
  Calls Tryz.prog 54 #[.agg #[.int .u64 a0,.int .u64 a1,.int .u64 a2,.int .u64 a3],.agg #[.int .u64 b0,.int .u64 b1,.int .u64 b2,.int .u64 b3]] w fun e w'=>
   ∃ c0 c1 c2 c3 cr:Int,e = .returned (.agg #[.int .u64 c0,.int .u64 c1,.int .u64 c2,.int .u64 c3])∧U c0∧U c1∧U c2∧U c3∧Hid (0≤cr∧cr≤1∧PS 4 c0 c1 c2 c3 - cr*BP 4=PS 4 a0 a1 a2 a3 - PS 4 b0 b1 b2 b3)∧Below w.heap.size w w':=by
 unfold U at p0 p1 p2 p3 q0 q1 q2 q3
 go_enter Tryz.func54,Tryz.ntmps54
 go_wp2
 go_loopw [6,7] (fun u v wr=>∃ (k n:Nat) (cr c0 c1 c2 c3:Int),k≤4∧v = .int .i64 (k:Int)∧u = .int .u64 cr∧0≤cr∧cr≤1∧U c0∧U c1∧U c2∧U c3∧Hid (PS k c0 c1 c2 c3 - cr*BP k=PS k a0 a1 a2 a3 - PS k b0 b1 b2 b3)∧
   wr=((((w.alloc (.cells #[.int .u64 a0,.int .u64 a1,.int .u64 a2,.int .u64 a3] 83)).alloc (.cells #[.int .u64 b0,.int .u64 b1,.int .u64 b2,.int .u64 b3] 83)).alloc (.cells #[.int .u64 0,.int .u64 0,.int .u64 0,.int .u64 0] 83)).alloc (.cells #[.int .u64 c0,.int .u64 c1,.int .u64 c2,.int .u64 c3] 83)).drewN n) (fun _ v _=>4 - (intOf v).toNat)
 case atStart=>exact ⟨0,0,0,0,0,0,0,by omega,rfl,rfl,by omega,by omega,by unfold U;omega,by unfold U;omega,by unfold U;omega,by unfold U;omega,by show PS 0 0 0 0 0 - 0*BP 0=PS 0 a0 a1 a2 a3 - PS 0 b0 b1 b2 b3;simp [PS,BP],rfl⟩
 case round=>
  obtain ⟨k,n,cr,c0,c1,c2,c3,hk,rfl,rfl,hc0,hc1,u0,u1,u2,u3,hinv,rfl⟩:=hrel
  match k,hk with
  | 0,_=>
   go_wp2_with fail
   go_quiet (fail)
   go_wp2_with fail
   by_cases hlt:a0 < b0
   ·go_quiet (fail)
    go_wp2
    all_goals
     go_roundw
     case rel=>exact ⟨1,_,1,_,c1,c2,c3,by omega,rfl,rfl,by omega,by omega,(wr_U _),u1,u2,u3,minus_step0 hinv (b_yes _ _ _ p0 q0 hc0 hc1 (Or.inl (by omega))),rfl⟩
     case measure=>simp [intOf]
   ·have hlt':decide (a0 < b0)=false:=by simpa using hlt
    go_quiet (fail)
    go_wp2
    all_goals
     go_roundw
     case rel=>
      first
      |exact ⟨1,_,1,_,c1,c2,c3,by omega,rfl,rfl,by omega,by omega,(by unfold U;(try simp only [IntKind.wrap_u64]);omega),u1,u2,u3,minus_step0 hinv (by (try simp only [IntKind.wrap_u64]);omega),rfl⟩
      |exact ⟨1,_,0,_,c1,c2,c3,by omega,rfl,rfl,by omega,by omega,(by unfold U;(try simp only [IntKind.wrap_u64]);omega),u1,u2,u3,minus_step0 hinv (by (try simp only [IntKind.wrap_u64]);omega),rfl⟩
     case measure=>simp [intOf]
  | 1,_=>
   go_wp2_with fail
   go_quiet (fail)
   go_wp2_with fail
   by_cases hlt:a1 < b1
   ·go_quiet (fail)
    go_wp2
    all_goals
     go_roundw
     case rel=>exact ⟨2,_,1,c0,_,c2,c3,by omega,rfl,rfl,by omega,by omega,u0,(wr_U _),u2,u3,minus_step1 hinv (b_yes _ _ _ p1 q1 hc0 hc1 (Or.inl (by omega))),rfl⟩
     case measure=>simp [intOf]
   ·have hlt':decide (a1 < b1)=false:=by simpa using hlt
    go_quiet (fail)
    go_wp2
    all_goals
     go_roundw
     case rel=>
      first
      |exact ⟨2,_,1,c0,_,c2,c3,by omega,rfl,rfl,by omega,by omega,u0,(by unfold U;(try simp only [IntKind.wrap_u64]);omega),u2,u3,minus_step1 hinv (by (try simp only [IntKind.wrap_u64]);omega),rfl⟩
      |exact ⟨2,_,0,c0,_,c2,c3,by omega,rfl,rfl,by omega,by omega,u0,(by unfold U;(try simp only [IntKind.wrap_u64]);omega),u2,u3,minus_step1 hinv (by (try simp only [IntKind.wrap_u64]);omega),rfl⟩
     case measure=>simp [intOf]
  | 2,_=>
   go_wp2_with fail
   go_quiet (fail)
   go_wp2_with fail
   by_cases hlt:a2 < b2
   ·go_quiet (fail)
    go_wp2
    all_goals
     go_roundw
     case rel=>exact ⟨3,_,1,c0,c1,_,c3,by omega,rfl,rfl,by omega,by omega,u0,u1,(wr_U _),u3,minus_step2 hinv (b_yes _ _ _ p2 q2 hc0 hc1 (Or.inl (by omega))),rfl⟩
     case measure=>simp [intOf]
   ·have hlt':decide (a2 < b2)=false:=by simpa using hlt
    go_quiet (fail)
    go_wp2
    all_goals
     go_roundw
     case rel=>
      first
      |exact ⟨3,_,1,c0,c1,_,c3,by omega,rfl,rfl,by omega,by omega,u0,u1,(by unfold U;(try simp only [IntKind.wrap_u64]);omega),u3,minus_step2 hinv (by (try simp only [IntKind.wrap_u64]);omega),rfl⟩
      |exact ⟨3,_,0,c0,c1,_,c3,by omega,rfl,rfl,by omega,by omega,u0,u1,(by unfold U;(try simp only [IntKind.wrap_u64]);omega),u3,minus_step2 hinv (by (try simp only [IntKind.wrap_u64]);omega),rfl⟩
     case measure=>simp [intOf]
  | 3,_=>
   go_wp2_with fail
   go_quiet (fail)
   go_wp2_with fail
   by_cases hlt:a3 < b3
   ·go_quiet (fail)
    go_wp2
    all_goals
     go_roundw
     case rel=>exact ⟨4,_,1,c0,c1,c2,_,by omega,rfl,rfl,by omega,by omega,u0,u1,u2,(wr_U _),minus_step3 hinv (b_yes _ _ _ p3 q3 hc0 hc1 (Or.inl (by omega))),rfl⟩
     case measure=>simp [intOf]
   ·have hlt':decide (a3 < b3)=false:=by simpa using hlt
    go_quiet (fail)
    go_wp2
    all_goals
     go_roundw
     case rel=>
      first
      |exact ⟨4,_,1,c0,c1,c2,_,by omega,rfl,rfl,by omega,by omega,u0,u1,u2,(by unfold U;(try simp only [IntKind.wrap_u64]);omega),minus_step3 hinv (by (try simp only [IntKind.wrap_u64]);omega),rfl⟩
      |exact ⟨4,_,0,c0,c1,c2,_,by omega,rfl,rfl,by omega,by omega,u0,u1,u2,(by unfold U;(try simp only [IntKind.wrap_u64]);omega),minus_step3 hinv (by (try simp only [IntKind.wrap_u64]);omega),rfl⟩
     case measure=>simp [intOf]
  | 4,_=>
   go_wp2
   exact bodyPost_ret (v:=.agg #[.int .u64 c0,.int .u64 c1,.int .u64 c2,.int .u64 c3]) (by simp [results,Tryz.results54,go_sem]) rfl
    ⟨c0,c1,c2,c3,cr,rfl,u0,u1,u2,u3,⟨hc0,hc1,hinv.out⟩,below_drewN (by go_grown) _⟩
end Go.Proofs.YtjlofobnmjompaaGreatDoor.Rf
namespace Go.Proofs.YtjlofobnmjompaaGreatDoor.Rf
open Go.RowKit Fx
attribute [local go_sem] setCell_drewN alloc_drewN
theorem ret_bool {a b:Bool} (h:a=b):Ending.returned (.bool a) = .returned (.bool b):=by rw [h]
def EQ (k:Nat) (a0 a1 a2 a3 b0 b1 b2 b3:Int):Prop:=
 if k=4 then True else if k=3 then a3=b3 else if k=2 then a3=b3∧a2=b2 else if k=1 then (a3=b3∧a2=b2)∧a1=b1 else ((a3=b3∧a2=b2)∧a1=b1)∧a0=b0
theorem eq_step0 {a0 a1 a2 a3 b0 b1 b2 b3:Int} (h:Hid (EQ 1 a0 a1 a2 a3 b0 b1 b2 b3)) (e:a0=b0):Hid (EQ 0 a0 a1 a2 a3 b0 b1 b2 b3):=by
 have h':=h.out
 simp [EQ] at h'
 show EQ 0 a0 a1 a2 a3 b0 b1 b2 b3
 simp [EQ]
 simp [h',e]
theorem eq_step1 {a0 a1 a2 a3 b0 b1 b2 b3:Int} (h:Hid (EQ 2 a0 a1 a2 a3 b0 b1 b2 b3)) (e:a1=b1):Hid (EQ 1 a0 a1 a2 a3 b0 b1 b2 b3):=by
 have h':=h.out
 simp [EQ] at h'
 show EQ 1 a0 a1 a2 a3 b0 b1 b2 b3
 simp [EQ]
 simp [h',e]
theorem eq_step2 {a0 a1 a2 a3 b0 b1 b2 b3:Int} (h:Hid (EQ 3 a0 a1 a2 a3 b0 b1 b2 b3)) (e:a2=b2):Hid (EQ 2 a0 a1 a2 a3 b0 b1 b2 b3):=by
 have h':=h.out
 simp [EQ] at h'
 show EQ 2 a0 a1 a2 a3 b0 b1 b2 b3
 simp [EQ]
 simp [h',e]
theorem eq_step3 {a0 a1 a2 a3 b0 b1 b2 b3:Int} (h:Hid (EQ 4 a0 a1 a2 a3 b0 b1 b2 b3)) (e:a3=b3):Hid (EQ 3 a0 a1 a2 a3 b0 b1 b2 b3):=by
 have h':=h.out
 simp [EQ] at h'
 show EQ 3 a0 a1 a2 a3 b0 b1 b2 b3
 simp [EQ]
 simp [h',e]
theorem less_end0 {a0 a1 a2 a3 b0 b1 b2 b3:Int} (h:Hid (EQ 1 a0 a1 a2 a3 b0 b1 b2 b3)) (p0:0≤a0∧a0 < 18446744073709551616) (p1:0≤a1∧a1 < 18446744073709551616) (p2:0≤a2∧a2 < 18446744073709551616) (p3:0≤a3∧a3 < 18446744073709551616)
  (q0:0≤b0∧b0 < 18446744073709551616) (q1:0≤b1∧b1 < 18446744073709551616) (q2:0≤b2∧b2 < 18446744073709551616) (q3:0≤b3∧b3 < 18446744073709551616) (hn:¬ a0=b0):decide (a0 < b0)=decide (PS 4 a0 a1 a2 a3 < PS 4 b0 b1 b2 b3):=by
 have h':=h.out
 simp [EQ] at h'
 rw [decide_eq_decide]
 simp [PS]
 omega
theorem less_end1 {a0 a1 a2 a3 b0 b1 b2 b3:Int} (h:Hid (EQ 2 a0 a1 a2 a3 b0 b1 b2 b3)) (p0:0≤a0∧a0 < 18446744073709551616) (p1:0≤a1∧a1 < 18446744073709551616) (p2:0≤a2∧a2 < 18446744073709551616) (p3:0≤a3∧a3 < 18446744073709551616)
  (q0:0≤b0∧b0 < 18446744073709551616) (q1:0≤b1∧b1 < 18446744073709551616) (q2:0≤b2∧b2 < 18446744073709551616) (q3:0≤b3∧b3 < 18446744073709551616) (hn:¬ a1=b1):decide (a1 < b1)=decide (PS 4 a0 a1 a2 a3 < PS 4 b0 b1 b2 b3):=by
 have h':=h.out
 simp [EQ] at h'
 rw [decide_eq_decide]
 simp [PS]
 omega
theorem less_end2 {a0 a1 a2 a3 b0 b1 b2 b3:Int} (h:Hid (EQ 3 a0 a1 a2 a3 b0 b1 b2 b3)) (p0:0≤a0∧a0 < 18446744073709551616) (p1:0≤a1∧a1 < 18446744073709551616) (p2:0≤a2∧a2 < 18446744073709551616) (p3:0≤a3∧a3 < 18446744073709551616)
  (q0:0≤b0∧b0 < 18446744073709551616) (q1:0≤b1∧b1 < 18446744073709551616) (q2:0≤b2∧b2 < 18446744073709551616) (q3:0≤b3∧b3 < 18446744073709551616) (hn:¬ a2=b2):decide (a2 < b2)=decide (PS 4 a0 a1 a2 a3 < PS 4 b0 b1 b2 b3):=by
 have h':=h.out
 simp [EQ] at h'
 rw [decide_eq_decide]
 simp [PS]
 omega
theorem less_end3 {a0 a1 a2 a3 b0 b1 b2 b3:Int} (h:Hid (EQ 4 a0 a1 a2 a3 b0 b1 b2 b3)) (p0:0≤a0∧a0 < 18446744073709551616) (p1:0≤a1∧a1 < 18446744073709551616) (p2:0≤a2∧a2 < 18446744073709551616) (p3:0≤a3∧a3 < 18446744073709551616)
  (q0:0≤b0∧b0 < 18446744073709551616) (q1:0≤b1∧b1 < 18446744073709551616) (q2:0≤b2∧b2 < 18446744073709551616) (q3:0≤b3∧b3 < 18446744073709551616) (hn:¬ a3=b3):decide (a3 < b3)=decide (PS 4 a0 a1 a2 a3 < PS 4 b0 b1 b2 b3):=by
 have h':=h.out
 simp [EQ] at h'
 rw [decide_eq_decide]
 simp [PS]
 omega
theorem less_low (a0 a1 a2 a3 b0 b1 b2 b3:Int) (p0:U a0) (p1:U a1) (p2:U a2) (p3:U a3) (q0:U b0) (q1:U b1) (q2:U b2) (q3:U b3) (w:World):
  Calls Tryz.prog 53 #[.agg #[.int .u64 a0,.int .u64 a1,.int .u64 a2,.int .u64 a3],.agg #[.int .u64 b0,.int .u64 b1,.int .u64 b2,.int .u64 b3]] w fun e w'=>
   e = .returned (.bool (decide (PS 4 a0 a1 a2 a3 < PS 4 b0 b1 b2 b3)))∧Below w.heap.size w w':=by
 unfold U at p0 p1 p2 p3 q0 q1 q2 q3
 generalize hL:decide (PS 4 a0 a1 a2 a3 < PS 4 b0 b1 b2 b3)=lt
 have HL:Hid (decide (PS 4 a0 a1 a2 a3 < PS 4 b0 b1 b2 b3)=lt):=hL
 clear hL
 go_enter Tryz.func53,Tryz.ntmps53
 go_wp2
 go_loopw [5] (fun v wr=>∃ (k n:Nat),k≤4∧v = .int .i64 ((k:Int) - 1)∧Hid (EQ k a0 a1 a2 a3 b0 b1 b2 b3)∧
   wr=((w.alloc (.cells #[.int .u64 a0,.int .u64 a1,.int .u64 a2,.int .u64 a3] 83)).alloc (.cells #[.int .u64 b0,.int .u64 b1,.int .u64 b2,.int .u64 b3] 83)).drewN n) (fun v _=>(intOf v+1).toNat)
 case atStart=>exact ⟨4,0,by omega,rfl,by show EQ 4 a0 a1 a2 a3 b0 b1 b2 b3;simp [EQ],rfl⟩
 case round=>
  obtain ⟨k,n,hk,rfl,hinv,rfl⟩:=hrel
  match k,hk with
  | 4,_=>
   by_cases hne:a3=b3
   ·have hne':(a3 != b3)=false:=by simpa using hne
    have HN:Hid (a3=b3):=hne
    clear hne
    go_wp2_with fail
    go_quiet (fail)
    go_wp2
    go_roundw
    case rel=>exact ⟨3,_,by omega,rfl,eq_step3 hinv HN.out,rfl⟩
    case measure=>simp [intOf]
   ·have hne':(a3 != b3)=true:=by simpa using hne
    clear hne
    go_wp2_with fail
    go_quiet (fail)
    go_wp2_with fail
    go_quiet (fail)
    go_wp2
    go_ret
    exact ⟨ret_bool ((less_end3 hinv p0 p1 p2 p3 q0 q1 q2 q3 (by simpa using hne')).trans HL.out),(by (repeat (with_reducible refine below_drewN ?_ _));go_grown)⟩
  | 3,_=>
   by_cases hne:a2=b2
   ·have hne':(a2 != b2)=false:=by simpa using hne
    have HN:Hid (a2=b2):=hne
    clear hne
    go_wp2_with fail
    go_quiet (fail)
    go_wp2
    go_roundw
    case rel=>exact ⟨2,_,by omega,rfl,eq_step2 hinv HN.out,rfl⟩
    case measure=>simp [intOf]
   ·have hne':(a2 != b2)=true:=by simpa using hne
    clear hne
    go_wp2_with fail
    go_quiet (fail)
    go_wp2_with fail
    go_quiet (fail)
    go_wp2
    go_ret
    exact ⟨ret_bool ((less_end2 hinv p0 p1 p2 p3 q0 q1 q2 q3 (by simpa using hne')).trans HL.out),(by (repeat (with_reducible refine below_drewN ?_ _));go_grown)⟩
  | 2,_=>
   by_cases hne:a1=b1
   ·have hne':(a1 != b1)=false:=by simpa using hne
    have HN:Hid (a1=b1):=hne
    clear hne
    go_wp2_with fail
    go_quiet (fail)
    go_wp2
    go_roundw
    case rel=>exact ⟨1,_,by omega,rfl,eq_step1 hinv HN.out,rfl⟩
    case measure=>simp [intOf]
   ·have hne':(a1 != b1)=true:=by simpa using hne
    clear hne
    go_wp2_with fail
    go_quiet (fail)
    go_wp2_with fail
    go_quiet (fail)
    go_wp2
    go_ret
    exact ⟨ret_bool ((less_end1 hinv p0 p1 p2 p3 q0 q1 q2 q3 (by simpa using hne')).trans HL.out),(by (repeat (with_reducible refine below_drewN ?_ _));go_grown)⟩
  | 1,_=>
   by_cases hne:a0=b0
   ·have hne':(a0 != b0)=false:=by simpa using hne
    have HN:Hid (a0=b0):=hne
    clear hne
    go_wp2_with fail
    go_quiet (fail)
    go_wp2
    go_roundw
    case rel=>exact ⟨0,_,by omega,rfl,eq_step0 hinv HN.out,rfl⟩
    case measure=>simp [intOf]
   ·have hne':(a0 != b0)=true:=by simpa using hne
    clear hne
    go_wp2_with fail
    go_quiet (fail)
    go_wp2_with fail
    go_quiet (fail)
    go_wp2
    go_ret
    exact ⟨ret_bool ((less_end0 hinv p0 p1 p2 p3 q0 q1 q2 q3 (by simpa using hne')).trans HL.out),(by (repeat (with_reducible refine below_drewN ?_ _));go_grown)⟩
  | 0,_=>
   go_wp2
   go_ret
   refine ⟨ret_bool ?_,(by (repeat (with_reducible refine below_drewN ?_ _));go_grown)⟩
   have h':=hinv.out
   simp [EQ] at h'
   rw [← HL.out]
   obtain ⟨⟨⟨h3,h2⟩,h1⟩,h0⟩:=h'
   rw [h3,h2,h1,h0]
   simp
end Go.Proofs.YtjlofobnmjompaaGreatDoor.Rf
namespace Go.Proofs.YtjlofobnmjompaaGreatDoor.Rf
open Go.RowKit Fx
attribute [local go_sem] setCell_drewN alloc_drewN
/-- Four words that stand for a number; a sign and four words. -/
def IsA (v:Value) (x:Int):Prop:=∃ a0 a1 a2 a3:Int,v = .agg #[.int .u64 a0,.int .u64 a1,.int .u64 a2,.int .u64 a3]∧U a0∧U a1∧U a2∧U a3∧PS 4 a0 a1 a2 a3=x
def IsN (v:Value) (s:Bool) (x:Int):Prop:=∃ a0 a1 a2 a3:Int,v = .agg #[.bool s,.int .u64 a0,.int .u64 a1,.int .u64 a2,.int .u64 a3]∧U a0∧U a1∧U a2∧U a3∧PS 4 a0 a1 a2 a3=x
theorem PS4 (a0 a1 a2 a3:Int):PS 4 a0 a1 a2 a3=a0+a1*18446744073709551616+a2*340282366920938463463374607431768211456+a3*6277101735386680763835789423207666416102355444464034512896:=by simp [PS]
theorem BP4:BP 4=115792089237316195423570985008687907853269984665640564039457584007913129639936:=by simp [BP]
theorem IsA.rng {v:Value} {x:Int} (h:IsA v x):0≤x∧x < 115792089237316195423570985008687907853269984665640564039457584007913129639936:=by
 obtain ⟨a0,a1,a2,a3,_,h0,h1,h2,h3,rfl⟩:=h
 unfold U at *
 rw [PS4]
 omega
theorem IsN.rng {v:Value} {s:Bool} {x:Int} (h:IsN v s x):0≤x∧x < 115792089237316195423570985008687907853269984665640564039457584007913129639936:=by
 obtain ⟨a0,a1,a2,a3,_,h0,h1,h2,h3,rfl⟩:=h
 unfold U at *
 rw [PS4]
 omega
end Go.Proofs.YtjlofobnmjompaaGreatDoor.Rf
namespace Go.Proofs.YtjlofobnmjompaaGreatDoor.Rf
open Go.RowKit Fx
attribute [local go_sem] setCell_drewN alloc_drewN
theorem bcell {B:Nat} {W w1:World} (hb:Below B W w1):(∀ b o,b < B→w1.cell? ⟨b,o,none⟩=W.cell? ⟨b,o,none⟩)∧(∀ b o,b < B→w1.frozen? ⟨b,o,none⟩=W.frozen? ⟨b,o,none⟩):=
 ⟨fun b o h=>hb.cell (p:=⟨b,o,none⟩) h,fun b o h=>hb.frozen (p:=⟨b,o,none⟩) h⟩
theorem set_same {W:World} {p:Addr} {x v:Value} (h:W.cell? p=some v):(W.setCell p x).cell? p=some x:=World.cell?_setCell_same _ _ _ h
theorem set_off {W:World} {b i j:Nat} {x:Value} (hij:j≠i):(W.setCell ⟨b,i,none⟩ x).cell? ⟨b,j,none⟩=W.cell? ⟨b,j,none⟩:=World.cell?_setCell_other _ _ _ _ (by simp;try omega)
theorem five (W:World) (b:Nat) (x0 x1 x2 x3 x4:Value) {y0 y1 y2 y3 y4:Value} (h0:W.cell? ⟨b,0,none⟩=some y0) (h1:W.cell? ⟨b,1,none⟩=some y1) (h2:W.cell? ⟨b,2,none⟩=some y2) (h3:W.cell? ⟨b,3,none⟩=some y3) (h4:W.cell? ⟨b,4,none⟩=some y4):
  (((((W.setCell ⟨b,0,none⟩ x0).setCell ⟨b,1,none⟩ x1).setCell ⟨b,2,none⟩ x2).setCell ⟨b,3,none⟩ x3).setCell ⟨b,4,none⟩ x4).cell? ⟨b,0,none⟩=some x0∧
  (((((W.setCell ⟨b,0,none⟩ x0).setCell ⟨b,1,none⟩ x1).setCell ⟨b,2,none⟩ x2).setCell ⟨b,3,none⟩ x3).setCell ⟨b,4,none⟩ x4).cell? ⟨b,1,none⟩=some x1∧
  (((((W.setCell ⟨b,0,none⟩ x0).setCell ⟨b,1,none⟩ x1).setCell ⟨b,2,none⟩ x2).setCell ⟨b,3,none⟩ x3).setCell ⟨b,4,none⟩ x4).cell? ⟨b,2,none⟩=some x2∧
  (((((W.setCell ⟨b,0,none⟩ x0).setCell ⟨b,1,none⟩ x1).setCell ⟨b,2,none⟩ x2).setCell ⟨b,3,none⟩ x3).setCell ⟨b,4,none⟩ x4).cell? ⟨b,3,none⟩=some x3∧
  (((((W.setCell ⟨b,0,none⟩ x0).setCell ⟨b,1,none⟩ x1).setCell ⟨b,2,none⟩ x2).setCell ⟨b,3,none⟩ x3).setCell ⟨b,4,none⟩ x4).cell? ⟨b,4,none⟩=some x4:=by
 refine ⟨?_,?_,?_,?_,?_⟩
 ·rw [set_off (by omega),set_off (by omega),set_off (by omega),set_off (by omega)];exact set_same h0
 ·rw [set_off (by omega),set_off (by omega),set_off (by omega)];exact set_same (by rw [set_off (by omega)];exact h1)
 ·rw [set_off (by omega),set_off (by omega)];exact set_same (by rw [set_off (by omega),set_off (by omega)];exact h2)
 ·rw [set_off (by omega)];exact set_same (by rw [set_off (by omega),set_off (by omega),set_off (by omega)];exact h3)
 ·exact set_same (by rw [set_off (by omega),set_off (by omega),set_off (by omega),set_off (by omega)];exact h4)
theorem Plus_same (s:Bool) (a0 a1 a2 a3 b0 b1 b2 b3:Int) (p0:U a0) (p1:U a1) (p2:U a2) (p3:U a3) (q0:U b0) (q1:U b1) (q2:U b2) (q3:U b3) (w:World):
  Calls Tryz.prog 34 #[.agg #[.bool s,.int .u64 a0,.int .u64 a1,.int .u64 a2,.int .u64 a3],.agg #[.bool s,.int .u64 b0,.int .u64 b1,.int .u64 b2,.int .u64 b3]] w fun e w'=>
   ∃ c0 c1 c2 c3 cr:Int,e = .returned (.agg #[.bool s,.int .u64 c0,.int .u64 c1,.int .u64 c2,.int .u64 c3])∧U c0∧U c1∧U c2∧U c3∧Hid (0≤cr∧cr≤1∧PS 4 c0 c1 c2 c3+cr*BP 4=PS 4 a0 a1 a2 a3+PS 4 b0 b1 b2 b3)∧Below w.heap.size w w':=by
 go_enter Tryz.func34,Tryz.ntmps34
 go_wp2_with fail
 go_region_with (go_at_call 52;refine (plus_low a0 a1 a2 a3 b0 b1 b2 b3 p0 p1 p2 p3 q0 q1 q2 q3 _).mono ?_;rintro e w1 ⟨c0,c1,c2,c3,cr,rfl,u0,u1,u2,u3,hinv,hb⟩;obtain ⟨hcell,hfroz⟩:=bcell hb;have hB:Below w.heap.size w w1:=Below.trans (by go_grown) (hb.mono (by simp;try omega));have hsz:=hb.size;simp at hsz)
 all_goals
  go_wp2
  obtain ⟨f0,f1,f2,f3,f4⟩:=five w1 (w.heap.size+1+1) (.bool s) (.int .u64 c0) (.int .u64 c1) (.int .u64 c2) (.int .u64 c3) (by rw [hcell _ _ (by simp)];simp [go_sem];rfl) (by rw [hcell _ _ (by simp)];simp [go_sem];rfl) (by rw [hcell _ _ (by simp)];simp [go_sem];rfl) (by rw [hcell _ _ (by simp)];simp [go_sem];rfl) (by rw [hcell _ _ (by simp)];simp [go_sem];rfl)
  refine bodyPost_ret (v:=.agg #[.bool s,.int .u64 c0,.int .u64 c1,.int .u64 c2,.int .u64 c3]) (by simp [results,Tryz.results34,go_sem,f0,f1,f2,f3,f4]) rfl ⟨c0,c1,c2,c3,cr,rfl,u0,u1,u2,u3,hinv,?_⟩
  go_grown
theorem Plus_lt (s t:Bool) (hst:(s==t)=false) (a0 a1 a2 a3 b0 b1 b2 b3:Int) (p0:U a0) (p1:U a1) (p2:U a2) (p3:U a3) (q0:U b0) (q1:U b1) (q2:U b2) (q3:U b3) (hlt:Hid (decide (PS 4 a0 a1 a2 a3 < PS 4 b0 b1 b2 b3)=true)) (w:World):
  Calls Tryz.prog 34 #[.agg #[.bool s,.int .u64 a0,.int .u64 a1,.int .u64 a2,.int .u64 a3],.agg #[.bool t,.int .u64 b0,.int .u64 b1,.int .u64 b2,.int .u64 b3]] w fun e w'=>
   ∃ c0 c1 c2 c3 cr:Int,e = .returned (.agg #[.bool t,.int .u64 c0,.int .u64 c1,.int .u64 c2,.int .u64 c3])∧U c0∧U c1∧U c2∧U c3∧Hid (0≤cr∧cr≤1∧PS 4 c0 c1 c2 c3 - cr*BP 4=PS 4 b0 b1 b2 b3 - PS 4 a0 a1 a2 a3)∧Below w.heap.size w w':=by
 go_enter Tryz.func34,Tryz.ntmps34
 go_wp2_with fail
 refine (less_low a0 a1 a2 a3 b0 b1 b2 b3 p0 p1 p2 p3 q0 q1 q2 q3 _).mono ?_
 rw [hlt.out]
 rintro e w0 ⟨rfl,hb0⟩
 obtain ⟨hcell0,hfroz0⟩:=bcell hb0
 have hB0:Below w.heap.size w w0:=Below.trans (by go_grown) (hb0.mono (by simp;try omega))
 have hsz0:=hb0.size
 simp at hsz0
 go_wp2_with fail
 go_region_with (go_at_call 54;refine (minus_low b0 b1 b2 b3 a0 a1 a2 a3 q0 q1 q2 q3 p0 p1 p2 p3 _).mono ?_;rintro e w1 ⟨c0,c1,c2,c3,cr,rfl,u0,u1,u2,u3,hinv,hb⟩;have hb3:=Below.trans (c:=w1) hb0.drew (hb.mono (by simp;omega));obtain ⟨hcell,hfroz⟩:=bcell hb3;clear hcell0 hfroz0;simp only [World.size_alloc] at hcell hfroz;have hB:Below w.heap.size w w1:=Below.trans (by go_grown) (hb.mono (by simp;try omega));have hsz:=hb.size;simp at hsz)
 all_goals
  go_wp2
  obtain ⟨f0,f1,f2,f3,f4⟩:=five w1 (w.heap.size+1+1) (.bool t) (.int .u64 c0) (.int .u64 c1) (.int .u64 c2) (.int .u64 c3) (by rw [hcell _ _ (by simp)];simp [go_sem];rfl) (by rw [hcell _ _ (by simp)];simp [go_sem];rfl) (by rw [hcell _ _ (by simp)];simp [go_sem];rfl) (by rw [hcell _ _ (by simp)];simp [go_sem];rfl) (by rw [hcell _ _ (by simp)];simp [go_sem];rfl)
  refine bodyPost_ret (v:=.agg #[.bool t,.int .u64 c0,.int .u64 c1,.int .u64 c2,.int .u64 c3]) (by simp [results,Tryz.results34,go_sem,f0,f1,f2,f3,f4]) rfl ⟨c0,c1,c2,c3,cr,rfl,u0,u1,u2,u3,hinv,?_⟩
  go_grown
theorem Plus_ge (s t:Bool) (hst:(s==t)=false) (a0 a1 a2 a3 b0 b1 b2 b3:Int) (p0:U a0) (p1:U a1) (p2:U a2) (p3:U a3) (q0:U b0) (q1:U b1) (q2:U b2) (q3:U b3) (hlt:Hid (decide (PS 4 a0 a1 a2 a3 < PS 4 b0 b1 b2 b3)=false)) (w:World):
  Calls Tryz.prog 34 #[.agg #[.bool s,.int .u64 a0,.int .u64 a1,.int .u64 a2,.int .u64 a3],.agg #[.bool t,.int .u64 b0,.int .u64 b1,.int .u64 b2,.int .u64 b3]] w fun e w'=>
   ∃ c0 c1 c2 c3 cr:Int,e = .returned (.agg #[.bool s,.int .u64 c0,.int .u64 c1,.int .u64 c2,.int .u64 c3])∧U c0∧U c1∧U c2∧U c3∧Hid (0≤cr∧cr≤1∧PS 4 c0 c1 c2 c3 - cr*BP 4=PS 4 a0 a1 a2 a3 - PS 4 b0 b1 b2 b3)∧Below w.heap.size w w':=by
 go_enter Tryz.func34,Tryz.ntmps34
 go_wp2_with fail
 refine (less_low a0 a1 a2 a3 b0 b1 b2 b3 p0 p1 p2 p3 q0 q1 q2 q3 _).mono ?_
 rw [hlt.out]
 rintro e w0 ⟨rfl,hb0⟩
 obtain ⟨hcell0,hfroz0⟩:=bcell hb0
 have hB0:Below w.heap.size w w0:=Below.trans (by go_grown) (hb0.mono (by simp;try omega))
 have hsz0:=hb0.size
 simp at hsz0
 go_wp2_with fail
 go_region_with (go_at_call 54;refine (minus_low a0 a1 a2 a3 b0 b1 b2 b3 p0 p1 p2 p3 q0 q1 q2 q3 _).mono ?_;rintro e w1 ⟨c0,c1,c2,c3,cr,rfl,u0,u1,u2,u3,hinv,hb⟩;have hb3:=Below.trans (c:=w1) hb0.drew (hb.mono (by simp;omega));obtain ⟨hcell,hfroz⟩:=bcell hb3;clear hcell0 hfroz0;simp only [World.size_alloc] at hcell hfroz;have hB:Below w.heap.size w w1:=Below.trans (by go_grown) (hb.mono (by simp;try omega));have hsz:=hb.size;simp at hsz)
 all_goals
  go_wp2
  obtain ⟨f0,f1,f2,f3,f4⟩:=five w1 (w.heap.size+1+1) (.bool s) (.int .u64 c0) (.int .u64 c1) (.int .u64 c2) (.int .u64 c3) (by rw [hcell _ _ (by simp)];simp [go_sem];rfl) (by rw [hcell _ _ (by simp)];simp [go_sem];rfl) (by rw [hcell _ _ (by simp)];simp [go_sem];rfl) (by rw [hcell _ _ (by simp)];simp [go_sem];rfl) (by rw [hcell _ _ (by simp)];simp [go_sem];rfl)
  refine bodyPost_ret (v:=.agg #[.bool s,.int .u64 c0,.int .u64 c1,.int .u64 c2,.int .u64 c3]) (by simp [results,Tryz.results34,go_sem,f0,f1,f2,f3,f4]) rfl ⟨c0,c1,c2,c3,cr,rfl,u0,u1,u2,u3,hinv,?_⟩
  go_grown
end Go.Proofs.YtjlofobnmjompaaGreatDoor.Rf
namespace Go.Proofs.YtjlofobnmjompaaGreatDoor.Rf
open Go.RowKit Fx
attribute [local go_sem] setCell_drewN alloc_drewN
def sv (s:Bool) (x:Int):Int:=if s then -x else x
theorem plus_any (v u:Value) (s t:Bool) (x y:Int) (hv:IsN v s x) (hu:IsN u t y) (hxy:x+y < 115792089237316195423570985008687907853269984665640564039457584007913129639936) (w:World):
  Calls Tryz.prog 34 #[v,u] w fun e w'=>∃ z r m,e = .returned z∧IsN z r m∧sv r m=sv s x+sv t y∧Below w.heap.size w w':=by
 have hx:=hv.rng
 have hy:=hu.rng
 obtain ⟨a0,a1,a2,a3,rfl,p0,p1,p2,p3,hX⟩:=hv
 obtain ⟨b0,b1,b2,b3,rfl,q0,q1,q2,q3,hY⟩:=hu
 by_cases hst:s=t
 ·subst hst
  refine (Plus_same s a0 a1 a2 a3 b0 b1 b2 b3 p0 p1 p2 p3 q0 q1 q2 q3 w).mono ?_
  rintro e w' ⟨c0,c1,c2,c3,cr,rfl,u0,u1,u2,u3,hinv,hb⟩
  refine ⟨_,s,x+y,rfl,⟨c0,c1,c2,c3,rfl,u0,u1,u2,u3,?_⟩,?_,hb⟩
  ·have h:=hinv.out
   rw [hX,hY,BP4] at h
   have hc:0≤PS 4 c0 c1 c2 c3:=by rw [PS4];unfold U at *;omega
   omega
  ·unfold sv;split <;> omega
 ·have hst':(s==t)=false:=by simpa using hst
  by_cases hlt:x < y
  ·refine (Plus_lt s t hst' a0 a1 a2 a3 b0 b1 b2 b3 p0 p1 p2 p3 q0 q1 q2 q3 (by show decide _=true;rw [hX,hY];simpa using hlt) w).mono ?_
   rintro e w' ⟨c0,c1,c2,c3,cr,rfl,u0,u1,u2,u3,hinv,hb⟩
   refine ⟨_,t,y - x,rfl,⟨c0,c1,c2,c3,rfl,u0,u1,u2,u3,?_⟩,?_,hb⟩
   ·have h:=hinv.out
    rw [hX,hY,BP4] at h
    have hc:PS 4 c0 c1 c2 c3 < 115792089237316195423570985008687907853269984665640564039457584007913129639936:=by rw [PS4];unfold U at *;omega
    omega
   ·unfold sv;cases s <;> cases t <;> simp at*<;> omega
  ·refine (Plus_ge s t hst' a0 a1 a2 a3 b0 b1 b2 b3 p0 p1 p2 p3 q0 q1 q2 q3 (by show decide _=false;rw [hX,hY];simpa using hlt) w).mono ?_
   rintro e w' ⟨c0,c1,c2,c3,cr,rfl,u0,u1,u2,u3,hinv,hb⟩
   refine ⟨_,s,x - y,rfl,⟨c0,c1,c2,c3,rfl,u0,u1,u2,u3,?_⟩,?_,hb⟩
   ·have h:=hinv.out
    rw [hX,hY,BP4] at h
    have hc:PS 4 c0 c1 c2 c3 < 115792089237316195423570985008687907853269984665640564039457584007913129639936:=by rw [PS4];unfold U at *;omega
    omega
   ·unfold sv;cases s <;> cases t <;> simp at*<;> omega
end Go.Proofs.YtjlofobnmjompaaGreatDoor.Rf
namespace Go.Proofs.YtjlofobnmjompaaGreatDoor.Rf
open Go.RowKit Fx
/-- A number's part from bit k on. -/
def hp (x:Int) (k:Nat):Int:=x / 2 ^ k*2 ^ k
attribute [local go_sem] setCell_drewN alloc_drewN
/-- Block b holds a sign and four words; below B all is as it was. -/
structure Mem (B:Nat) (W2:World) (b:Nat) (s:Bool) (r0 r1 r2 r3:Int) (wr:World):Prop where
 below:Below B W2 wr
 le:B≤b
 lt:b < wr.heap.size
 c0:wr.cell? ⟨b,0,none⟩=some (.bool s)
 c1:wr.cell? ⟨b,1,none⟩=some (.int .u64 r0)
 c2:wr.cell? ⟨b,2,none⟩=some (.int .u64 r1)
 c3:wr.cell? ⟨b,3,none⟩=some (.int .u64 r2)
 c4:wr.cell? ⟨b,4,none⟩=some (.int .u64 r3)
 fz:∀ o,wr.frozen? ⟨b,o,none⟩=false
 u0:U r0
 u1:U r1
 u2:U r2
 u3:U r3
theorem Mem.up {B:Nat} {W2 wr w1:World} {b:Nat} {s:Bool} {r0 r1 r2 r3:Int} (h:Mem B W2 b s r0 r1 r2 r3 wr) (hb:Below wr.heap.size wr w1):Mem B W2 b s r0 r1 r2 r3 w1:=by
 obtain ⟨hc,hf⟩:=bcell hb
 have hl:wr.heap.size≤w1.heap.size:=hb.size
 have h1:=h.le
 have h2:=h.lt
 exact ⟨h.below.trans (hb.mono (by omega)),h.le,by omega,by rw [hc _ _ h2];exact h.c0,by rw [hc _ _ h2];exact h.c1,by rw [hc _ _ h2];exact h.c2,by rw [hc _ _ h2];exact h.c3,by rw [hc _ _ h2];exact h.c4,fun o=>by rw [hf _ _ h2];exact h.fz o,h.u0,h.u1,h.u2,h.u3⟩
end Go.Proofs.YtjlofobnmjompaaGreatDoor.Rf
namespace Go.Proofs.YtjlofobnmjompaaGreatDoor.Rf
open Go.RowKit Fx
attribute [local go_sem] setCell_drewN alloc_drewN
end Go.Proofs.YtjlofobnmjompaaGreatDoor.Rf
namespace Go.Proofs.YtjlofobnmjompaaGreatDoor.Rf
open Go.RowKit Fx
attribute [local go_sem] setCell_drewN alloc_drewN
end Go.Proofs.YtjlofobnmjompaaGreatDoor.Rf
namespace Go.Proofs.YtjlofobnmjompaaGreatDoor.Rf
open Go.RowKit Fx
attribute [local go_sem] setCell_drewN alloc_drewN
/-- Block b holds four words; below B all is as it was. -/
structure MemA (B:Nat) (W2:World) (b:Nat) (r0 r1 r2 r3:Int) (wr:World):Prop where
 below:Below B W2 wr
 le:B≤b
 lt:b < wr.heap.size
 c0:wr.cell? ⟨b,0,none⟩=some (.int .u64 r0)
 c1:wr.cell? ⟨b,1,none⟩=some (.int .u64 r1)
 c2:wr.cell? ⟨b,2,none⟩=some (.int .u64 r2)
 c3:wr.cell? ⟨b,3,none⟩=some (.int .u64 r3)
 fz:∀ o,wr.frozen? ⟨b,o,none⟩=false
 u0:U r0
 u1:U r1
 u2:U r2
 u3:U r3
theorem MemA.up {B:Nat} {W2 wr w1:World} {b:Nat} {r0 r1 r2 r3:Int} (h:MemA B W2 b r0 r1 r2 r3 wr) (hb:Below wr.heap.size wr w1):MemA B W2 b r0 r1 r2 r3 w1:=by
 obtain ⟨hc,hf⟩:=bcell hb
 have hl:wr.heap.size≤w1.heap.size:=hb.size
 have h1:=h.le
 have h2:=h.lt
 exact ⟨h.below.trans (hb.mono (by omega)),h.le,by omega,by rw [hc _ _ h2];exact h.c0,by rw [hc _ _ h2];exact h.c1,by rw [hc _ _ h2];exact h.c2,by rw [hc _ _ h2];exact h.c3,fun o=>by rw [hf _ _ h2];exact h.fz o,h.u0,h.u1,h.u2,h.u3⟩
end Go.Proofs.YtjlofobnmjompaaGreatDoor.Rf
namespace Go.Proofs.YtjlofobnmjompaaGreatDoor.Rf
open Go.RowKit Fx
theorem sv_from (a:Int):sv (decide (a < 0)) (a.natAbs:Int)=a:=by
 unfold sv
 by_cases h:a < 0
 ·rw [if_pos (by simpa using h)];omega
 ·rw [if_neg (by simpa using h)];omega
end Go.Proofs.YtjlofobnmjompaaGreatDoor.Rf
namespace Go.Proofs.YtjlofobnmjompaaGreatDoor.Wd
open Go.RowKit Fx
attribute [local go_sem] fld_hi fld_lo
end Go.Proofs.YtjlofobnmjompaaGreatDoor.Wd
namespace Go.Proofs.YtjlofobnmjompaaGreatDoor.Wd
open Go.RowKit Fx Rf
attribute [local go_sem] fld_hi fld_lo setCell_drewN alloc_drewN
theorem nosign:(if IntKind.u64.signed=true then (-1:Int) else IntKind.u64.max)=IntKind.u64.max:=rfl
attribute [local go_sem] nosign
theorem wr_mod (y k:Int):wr (y+k*340282366920938463463374607431768211456)=wr y:=by unfold wr;omega
/-- The words of a number turned round. -/
theorem turn_words (a0 a1 oh ol n1 l0 n0:Int) (p0:0≤a0∧a0 < 18446744073709551616) (p1:0≤a1∧a1 < 18446744073709551616) (h1:-9223372036854775808≤oh) (h2:oh≤9223372036854775807) (l1:0≤ol) (l2:ol≤18446744073709551615)
  (q:wr (-(a0+a1*18446744073709551616))=oh*18446744073709551616+ol) (r0:n0=18446744073709551615 - a0) (r1:n1=18446744073709551615 - a1) (r2:l0=(n0+1) % 18446744073709551616):
  l0=ol∧(l0=0→wrap64 ((n1+1) % 18446744073709551616)=oh)∧(l0≠0→wrap64 n1=oh):=by
 unfold wr at q
 unfold wrap64
 have e:l0=ol:=by omega
 refine ⟨e,fun h=>?_,fun h=>?_⟩
 ·have:a0=0:=by omega
  subst this
  have:ol=0:=by omega
  subst this
  omega
 ·omega
theorem compl_u (a:Int) (h:0≤a∧a < 18446744073709551616):bits .xor .u64 IntKind.u64.max a=18446744073709551615 - a:=by
 obtain ⟨n,rfl⟩:=Int.eq_ofNat_of_zero_le h.1
 show IntKind.u64.wrap ((BitVec.ofInt 64 IntKind.u64.max ^^^ BitVec.ofInt 64 (n:Int)).toNat:Int)=_
 have e:BitVec.ofInt 64 IntKind.u64.max=BitVec.allOnes 64:=by decide
 have h1:(BitVec.ofInt 64 (n:Int)).toNat=n:=by
  rw [BitVec.ofInt_natCast,BitVec.toNat_ofNat];exact Nat.mod_eq_of_lt (by omega)
 rw [e,BitVec.allOnes_xor,BitVec.toNat_not,h1,IntKind.wrap_u64]
 omega
theorem wide_up (a0 a1 a2 a3:Int) (p0:U a0) (p1:U a1) (p2:U a2) (p3:U a3) (x:Int) (hx:PS 4 a0 a1 a2 a3=x) (w:World):
  Calls Tryz.prog 33 #[.agg #[.bool false,.int .u64 a0,.int .u64 a1,.int .u64 a2,.int .u64 a3]] w fun e w'=>e = .returned (wd (wr x))∧Below w.heap.size w w':=by
 have H:Hid (PS 4 a0 a1 a2 a3=x):=hx
 clear hx
 unfold U at p0 p1 p2 p3
 obtain ⟨h,l,e,h1,h2,l1,l2,HH⟩:=words (wr_rng x)
 rw [e]
 clear e
 go_enter Tryz.func33,Tryz.ntmps33
 go_wp2_with fail
 go_quiet (fail)
 go_wp2
 refine bodyPost_ret (v:=.agg #[.int .i64 h,.int .u64 l]) ?_ rfl ⟨rfl,below_drewN (by go_grown) _⟩
 have q1:=H.out
 have q2:=HH.out
 rw [PS4] at q1
 unfold wr at q2
 simp [results,Tryz.results33,go_sem]
 simp only [IntKind.wrap_i64,wrap64]
 constructor <;> omega
theorem wide_down (a0 a1 a2 a3:Int) (p0:U a0) (p1:U a1) (p2:U a2) (p3:U a3) (x:Int) (hx:PS 4 a0 a1 a2 a3=x) (w:World):
  Calls Tryz.prog 33 #[.agg #[.bool true,.int .u64 a0,.int .u64 a1,.int .u64 a2,.int .u64 a3]] w fun e w'=>e = .returned (wd (wr (-x)))∧Below w.heap.size w w':=by
 have H:Hid (PS 4 a0 a1 a2 a3=x):=hx
 clear hx
 unfold U at p0 p1 p2 p3
 obtain ⟨oh,ol,e,h1,h2,l1,l2,HH⟩:=words (wr_rng (-x))
 rw [e]
 clear e
 obtain ⟨n0,en0⟩:∃ n0,bits .xor .u64 IntKind.u64.max a0=n0:=⟨_,rfl⟩
 obtain ⟨n1,en1⟩:∃ n1,bits .xor .u64 IntKind.u64.max a1=n1:=⟨_,rfl⟩
 obtain ⟨l0,el0⟩:∃ l0,IntKind.u64.wrap (n0+1)=l0:=⟨_,rfl⟩
 have k0:=en0.symm.trans (compl_u a0 p0)
 have k1:=en1.symm.trans (compl_u a1 p1)
 have k2:=el0.symm.trans (IntKind.wrap_u64 (n0+1))
 have b0:0≤n0∧n0 < 18446744073709551616:=by omega
 have b1:0≤n1∧n1 < 18446744073709551616:=by omega
 have b2:0≤l0∧l0 < 18446744073709551616:=by omega
 have K0:Hid (n0=18446744073709551615 - a0):=k0
 have K1:Hid (n1=18446744073709551615 - a1):=k1
 have K2:Hid (l0=(n0+1) % 18446744073709551616):=k2
 have TW:Hid (l0=ol∧(l0=0→wrap64 ((n1+1) % 18446744073709551616)=oh)∧(l0≠0→wrap64 n1=oh)):=by
  have q1:=H.out
  have q2:=HH.out
  rw [PS4] at q1
  have e:-x = -(a0+a1*18446744073709551616)+(-(a2+a3*18446744073709551616))*340282366920938463463374607431768211456:=by omega
  rw [e,wr_mod] at q2
  exact turn_words a0 a1 oh ol n1 l0 n0 p0 p1 h1 h2 l1 l2 q2 k0 k1 k2
 clear k0 k1 k2
 by_cases c:l0=0
 ·have c':(l0==0)=true:=by simpa using c
  have C:Hid (l0=0):=c
  clear c
  go_enter Tryz.func33,Tryz.ntmps33
  go_wp2_with fail
  go_quiet (fail)
  go_wp2
  refine bodyPost_ret (v:=.agg #[.int .i64 oh,.int .u64 ol]) ?_ rfl ⟨rfl,below_drewN (by go_grown) _⟩
  have T:=TW.out
  have r3:=C.out
  simp [results,Tryz.results33,go_sem]
  try simp only [IntKind.wrap_i64,IntKind.wrap_u64]
  exact ⟨by first|exact T.2.1 r3|exact T.2.2 r3,by first|exact T.1|(rw [← T.1,r3])|(have:=T.1;omega)⟩
 ·have c':(l0==0)=false:=by simpa using c
  have C:Hid (l0≠0):=c
  clear c
  go_enter Tryz.func33,Tryz.ntmps33
  go_wp2_with fail
  go_quiet (fail)
  go_wp2
  refine bodyPost_ret (v:=.agg #[.int .i64 oh,.int .u64 ol]) ?_ rfl ⟨rfl,below_drewN (by go_grown) _⟩
  have T:=TW.out
  have r3:=C.out
  simp [results,Tryz.results33,go_sem]
  try simp only [IntKind.wrap_i64,IntKind.wrap_u64]
  exact ⟨by first|exact T.2.1 r3|exact T.2.2 r3,by first|exact T.1|(rw [← T.1,r3])|(have:=T.1;omega)⟩
theorem wide_ref (v:Value) (s:Bool) (x:Int) (hv:IsN v s x) (w:World):
  Calls Tryz.prog 33 #[v] w fun e w'=>e = .returned (wd (wr (sv s x)))∧Below w.heap.size w w':=by
 obtain ⟨a0,a1,a2,a3,rfl,p0,p1,p2,p3,hX⟩:=hv
 cases s
 ·exact wide_up a0 a1 a2 a3 p0 p1 p2 p3 x hX w
 ·exact wide_down a0 a1 a2 a3 p0 p1 p2 p3 x hX w
theorem num_up (a:Int) (ha:InW a) (h0:0≤a) (w:World):
  Calls Tryz.prog 35 #[wd a] w fun e w'=>∃ v,e = .returned v∧IsN v false a∧Below w.heap.size w w':=by
 obtain ⟨ah,al,ea,a1,a2,a3,a4,Ha⟩:=words ha
 have q:=Ha.out
 have hh:0≤ah:=by omega
 rw [ea]
 clear ea q
 go_enter Tryz.func35,Tryz.ntmps35
 go_wp2
 exact bodyPost_ret (v:=.agg #[.bool false,.int .u64 al,.int .u64 ah,.int .u64 0,.int .u64 0]) (by simp [results,Tryz.results35,go_sem]) rfl
  ⟨_,rfl,⟨al,ah,0,0,rfl,by unfold U;omega,by unfold U;omega,by unfold U;omega,by unfold U;omega,by rw [PS4];have:=Ha.out;omega⟩,by go_grown⟩
theorem num_down (a:Int) (ha:InW a) (h0:a < 0) (w:World):
  Calls Tryz.prog 35 #[wd a] w fun e w'=>∃ v,e = .returned v∧IsN v true (-a)∧Below w.heap.size w w':=by
 obtain ⟨ah,al,ea,a1,a2,a3,a4,Ha⟩:=words ha
 have q:=Ha.out
 have hh:ah < 0:=by omega
 rw [ea]
 clear ea q
 obtain ⟨n0,en0⟩:∃ n0,bits .xor .u64 IntKind.u64.max al=n0:=⟨_,rfl⟩
 obtain ⟨uh,eu⟩:∃ uh,IntKind.u64.wrap ah=uh:=⟨_,rfl⟩
 have k3:=eu.symm.trans (IntKind.wrap_u64 ah)
 have b3:0≤uh∧uh < 18446744073709551616:=by omega
 obtain ⟨n1,en1⟩:∃ n1,bits .xor .u64 IntKind.u64.max uh=n1:=⟨_,rfl⟩
 obtain ⟨l0,el0⟩:∃ l0,IntKind.u64.wrap (n0+1)=l0:=⟨_,rfl⟩
 have k0:=en0.symm.trans (compl_u al (by omega))
 have k1:=en1.symm.trans (compl_u uh b3)
 have k2:=el0.symm.trans (IntKind.wrap_u64 (n0+1))
 have b0:0≤n0∧n0 < 18446744073709551616:=by omega
 have b1:0≤n1∧n1 < 9223372036854775808:=by omega
 have b2:0≤l0∧l0 < 18446744073709551616:=by omega
 have K0:Hid (n0=18446744073709551615 - al):=k0
 have K1:Hid (n1=18446744073709551615 - uh):=k1
 have K2:Hid (l0=(n0+1) % 18446744073709551616):=k2
 have K3:Hid (uh=ah % 18446744073709551616):=k3
 clear k0 k1 k2 k3
 by_cases c:l0=0
 ·have c':(l0==0)=true:=by simpa using c
  have C:Hid (l0=0):=c
  clear c
  go_enter Tryz.func35,Tryz.ntmps35
  go_wp2_with fail
  go_quiet (fail)
  go_wp2
  exact bodyPost_ret (v:=.agg #[.bool true,.int .u64 l0,.int .u64 (n1+1),.int .u64 0,.int .u64 0]) (by simp [results,Tryz.results35,go_sem]) rfl
   ⟨_,rfl,⟨l0,n1+1,0,0,rfl,by unfold U;omega,by unfold U;omega,by unfold U;omega,by unfold U;omega,by rw [PS4];have:=Ha.out;have:=K0.out;have:=K1.out;have:=K2.out;have:=K3.out;have:=C.out;omega⟩,below_drewN (by go_grown) _⟩
 ·have c':(l0==0)=false:=by simpa using c
  have C:Hid (l0≠0):=c
  clear c
  go_enter Tryz.func35,Tryz.ntmps35
  go_wp2_with fail
  go_quiet (fail)
  go_wp2
  exact bodyPost_ret (v:=.agg #[.bool true,.int .u64 l0,.int .u64 n1,.int .u64 0,.int .u64 0]) (by simp [results,Tryz.results35,go_sem]) rfl
   ⟨_,rfl,⟨l0,n1,0,0,rfl,by unfold U;omega,by unfold U;omega,by unfold U;omega,by unfold U;omega,by rw [PS4];have:=Ha.out;have:=K0.out;have:=K1.out;have:=K2.out;have:=K3.out;have:=C.out;omega⟩,below_drewN (by go_grown) _⟩
theorem num_ref (a:Int) (ha:InW a) (w:World):
  Calls Tryz.prog 35 #[wd a] w fun e w'=>∃ v,e = .returned v∧IsN v (decide (a < 0)) (a.natAbs:Int)∧Below w.heap.size w w':=by
 by_cases h:a < 0
 ·have:=num_down a ha h w
  rw [show (a.natAbs:Int) = -a by omega,decide_eq_true h]
  exact this
 ·have:=num_up a ha (by omega) w
  rw [show (a.natAbs:Int)=a by omega,decide_eq_false h]
  exact this
end Go.Proofs.YtjlofobnmjompaaGreatDoor.Wd
namespace Go.Proofs.YtjlofobnmjompaaGreatDoor.Wd
open Go.RowKit Fx Rf
attribute [local go_sem] fld_hi fld_lo setCell_drewN alloc_drewN
theorem below_up2 {w W W1:World} (h:Below w.heap.size w W) (hb:Below W.heap.size W W1):Below w.heap.size w W1:=h.trans (hb.mono h.size)
theorem off_two {W:World} {b c i:Nat} {x0 x1 v:Value} (hne:c≠b) (h:W.cell? ⟨c,i,none⟩=some v):((W.setCell ⟨b,0,none⟩ x0).setCell ⟨b,1,none⟩ x1).cell? ⟨c,i,none⟩=some v:=by
 rw [World.cell?_setCell_other _ _ _ _ (by simp;try omega),World.cell?_setCell_other _ _ _ _ (by simp;try omega)]
 exact h
theorem up4 {W W1:World} {b c:Nat} {x0 x1 x2 x3:Value} (hb:Below W.heap.size W W1) (h:W.cell? ⟨b,0,none⟩=some x0∧W.cell? ⟨b,1,none⟩=some x1∧W.cell? ⟨c,0,none⟩=some x2∧W.cell? ⟨c,1,none⟩=some x3):
  W1.cell? ⟨b,0,none⟩=some x0∧W1.cell? ⟨b,1,none⟩=some x1∧W1.cell? ⟨c,0,none⟩=some x2∧W1.cell? ⟨c,1,none⟩=some x3:=
 ⟨keep hb h.1,keep hb h.2.1,keep hb h.2.2.1,keep hb h.2.2.2⟩
theorem upR {W W1:World} {b:Nat} {x0 x1:Value} (hb:Below W.heap.size W W1) (h:W.cell? ⟨b,0,none⟩=some x0∧W.cell? ⟨b,1,none⟩=some x1∧W.frozen? ⟨b,0,none⟩=false∧W.frozen? ⟨b,1,none⟩=false):
  W1.cell? ⟨b,0,none⟩=some x0∧W1.cell? ⟨b,1,none⟩=some x1∧W1.frozen? ⟨b,0,none⟩=false∧W1.frozen? ⟨b,1,none⟩=false:=
 ⟨keep hb h.1,keep hb h.2.1,keepf hb h.1 h.2.2.1,keepf hb h.2.1 h.2.2.2⟩
theorem wadd_ref (a b:Int) (ha:InW a) (hb:InW b) (w:World):
  Calls Tryz.prog 18 #[wd a,wd b] w fun e w'=>e = .returned (wd (wr (a+b)))∧Below w.heap.size w w':=by
 obtain ⟨ah,al,ea,a1,a2,a3,a4,Ha⟩:=words ha
 obtain ⟨bh,bl,eb,b1,b2,b3,b4,Hb⟩:=words hb
 obtain ⟨oh,ol,eo,o1,o2,o3,o4,Ho⟩:=words (wr_rng (a+b))
 have na:∀ W:World,Calls Tryz.prog 35 #[.agg #[.int .i64 ah,.int .u64 al]] W fun e w'=>∃ v,e = .returned v∧IsN v (decide (a < 0)) (a.natAbs:Int)∧Below W.heap.size W w':=by
  intro W
  have:=num_ref a ha W
  rw [ea] at this
  exact this
 have nb:∀ W:World,Calls Tryz.prog 35 #[.agg #[.int .i64 bh,.int .u64 bl]] W fun e w'=>∃ v,e = .returned v∧IsN v (decide (b < 0)) (b.natAbs:Int)∧Below W.heap.size W w':=by
  intro W
  have:=num_ref b hb W
  rw [eb] at this
  exact this
 have nw:∀ (v:Value) (s:Bool) (x:Int),IsN v s x→wr (sv s x)=wr (a+b)→∀ W:World,Calls Tryz.prog 33 #[v] W fun e w'=>e = .returned (.agg #[.int .i64 oh,.int .u64 ol])∧Below W.heap.size W w':=by
  intro v s x hv hx W
  have:=wide_ref v s x hv W
  rw [hx,eo] at this
  exact this
 have hsm:(a.natAbs:Int)+(b.natAbs:Int) < 115792089237316195423570985008687907853269984665640564039457584007913129639936:=by unfold InW at ha hb;omega
 rw [ea,eb,eo]
 clear ea eb eo Ha Hb Ho
 go_enter Tryz.func18,Tryz.ntmps18
 go_wp2_with fail
 go_region_held3 (fun W=>W.cell? ⟨w.heap.size,0,none⟩=some (.int .i64 ah)∧W.cell? ⟨w.heap.size,1,none⟩=some (.int .u64 al)∧W.cell? ⟨w.heap.size+1,0,none⟩=some (.int .i64 bh)∧W.cell? ⟨w.heap.size+1,1,none⟩=some (.int .u64 bl)) (first|assumption|((refine ⟨off_two (by omega) ?_,off_two (by omega) ?_,off_two (by omega) ?_,off_two (by omega) ?_⟩ <;> first|assumption|simp [*]);done)|(go_keep;done))
  (first
   |(go_at_call 35;(first|(with_reducible refine (na _).mono ?_)|(with_reducible refine (nb _).mono ?_));rintro e' w' ⟨v,rfl,hv,hbb⟩;have hS:=up4 (b:=w.heap.size) (c:=w.heap.size+1) (x0:=.int .i64 ah) (x1:=.int .u64 al) (x2:=.int .i64 bh) (x3:=.int .u64 bl) hbb (by first|assumption|go_keep);have hR:=upR (b:=w.heap.size+1+1) (x0:=.int .i64 0) (x1:=.int .u64 0) hbb (by first|assumption|simp [go_sem, *]);have hBB:=below_up2 (w:=w) (by first|assumption|go_grown) hbb)
   |(go_at_call 34;with_reducible refine (plus_any _ _ _ _ _ _ (by assumption) (by assumption) hsm _).mono ?_;rintro e' w' ⟨z,r,m,rfl,hz,hs,hbb⟩;have hS:=up4 (b:=w.heap.size) (c:=w.heap.size+1) (x0:=.int .i64 ah) (x1:=.int .u64 al) (x2:=.int .i64 bh) (x3:=.int .u64 bl) hbb (by first|assumption|go_keep);have hR:=upR (b:=w.heap.size+1+1) (x0:=.int .i64 0) (x1:=.int .u64 0) hbb (by first|assumption|simp [go_sem, *]);have hBB:=below_up2 (w:=w) (by first|assumption|go_grown) hbb)
   |(go_at_call 33;with_reducible refine (nw _ _ _ (by assumption) (by rw [hs,sv_from,sv_from]) _).mono ?_;rintro e' w' ⟨rfl,hbb⟩;have hS:=up4 (b:=w.heap.size) (c:=w.heap.size+1) (x0:=.int .i64 ah) (x1:=.int .u64 al) (x2:=.int .i64 bh) (x3:=.int .u64 bl) hbb (by first|assumption|go_keep);have hR:=upR (b:=w.heap.size+1+1) (x0:=.int .i64 0) (x1:=.int .u64 0) hbb (by first|assumption|simp [go_sem, *]);have hBB:=below_up2 (w:=w) (by first|assumption|go_grown) hbb))
 all_goals
  go_wp2
  obtain ⟨f0,f1⟩:=two _ (w.heap.size+1+1) (.int .i64 oh) (.int .u64 ol) hR.1 hR.2.1
  exact bodyPost_ret (v:=.agg #[.int .i64 oh,.int .u64 ol]) (by simp [results,Tryz.results18,go_sem,f0,f1]) rfl ⟨rfl,by go_grown⟩
end Go.Proofs.YtjlofobnmjompaaGreatDoor.Wd
namespace Go.Proofs.YtjlofobnmjompaaGreatDoor.Wd
open Go.RowKit Fx
theorem gjoins_of (hS:SumC [1] liL [0,0]) (hO:OfC [1] liL [0,0]) (hJ:JoinC) (w:World) (hT:Hid (Tz w)) (hK:Hid (Kz w)) (a:List Int) (n c:Nat) (p:Option Addr) (b:List Int) (n2 c2:Nat) (p2:Option Addr) (h1:WdsN w p n c a) (h2:WdsN w p2 n2 c2 b):
  Calls Tryz.prog 5 #[.slice p n c,.slice p2 n2 c2] w fun e w'=>e = .returned (.bool true)∧Below w.heap.size w w':=by
 haveI:Nonempty World:=⟨w⟩
 have HN:Hid (WdR w p n a∧WdR w p2 n2 b):=⟨h1.2.2,h2.2.2⟩
 have CJ:Hid JoinC:=hJ
 clear h1 h2 hJ
 go_enter Tryz.func5,Tryz.ntmps5
 go_wp2_with fail
 refine (awake14_any hS hO w hT hK).mono ?_
 rintro e w1 ⟨rfl,hB1⟩
 have HB1:Hid (Below w.heap.size w w1):=hB1
 clear hB1 hS hO
 by_cases a1:100 < n
 ·have:(100:Int) < (n:Int):=by omega
  go_wp2
  go_ret
  exact ⟨rfl,HB1.out⟩
 have a1':(n:Int)≤100:=by omega
 by_cases a2:100 < n2
 ·have:(100:Int) < (n2:Int):=by omega
  go_wp2
  go_ret
  exact ⟨rfl,HB1.out⟩
 have a2':(n2:Int)≤100:=by omega
 go_wp2_with fail
 have cc:=CJ.out p p2 n c n2 c2 a b (by omega) w1 (HN.out.1.up HB1.out) (HN.out.2.up HB1.out)
 by_cases hnn:n=n2
 case neg=>
  rw [if_neg hnn,if_neg hnn] at cc
  refine cc.mono ?_
  rintro e w2 ⟨v2,rfl,⟨p3,n3,c3,rfl,r3⟩,hB2⟩
  obtain rfl:n3=0:=r3.1.symm
  have HB2:Hid (Below w.heap.size w w2):=bstep HB1.out hB2
  have hm':((n:Int) != (n2:Int))=true:=by simpa using (show (n:Int)≠(n2:Int) by omega)
  have hm2:¬ ((n:Int)=(n2:Int)):=by omega
  clear cc r3 hB2
  go_wp2
  go_ret
  exact ⟨rfl,HB2.out⟩
 subst hnn
 rw [if_pos rfl,if_pos rfl] at cc
 refine cc.mono ?_
 rintro e w2 ⟨v2,rfl,⟨p3,n3,c3,rfl,r3⟩,hB2⟩
 obtain rfl:n3=n:=by rw [← r3.1,addW_len,HN.out.1.1]
 have HB2:Hid (Below w.heap.size w w2∧WdR w2 p3 n3 (addW a b)):=⟨bstep HB1.out hB2,r3⟩
 clear cc r3 hB2 HB1
 go_wp2_with fail
 go_loopg [7] n3 (fun gg i wr=>∃ (k:Nat),k≤n3∧gg=n3 - k∧i = .int .i64 (k:Int)∧Hid (Below w2.heap.size w2 wr))
 case atStart=>exact ⟨0,by omega,by omega,by first|rfl|simp,Below.refl _ _⟩
 case round=>
  obtain ⟨k,hk,hg,rfl,HB⟩:=hrel
  obtain ⟨R1,eR1⟩:∃ R1:World,R1=wr:=⟨_,rfl⟩
  subst eR1
  by_cases hkn:k < n3
  ·have hk':(k:Int) < (n3:Int):=by omega
   have hBw:=bstep HB2.out.1 HB.out
   obtain ⟨qa,oa,rfl,a0,a1⟩:=HN.out.1.2.2 k hkn
   obtain ⟨qb,ob,rfl,b0,b1⟩:=HN.out.2.2.2 k hkn
   obtain ⟨qc,oc,rfl,c0,c1⟩:=HB2.out.2.2.2 k hkn
   replace a0:=cell_low a0 hBw
   replace a1:=cell_low a1 hBw
   replace b0:=cell_low b0 hBw
   replace b1:=cell_low b1 hBw
   replace c0:=cell_low c0 HB.out
   replace c1:=cell_low c1 HB.out
   obtain ⟨u,eu⟩:∃ u,a.getD k 0=u:=⟨_,rfl⟩
   obtain ⟨v,ev⟩:∃ v,b.getD k 0=v:=⟨_,rfl⟩
   have wu:InW u:=HN.out.1.2.1 u (by rw [← eu,List.getD_eq_getElem?_getD,List.getElem?_eq_getElem (by rw [HN.out.1.1];exact hkn)];exact List.getElem_mem _)
   have wv:InW v:=HN.out.2.2.1 v (by rw [← ev,List.getD_eq_getElem?_getD,List.getElem?_eq_getElem (by rw [HN.out.2.1];exact hkn)];exact List.getElem_mem _)
   have es0:(addW a b).getD k 0=Wd.wr (u+v):=by
    unfold addW
    rw [List.getD_eq_getElem?_getD,List.getElem?_map,List.getElem?_range (by rw [HN.out.1.1];exact hkn),← eu,← ev]
    rfl
   rw [es0] at c0 c1
   rw [eu] at a0 a1
   rw [ev] at b0 b1
   obtain ⟨u1,f1⟩:∃ x,u / 18446744073709551616=x:=⟨_,rfl⟩
   obtain ⟨u2,f2⟩:∃ x,u % 18446744073709551616=x:=⟨_,rfl⟩
   obtain ⟨v1,f3⟩:∃ x,v / 18446744073709551616=x:=⟨_,rfl⟩
   obtain ⟨v2,f4⟩:∃ x,v % 18446744073709551616=x:=⟨_,rfl⟩
   obtain ⟨s,es⟩:∃ s,Wd.wr (u+v)=s:=⟨_,rfl⟩
   rw [es] at c0 c1
   obtain ⟨s1,f5⟩:∃ x,s / 18446744073709551616=x:=⟨_,rfl⟩
   obtain ⟨s2,f6⟩:∃ x,s % 18446744073709551616=x:=⟨_,rfl⟩
   have es2:wd s = .agg #[.int .i64 s1,.int .u64 s2]:=by unfold wd;rw [f5,f6]
   have cA:Hid (∀ W,Below R1.heap.size R1 W→Calls Tryz.prog 18 #[.agg #[.int .i64 u1,.int .u64 u2],.agg #[.int .i64 v1,.int .u64 v2]] W fun e w'=>e = .returned (.agg #[.int .i64 s1,.int .u64 s2])∧Below W.heap.size W w'):=fun W _=>by
    have:=wadd_ref u v wu wv W
    rw [es,es2] at this
    unfold wd at this
    rw [f1,f2,f3,f4] at this
    exact this
   have hq:=fun W=>wide_eq s1 s2 s1 s2 W
   simp only [decide_true] at hq
   rw [f1] at a0
   rw [f2] at a1
   rw [f3] at b0
   rw [f4] at b1
   rw [f5] at c0
   rw [f6] at c1
   have ka:=cell_lt a0
   have kb:=cell_lt b0
   have kc:=cell_lt c0
   have HBk:Hid (Below w2.heap.size w2 R1):=HB.out
   clear eu ev wu wv f1 f2 f3 f4 f5 f6 es es2 es0 hBw HB
   go_wp2_with fail
   refine rel [] 13 65 (by kernel_rfl) rfl rfl (by kernel_rfl) (by rfl) ?_ ?_
   ·intro e he
    simp at he
   apply Exists.intro
   refine ⟨fun x=>?_,?_,?_⟩
   ·simp only [List.take_succ_cons,List.take_zero]
    iterate 12
     refine relQuiet rfl rfl ?_
     apply Exists.intro
     refine ⟨fun F hF hf K hK=>?_,?_⟩
     ·have hFc:=hF.cell
      have hFf:=hF.frozen
      go_big_quiet_op
      first|exact hK|(apply Exists.intro;refine ⟨fun _=>?_,?_⟩;(· fail);exact hK)
     (try simp only [Act.put,List.setIfInBounds_toArray,List.set_cons_zero,List.set_cons_succ])
    refine relQuiet rfl rfl ?_
    apply Exists.intro
    refine ⟨fun F hF hf K hK=>?_,?_⟩
    ·have hFc:=hF.cell
     have hFf:=hF.frozen
     go_big_quiet_op
     first|exact hK|(apply Exists.intro;refine ⟨fun _=>?_,?_⟩;(· exact hF.call (cA.out _ (hF.below _)));exact hK)
    (try simp only [Act.put,List.setIfInBounds_toArray,List.set_cons_zero,List.set_cons_succ])
    refine relEnd ?_
    exact rfl
   ·intro x
    simp only [putsK,List.foldl_nil]
   ·intro w9 xs hB9 hf
    simp only [List.drop_succ_cons,List.drop_zero]
    have HN9:Hid (Below w2.heap.size w2 w9):=bstep HBk.out hB9
    clear hf hB9 a0 a1 b0 b1 c0 c1 ka kb kc HBk cA
    go_wp2
    go_roundg (n3 - (k+1))
    case measure=>omega
    case rel=>exact ⟨k+1,by omega,rfl,by first|rfl|simp,HN9.out⟩
  ·obtain rfl:n3=k:=by omega
   have HBF:Hid (Below w.heap.size w R1):=bstep HB2.out.1 HB.out
   go_wp2
   go_ret
   exact ⟨rfl,HBF.out⟩
theorem gjoins_walk (w:World) (hT:Hid (Tz w)) (hK:Hid (Kz w)) (a:List Int) (n c:Nat) (p:Option Addr) (b:List Int) (n2 c2:Nat) (p2:Option Addr) (h1:WdsN w p n c a) (h2:WdsN w p2 n2 c2 b):
  Calls Tryz.prog 5 #[.slice p n c,.slice p2 n2 c2] w fun e w'=>e = .returned (.bool true)∧Below w.heap.size w w':=gjoins_of (sum_of (plc_line _)) (of_c (plc_line _)) join_c w hT hK a n c p b n2 c2 p2 h1 h2
end Go.Proofs.YtjlofobnmjompaaGreatDoor.Wd
namespace Go.Proofs.YtjlofobnmjompaaGreatDoor.Wd
open Go.RowKit
theorem kind_cells {H:Type} {enc:TypeId×Value→H} {P:Program} {w:World} {base:Nat} {sp:Nat→Bool} {held:Bool} {fuel:Nat} {e q:TypeId} {f0 f1 f2:Field} {ds:List Value} {bs:List UInt8} {a b c:Int} {p:List MemPlace}
  (he:P.underlying e=some (.struct #[f0,f1,f2])) (ce:P.cellsOf e=4) (o0:f0.offset=0) (o1:f1.offset=1) (o2:f2.offset=2) (c0:P.cellsOf f0.type=1) (c1:P.cellsOf f1.type=1) (c2:P.cellsOf f2.type=2)
  (u0:P.underlying f0.type=some .string) (u1:P.underlying f1.type=some (.int .i64)) (u2:P.underlying f2.type=some (.array 2 q)) (uq:P.underlying q=some (.int .i64)) (cq:P.cellsOf q=1)
  (h:DataW.trod enc P w base sp held fuel e ds=some (.agg [.lit (.string bs),.lit (.int .i64 a),.agg [.lit (.int .i64 b),.lit (.int .i64 c)]],p)):ds = [.string ⟨bs.toArray⟩,.int .i64 a,.int .i64 b,.int .i64 c]:=by
 obtain ⟨ys,n,_,hx,hl,hyl,hf⟩:=DataW.trod_struct he h
 rw [ce] at hl
 have hxs:=(Prod.mk.inj hx).1
 simp only [DataW.agg.injEq] at hxs
 match ys,hyl with
 | [y0,y1,y2],_=>
  simp only [List.map_cons,List.map_nil,List.cons.injEq,and_true] at hxs
  obtain ⟨h0,h1,h2⟩:=hxs
  have t0:=hf 0 f0 rfl
  have t1:=hf 1 f1 rfl
  have t2:=hf 2 f2 rfl
  match ds,hl with
  | [v0,v1,v2,v3],_=>
   simp [o0,c0] at t0
   simp [o1,c1] at t1
   simp [o2,c2] at t2
   obtain ⟨z0,e0,x0,_⟩:=DataW.trod_string u0 t0
   obtain ⟨z1,e1,x1,_⟩:=DataW.trod_int u1 t1
   obtain ⟨y20,y21⟩:=y2
   simp only [] at h2
   subst h2
   have e2:=Lib.cells_of_tab (zs:=[b,c]) u2 uq cq c2 t2
   simp only [List.cons.injEq,and_true,List.map_cons,List.map_nil] at e0 e1 e2
   obtain ⟨e2,e3⟩:=e2
   subst e0 e1 e2 e3
   rw [x0] at h0
   rw [x1] at h1
   simp only [DataW.lit.injEq,Lit.string.injEq,Lit.int.injEq,true_and] at h0 h1
   subst h1
   rw [h0]
theorem cut20 {α:Type} (l:List α) (h:l.length=20):l=(l.drop 0).take 4++((l.drop 4).take 4++((l.drop 8).take 4++((l.drop 12).take 4++(l.drop 16).take 4))):=by
 have k:∀ n,l.drop n=(l.drop n).take 4++l.drop (n+4):=fun n=>by
  have:=(List.take_append_drop 4 (l.drop n)).symm
  rw [List.drop_drop] at this
  exact this
 conv=>lhs;rw [← List.drop_zero (l:=l),k 0,k 4,k 8,k 12,k 16,List.drop_eq_nil_of_le (show l.length≤16+4 by omega),List.append_nil]
theorem kinds_cells {H:Type} {enc:TypeId×Value→H} {P:Program} {w:World} {base:Nat} {sp:Nat→Bool} {held:Bool} {fuel:Nat} {t e q:TypeId} {f0 f1 f2:Field} {cs:List Value} {p:List MemPlace}
  (ht:P.underlying t=some (.array 5 e)) (ct:P.cellsOf t=20)
  (he:P.underlying e=some (.struct #[f0,f1,f2])) (ce:P.cellsOf e=4) (o0:f0.offset=0) (o1:f1.offset=1) (o2:f2.offset=2) (c0:P.cellsOf f0.type=1) (c1:P.cellsOf f1.type=1) (c2:P.cellsOf f2.type=2)
  (u0:P.underlying f0.type=some .string) (u1:P.underlying f1.type=some (.int .i64)) (u2:P.underlying f2.type=some (.array 2 q)) (uq:P.underlying q=some (.int .i64)) (cq:P.cellsOf q=1)
  (h:DataW.trod enc P w base sp held fuel t cs=some (Rows.laid_carousel_model_kinds,p)):cs=kArr.toList:=by
 cases fuel with
 | zero=>simp [DataW.trod] at h
 | succ fuel=>
  simp only [DataW.trod,ht,ce,ct] at h
  split at h
  ·rename_i hl
   obtain ⟨xs,hm,hx⟩:=Option.map_eq_some_iff.1 h
   have hxs:=(Prod.mk.inj hx).1
   unfold Rows.laid_carousel_model_kinds at hxs
   simp only [DataW.agg.injEq] at hxs
   have hxl:xs.length=5:=by simpa using Lib.mapM_length hm
   have g:=fun i (hi:i < 5)=>Lib.mapM_at hm i i (by simp [hi])
   obtain ⟨b0,hb0,g0⟩:=g 0 (by omega)
   obtain ⟨b1,hb1,g1⟩:=g 1 (by omega)
   obtain ⟨b2,hb2,g2⟩:=g 2 (by omega)
   obtain ⟨b3,hb3,g3⟩:=g 3 (by omega)
   obtain ⟨b4,hb4,g4⟩:=g 4 (by omega)
   match xs,hxl with
   | [(d0,q0),(d1,q1),(d2,q2),(d3,q3),(d4,q4)],_=>
    simp only [List.map_cons,List.map_nil,List.cons.injEq,and_true] at hxs
    obtain ⟨rfl,rfl,rfl,rfl,rfl⟩:=hxs
    simp at hb0 hb1 hb2 hb3 hb4
    subst hb0 hb1 hb2 hb3 hb4
    have r0:=kind_cells he ce o0 o1 o2 c0 c1 c2 u0 u1 u2 uq cq g0
    have r1:=kind_cells he ce o0 o1 o2 c0 c1 c2 u0 u1 u2 uq cq g1
    have r2:=kind_cells he ce o0 o1 o2 c0 c1 c2 u0 u1 u2 uq cq g2
    have r3:=kind_cells he ce o0 o1 o2 c0 c1 c2 u0 u1 u2 uq cq g3
    have r4:=kind_cells he ce o0 o1 o2 c0 c1 c2 u0 u1 u2 uq cq g4
    rw [cut20 cs (by omega)]
    rw [show (List.drop 0 cs).take 4=_ from r0,show (List.drop 4 cs).take 4=_ from r1,show (List.drop 8 cs).take 4=_ from r2,show (List.drop 12 cs).take 4=_ from r3,show (List.drop 16 cs).take 4=_ from r4]
    rfl
  ·cases h
theorem kz_var {W : World} (h : W.var? Tryz.prog "carousel/model.kinds" = some kArr) : Kz W := by
 have hc:=World.var?_cell (g:=0) (by kernel_rfl) h
 intro i hi
 have e:∀ j,j < 20→kArr[j]?=kArr.toList[j]?:=fun j _=>by simp
 rcases (show i=0∨i=1∨i=2∨i=3∨i=4 by omega) with rfl|rfl|rfl|rfl|rfl
 ·exact ⟨(hc 0).trans rfl,(hc 1).trans rfl,(hc 2).trans rfl,(hc 3).trans rfl⟩
 ·exact ⟨(hc 4).trans rfl,(hc 5).trans rfl,(hc 6).trans rfl,(hc 7).trans rfl⟩
 ·exact ⟨(hc 8).trans rfl,(hc 9).trans rfl,(hc 10).trans rfl,(hc 11).trans rfl⟩
 ·exact ⟨(hc 12).trans rfl,(hc 13).trans rfl,(hc 14).trans rfl,(hc 15).trans rfl⟩
 ·exact ⟨(hc 16).trans rfl,(hc 17).trans rfl,(hc 18).trans rfl,(hc 19).trans rfl⟩
end Go.Proofs.YtjlofobnmjompaaGreatDoor.Wd
