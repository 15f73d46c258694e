/- The code's reckon: the document's table. · The code's Do where it comes to reckon. -/
import Derived.Test.YtaiigfhicaelkabGreatDoorW19
import Derived.Test.YtaiigfhicaelkabGreatDoorW02
import Derived.Test.YtaiigfhicaelkabGreatDoorW20
import Derived.Test.YtaiigfhicaelkabGreatDoorW21
set_option linter.unusedVariables false
set_option linter.unusedSimpArgs false
set_option maxHeartbeats 16000000
set_option maxRecDepth 16000
namespace Go.Proofs.YtaiigfhicaelkabGreatDoor.Wd
open Go.RowKit Fx
/-- What reckon tells at one Op. -/
def CkP (op:Int):Prop:=∀ (p p2 p3 p4:Option Addr) (n c n2 c2 n3 c3 n4 c4:Nat) (dd yy d' y':List Int) (K:Int) (hK:InR K) (hg:TnsG dd yy) (hd':RI d') (hy':RI y') (hc2:n2≤c2) (w:World) (hT:Hid (Tz w)) (h1:Nums .i64 w (.slice p n c) dd) (h2:Nums .i64 w (.slice p2 n2 c2) yy) (h3:Nums .i64 w (.slice p3 n3 c3) d') (h4:Nums .i64 w (.slice p4 n4 c4) y'),
  Calls Tryz.prog 24 #[.int .i64 op,.agg #[.slice p n c,.slice p2 n2 c2],.agg #[.slice p3 n3 c3,.slice p4 n4 c4],.int .i64 K] w fun e w'=>∃ v',e = .returned (.tuple #[v',.int .i64 (rkE op dd yy d' y' K)])∧TRes w' w.heap.size v' (rkD op dd yy d' y' K) (rkV op dd yy d' y' K)∧Below w.heap.size w w'
theorem cwithout_any (v:Int) (w:World):
  Calls Tryz.prog 49 #[.int .i64 v,.int .i64 0] w fun e w'=>∃ u,e = .returned (.tuple #[u,.int .i64 0])∧TRes w' w.heap.size u [] [v]∧Below w.heap.size w w':=by
 have cN:∀ W:World,Calls Tryz.prog 57 #[.slice none 0 0,.int .i64 v] W fun e w'=>∃ v',e = .returned (.tuple #[v',.int .i64 (newE [])])∧TRes w' W.heap.size v' (newD []) (newV [] v)∧Below W.heap.size W w':=fun W=>tnew_any _ [] (fun y hy=>by simp at hy) v W (.inl ⟨rfl,rfl⟩)
 have g0:goodN (ntl []):=(is_nil 0).1
 have e1:newE []=0:=if_pos g0
 have e2:newD [] = []:=if_pos g0
 have e3:newV [] v = [v]:=(if_pos g0).trans (by simp [ntl,prodN])
 rw [e1,e2,e3] at cN
 clear e1 e2 e3 g0
 go_enter Tryz.func49,Tryz.ntmps49
 go_wp2_with fail
 generalize hW0:World.alloc _ _=W0
 have HB0:=hidB (w:=w) hW0 (by go_grown)
 have XR:Hid (Cel W0 w.heap.size (.slice none 0 0) (.slice none 0 0)):=celW hW0 (by simp [go_sem])
 clear hW0
 refine (cN W0).mono ?_
 rintro e w1 ⟨v1,rfl,⟨s1,t1,rfl,hs,ht⟩,hB1⟩
 obtain ⟨pa,na,ca,rfl,_⟩:=hs.nums.lst
 obtain ⟨pb,nb,cb,rfl,_⟩:=ht.nums.lst
 obtain ⟨HF,r0,r1,r2,r3,y0,y1⟩:=fin2 XR HB0 hB1 hs ht (by omega)
 clear cN hs ht
 go_wp2
 exact bodyPost_ret (v:=.tuple #[.agg #[.slice pa na ca,.slice pb nb cb],.int .i64 0]) (by simp [results,Tryz.results49,go_sem,y0,y1]) rfl ⟨_,rfl,HF.out⟩
theorem ck2:CkP 2:=by
 intro p p2 p3 p4 n c n2 c2 n3 c3 n4 c4 dd yy d' y' K hK hg hd' hy' hc2 w hT h1 h2 h3 h4
 have hd:=hg.2.1
 have hx:=hg.2.2
 obtain ⟨E,eE⟩:∃ E,rkE 2 dd yy d' y' K=E:=⟨_,rfl⟩
 obtain ⟨D,eD⟩:∃ D,rkD 2 dd yy d' y' K=D:=⟨_,rfl⟩
 obtain ⟨V,eV⟩:∃ V,rkV 2 dd yy d' y' K=V:=⟨_,rfl⟩
 rw [eE,eD,eV]
 have cc:∀ W,Below w.heap.size w W→Calls Tryz.prog 42 #[.agg #[.slice p n c,.slice p2 n2 c2],.agg #[.slice p3 n3 c3,.slice p4 n4 c4]] W fun e w'=>∃ v',e = .returned (.tuple #[v',.int .i64 E])∧TRes w' W.heap.size v' D V∧Below W.heap.size W w':=fun W hW=>by
  rw [← eE,← eD,← eV]
  exact tadd_any p p2 p3 p4 n c n2 c2 n3 c3 n4 c4 dd yy d' y' hd hx hd' hy' W (h1.up hW) (h2.up hW) (h3.up hW) (h4.up hW)
 clear eE eD eV h1 h2 h3 h4 hd hx hd' hy' hg hK hc2 hT
 go_enter Tryz.func24,Tryz.ntmps24
 go_wp2_with fail
 generalize hW0:World.alloc _ _=W0
 obtain ⟨HB0,XA,XB,XR⟩:=box3 hW0
 clear hW0
 refine (cc W0 HB0.out).mono ?_
 rintro e w1 ⟨v1,rfl,⟨s1,t1,rfl,hs,ht⟩,hB1⟩
 obtain ⟨pa,na,ca,rfl,_⟩:=hs.nums.lst
 obtain ⟨pb,nb,cb,rfl,_⟩:=ht.nums.lst
 clear cc
 obtain ⟨HF,r0,r1,r2,r3,z0,z1⟩:=fin2 XR HB0 hB1 hs ht (by omega)
 clear hs ht
 go_wp2
 exact bodyPost_ret (v:=.tuple #[.agg #[.slice pa na ca,.slice pb nb cb],.int .i64 E]) (by simp [results,Tryz.results24,go_sem,z0,z1]) rfl ⟨_,rfl,HF.out⟩
theorem ck3:CkP 3:=by
 intro p p2 p3 p4 n c n2 c2 n3 c3 n4 c4 dd yy d' y' K hK hg hd' hy' hc2 w hT h1 h2 h3 h4
 have hd:=hg.2.1
 have hx:=hg.2.2
 obtain ⟨E,eE⟩:∃ E,rkE 3 dd yy d' y' K=E:=⟨_,rfl⟩
 obtain ⟨D,eD⟩:∃ D,rkD 3 dd yy d' y' K=D:=⟨_,rfl⟩
 obtain ⟨V,eV⟩:∃ V,rkV 3 dd yy d' y' K=V:=⟨_,rfl⟩
 rw [eE,eD,eV]
 have cc:∀ W,Below w.heap.size w W→Calls Tryz.prog 43 #[.agg #[.slice p n c,.slice p2 n2 c2],.agg #[.slice p3 n3 c3,.slice p4 n4 c4]] W fun e w'=>∃ v',e = .returned (.tuple #[v',.int .i64 E])∧TRes w' W.heap.size v' D V∧Below W.heap.size W w':=fun W hW=>by
  rw [← eE,← eD,← eV]
  exact tsub_any p p2 p3 p4 n c n2 c2 n3 c3 n4 c4 dd yy d' y' hd hx hd' hy' W (h1.up hW) (h2.up hW) (h3.up hW) (h4.up hW)
 clear eE eD eV h1 h2 h3 h4 hd hx hd' hy' hg hK hc2 hT
 go_enter Tryz.func24,Tryz.ntmps24
 go_wp2_with fail
 generalize hW0:World.alloc _ _=W0
 obtain ⟨HB0,XA,XB,XR⟩:=box3 hW0
 clear hW0
 refine (cc W0 HB0.out).mono ?_
 rintro e w1 ⟨v1,rfl,⟨s1,t1,rfl,hs,ht⟩,hB1⟩
 obtain ⟨pa,na,ca,rfl,_⟩:=hs.nums.lst
 obtain ⟨pb,nb,cb,rfl,_⟩:=ht.nums.lst
 clear cc
 obtain ⟨HF,r0,r1,r2,r3,z0,z1⟩:=fin2 XR HB0 hB1 hs ht (by omega)
 clear hs ht
 go_wp2
 exact bodyPost_ret (v:=.tuple #[.agg #[.slice pa na ca,.slice pb nb cb],.int .i64 E]) (by simp [results,Tryz.results24,go_sem,z0,z1]) rfl ⟨_,rfl,HF.out⟩
theorem ck4:CkP 4:=by
 intro p p2 p3 p4 n c n2 c2 n3 c3 n4 c4 dd yy d' y' K hK hg hd' hy' hc2 w hT h1 h2 h3 h4
 have hd:=hg.2.1
 have hx:=hg.2.2
 obtain ⟨E,eE⟩:∃ E,rkE 4 dd yy d' y' K=E:=⟨_,rfl⟩
 obtain ⟨D,eD⟩:∃ D,rkD 4 dd yy d' y' K=D:=⟨_,rfl⟩
 obtain ⟨V,eV⟩:∃ V,rkV 4 dd yy d' y' K=V:=⟨_,rfl⟩
 rw [eE,eD,eV]
 have cc:∀ W,Below w.heap.size w W→Calls Tryz.prog 44 #[.agg #[.slice p n c,.slice p2 n2 c2],.agg #[.slice p3 n3 c3,.slice p4 n4 c4]] W fun e w'=>∃ v',e = .returned (.tuple #[v',.int .i64 E])∧TRes w' W.heap.size v' D V∧Below W.heap.size W w':=fun W hW=>by
  rw [← eE,← eD,← eV]
  exact tmul_any p p2 p3 p4 n c n2 c2 n3 c3 n4 c4 dd yy d' y' hd hx hd' hy' W (h1.up hW) (h2.up hW) (h3.up hW) (h4.up hW)
 clear eE eD eV h1 h2 h3 h4 hd hx hd' hy' hg hK hc2 hT
 go_enter Tryz.func24,Tryz.ntmps24
 go_wp2_with fail
 generalize hW0:World.alloc _ _=W0
 obtain ⟨HB0,XA,XB,XR⟩:=box3 hW0
 clear hW0
 refine (cc W0 HB0.out).mono ?_
 rintro e w1 ⟨v1,rfl,⟨s1,t1,rfl,hs,ht⟩,hB1⟩
 obtain ⟨pa,na,ca,rfl,_⟩:=hs.nums.lst
 obtain ⟨pb,nb,cb,rfl,_⟩:=ht.nums.lst
 clear cc
 obtain ⟨HF,r0,r1,r2,r3,z0,z1⟩:=fin2 XR HB0 hB1 hs ht (by omega)
 clear hs ht
 go_wp2
 exact bodyPost_ret (v:=.tuple #[.agg #[.slice pa na ca,.slice pb nb cb],.int .i64 E]) (by simp [results,Tryz.results24,go_sem,z0,z1]) rfl ⟨_,rfl,HF.out⟩
theorem ck5:CkP 5:=by
 intro p p2 p3 p4 n c n2 c2 n3 c3 n4 c4 dd yy d' y' K hK hg hd' hy' hc2 w hT h1 h2 h3 h4
 have hd:=hg.2.1
 have hx:=hg.2.2
 obtain ⟨E,eE⟩:∃ E,rkE 5 dd yy d' y' K=E:=⟨_,rfl⟩
 obtain ⟨D,eD⟩:∃ D,rkD 5 dd yy d' y' K=D:=⟨_,rfl⟩
 obtain ⟨V,eV⟩:∃ V,rkV 5 dd yy d' y' K=V:=⟨_,rfl⟩
 rw [eE,eD,eV]
 have cc:∀ W,Below w.heap.size w W→Calls Tryz.prog 45 #[.agg #[.slice p n c,.slice p2 n2 c2],.int .i64 K] W fun e w'=>∃ v',e = .returned (.tuple #[v',.int .i64 E])∧TRes w' W.heap.size v' D V∧Below W.heap.size W w':=fun W hW=>by
  rw [← eE,← eD,← eV]
  exact tscale_any p p2 n c n2 c2 dd yy hd hx K hK W (h1.up hW) (h2.up hW)
 clear eE eD eV h1 h2 h3 h4 hd hx hd' hy' hg hK hc2 hT
 go_enter Tryz.func24,Tryz.ntmps24
 go_wp2_with fail
 generalize hW0:World.alloc _ _=W0
 obtain ⟨HB0,XA,XB,XR⟩:=box3 hW0
 clear hW0
 refine (cc W0 HB0.out).mono ?_
 rintro e w1 ⟨v1,rfl,⟨s1,t1,rfl,hs,ht⟩,hB1⟩
 obtain ⟨pa,na,ca,rfl,_⟩:=hs.nums.lst
 obtain ⟨pb,nb,cb,rfl,_⟩:=ht.nums.lst
 clear cc
 obtain ⟨HF,r0,r1,r2,r3,z0,z1⟩:=fin2 XR HB0 hB1 hs ht (by omega)
 clear hs ht
 go_wp2
 exact bodyPost_ret (v:=.tuple #[.agg #[.slice pa na ca,.slice pb nb cb],.int .i64 E]) (by simp [results,Tryz.results24,go_sem,z0,z1]) rfl ⟨_,rfl,HF.out⟩
theorem ck6:CkP 6:=by
 intro p p2 p3 p4 n c n2 c2 n3 c3 n4 c4 dd yy d' y' K hK hg hd' hy' hc2 w hT h1 h2 h3 h4
 have hd:=hg.2.1
 have hx:=hg.2.2
 obtain ⟨E,eE⟩:∃ E,rkE 6 dd yy d' y' K=E:=⟨_,rfl⟩
 obtain ⟨D,eD⟩:∃ D,rkD 6 dd yy d' y' K=D:=⟨_,rfl⟩
 obtain ⟨V,eV⟩:∃ V,rkV 6 dd yy d' y' K=V:=⟨_,rfl⟩
 rw [eE,eD,eV]
 have cc:∀ W,Below w.heap.size w W→Calls Tryz.prog 46 #[.agg #[.slice p n c,.slice p2 n2 c2],.agg #[.slice p3 n3 c3,.slice p4 n4 c4]] W fun e w'=>∃ v',e = .returned (.tuple #[v',.int .i64 E])∧TRes w' W.heap.size v' D V∧Below W.heap.size W w':=fun W hW=>by
  rw [← eE,← eD,← eV]
  exact mul_any p p2 p3 p4 n c n2 c2 n3 c3 n4 c4 dd yy d' y' hd hx hd' hy' W (Hid.up_tz hT hW) hc2 (h1.up hW) (h2.up hW) (h3.up hW) (h4.up hW)
 clear eE eD eV h1 h2 h3 h4 hd hx hd' hy' hg hK hc2 hT
 go_enter Tryz.func24,Tryz.ntmps24
 go_wp2_with fail
 generalize hW0:World.alloc _ _=W0
 obtain ⟨HB0,XA,XB,XR⟩:=box3 hW0
 clear hW0
 refine (cc W0 HB0.out).mono ?_
 rintro e w1 ⟨v1,rfl,⟨s1,t1,rfl,hs,ht⟩,hB1⟩
 obtain ⟨pa,na,ca,rfl,_⟩:=hs.nums.lst
 obtain ⟨pb,nb,cb,rfl,_⟩:=ht.nums.lst
 clear cc
 obtain ⟨HF,r0,r1,r2,r3,z0,z1⟩:=fin2 XR HB0 hB1 hs ht (by omega)
 clear hs ht
 go_wp2
 exact bodyPost_ret (v:=.tuple #[.agg #[.slice pa na ca,.slice pb nb cb],.int .i64 E]) (by simp [results,Tryz.results24,go_sem,z0,z1]) rfl ⟨_,rfl,HF.out⟩
theorem ck7:CkP 7:=by
 intro p p2 p3 p4 n c n2 c2 n3 c3 n4 c4 dd yy d' y' K hK hg hd' hy' hc2 w hT h1 h2 h3 h4
 have hd:=hg.2.1
 have hx:=hg.2.2
 obtain ⟨E,eE⟩:∃ E,rkE 7 dd yy d' y' K=E:=⟨_,rfl⟩
 obtain ⟨D,eD⟩:∃ D,rkD 7 dd yy d' y' K=D:=⟨_,rfl⟩
 obtain ⟨V,eV⟩:∃ V,rkV 7 dd yy d' y' K=V:=⟨_,rfl⟩
 rw [eE,eD,eV]
 have cc:∀ W,Below w.heap.size w W→Calls Tryz.prog 47 #[.agg #[.slice p n c,.slice p2 n2 c2]] W fun e w'=>∃ v',e = .returned (.tuple #[v',.int .i64 E])∧TRes w' W.heap.size v' D V∧Below W.heap.size W w':=fun W hW=>by
  rw [← eE,← eD,← eV]
  exact flip_any p p2 n c n2 c2 dd yy hd W (h1.up hW) (h2.up hW)
 clear eE eD eV h1 h2 h3 h4 hd hx hd' hy' hg hK hc2 hT
 go_enter Tryz.func24,Tryz.ntmps24
 go_wp2_with fail
 generalize hW0:World.alloc _ _=W0
 obtain ⟨HB0,XA,XB,XR⟩:=box3 hW0
 clear hW0
 refine (cc W0 HB0.out).mono ?_
 rintro e w1 ⟨v1,rfl,⟨s1,t1,rfl,hs,ht⟩,hB1⟩
 obtain ⟨pa,na,ca,rfl,_⟩:=hs.nums.lst
 obtain ⟨pb,nb,cb,rfl,_⟩:=ht.nums.lst
 clear cc
 obtain ⟨HF,r0,r1,r2,r3,z0,z1⟩:=fin2 XR HB0 hB1 hs ht (by omega)
 clear hs ht
 go_wp2
 exact bodyPost_ret (v:=.tuple #[.agg #[.slice pa na ca,.slice pb nb cb],.int .i64 E]) (by simp [results,Tryz.results24,go_sem,z0,z1]) rfl ⟨_,rfl,HF.out⟩
theorem ck8:CkP 8:=by
 intro p p2 p3 p4 n c n2 c2 n3 c3 n4 c4 dd yy d' y' K hK hg hd' hy' hc2 w hT h1 h2 h3 h4
 have hd:=hg.2.1
 have hx:=hg.2.2
 obtain ⟨E,eE⟩:∃ E,rkE 8 dd yy d' y' K=E:=⟨_,rfl⟩
 obtain ⟨D,eD⟩:∃ D,rkD 8 dd yy d' y' K=D:=⟨_,rfl⟩
 obtain ⟨V,eV⟩:∃ V,rkV 8 dd yy d' y' K=V:=⟨_,rfl⟩
 rw [eE,eD,eV]
 have cc:∀ W,Below w.heap.size w W→Calls Tryz.prog 48 #[.agg #[.slice p n c,.slice p2 n2 c2],.int .i64 K] W fun e w'=>∃ v',e = .returned (.tuple #[v',.int .i64 E])∧TRes w' W.heap.size v' D V∧Below W.heap.size W w':=fun W hW=>by
  rw [← eE,← eD,← eV]
  exact sum_own p p2 n c n2 c2 dd yy K hK hd hx (by obtain ⟨_,_,_,e4,HD⟩:=h1.lst;cases e4;have h5:=hg.1.1.1;rw [ntl_len,HD.out.1] at h5;omega) W (h1.up hW) (h2.up hW)
 clear eE eD eV h1 h2 h3 h4 hd hx hd' hy' hg hK hc2 hT
 go_enter Tryz.func24,Tryz.ntmps24
 go_wp2_with fail
 generalize hW0:World.alloc _ _=W0
 obtain ⟨HB0,XA,XB,XR⟩:=box3 hW0
 clear hW0
 refine (cc W0 HB0.out).mono ?_
 rintro e w1 ⟨v1,rfl,⟨s1,t1,rfl,hs,ht⟩,hB1⟩
 obtain ⟨pa,na,ca,rfl,_⟩:=hs.nums.lst
 obtain ⟨pb,nb,cb,rfl,_⟩:=ht.nums.lst
 clear cc
 obtain ⟨HF,r0,r1,r2,r3,z0,z1⟩:=fin2 XR HB0 hB1 hs ht (by omega)
 clear hs ht
 go_wp2
 exact bodyPost_ret (v:=.tuple #[.agg #[.slice pa na ca,.slice pb nb cb],.int .i64 E]) (by simp [results,Tryz.results24,go_sem,z0,z1]) rfl ⟨_,rfl,HF.out⟩
theorem ck9:CkP 9:=by
 intro p p2 p3 p4 n c n2 c2 n3 c3 n4 c4 dd yy d' y' K hK hg hd' hy' hc2 w hT h1 h2 h3 h4
 have hd:=hg.2.1
 have hx:=hg.2.2
 obtain ⟨z,ez⟩:∃ z,allV dd yy=z:=⟨_,rfl⟩
 have eE:rkE 9 dd yy d' y' K=0:=if_pos hg.1
 have eD:rkD 9 dd yy d' y' K = []:=rfl
 have eV:rkV 9 dd yy d' y' K = [z]:=by rw [← ez];exact if_pos hg.1
 rw [eE,eD,eV]
 have cc:∀ W,Below w.heap.size w W→Calls Tryz.prog 50 #[.agg #[.slice p n c,.slice p2 n2 c2]] W fun e w'=>e = .returned (.tuple #[.int .i64 z,.int .i64 0])∧Below W.heap.size W w':=fun W hW=>by
  have:=all_any p p2 n c n2 c2 dd yy hd hx W (h1.up hW) (h2.up hW)
  rw [ez,show matE dd yy=0 from if_pos hg.1] at this
  exact this
 clear eE eD eV ez h1 h2 h3 h4 hd hx hd' hy' hg hK hc2 hT
 go_enter Tryz.func24,Tryz.ntmps24
 go_wp2_with fail
 generalize hW0:World.alloc _ _=W0
 obtain ⟨HB0,XA,XB,XR⟩:=box3 hW0
 clear hW0
 refine (cc W0 HB0.out).mono ?_
 rintro e w1 ⟨rfl,hB1⟩
 clear cc
 go_wp2_with fail
 refine (cwithout_any z w1).mono ?_
 rintro e w2 ⟨v2,rfl,⟨s1,t1,rfl,hs,ht⟩,hB2⟩
 obtain ⟨pa,na,ca,rfl,_⟩:=hs.nums.lst
 obtain ⟨pb,nb,cb,rfl,_⟩:=ht.nums.lst
 replace hs:=hs.low hB1.size
 replace ht:=ht.low hB1.size
 have hB3:Below W0.heap.size W0 w2:=bstep hB1 hB2
 clear hB1 hB2
 obtain ⟨HF,r0,r1,r2,r3,z0,z1⟩:=fin2 XR HB0 hB3 hs ht (by omega)
 clear hs ht
 go_wp2
 exact bodyPost_ret (v:=.tuple #[.agg #[.slice pa na ca,.slice pb nb cb],.int .i64 0]) (by simp [results,Tryz.results24,go_sem,z0,z1]) rfl ⟨_,rfl,HF.out⟩
theorem ck10:CkP 10:=by
 intro p p2 p3 p4 n c n2 c2 n3 c3 n4 c4 dd yy d' y' K hK hg hd' hy' hc2 w hT h1 h2 h3 h4
 have hd:=hg.2.1
 have hx:=hg.2.2
 obtain ⟨z,ez⟩:∃ z,meanV dd yy=z:=⟨_,rfl⟩
 have eE:rkE 10 dd yy d' y' K=0:=if_pos hg.1
 have eD:rkD 10 dd yy d' y' K = []:=rfl
 have eV:rkV 10 dd yy d' y' K = [z]:=by rw [← ez];exact if_pos hg.1
 rw [eE,eD,eV]
 have cc:∀ W,Below w.heap.size w W→Calls Tryz.prog 51 #[.agg #[.slice p n c,.slice p2 n2 c2]] W fun e w'=>e = .returned (.tuple #[.int .i64 z,.int .i64 0])∧Below W.heap.size W w':=fun W hW=>by
  have:=mean_any p p2 n c n2 c2 dd yy hd hx W (h1.up hW) (h2.up hW)
  rw [ez,show matE dd yy=0 from if_pos hg.1] at this
  exact this
 clear eE eD eV ez h1 h2 h3 h4 hd hx hd' hy' hg hK hc2 hT
 go_enter Tryz.func24,Tryz.ntmps24
 go_wp2_with fail
 generalize hW0:World.alloc _ _=W0
 obtain ⟨HB0,XA,XB,XR⟩:=box3 hW0
 clear hW0
 refine (cc W0 HB0.out).mono ?_
 rintro e w1 ⟨rfl,hB1⟩
 clear cc
 go_wp2_with fail
 refine (cwithout_any z w1).mono ?_
 rintro e w2 ⟨v2,rfl,⟨s1,t1,rfl,hs,ht⟩,hB2⟩
 obtain ⟨pa,na,ca,rfl,_⟩:=hs.nums.lst
 obtain ⟨pb,nb,cb,rfl,_⟩:=ht.nums.lst
 replace hs:=hs.low hB1.size
 replace ht:=ht.low hB1.size
 have hB3:Below W0.heap.size W0 w2:=bstep hB1 hB2
 clear hB1 hB2
 obtain ⟨HF,r0,r1,r2,r3,z0,z1⟩:=fin2 XR HB0 hB3 hs ht (by omega)
 clear hs ht
 go_wp2
 exact bodyPost_ret (v:=.tuple #[.agg #[.slice pa na ca,.slice pb nb cb],.int .i64 0]) (by simp [results,Tryz.results24,go_sem,z0,z1]) rfl ⟨_,rfl,HF.out⟩
theorem ck11:CkP 11:=by
 intro p p2 p3 p4 n c n2 c2 n3 c3 n4 c4 dd yy d' y' K hK hg hd' hy' hc2 w hT h1 h2 h3 h4
 have hd:=hg.2.1
 have hx:=hg.2.2
 obtain ⟨E,eE⟩:∃ E,rkE 11 dd yy d' y' K=E:=⟨_,rfl⟩
 obtain ⟨D,eD⟩:∃ D,rkD 11 dd yy d' y' K=D:=⟨_,rfl⟩
 obtain ⟨V,eV⟩:∃ V,rkV 11 dd yy d' y' K=V:=⟨_,rfl⟩
 rw [eE,eD,eV]
 have cc:∀ W,Below w.heap.size w W→Calls Tryz.prog 52 #[.int .i64 K,.agg #[.slice p n c,.slice p2 n2 c2]] W fun e w'=>∃ v',e = .returned (.tuple #[v',.int .i64 E])∧TRes w' W.heap.size v' D V∧Below W.heap.size W w':=fun W hW=>by
  rw [← eE,← eD,← eV]
  exact aall_any K p p2 n c n2 c2 dd yy hd hx W (h1.up hW) (h2.up hW)
 clear eE eD eV h1 h2 h3 h4 hd hx hd' hy' hg hK hc2 hT
 go_enter Tryz.func24,Tryz.ntmps24
 go_wp2_with fail
 generalize hW0:World.alloc _ _=W0
 obtain ⟨HB0,XA,XB,XR⟩:=box3 hW0
 clear hW0
 refine (cc W0 HB0.out).mono ?_
 rintro e w1 ⟨v1,rfl,⟨s1,t1,rfl,hs,ht⟩,hB1⟩
 obtain ⟨pa,na,ca,rfl,_⟩:=hs.nums.lst
 obtain ⟨pb,nb,cb,rfl,_⟩:=ht.nums.lst
 clear cc
 obtain ⟨HF,r0,r1,r2,r3,z0,z1⟩:=fin2 XR HB0 hB1 hs ht (by omega)
 clear hs ht
 go_wp2
 exact bodyPost_ret (v:=.tuple #[.agg #[.slice pa na ca,.slice pb nb cb],.int .i64 E]) (by simp [results,Tryz.results24,go_sem,z0,z1]) rfl ⟨_,rfl,HF.out⟩
theorem ck12:CkP 12:=by
 intro p p2 p3 p4 n c n2 c2 n3 c3 n4 c4 dd yy d' y' K hK hg hd' hy' hc2 w hT h1 h2 h3 h4
 have hd:=hg.2.1
 have hx:=hg.2.2
 obtain ⟨E,eE⟩:∃ E,rkE 12 dd yy d' y' K=E:=⟨_,rfl⟩
 obtain ⟨D,eD⟩:∃ D,rkD 12 dd yy d' y' K=D:=⟨_,rfl⟩
 obtain ⟨V,eV⟩:∃ V,rkV 12 dd yy d' y' K=V:=⟨_,rfl⟩
 rw [eE,eD,eV]
 have cc:∀ W,Below w.heap.size w W→Calls Tryz.prog 53 #[.agg #[.slice p n c,.slice p2 n2 c2],.agg #[.slice p3 n3 c3,.slice p4 n4 c4],.int .i64 K] W fun e w'=>∃ v',e = .returned (.tuple #[v',.int .i64 E])∧TRes w' W.heap.size v' D V∧Below W.heap.size W w':=fun W hW=>by
  rw [← eE,← eD,← eV]
  exact crow_any p p2 p3 p4 n c n2 c2 n3 c3 n4 c4 dd yy d' y' K hd hx hd' hy' W (Hid.up_tz hT hW) (h1.up hW) (h2.up hW) (h3.up hW) (h4.up hW)
 clear eE eD eV h1 h2 h3 h4 hd hx hd' hy' hg hK hc2 hT
 go_enter Tryz.func24,Tryz.ntmps24
 go_wp2_with fail
 generalize hW0:World.alloc _ _=W0
 obtain ⟨HB0,XA,XB,XR⟩:=box3 hW0
 clear hW0
 refine (cc W0 HB0.out).mono ?_
 rintro e w1 ⟨v1,rfl,⟨s1,t1,rfl,hs,ht⟩,hB1⟩
 obtain ⟨pa,na,ca,rfl,_⟩:=hs.nums.lst
 obtain ⟨pb,nb,cb,rfl,_⟩:=ht.nums.lst
 clear cc
 obtain ⟨HF,r0,r1,r2,r3,z0,z1⟩:=fin2 XR HB0 hB1 hs ht (by omega)
 clear hs ht
 go_wp2
 exact bodyPost_ret (v:=.tuple #[.agg #[.slice pa na ca,.slice pb nb cb],.int .i64 E]) (by simp [results,Tryz.results24,go_sem,z0,z1]) rfl ⟨_,rfl,HF.out⟩
theorem ck13:CkP 13:=by
 intro p p2 p3 p4 n c n2 c2 n3 c3 n4 c4 dd yy d' y' K hK hg hd' hy' hc2 w hT h1 h2 h3 h4
 have hd:=hg.2.1
 have hx:=hg.2.2
 obtain ⟨E,eE⟩:∃ E,rkE 13 dd yy d' y' K=E:=⟨_,rfl⟩
 obtain ⟨D,eD⟩:∃ D,rkD 13 dd yy d' y' K=D:=⟨_,rfl⟩
 obtain ⟨V,eV⟩:∃ V,rkV 13 dd yy d' y' K=V:=⟨_,rfl⟩
 rw [eE,eD,eV]
 obtain ⟨P,eP⟩:∃ P,plP dd yy K=P:=⟨_,rfl⟩
 have cc:∀ W,Below w.heap.size w W→Calls Tryz.prog 54 #[.agg #[.slice p n c,.slice p2 n2 c2],.int .i64 K] W fun e w'=>∃ v' u',e = .returned (.tuple #[v',u',.int .i64 E])∧TRes w' W.heap.size v' D V∧OwnK .i64 3 w' W.heap.size u' P∧Below W.heap.size W w':=fun W hW=>by
  rw [← eE,← eD,← eV,← eP]
  exact pool_any p p2 n c n2 c2 dd yy K hd hx hc2 W (h1.up hW) (h2.up hW)
 clear eE eD eV eP h1 h2 h3 h4 hd hx hd' hy' hg hK hc2 hT
 go_enter Tryz.func24,Tryz.ntmps24
 go_wp2_with fail
 generalize hW0:World.alloc _ _=W0
 obtain ⟨HB0,XA,XB,XR⟩:=box3 hW0
 clear hW0
 refine (cc W0 HB0.out).mono ?_
 rintro e w1 ⟨v1,u1,rfl,⟨s1,t1,rfl,hs0,ht0⟩,hu,hB0⟩
 obtain ⟨pa,na,ca,rfl,_⟩:=hs0.nums.lst
 obtain ⟨pb,nb,cb,rfl,_⟩:=ht0.nums.lst
 obtain ⟨pu,nu,cu,rfl,_⟩:=hu.nums.lst
 clear cc hu
 have xr:=XR.out.up hB0
 have cf:=xr.set (.slice pa na ca) (.slice pb nb cb)
 have HF:Hid (TRes ((set2 w1 (w.heap.size+2) (.slice pa na ca) (.slice pb nb cb)).alloc (.cells #[.slice pa na ca,.slice pb nb cb] 32)) w.heap.size (.agg #[.slice pa na ca,.slice pb nb cb]) D V∧Below w.heap.size w ((set2 w1 (w.heap.size+2) (.slice pa na ca) (.slice pb nb cb)).alloc (.cells #[.slice pa na ca,.slice pb nb cb] 32))):=
  ⟨((TRes.set hs0 ht0 (cell_lt XR.out.1)).low HB0.out.size).up (up_alloc _ _),bstep (below_cell (bstep HB0.out hB0) _ (by omega) _ _) (up_alloc _ _)⟩
 obtain ⟨r0,r1,r2,r3⟩:=xr
 have kq:=cell_lt r0
 have z0:=cell_low cf.1 (up_alloc _ (.cells #[.slice pa na ca,.slice pb nb cb] 32))
 have z1:=cell_low cf.2.1 (up_alloc _ (.cells #[.slice pa na ca,.slice pb nb cb] 32))
 clear hs0 ht0 hB0 cf
 go_wp2
 exact bodyPost_ret (v:=.tuple #[.agg #[.slice pa na ca,.slice pb nb cb],.int .i64 E]) (by simp [results,Tryz.results24,go_sem,z0,z1]) rfl ⟨_,rfl,HF.out⟩
theorem ck14:CkP 14:=by
 intro p p2 p3 p4 n c n2 c2 n3 c3 n4 c4 dd yy d' y' K hK hg hd' hy' hc2 w hT h1 h2 h3 h4
 obtain ⟨_,_,_,e4,HX⟩:=h2.lst
 cases e4
 have hn:n2≤4096:=by rw [← HX.out.1];exact hg.1.len.2
 have hrn:RI [(n2:Int)]:=fun q hq=>by simp at hq;omega
 have hyl:yy.length=n2:=HX.out.1
 have hd:=hg.2.1
 have hx:=hg.2.2
 obtain ⟨E,eE⟩:∃ E,rkE 14 dd yy d' y' K=E:=⟨_,rfl⟩
 obtain ⟨D,eD⟩:∃ D,rkD 14 dd yy d' y' K=D:=⟨_,rfl⟩
 obtain ⟨V,eV⟩:∃ V,rkV 14 dd yy d' y' K=V:=⟨_,rfl⟩
 rw [eE,eD,eV]
 have cc:Hid (∀ q W,Below w.heap.size w W→Nums .i64 W (.slice q 1 1) [(n2:Int)]→Calls Tryz.prog 55 #[.agg #[.slice p n c,.slice p2 n2 c2],.slice q 1 1] W fun e w'=>∃ v',e = .returned (.tuple #[v',.int .i64 E])∧TRes w' W.heap.size v' D V∧Below W.heap.size W w'):=fun q W hW hl=>by
  rw [← eE,← eD,← eV]
  show Calls _ _ _ _ fun e w'=>∃ v',e = .returned (.tuple #[v',.int .i64 (shpE dd yy [(yy.length:Int)])])∧TRes w' W.heap.size v' (shpD dd yy [(yy.length:Int)]) (shpV dd yy [(yy.length:Int)])∧Below W.heap.size W w'
  rw [hyl]
  exact treshape_any p p2 q n c n2 c2 1 1 dd yy [(n2:Int)] hd hrn W (h1.up hW) (h2.up hW) hl
 clear eE eD eV h1 h2 h3 h4 hd hx hd' hy' hg hK hc2 hn hrn hyl HX hT
 go_enter Tryz.func24,Tryz.ntmps24
 go_wp2_with fail
 generalize hW0:World.alloc _ _=W0
 have B0:Below w.heap.size w W0:=by rw [← hW0];go_grown
 have XA:Hid (Cel W0 w.heap.size (.slice p n c) (.slice p2 n2 c2)):=celW hW0 (by simp [go_sem])
 have XB:Hid (Cel W0 (w.heap.size+1) (.slice p3 n3 c3) (.slice p4 n4 c4)):=celW hW0 (by simp [go_sem])
 have XR:Hid (Cel W0 (w.heap.size+2) (.slice none 0 0) (.slice none 0 0)):=celW hW0 (by simp [go_sem])
 have HB0:Hid (Below w.heap.size w W0):=B0
 have l5:Nums .i64 W0 (.slice (some ⟨w.heap.size+3,0,none⟩) 1 1) [(n2:Int)]:=by
  refine .inr ⟨_,1,rfl,fun j u hj=>?_⟩
  match j,hj with
  | 0,hj=>
   simp [vals] at hj
   subst hj
   rw [addr_plus,← hW0]
   simp [go_sem]
  | j+1,hj=>simp [vals] at hj
 clear hW0 B0
 refine (cc.out _ W0 HB0.out l5).mono ?_
 rintro e w1 ⟨v1,rfl,⟨s1,t1,rfl,hs,ht⟩,hB1⟩
 obtain ⟨pa,na,ca,rfl,_⟩:=hs.nums.lst
 obtain ⟨pb,nb,cb,rfl,_⟩:=ht.nums.lst
 clear cc l5
 obtain ⟨HF,r0,r1,r2,r3,z0,z1⟩:=fin2 XR HB0 hB1 hs ht (by omega)
 clear hs ht
 go_wp2
 exact bodyPost_ret (v:=.tuple #[.agg #[.slice pa na ca,.slice pb nb cb],.int .i64 E]) (by simp [results,Tryz.results24,go_sem,z0,z1]) rfl ⟨_,rfl,HF.out⟩
theorem ckno (p p2 p3 p4:Option Addr) (n c n2 c2 n3 c3 n4 c4:Nat) (dd yy d' y':List Int) (op:Int) (hno:¬ (2≤op∧op≤14)) (K:Int) (hK:InR K) (hg:TnsG dd yy) (hd':RI d') (hy':RI y') (hc2:n2≤c2) (w:World) (hT:Hid (Tz w)) (h1:Nums .i64 w (.slice p n c) dd) (h2:Nums .i64 w (.slice p2 n2 c2) yy) (h3:Nums .i64 w (.slice p3 n3 c3) d') (h4:Nums .i64 w (.slice p4 n4 c4) y'):
  Calls Tryz.prog 24 #[.int .i64 op,.agg #[.slice p n c,.slice p2 n2 c2],.agg #[.slice p3 n3 c3,.slice p4 n4 c4],.int .i64 K] w fun e w'=>∃ v',e = .returned (.tuple #[v',.int .i64 1])∧TRes w' w.heap.size v' [] []∧Below w.heap.size w w':=by
 have g2:(op==2)=false:=by simpa using (show op≠2 by omega)
 have g3:(op==3)=false:=by simpa using (show op≠3 by omega)
 have g4:(op==4)=false:=by simpa using (show op≠4 by omega)
 have g5:(op==5)=false:=by simpa using (show op≠5 by omega)
 have g6:(op==6)=false:=by simpa using (show op≠6 by omega)
 have g7:(op==7)=false:=by simpa using (show op≠7 by omega)
 have g8:(op==8)=false:=by simpa using (show op≠8 by omega)
 have g9:(op==9)=false:=by simpa using (show op≠9 by omega)
 have g10:(op==10)=false:=by simpa using (show op≠10 by omega)
 have g11:(op==11)=false:=by simpa using (show op≠11 by omega)
 have g12:(op==12)=false:=by simpa using (show op≠12 by omega)
 have g13:(op==13)=false:=by simpa using (show op≠13 by omega)
 have g14:(op==14)=false:=by simpa using (show op≠14 by omega)
 clear h1 h2 h3 h4 hd' hy' hg hK hc2 hT hno
 go_enter Tryz.func24,Tryz.ntmps24
 go_wp2
 exact bodyPost_ret (v:=.tuple #[.agg #[.slice none 0 0,.slice none 0 0],.int .i64 1]) (by simp [results,Tryz.results24,go_sem]) rfl ⟨_,rfl,TRes.none _ _,by go_grown⟩
def rqE (op:Int) (D X D' X':List Int) (k:Int):Int:=if 2≤op∧op≤14 then rkE op D X D' X' k else 1
def rqD (op:Int) (D X D' X':List Int) (k:Int):List Int:=if 2≤op∧op≤14 then rkD op D X D' X' k else []
def rqV (op:Int) (D X D' X':List Int) (k:Int):List Int:=if 2≤op∧op≤14 then rkV op D X D' X' k else []
theorem creckon_any (p p2 p3 p4:Option Addr) (n c n2 c2 n3 c3 n4 c4:Nat) (dd yy d' y':List Int) (op:Int) (K:Int) (hK:InR K) (hg:TnsG dd yy) (hd':RI d') (hy':RI y') (hc2:n2≤c2) (w:World) (hT:Hid (Tz w)) (h1:Nums .i64 w (.slice p n c) dd) (h2:Nums .i64 w (.slice p2 n2 c2) yy) (h3:Nums .i64 w (.slice p3 n3 c3) d') (h4:Nums .i64 w (.slice p4 n4 c4) y'):
  Calls Tryz.prog 24 #[.int .i64 op,.agg #[.slice p n c,.slice p2 n2 c2],.agg #[.slice p3 n3 c3,.slice p4 n4 c4],.int .i64 K] w fun e w'=>∃ v',e = .returned (.tuple #[v',.int .i64 (rqE op dd yy d' y' K)])∧TRes w' w.heap.size v' (rqD op dd yy d' y' K) (rqV op dd yy d' y' K)∧Below w.heap.size w w':=by
 unfold rqE rqD rqV
 by_cases hop:2≤op∧op≤14
 ·rw [if_pos hop,if_pos hop,if_pos hop]
  have hall:op=2∨op=3∨op=4∨op=5∨op=6∨op=7∨op=8∨op=9∨op=10∨op=11∨op=12∨op=13∨op=14:=by omega
  rcases hall with rfl|rfl|rfl|rfl|rfl|rfl|rfl|rfl|rfl|rfl|rfl|rfl|rfl
  ·exact ck2 p p2 p3 p4 n c n2 c2 n3 c3 n4 c4 dd yy d' y' K hK hg hd' hy' hc2 w hT h1 h2 h3 h4
  ·exact ck3 p p2 p3 p4 n c n2 c2 n3 c3 n4 c4 dd yy d' y' K hK hg hd' hy' hc2 w hT h1 h2 h3 h4
  ·exact ck4 p p2 p3 p4 n c n2 c2 n3 c3 n4 c4 dd yy d' y' K hK hg hd' hy' hc2 w hT h1 h2 h3 h4
  ·exact ck5 p p2 p3 p4 n c n2 c2 n3 c3 n4 c4 dd yy d' y' K hK hg hd' hy' hc2 w hT h1 h2 h3 h4
  ·exact ck6 p p2 p3 p4 n c n2 c2 n3 c3 n4 c4 dd yy d' y' K hK hg hd' hy' hc2 w hT h1 h2 h3 h4
  ·exact ck7 p p2 p3 p4 n c n2 c2 n3 c3 n4 c4 dd yy d' y' K hK hg hd' hy' hc2 w hT h1 h2 h3 h4
  ·exact ck8 p p2 p3 p4 n c n2 c2 n3 c3 n4 c4 dd yy d' y' K hK hg hd' hy' hc2 w hT h1 h2 h3 h4
  ·exact ck9 p p2 p3 p4 n c n2 c2 n3 c3 n4 c4 dd yy d' y' K hK hg hd' hy' hc2 w hT h1 h2 h3 h4
  ·exact ck10 p p2 p3 p4 n c n2 c2 n3 c3 n4 c4 dd yy d' y' K hK hg hd' hy' hc2 w hT h1 h2 h3 h4
  ·exact ck11 p p2 p3 p4 n c n2 c2 n3 c3 n4 c4 dd yy d' y' K hK hg hd' hy' hc2 w hT h1 h2 h3 h4
  ·exact ck12 p p2 p3 p4 n c n2 c2 n3 c3 n4 c4 dd yy d' y' K hK hg hd' hy' hc2 w hT h1 h2 h3 h4
  ·exact ck13 p p2 p3 p4 n c n2 c2 n3 c3 n4 c4 dd yy d' y' K hK hg hd' hy' hc2 w hT h1 h2 h3 h4
  ·exact ck14 p p2 p3 p4 n c n2 c2 n3 c3 n4 c4 dd yy d' y' K hK hg hd' hy' hc2 w hT h1 h2 h3 h4
 ·rw [if_neg hop,if_neg hop,if_neg hop]
  exact ckno p p2 p3 p4 n c n2 c2 n3 c3 n4 c4 dd yy d' y' op hop K hK hg hd' hy' hc2 w hT h1 h2 h3 h4
theorem cdo_ok (B tb:Nat) (ns:List Nd) (op:Int) (ai:Nat) (b k:Int) (nda:Nd) (hnda:ns[ai]?=some nda) (dB_ xB_:List Int) (BV KV:Int) (h2:(twoP op∧BV=b∧∃ (bi:Nat) (ndb:Nd),b=(bi:Int)∧ns[bi]?=some ndb∧dB_=ndb.D∧xB_=ndb.X)∨(¬ twoP op∧BV = -1∧dB_ = []∧xB_ = [])) (h3:(byP op∧KV=k)∨(¬ byP op∧KV=0)) (hroom:ns.length < 512) (E:Int) (D V:List Int) (RR:Int) (NS:List Nd) (HG:Hid ((E=0→RR=(ns.length:Int)∧NS=ns++[⟨op,(ai:Int),BV,KV,D,V⟩])∧(E≠0→RR=0∧NS=ns))) (w:World) (hT:TapC w B tb ns)
  (HR:Hid (∀ (W:World) (pA qA pB qB:Option Addr) (nA cA mA eA nB cB mB eB:Nat),Below w.heap.size w W→Nums .i64 W (.slice pA nA cA) nda.D→Nums .i64 W (.slice qA mA eA) nda.X→mA≤eA→Nums .i64 W (.slice pB nB cB) dB_→Nums .i64 W (.slice qB mB eB) xB_→Calls Tryz.prog 24 #[.int .i64 op,.agg #[.slice pA nA cA,.slice qA mA eA],.agg #[.slice pB nB cB,.slice qB mB eB],.int .i64 k] W fun e w'=>∃ v',e = .returned (.tuple #[v',.int .i64 E])∧TRes w' W.heap.size v' D V∧Below W.heap.size W w')):
  Calls Tryz.prog 9 #[.pointer (some ⟨tb,0,none⟩),.int .i64 op,.int .i64 (ai:Int),.int .i64 b,.int .i64 k] w fun e w'=>e = .returned (.tuple #[.int .i64 RR,.int .i64 E])∧TapC w' B tb NS∧Below B w w'∧Only SC w w'∧Spare tb w w':=by
 have hTT:Hid (TapC w B tb ns):=hT
 obtain ⟨pL,cL,xs0,hv,ho,hn0,hnc⟩:=Tap.head hT
 obtain ⟨N,eN⟩:∃ N,ns.length=N:=⟨_,rfl⟩
 rw [eN] at hv ho hnc
 have hcell:=(head_cell hv).1
 have hz:=heap_lt hv
 have HBB:Hid (B≤w.heap.size):=Nat.le_trans hTT.out.1 (Nat.le_of_lt hz)
 have hai:ai < N:=by rw [← eN];exact (List.getElem?_eq_some_iff.1 hnda).1
 obtain ⟨q,nda',sA_,tA_,eq,hx,_,_,_,_,ca4,ca5,hsA,htA⟩:=node_cells ho hn0 eN ai hai
 rw [hnda] at hx
 cases hx
 obtain ⟨pA,nA,cA,rfl⟩:=hsA.form_
 obtain ⟨qA,mA,eA,rfl⟩:=htA.form_
 have hf:decide (512≤ns.length)=false:=decide_eq_false (by omega)
 have ha:decide (0≤(ai:Int)∧(ai:Int) < (ns.length:Int))=true:=decide_eq_true (by omega)
 have a4:(ai:Int) < (N:Int):=by omega
 have HL:Hid (ns.length < 512):=hroom
 haveI:Nonempty World:=⟨w⟩
 have HCg:Hid (∀ (W:World) (pB qB:Option Addr) (nB cB mB eB:Nat),Below w.heap.size w W→Nums .i64 W (.slice pB nB cB) dB_→Nums .i64 W (.slice qB mB eB) xB_→Calls Tryz.prog 24 #[.int .i64 op,.agg #[.slice pA nA cA,.slice qA mA eA],.agg #[.slice pB nB cB,.slice qB mB eB],.int .i64 k] W fun e w'=>∃ v',e = .returned (.tuple #[v',.int .i64 E])∧TRes w' W.heap.size v' D V∧Below W.heap.size W w'):=fun W pB qB nB cB mB eB hW g1 g2=>HR.out W _ _ _ _ _ _ _ _ _ _ _ _ hW (hsA.nums.up hW) (htA.nums.up hW) htA.cap g1 g2
 clear hsA htA hnda HR hroom
 have HK3:Hid ((byP op∧KV=k)∨(¬ byP op∧KV=0)):=h3
 clear h3
 rcases h2 with ⟨h2,eV,bi,ndb,eb,hndb,ed,ex⟩|⟨h2,eV,ed,ex⟩
 case' inl=>
  subst eV
  have hbi:bi < N:=by rw [← eN];exact (List.getElem?_eq_some_iff.1 hndb).1
  obtain ⟨q',ndb',sB_,tB_,eq',hx,_,_,_,_,cb4,cb5,hsB,htB⟩:=node_cells ho hn0 eN bi hbi
  rw [hndb] at hx
  cases hx
  obtain ⟨pB,nB,cB,rfl⟩:=hsB.form_
  obtain ⟨qB,mB,eB,rfl⟩:=htB.form_
  rw [eq] at eq'
  cases eq'
  subst eq
  have HC:Hid (∀ W,Below w.heap.size w W→Calls Tryz.prog 24 #[.int .i64 op,.agg #[.slice pA nA cA,.slice qA mA eA],.agg #[.slice pB nB cB,.slice qB mB eB],.int .i64 k] W fun e w'=>∃ v',e = .returned (.tuple #[v',.int .i64 E])∧TRes w' W.heap.size v' D V∧Below W.heap.size W w'):=fun W hW=>HCg.out W _ _ _ _ _ _ hW (by rw [ed];exact hsB.nums.up hW) (by rw [ex];exact htB.nums.up hW)
  have hq:decide (twoP op)=true:=decide_eq_true h2
  have hb:decide (0≤BV∧BV < (ns.length:Int))=true:=decide_eq_true (by omega)
  have HWb:Hid (BV=(bi:Int)∧bi < N∧w.cell? ⟨q,bi*6+4,none⟩=some (.slice pB nB cB)∧w.cell? ⟨q,bi*6+5,none⟩=some (.slice qB mB eB)):=⟨eb,hbi,cb4,cb5⟩
  clear hsB htB hndb cb4 cb5 eb hbi ed ex
 case' inr=>
  subst eq
  obtain ⟨pB,nB,cB,qB,mB,eB,eY⟩:∃ (pB:Option Addr) (nB cB:Nat) (qB:Option Addr) (mB eB:Nat),(Value.slice none 0 0 = .slice pB nB cB∧Value.slice none 0 0 = .slice qB mB eB):=⟨_,_,_,_,_,_,rfl,rfl⟩
  have HC:Hid (∀ W,Below w.heap.size w W→Calls Tryz.prog 24 #[.int .i64 op,.agg #[.slice pA nA cA,.slice qA mA eA],.agg #[.slice pB nB cB,.slice qB mB eB],.int .i64 k] W fun e w'=>∃ v',e = .returned (.tuple #[v',.int .i64 E])∧TRes w' W.heap.size v' D V∧Below W.heap.size W w'):=fun W hW=>HCg.out W _ _ _ _ _ _ hW (by rw [ed,← eY.1];exact .inl ⟨rfl,rfl⟩) (by rw [ex,← eY.2];exact .inl ⟨rfl,rfl⟩)
  have hq:decide (twoP op)=false:=decide_eq_false h2
  have HY_:Hid (BV = -1∧(Value.slice none 0 0 = .slice pB nB cB∧Value.slice none 0 0 = .slice qB mB eB)):=⟨eV,eY⟩
  clear eY ed ex eV
 all_goals
  have hzq:=cell_lt ca4
  have HW:Hid (w.cell? ⟨tb,0,none⟩=some (.slice (some ⟨q,0,none⟩) N cL)∧w.cell? ⟨q,ai*6+4,none⟩=some (.slice pA nA cA)∧w.cell? ⟨q,ai*6+5,none⟩=some (.slice qA mA eA)):=⟨hcell,ca4,ca5⟩
  clear hT hv ho hn0 hnc ca4 ca5 hcell eN h2 HCg
  go_enter Tryz.func9,Tryz.ntmps9
  go_wp2_with fail
  refine (cfull_any B tb ns false hf w hTT.out).mono ?_
  rintro e w9 ⟨rfl,ew9⟩
  have ew:=ew9.symm
  subst ew
  clear ew9
  go_wp2_with fail
  refine (chas_any B tb ns (ai:Int) true ha w hTT.out).mono ?_
  rintro e w9 ⟨rfl,ew9⟩
  have ew:=ew9.symm
  subst ew
  clear ew9
  go_wp2_with fail
  refine (chasb_any op _ hq w).mono ?_
  rintro e w9 ⟨rfl,ew9⟩
  have ew:=ew9.symm
  subst ew
  clear ew9
  clear hf ha
 all_goals try
  have hb_:=hb
  clear hb_
  go_wp2_with fail
  refine (chas_any B tb ns BV true hb w hTT.out).mono ?_
  rintro e w9 ⟨rfl,ew9⟩
  have ew:=ew9.symm
  subst ew
  clear ew9
  clear hb
 all_goals
  go_wp2_with fail
  generalize hW0:World.alloc _ _=W0
  have HB0:Hid (Below w.heap.size w W0):=by show Below _ _ _;rw [← hW0];go_grown
  have HN0:W0.heap[w.heap.size]?=some (.cells #[.int .i64 op,.int .i64 (ai:Int),.int .i64 (-1),.int .i64 0,.slice none 0 0,.slice none 0 0] 58 (0,0)):=by
   rw [← hW0,heap_alloc_old _ _ (by rw [size_alloc];omega)]
   exact heap_alloc_new _ _
  have HY0:W0.heap[w.heap.size+1]?=some (.cells #[.slice none 0 0,.slice none 0 0] 32 (0,0)):=by
   rw [← hW0,← size_alloc w (.cells #[.int .i64 op,.int .i64 (ai:Int),.int .i64 (-1),.int .i64 0,.slice none 0 0,.slice none 0 0] 58)]
   exact heap_alloc_new _ _
  clear hW0
  refine (chasb_any op _ hq W0).mono ?_
  rintro e w9 ⟨rfl,ew9⟩
  have ew:=ew9.symm
  subst ew
  clear ew9 hq
  have n1:tb≠w.heap.size:=by omega
  have n2:tb≠w.heap.size+1:=by omega
  have n3:q≠w.heap.size:=by omega
  have n4:q≠w.heap.size+1:=by omega
 all_goals first
  |obtain ⟨eb,hbi,cb4,cb5⟩:=HWb.out
   subst eb
   have b4:(bi:Int) < (N:Int):=by omega
   have hc0:=cell_low HW.out.1 HB0.out
   replace cb4:=cell_low cb4 HB0.out
   replace cb5:=cell_low cb5 HB0.out
   have s0:=cell_lt hc0
   have s3:=cell_lt cb4
   obtain ⟨⟨_,_,k2,_,_,_⟩,kf⟩:=box6 HN0
   obtain ⟨l0,l1,l2,l3⟩:=new_cel HY0
   have s1:=heap_lt HN0
   have s2:=heap_lt HY0
   have kf2:=kf 2
   clear HWb hbi
   go_wp2_with fail
   go_region
   go_wp2_with fail
   generalize hW1:World.drew _=W1
   have HN1:W1.heap[w.heap.size]?=some (.cells #[.int .i64 op,.int .i64 (ai:Int),.int .i64 (bi:Int),.int .i64 0,.slice none 0 0,.slice none 0 0] 58 (0,0)):=by
    rw [← hW1]
    show (World.setCell _ _ _).heap[w.heap.size]?=_
    rw [heap_set _ _ _ _ _ (by omega),heap_set _ _ _ _ _ (by omega),heap_setat HN0]
    rfl
   have HY1:W1.heap[w.heap.size+1]?=some (.cells #[.slice pB nB cB,.slice qB mB eB] 32 (0,0)):=by
    have h0:(W0.setCell ⟨w.heap.size,2,none⟩ (.int .i64 (bi:Int))).heap[w.heap.size+1]?=some (.cells #[.slice none 0 0,.slice none 0 0] 32 (0,0)):=by
     rw [heap_set _ _ _ _ _ (by omega)]
     exact HY0
    rw [← hW1]
    show (World.setCell _ _ _).heap[w.heap.size+1]?=_
    rw [heap_setat (heap_setat h0)]
    rfl
   have HB1:Hid (Below w.heap.size w W1):=by
    show Below _ _ _
    rw [← hW1]
    exact (((HB0.out.setCell (p:=⟨w.heap.size,2,none⟩) (Nat.le_refl _) _).setCell (p:=⟨w.heap.size+1,0,none⟩) (Nat.le_succ _) _).setCell (p:=⟨w.heap.size+1,1,none⟩) (Nat.le_succ _) _).trans ⟨rfl,rfl,rfl,Nat.le_refl _,fun _ _=>rfl⟩
   obtain ⟨BV,eBV⟩:∃ z,(bi:Int)=z:=⟨_,rfl⟩
   rw [eBV] at HN1 HG
   clear hW1 k2 kf kf2 l0 l1 l2 l3 s0 s1 s2 s3 hc0 cb4 cb5 HN0 HY0 HB0
  |go_wp2_with fail
   obtain ⟨W1,eW1⟩:∃ W1:World,W1=W0:=⟨_,rfl⟩
   rw [← eW1]
   rw [← eW1] at HN0 HY0 HB0
   have HN1:W1.heap[w.heap.size]?=some (.cells #[.int .i64 op,.int .i64 (ai:Int),.int .i64 BV,.int .i64 0,.slice none 0 0,.slice none 0 0] 58 (0,0)):=by rw [HY_.out.1];exact HN0
   have HY1:W1.heap[w.heap.size+1]?=some (.cells #[.slice pB nB cB,.slice qB mB eB] 32 (0,0)):=by
    rw [← HY_.out.2.1,← HY_.out.2.2]
    exact HY0
   have HB1:=HB0
   clear HN0 HY0 HB0 eW1 HY_
 all_goals
  rcases HK3.out with ⟨h3,eK⟩|⟨h3,eK⟩
  case' inl=>
   subst eK
   refine (chask_any op true (decide_eq_true h3) W1).mono ?_
   rintro e w9 ⟨rfl,ew9⟩
   have ew:=ew9.symm
   subst ew
   clear ew9 h3
   obtain ⟨⟨_,_,_,k3,_,_⟩,kf⟩:=box6 HN1
   have s1:=heap_lt HN1
   go_wp2_with fail
   refine name_world (fun W2 hW2=>?_)
   have HN2:W2.heap[w.heap.size]?=some (.cells #[.int .i64 op,.int .i64 (ai:Int),.int .i64 BV,.int .i64 KV,.slice none 0 0,.slice none 0 0] 58 (0,0)):=by
    rw [hW2,heap_setat HN1]
    rfl
   have HY2:W2.heap[w.heap.size+1]?=some (.cells #[.slice pB nB cB,.slice qB mB eB] 32 (0,0)):=by
    rw [hW2,heap_set _ _ _ _ _ (by omega)]
    exact HY1
   have HB2:Hid (Below w.heap.size w W2):=by
    show Below _ _ _
    rw [hW2]
    exact HB1.out.setCell (p:=⟨w.heap.size,3,none⟩) (Nat.le_refl _) _
   clear k3 kf s1
  case' inr=>
   refine (chask_any op false (decide_eq_false h3) W1).mono ?_
   rintro e w9 ⟨rfl,ew9⟩
   have ew:=ew9.symm
   subst ew
   clear ew9 h3
   go_wp2_with fail
   refine name_world (fun W2 hW2=>?_)
   have HN2:W2.heap[w.heap.size]?=some (.cells #[.int .i64 op,.int .i64 (ai:Int),.int .i64 BV,.int .i64 KV,.slice none 0 0,.slice none 0 0] 58 (0,0)):=by rw [hW2,eK];exact HN1
   have HY2:W2.heap[w.heap.size+1]?=some (.cells #[.slice pB nB cB,.slice qB mB eB] 32 (0,0)):=by rw [hW2];exact HY1
   have HB2:Hid (Below w.heap.size w W2):=by show Below _ _ _;rw [hW2];exact HB1.out
   clear eK
  all_goals
   clear hW2 HN1 HY1 HB1 HK3
   have hc0:=cell_low HW.out.1 HB2.out
   have ca4:=cell_low HW.out.2.1 HB2.out
   have ca5:=cell_low HW.out.2.2 HB2.out
   obtain ⟨y0,y1,_,_⟩:=new_cel HY2
   have s0:=cell_lt hc0
   have s1:=heap_lt HN2
   have s2:=heap_lt HY2
   have s3:=cell_lt ca4
   refine relE [⟨11,62,TupP W2.heap.size D V E⟩,⟨12,50,TupP W2.heap.size D V E⟩,⟨13,63,OwnT W2.heap.size D V⟩] 16 72 (by kernel_rfl) rfl rfl 14 _ rfl (by decide) rfl (by kernel_rfl) (by kernel_rfl) (fun _ _ _ _ h=>h) (by rfl) ?_ ?_
   ·intro e he v W W' h hb
    simp only [List.mem_cons,List.not_mem_nil,or_false] at he
    rcases he with rfl|rfl|rfl
    ·exact TupP.up h hb
    ·exact TupP.up h hb
    ·exact OwnT.up h hb
   apply Exists.intro
   refine ⟨?_,?_,?_,?_⟩
   rotate_left
   ·intro x
    simp only [List.take_succ_cons,List.take_zero]
    iterate 11
     refine relQuiet rfl rfl ?_
     apply Exists.intro
     refine ⟨fun F hF hf K hK=>?_,?_⟩
     ·have hFc:=hF.cell
      have hFf:=hF.frozen
      go_big_quiet_op
      exact hK
     (try simp only [putL])
    refine relTold rfl rfl ?_ ?_
    ·intro F hF hf d
     have hFc:=hF.cell
     have hFf:=hF.frozen
     simp [yieldsR,yieldsUpon,go_sem]
     refine (HC.out (F d) (bstep HB2.out (hF.below d))).mono ?_
     rintro e' w8 ⟨v8,rfl,h8,hb8⟩
     exact ⟨_,rfl,⟨v8,rfl,(h8.low (hF.below d).size).own⟩,hb8⟩
    (try simp only [putL])
    refine relTold rfl rfl ?_ ?_
    ·intro F hF hf d
     have hFc:=hF.cell
     have hFf:=hF.frozen
     have h9:=hf _ List.mem_cons_self (by rfl) d
     simp [yieldsR,yieldsUpon,go_sem]
     exact ⟨h9,Below.refl _ _⟩
    (try simp only [putL])
    refine relTold rfl rfl ?_ ?_
    ·intro F hF hf d
     have hFc:=hF.cell
     have hFf:=hF.frozen
     have h9:=hf _ (List.mem_cons_of_mem _ List.mem_cons_self) (by rfl) d
     obtain ⟨u9,e9,n9⟩:=h9
     simp only [] at e9 n9
     simp [yieldsR,yieldsUpon,go_sem,e9]
     exact ⟨n9,Below.refl _ _⟩
    (try simp only [putL])
    refine relQuiet rfl rfl ?_
    apply Exists.intro
    refine ⟨fun F hF hf K hK=>?_,?_⟩
    ·have hFc:=hF.cell
     have hFf:=hF.frozen
     have h9:=hf _ (List.mem_cons_of_mem _ List.mem_cons_self) (by rfl)
     obtain ⟨u9,e9,_⟩:=h9 w
     simp only [] at e9
     go_big_quiet_op
     exact hK
    (try simp only [putL])
    refine relQuiet rfl rfl ?_
    apply Exists.intro
    refine ⟨fun F hF hf K hK=>?_,?_⟩
    ·have hFc:=hF.cell
     have hFf:=hF.frozen
     go_big_quiet_op
     exact hK
    (try simp only [putL])
    refine relEnd ?_
    exact rfl
   ·intro x
    simp only [putsK,List.foldl_cons,List.foldl_nil,Act.put,List.setIfInBounds_toArray,List.set_cons_zero,List.set_cons_succ]
   rotate_left
   ·intro x hx
    obtain ⟨W9,u9,e9,_⟩:=hx _ (List.mem_cons_of_mem _ List.mem_cons_self) (by rfl)
    simp only [] at e9
    refine ⟨.int .i64 E,fun t ht=>?_,.inl ⟨by rfl,fun w=>?_⟩⟩
    ·cases ht
     rfl
    ·simp [execOp,Act.eval,e9,go_sem]
   intro w3 xs3 hB3 hf
   simp only [List.drop_succ_cons,List.drop_zero]
   have hT1:=hf _ (List.mem_cons_of_mem _ (List.mem_cons_of_mem _ List.mem_cons_self))
   obtain ⟨x11,e11⟩:∃ z,xs3 11=z:=⟨_,rfl⟩
   obtain ⟨x12,e12⟩:∃ z,xs3 12=z:=⟨_,rfl⟩
   obtain ⟨x13,e13⟩:∃ z,xs3 13=z:=⟨_,rfl⟩
   simp only [e13] at hT1
   simp only [e11,e12,e13]
   clear e11 e12 e13 hf hc0 ca4 ca5 y0 y1 s0 s1 s2 s3
   obtain ⟨pa,na,ca,pb,nb,cb,rfl,hs0,ht0⟩:=hT1
   have HB3:Hid (Below w.heap.size w w3):=bstep HB2.out hB3
   have HN3:w3.heap[w.heap.size]?=some (.cells #[.int .i64 op,.int .i64 (ai:Int),.int .i64 BV,.int .i64 KV,.slice none 0 0,.slice none 0 0] 58 (0,0)):=by rw [hB3.block _ (heap_lt HN2)];exact HN2
   obtain ⟨⟨_,_,_,_,k4,k5⟩,kf⟩:=box6 HN3
   have s1:=heap_lt HN3
   have HN6:Hid (((w3.setCell ⟨w.heap.size,4,none⟩ (.slice pa na ca)).setCell ⟨w.heap.size,5,none⟩ (.slice pb nb cb)).heap[w.heap.size]?=some (.cells #[.int .i64 op,.int .i64 (ai:Int),.int .i64 BV,.int .i64 KV,.slice pa na ca,.slice pb nb cb] 58 (0,0))):=by
    show _=_
    rw [heap_setat (heap_setat HN3)]
    rfl
   have HB6:Hid (Below w.heap.size w ((w3.setCell ⟨w.heap.size,4,none⟩ (.slice pa na ca)).setCell ⟨w.heap.size,5,none⟩ (.slice pb nb cb))):=(HB3.out.setCell (p:=⟨w.heap.size,4,none⟩) (Nat.le_refl _) _).setCell (p:=⟨w.heap.size,5,none⟩) (Nat.le_refl _) _
   have o6:Only [58] w3 ((w3.setCell ⟨w.heap.size,4,none⟩ (.slice pa na ca)).setCell ⟨w.heap.size,5,none⟩ (.slice pb nb cb)):=(Only.set HN3 (by simp)).trans (Only.set (heap_setat HN3) (by simp))
   have hlow:B≤W2.heap.size:=Nat.le_trans HBB.out HB2.out.size
   have HO:Hid (OwnK .i64 3 ((w3.setCell ⟨w.heap.size,4,none⟩ (.slice pa na ca)).setCell ⟨w.heap.size,5,none⟩ (.slice pb nb cb)) B (.slice pa na ca) D∧OwnK .i64 22 ((w3.setCell ⟨w.heap.size,4,none⟩ (.slice pa na ca)).setCell ⟨w.heap.size,5,none⟩ (.slice pb nb cb)) B (.slice pb nb cb) V):=⟨(hs0.only o6 (by decide)).low hlow,(ht0.only o6 (by decide)).low hlow⟩
   clear HC HN2 HY2 HB2 hs0 ht0 hB3 HN3 o6 hlow HB3
   by_cases hE:E=0
   case neg=>
    have hE':(E != 0)=true:=by simpa using hE
    obtain ⟨g1,g2⟩:=HG.out.2 hE
    subst g1 g2
    clear HG hE HO HN6
    go_wp2
    exact bodyPost_ret (v:=.tuple #[.int .i64 0,.int .i64 E]) (by simp [results,Tryz.results9,go_sem]) rfl ⟨rfl,hTT.out.up HB6.out,HB6.out.mono HBB.out,Only.of HB6.out,Spare.of HB6.out⟩
   subst hE
   obtain ⟨g1,g2⟩:=HG.out.1 rfl
   subst g1 g2
   clear HG
   go_wp2_with fail
   refine (ckeep_sp B tb ns ⟨op,(ai:Int),BV,KV,D,V⟩ pa pb na ca nb cb HL.out _ (hTT.out.up HB6.out) HO.out.1 HO.out.2).mono ?_
   rintro e w7 ⟨rfl,hT7,hB7,hO7,hS7⟩
   have HF:Hid (TapC w7 B tb (ns++[⟨op,(ai:Int),BV,KV,D,V⟩])∧Below B w w7∧Only SC w w7∧Spare tb w w7):=⟨hT7,below_two (HB6.out.mono HBB.out) hB7,(Only.of HB6.out).trans hO7,(Spare.of HB6.out).trans hS7⟩
   clear hT7 hB7 hO7 hS7 HO k4 k5 kf s1 HN6
   go_wp2
   exact bodyPost_ret (v:=.tuple #[.int .i64 (ns.length:Int),.int .i64 0]) (by simp [results,Tryz.results9,go_sem]) rfl ⟨rfl,HF.out⟩
end Go.Proofs.YtaiigfhicaelkabGreatDoor.Wd
