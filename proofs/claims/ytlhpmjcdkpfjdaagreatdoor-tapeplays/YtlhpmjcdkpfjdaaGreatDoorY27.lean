/- The reference's reckon: the document's table. · The laws' own helpers: great, table, awake; and matm's functions over tensors that can be read. · What is known where Mul tells no error; what Flip and Mul hand back of matrices that fit. -/
import Derived.Test.YtlhpmjcdkpfjdaaGreatDoorY17
import Derived.Test.YtlhpmjcdkpfjdaaGreatDoorY21
import Derived.Test.YtlhpmjcdkpfjdaaGreatDoorY23
import Derived.Test.YtlhpmjcdkpfjdaaGreatDoorY26
import Derived.Test.YtlhpmjcdkpfjdaaGreatDoorY11
set_option linter.unusedVariables false
set_option linter.unusedSimpArgs false
set_option maxHeartbeats 16000000
set_option maxRecDepth 16000
namespace Go.Proofs.YtlhpmjcdkpfjdaaGreatDoor.Wd
open Go.RowKit Fx
theorem rk2:RkP 2:=by
 intro p p2 p3 p4 n c n2 c2 n3 c3 n4 c4 dd yy d' y' K hK hg hd' hy' hnc w h1 h2 h3 h4
 have hd:=hg.2.1
 have hx:=hg.2.2
 obtain ⟨E,eE⟩:∃ E,rkE 2 dd yy d' y' K=E:=⟨_,rfl⟩
 obtain ⟨D,eD⟩:∃ D,rkD 2 dd yy d' y' K=D:=⟨_,rfl⟩
 obtain ⟨V,eV⟩:∃ V,rkV 2 dd yy d' y' K=V:=⟨_,rfl⟩
 rw [eE,eD,eV]
 have cc:∀ W,Below w.heap.size w W→Calls Tryz.prog 88 #[.int .i64 0,.agg #[.slice p n c,.slice p2 n2 c2],.agg #[.slice p3 n3 c3,.slice p4 n4 c4]] W fun e w'=>∃ v',e = .returned (.tuple #[v',.int .i64 E])∧TRes w' W.heap.size v' D V∧Below W.heap.size W w':=fun W hW=>by
  rw [← eE,← eD,← eV]
  exact reach0_any p p2 p3 p4 n c n2 c2 n3 c3 n4 c4 dd yy d' y' hd hx hd' hy' W (h1.up hW) (h2.up hW) (h3.up hW) (h4.up hW)
 clear eE eD eV h1 h2 h3 h4 hd hx hd' hy' hg hK hnc
 go_enter Tryz.func59,Tryz.ntmps59
 go_wp2_with fail
 generalize hW0:World.alloc _ _=W0
 obtain ⟨HB0,XA,XB,XR⟩:=box3 hW0
 clear hW0
 refine (cc W0 HB0.out).mono ?_
 rintro e w1 ⟨v1,rfl,⟨s1,t1,rfl,hs,ht⟩,hB1⟩
 obtain ⟨pa,na,ca,rfl,_⟩:=hs.nums.lst
 obtain ⟨pb,nb,cb,rfl,_⟩:=ht.nums.lst
 clear cc
 obtain ⟨HF,r0,r1,r2,r3,z0,z1⟩:=fin2 XR HB0 hB1 hs ht (by omega)
 clear hs ht
 go_wp2
 exact bodyPost_ret (v:=.tuple #[.agg #[.slice pa na ca,.slice pb nb cb],.int .i64 E]) (by simp [results,Tryz.results59,go_sem,z0,z1]) rfl ⟨_,rfl,HF.out⟩
theorem rk3:RkP 3:=by
 intro p p2 p3 p4 n c n2 c2 n3 c3 n4 c4 dd yy d' y' K hK hg hd' hy' hnc w h1 h2 h3 h4
 have hd:=hg.2.1
 have hx:=hg.2.2
 obtain ⟨E,eE⟩:∃ E,rkE 3 dd yy d' y' K=E:=⟨_,rfl⟩
 obtain ⟨D,eD⟩:∃ D,rkD 3 dd yy d' y' K=D:=⟨_,rfl⟩
 obtain ⟨V,eV⟩:∃ V,rkV 3 dd yy d' y' K=V:=⟨_,rfl⟩
 rw [eE,eD,eV]
 have cc:∀ W,Below w.heap.size w W→Calls Tryz.prog 88 #[.int .i64 1,.agg #[.slice p n c,.slice p2 n2 c2],.agg #[.slice p3 n3 c3,.slice p4 n4 c4]] W fun e w'=>∃ v',e = .returned (.tuple #[v',.int .i64 E])∧TRes w' W.heap.size v' D V∧Below W.heap.size W w':=fun W hW=>by
  rw [← eE,← eD,← eV]
  exact reach1_any p p2 p3 p4 n c n2 c2 n3 c3 n4 c4 dd yy d' y' hd hx hd' hy' W (h1.up hW) (h2.up hW) (h3.up hW) (h4.up hW)
 clear eE eD eV h1 h2 h3 h4 hd hx hd' hy' hg hK hnc
 go_enter Tryz.func59,Tryz.ntmps59
 go_wp2_with fail
 generalize hW0:World.alloc _ _=W0
 obtain ⟨HB0,XA,XB,XR⟩:=box3 hW0
 clear hW0
 refine (cc W0 HB0.out).mono ?_
 rintro e w1 ⟨v1,rfl,⟨s1,t1,rfl,hs,ht⟩,hB1⟩
 obtain ⟨pa,na,ca,rfl,_⟩:=hs.nums.lst
 obtain ⟨pb,nb,cb,rfl,_⟩:=ht.nums.lst
 clear cc
 obtain ⟨HF,r0,r1,r2,r3,z0,z1⟩:=fin2 XR HB0 hB1 hs ht (by omega)
 clear hs ht
 go_wp2
 exact bodyPost_ret (v:=.tuple #[.agg #[.slice pa na ca,.slice pb nb cb],.int .i64 E]) (by simp [results,Tryz.results59,go_sem,z0,z1]) rfl ⟨_,rfl,HF.out⟩
theorem rk4:RkP 4:=by
 intro p p2 p3 p4 n c n2 c2 n3 c3 n4 c4 dd yy d' y' K hK hg hd' hy' hnc w h1 h2 h3 h4
 have hd:=hg.2.1
 have hx:=hg.2.2
 obtain ⟨E,eE⟩:∃ E,rkE 4 dd yy d' y' K=E:=⟨_,rfl⟩
 obtain ⟨D,eD⟩:∃ D,rkD 4 dd yy d' y' K=D:=⟨_,rfl⟩
 obtain ⟨V,eV⟩:∃ V,rkV 4 dd yy d' y' K=V:=⟨_,rfl⟩
 rw [eE,eD,eV]
 have cc:∀ W,Below w.heap.size w W→Calls Tryz.prog 88 #[.int .i64 2,.agg #[.slice p n c,.slice p2 n2 c2],.agg #[.slice p3 n3 c3,.slice p4 n4 c4]] W fun e w'=>∃ v',e = .returned (.tuple #[v',.int .i64 E])∧TRes w' W.heap.size v' D V∧Below W.heap.size W w':=fun W hW=>by
  rw [← eE,← eD,← eV]
  exact reach2_any p p2 p3 p4 n c n2 c2 n3 c3 n4 c4 dd yy d' y' hd hx hd' hy' W (h1.up hW) (h2.up hW) (h3.up hW) (h4.up hW)
 clear eE eD eV h1 h2 h3 h4 hd hx hd' hy' hg hK hnc
 go_enter Tryz.func59,Tryz.ntmps59
 go_wp2_with fail
 generalize hW0:World.alloc _ _=W0
 obtain ⟨HB0,XA,XB,XR⟩:=box3 hW0
 clear hW0
 refine (cc W0 HB0.out).mono ?_
 rintro e w1 ⟨v1,rfl,⟨s1,t1,rfl,hs,ht⟩,hB1⟩
 obtain ⟨pa,na,ca,rfl,_⟩:=hs.nums.lst
 obtain ⟨pb,nb,cb,rfl,_⟩:=ht.nums.lst
 clear cc
 obtain ⟨HF,r0,r1,r2,r3,z0,z1⟩:=fin2 XR HB0 hB1 hs ht (by omega)
 clear hs ht
 go_wp2
 exact bodyPost_ret (v:=.tuple #[.agg #[.slice pa na ca,.slice pb nb cb],.int .i64 E]) (by simp [results,Tryz.results59,go_sem,z0,z1]) rfl ⟨_,rfl,HF.out⟩
theorem rk5:RkP 5:=by
 intro p p2 p3 p4 n c n2 c2 n3 c3 n4 c4 dd yy d' y' K hK hg hd' hy' hnc w h1 h2 h3 h4
 have hd:=hg.2.1
 have hx:=hg.2.2
 obtain ⟨E,eE⟩:∃ E,rkE 5 dd yy d' y' K=E:=⟨_,rfl⟩
 obtain ⟨D,eD⟩:∃ D,rkD 5 dd yy d' y' K=D:=⟨_,rfl⟩
 obtain ⟨V,eV⟩:∃ V,rkV 5 dd yy d' y' K=V:=⟨_,rfl⟩
 rw [eE,eD,eV]
 have cc:∀ W,Below w.heap.size w W→Calls Tryz.prog 89 #[.agg #[.slice p n c,.slice p2 n2 c2],.int .i64 K] W fun e w'=>∃ v',e = .returned (.tuple #[v',.int .i64 E])∧TRes w' W.heap.size v' D V∧Below W.heap.size W w':=fun W hW=>by
  rw [← eE,← eD,← eV]
  exact rscale_any p p2 n c n2 c2 dd yy hd hx K hK W (h1.up hW) (h2.up hW)
 clear eE eD eV h1 h2 h3 h4 hd hx hd' hy' hg hK hnc
 go_enter Tryz.func59,Tryz.ntmps59
 go_wp2_with fail
 generalize hW0:World.alloc _ _=W0
 obtain ⟨HB0,XA,XB,XR⟩:=box3 hW0
 clear hW0
 refine (cc W0 HB0.out).mono ?_
 rintro e w1 ⟨v1,rfl,⟨s1,t1,rfl,hs,ht⟩,hB1⟩
 obtain ⟨pa,na,ca,rfl,_⟩:=hs.nums.lst
 obtain ⟨pb,nb,cb,rfl,_⟩:=ht.nums.lst
 clear cc
 obtain ⟨HF,r0,r1,r2,r3,z0,z1⟩:=fin2 XR HB0 hB1 hs ht (by omega)
 clear hs ht
 go_wp2
 exact bodyPost_ret (v:=.tuple #[.agg #[.slice pa na ca,.slice pb nb cb],.int .i64 E]) (by simp [results,Tryz.results59,go_sem,z0,z1]) rfl ⟨_,rfl,HF.out⟩
theorem rk7:RkP 7:=by
 intro p p2 p3 p4 n c n2 c2 n3 c3 n4 c4 dd yy d' y' K hK hg hd' hy' hnc w h1 h2 h3 h4
 have hd:=hg.2.1
 have hx:=hg.2.2
 obtain ⟨E,eE⟩:∃ E,rkE 7 dd yy d' y' K=E:=⟨_,rfl⟩
 obtain ⟨D,eD⟩:∃ D,rkD 7 dd yy d' y' K=D:=⟨_,rfl⟩
 obtain ⟨V,eV⟩:∃ V,rkV 7 dd yy d' y' K=V:=⟨_,rfl⟩
 rw [eE,eD,eV]
 have cc:∀ W,Below w.heap.size w W→Calls Tryz.prog 91 #[.agg #[.slice p n c,.slice p2 n2 c2]] W fun e w'=>∃ v',e = .returned (.tuple #[v',.int .i64 E])∧TRes w' W.heap.size v' D V∧Below W.heap.size W w':=fun W hW=>by
  rw [← eE,← eD,← eV]
  exact rflip_any p p2 n c n2 c2 dd yy hd W (h1.up hW) (h2.up hW)
 clear eE eD eV h1 h2 h3 h4 hd hx hd' hy' hg hK hnc
 go_enter Tryz.func59,Tryz.ntmps59
 go_wp2_with fail
 generalize hW0:World.alloc _ _=W0
 obtain ⟨HB0,XA,XB,XR⟩:=box3 hW0
 clear hW0
 refine (cc W0 HB0.out).mono ?_
 rintro e w1 ⟨v1,rfl,⟨s1,t1,rfl,hs,ht⟩,hB1⟩
 obtain ⟨pa,na,ca,rfl,_⟩:=hs.nums.lst
 obtain ⟨pb,nb,cb,rfl,_⟩:=ht.nums.lst
 clear cc
 obtain ⟨HF,r0,r1,r2,r3,z0,z1⟩:=fin2 XR HB0 hB1 hs ht (by omega)
 clear hs ht
 go_wp2
 exact bodyPost_ret (v:=.tuple #[.agg #[.slice pa na ca,.slice pb nb cb],.int .i64 E]) (by simp [results,Tryz.results59,go_sem,z0,z1]) rfl ⟨_,rfl,HF.out⟩
theorem rk9:RkP 9:=by
 intro p p2 p3 p4 n c n2 c2 n3 c3 n4 c4 dd yy d' y' K hK hg hd' hy' hnc w h1 h2 h3 h4
 have hd:=hg.2.1
 have hx:=hg.2.2
 obtain ⟨_,_,_,e4,HX⟩:=h2.lst
 cases e4
 have hn:1≤n2∧n2≤4096:=by rw [← HX.out.1];exact hg.1.len
 obtain ⟨z,ez⟩:∃ z,allV dd yy=z:=⟨_,rfl⟩
 have eE:rkE 9 dd yy d' y' K=0:=if_pos hg.1
 have eD:rkD 9 dd yy d' y' K = []:=rfl
 have eV:rkV 9 dd yy d' y' K = [z]:=by rw [← ez];exact if_pos hg.1
 rw [eE,eD,eV]
 have cc:∀ W,Below w.heap.size w W→Calls Tryz.prog 95 #[.agg #[.slice p n c,.slice p2 n2 c2]] W fun e w'=>e = .returned (.int .i64 z)∧Below W.heap.size W w':=fun W hW=>by
  rw [← ez]
  have:=rall_any p p2 n c n2 c2 yy hx hn.2 W (h2.up hW)
  unfold allV
  rw [if_pos hg.1]
  exact this
 clear eE eD eV ez h1 h2 h3 h4 hd hx hd' hy' hg hK hnc hn HX
 go_enter Tryz.func59,Tryz.ntmps59
 go_wp2_with fail
 generalize hW0:World.alloc _ _=W0
 obtain ⟨HB0,XA,XB,XR⟩:=box3 hW0
 clear hW0
 refine (cc W0 HB0.out).mono ?_
 rintro e w1 ⟨rfl,hB1⟩
 clear cc
 go_wp2_with fail
 refine (rscalar_any z w1).mono ?_
 rintro e w2 ⟨v2,rfl,⟨s1,t1,rfl,hs,ht⟩,hB2⟩
 obtain ⟨pa,na,ca,rfl,_⟩:=hs.nums.lst
 obtain ⟨pb,nb,cb,rfl,_⟩:=ht.nums.lst
 replace hs:=hs.low hB1.size
 replace ht:=ht.low hB1.size
 have hB3:Below W0.heap.size W0 w2:=bstep hB1 hB2
 clear hB1 hB2
 obtain ⟨HF,r0,r1,r2,r3,z0,z1⟩:=fin2 XR HB0 hB3 hs ht (by omega)
 clear hs ht
 go_wp2
 exact bodyPost_ret (v:=.tuple #[.agg #[.slice pa na ca,.slice pb nb cb],.int .i64 0]) (by simp [results,Tryz.results59,go_sem,z0,z1]) rfl ⟨_,rfl,HF.out⟩
theorem rk10:RkP 10:=by
 intro p p2 p3 p4 n c n2 c2 n3 c3 n4 c4 dd yy d' y' K hK hg hd' hy' hnc w h1 h2 h3 h4
 have hd:=hg.2.1
 have hx:=hg.2.2
 obtain ⟨_,_,_,e4,HX⟩:=h2.lst
 cases e4
 have hn:1≤n2∧n2≤4096:=by rw [← HX.out.1];exact hg.1.len
 obtain ⟨z,ez⟩:∃ z,meanV dd yy=z:=⟨_,rfl⟩
 have eE:rkE 10 dd yy d' y' K=0:=if_pos hg.1
 have eD:rkD 10 dd yy d' y' K = []:=rfl
 have eV:rkV 10 dd yy d' y' K = [z]:=by rw [← ez];exact if_pos hg.1
 rw [eE,eD,eV]
 have cc:∀ W,Below w.heap.size w W→Calls Tryz.prog 96 #[.agg #[.slice p n c,.slice p2 n2 c2]] W fun e w'=>e = .returned (.int .i64 z)∧Below W.heap.size W w':=fun W hW=>by
  rw [← ez]
  have:=rmean_any p p2 n c n2 c2 yy hx hn W (h2.up hW)
  unfold meanV
  rw [if_pos hg.1]
  exact this
 clear eE eD eV ez h1 h2 h3 h4 hd hx hd' hy' hg hK hnc hn HX
 go_enter Tryz.func59,Tryz.ntmps59
 go_wp2_with fail
 generalize hW0:World.alloc _ _=W0
 obtain ⟨HB0,XA,XB,XR⟩:=box3 hW0
 clear hW0
 refine (cc W0 HB0.out).mono ?_
 rintro e w1 ⟨rfl,hB1⟩
 clear cc
 go_wp2_with fail
 refine (rscalar_any z w1).mono ?_
 rintro e w2 ⟨v2,rfl,⟨s1,t1,rfl,hs,ht⟩,hB2⟩
 obtain ⟨pa,na,ca,rfl,_⟩:=hs.nums.lst
 obtain ⟨pb,nb,cb,rfl,_⟩:=ht.nums.lst
 replace hs:=hs.low hB1.size
 replace ht:=ht.low hB1.size
 have hB3:Below W0.heap.size W0 w2:=bstep hB1 hB2
 clear hB1 hB2
 obtain ⟨HF,r0,r1,r2,r3,z0,z1⟩:=fin2 XR HB0 hB3 hs ht (by omega)
 clear hs ht
 go_wp2
 exact bodyPost_ret (v:=.tuple #[.agg #[.slice pa na ca,.slice pb nb cb],.int .i64 0]) (by simp [results,Tryz.results59,go_sem,z0,z1]) rfl ⟨_,rfl,HF.out⟩
theorem rk14:RkP 14:=by
 intro p p2 p3 p4 n c n2 c2 n3 c3 n4 c4 dd yy d' y' K hK hg hd' hy' hnc w h1 h2 h3 h4
 obtain ⟨_,_,_,e4,HX⟩:=h2.lst
 cases e4
 have hn:n2≤4096:=by rw [← HX.out.1];exact hg.1.len.2
 have hrn:RI [(n2:Int)]:=fun q hq=>by simp at hq;omega
 have hyl:yy.length=n2:=HX.out.1
 have hd:=hg.2.1
 have hx:=hg.2.2
 obtain ⟨E,eE⟩:∃ E,rkE 14 dd yy d' y' K=E:=⟨_,rfl⟩
 obtain ⟨D,eD⟩:∃ D,rkD 14 dd yy d' y' K=D:=⟨_,rfl⟩
 obtain ⟨V,eV⟩:∃ V,rkV 14 dd yy d' y' K=V:=⟨_,rfl⟩
 rw [eE,eD,eV]
 have cc:Hid (∀ q W,Below w.heap.size w W→Nums .i64 W (.slice q 1 1) [(n2:Int)]→Calls Tryz.prog 100 #[.agg #[.slice p n c,.slice p2 n2 c2],.slice q 1 1] W fun e w'=>∃ v',e = .returned (.tuple #[v',.int .i64 E])∧TRes w' W.heap.size v' D V∧Below W.heap.size W w'):=fun q W hW hl=>by
  rw [← eE,← eD,← eV]
  show Calls _ _ _ _ fun e w'=>∃ v',e = .returned (.tuple #[v',.int .i64 (shpE dd yy [(yy.length:Int)])])∧TRes w' W.heap.size v' (shpD dd yy [(yy.length:Int)]) (shpV dd yy [(yy.length:Int)])∧Below W.heap.size W w'
  rw [hyl]
  exact rreshape_any p p2 q n c n2 c2 1 1 dd yy [(n2:Int)] hd hrn W (h1.up hW) (h2.up hW) hl
 clear eE eD eV h1 h2 h3 h4 hd hx hd' hy' hg hK hnc hn hrn hyl HX
 go_enter Tryz.func59,Tryz.ntmps59
 go_wp2_with fail
 generalize hW0:World.alloc _ _=W0
 have B0:Below w.heap.size w W0:=by rw [← hW0];go_grown
 have XA:Hid (Cel W0 w.heap.size (.slice p n c) (.slice p2 n2 c2)):=celW hW0 (by simp [go_sem])
 have XB:Hid (Cel W0 (w.heap.size+1) (.slice p3 n3 c3) (.slice p4 n4 c4)):=celW hW0 (by simp [go_sem])
 have XR:Hid (Cel W0 (w.heap.size+2) (.slice none 0 0) (.slice none 0 0)):=celW hW0 (by simp [go_sem])
 have HB0:Hid (Below w.heap.size w W0):=B0
 have l5:Nums .i64 W0 (.slice (some ⟨w.heap.size+3,0,none⟩) 1 1) [(n2:Int)]:=by
  refine .inr ⟨_,1,rfl,fun j u hj=>?_⟩
  match j,hj with
  | 0,hj=>
   simp [vals] at hj
   subst hj
   rw [addr_plus,← hW0]
   simp [go_sem]
  | j+1,hj=>simp [vals] at hj
 clear hW0 B0
 refine (cc.out _ W0 HB0.out l5).mono ?_
 rintro e w1 ⟨v1,rfl,⟨s1,t1,rfl,hs,ht⟩,hB1⟩
 obtain ⟨pa,na,ca,rfl,_⟩:=hs.nums.lst
 obtain ⟨pb,nb,cb,rfl,_⟩:=ht.nums.lst
 clear cc l5
 obtain ⟨HF,r0,r1,r2,r3,z0,z1⟩:=fin2 XR HB0 hB1 hs ht (by omega)
 clear hs ht
 go_wp2
 exact bodyPost_ret (v:=.tuple #[.agg #[.slice pa na ca,.slice pb nb cb],.int .i64 E]) (by simp [results,Tryz.results59,go_sem,z0,z1]) rfl ⟨_,rfl,HF.out⟩
theorem rk11:RkP 11:=by
 intro p p2 p3 p4 n c n2 c2 n3 c3 n4 c4 dd yy d' y' K hK hg hd' hy' hnc w h1 h2 h3 h4
 have hd:=hg.2.1
 have hx:=hg.2.2
 obtain ⟨E,eE⟩:∃ E,rkE 11 dd yy d' y' K=E:=⟨_,rfl⟩
 obtain ⟨D,eD⟩:∃ D,rkD 11 dd yy d' y' K=D:=⟨_,rfl⟩
 obtain ⟨V,eV⟩:∃ V,rkV 11 dd yy d' y' K=V:=⟨_,rfl⟩
 rw [eE,eD,eV]
 obtain ⟨z,ez⟩:∃ z,whI K=z:=⟨_,rfl⟩
 have HC:Hid (∀ W,Below w.heap.size w W→Calls Tryz.prog 97 #[.int .i64 z,.agg #[.slice p n c,.slice p2 n2 c2]] W fun e w'=>∃ v',e = .returned (.tuple #[v',.int .i64 E])∧TRes w' W.heap.size v' D V∧Below W.heap.size W w'):=fun W hW=>by
  rw [← eE,← eD,← eV,← ez]
  have hw:=bent_wh (k:=K) (D:=dd) (X:=yy)
  show Calls _ _ _ _ fun e w'=>∃ v',e = .returned (.tuple #[v',.int .i64 (bentE K dd yy)])∧TRes w' W.heap.size v' (bentD K dd yy) (bentV K dd yy)∧Below W.heap.size W w'
  rw [← hw.1,← hw.2.1,← hw.2.2]
  exact rbent_any (whI K) p p2 n c n2 c2 dd yy hd hx W (h1.up hW) (h2.up hW)
 have cw:∀ W,Calls Tryz.prog 93 #[.int .i64 K] W fun e w'=>e = .returned (.int .i64 z)∧w'=W:=fun W=>rwhole_any K z ez W
 haveI:Nonempty World:=⟨w⟩
 clear eE eD eV ez h1 h2 h3 h4 hd hx hd' hy' hg hK hnc
 go_enter Tryz.func59,Tryz.ntmps59
 go_wp2_with fail
 generalize hW0:World.alloc _ _=W0
 obtain ⟨HB0,XA,XB,XR⟩:=box3 hW0
 clear hW0
 obtain ⟨a0,a1,_,_⟩:=XA.out
 obtain ⟨b0,b1,_,_⟩:=XB.out
 have k0:=cell_lt a0
 have k1:=cell_lt b0
 refine rel [⟨3,68,TupP W0.heap.size D V E⟩,⟨4,69,OwnT W0.heap.size D V⟩] 6 100 (by kernel_rfl) rfl rfl (by kernel_rfl) (by rfl) ?_ ?_
 ·intro e he v W W' h hb
  simp only [List.mem_cons,List.not_mem_nil,or_false] at he
  rcases he with rfl|rfl
  ·exact TupP.up h hb
  ·exact OwnT.up h hb
 apply Exists.intro
 refine ⟨fun x=>?_,?_,?_⟩
 ·simp only [List.take_succ_cons,List.take_zero]
  refine relQuiet rfl rfl ?_
  apply Exists.intro
  refine ⟨fun F hF hf K hK=>?_,?_⟩
  ·have hFc:=hF.cell
   have hFf:=hF.frozen
   go_big_quiet_op
   exact hK
  (try simp only [putL])
  refine relQuiet rfl rfl ?_
  apply Exists.intro
  refine ⟨fun F hF hf K hK=>?_,?_⟩
  ·have hFc:=hF.cell
   have hFf:=hF.frozen
   go_big_quiet_op
   first|exact hK|(apply Exists.intro;refine ⟨fun _=>?_,?_⟩;(· exact hF.same (cw _));exact hK)
  (try simp only [putL])
  refine relQuiet rfl rfl ?_
  apply Exists.intro
  refine ⟨fun F hF hf K hK=>?_,?_⟩
  ·have hFc:=hF.cell
   have hFf:=hF.frozen
   go_big_quiet_op
   exact hK
  (try simp only [putL])
  refine relTold rfl rfl ?_ ?_
  ·intro F hF hf d
   have hFc:=hF.cell
   have hFf:=hF.frozen
   simp [yieldsR,yieldsUpon,go_sem]
   refine (HC.out (F d) (bstep HB0.out (hF.below d))).mono ?_
   rintro e' w8 ⟨v8,rfl,h8,hb8⟩
   exact ⟨_,rfl,⟨v8,rfl,(h8.low (hF.below d).size).own⟩,hb8⟩
  (try simp only [putL])
  refine relTold rfl rfl ?_ ?_
  ·intro F hF hf d
   have hFc:=hF.cell
   have hFf:=hF.frozen
   have h9:=hf _ List.mem_cons_self (by rfl) d
   obtain ⟨u9,e9,n9⟩:=h9
   simp only [] at e9 n9
   simp [yieldsR,yieldsUpon,go_sem,e9]
   exact ⟨n9,Below.refl _ _⟩
  (try simp only [putL])
  refine relQuiet rfl rfl ?_
  apply Exists.intro
  refine ⟨fun F hF hf K hK=>?_,?_⟩
  ·have hFc:=hF.cell
   have hFf:=hF.frozen
   have h9:=hf _ List.mem_cons_self (by rfl)
   obtain ⟨u9,e9,_⟩:=h9 w
   simp only [] at e9
   go_big_quiet_op
   exact hK
  (try simp only [putL])
  refine relEnd ?_
  exact rfl
 ·exact fun x=>rfl
 ·intro w1 xs hB1 hf
  simp only [List.drop_succ_cons,List.drop_zero]
  have hT1:=hf _ (List.mem_cons_of_mem _ List.mem_cons_self)
  obtain ⟨xc,ec⟩:∃ q,xs 3=q:=⟨_,rfl⟩
  obtain ⟨xx,ex⟩:∃ q,xs 4=q:=⟨_,rfl⟩
  simp only [ex] at hT1
  simp only [ec,ex]
  obtain ⟨pa,na,ca,pb,nb,cb,rfl,hs,ht⟩:=hT1
  clear ec ex hf HC a0 a1 b0 b1 k0 k1 cw
  obtain ⟨HF,r0,r1,r2,r3,z0,z1⟩:=fin2 XR HB0 hB1 hs ht (by omega)
  clear hs ht
  go_wp2
  exact bodyPost_ret (v:=.tuple #[.agg #[.slice pa na ca,.slice pb nb cb],.int .i64 E]) (by simp [results,Tryz.results59,go_sem,z0,z1]) rfl ⟨_,rfl,HF.out⟩
end Go.Proofs.YtlhpmjcdkpfjdaaGreatDoor.Wd
