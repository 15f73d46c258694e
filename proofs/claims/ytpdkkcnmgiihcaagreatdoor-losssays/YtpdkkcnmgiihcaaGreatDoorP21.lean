/- The code's back: what two calls of other packages give, one behind the other. -/
import Derived.Test.YtpdkkcnmgiihcaaGreatDoorP20
import Derived.Test.YtpdkkcnmgiihcaaGreatDoorP02
import Derived.Test.YtpdkkcnmgiihcaaGreatDoorP09
import Derived.Test.YtpdkkcnmgiihcaaGreatDoorP05
set_option linter.unusedVariables false
set_option linter.unusedSimpArgs false
set_option maxHeartbeats 16000000
set_option maxRecDepth 16000
namespace Go.Proofs.YtpdkkcnmgiihcaaGreatDoor.Wd
open Go.RowKit Fx
theorem ctimesf_any (p1 q1:Option Addr) (n1 c1 m1 e1:Nat) (p2 q2:Option Addr) (n2 c2 m2 e2:Nat) (p3:Option Addr) (n3 c3:Nat) (g o:Ten) (d:List Int) (hg:TenG g) (ho:TenG o) (hd:RI d) (hE:eachE g.1 g.2 o.1 o.2=0) (hm:TenG (mul2 g o)) (hF:foldE (mul2 g o).1 (mul2 g o).2 d=0) (w:World) (hd1:Nums .i64 w (.slice p1 n1 c1) g.1) (hx1:Nums .i64 w (.slice q1 m1 e1) g.2) (hc1:m1≤e1) (hd2:Nums .i64 w (.slice p2 n2 c2) o.1) (hx2:Nums .i64 w (.slice q2 m2 e2) o.2) (hc2:m2≤e2) (h3:Nums .i64 w (.slice p3 n3 c3) d):
  Calls Tryz.prog 102 #[(.agg #[.slice p1 n1 c1,.slice q1 m1 e1]),(.agg #[.slice p2 n2 c2,.slice q2 m2 e2]),.slice p3 n3 c3] w fun e w'=>∃ v',e = .returned (.tuple #[v',.int .i64 0])∧TRes w' w.heap.size v' (fold2 (mul2 g o) d).1 (fold2 (mul2 g o) d).2∧Below w.heap.size w w':=by
 obtain ⟨M,eM⟩:∃ M,mul2 g o=M:=⟨_,rfl⟩
 have cF:Hid (∀ W,Below w.heap.size w W→Calls Tryz.prog 120 #[(.agg #[.slice p1 n1 c1,.slice q1 m1 e1]),(.agg #[.slice p2 n2 c2,.slice q2 m2 e2])] W fun e w'=>∃ v',e = .returned (.tuple #[v',.int .i64 0])∧TRes w' W.heap.size v' M.1 M.2∧Below W.heap.size W w'):=fun W hW=>by
  have:=tmul_any p1 q1 p2 q2 n1 c1 m1 e1 n2 c2 m2 e2 g.1 g.2 o.1 o.2 hg.2.1 hg.2.2 ho.2.1 ho.2.2 W (hd1.up hW) (hx1.up hW) (hd2.up hW) (hx2.up hW)
  rw [hE] at this
  rw [← eM]
  exact this
 rw [eM] at hm hF ⊢
 have cS:Hid (∀ (W:World) (p q:Option Addr) (n c m e:Nat),Below w.heap.size w W→Nums .i64 W (.slice p n c) M.1→Nums .i64 W (.slice q m e) M.2→m≤e→Calls Tryz.prog 101 #[.agg #[.slice p n c,.slice q m e],.slice p3 n3 c3] W fun e w'=>∃ v',e = .returned (.tuple #[v',.int .i64 0])∧TRes w' W.heap.size v' (fold2 M d).1 (fold2 M d).2∧Below W.heap.size W w'):=fun W p q n c m e hW a1 a2 a3=>by
  have:=tfold_any p q p3 n c m e n3 c3 M.1 M.2 d hm.2.1 hm.2.2 hd W a1 a2 (h3.up hW)
  rw [hF] at this
  exact this
 clear eM hm hF hE hd1 hx1 hc1 hd2 hx2 hc2 h3 hg ho hd
 obtain ⟨R,eR⟩:∃ R,fold2 M d=R:=⟨_,rfl⟩
 rw [eR] at cS ⊢
 clear eR
 go_enter Tryz.func102,Tryz.ntmps102
 go_wp2_with fail
 generalize hW0:World.alloc _ _=W0
 obtain ⟨HB0,XA,XB,XR⟩:=box3 hW0
 clear hW0
 refine (cF.out W0 HB0.out).mono ?_
 rintro e w1 ⟨v1,rfl,⟨s1,t1,rfl,hs,ht⟩,hB1⟩
 obtain ⟨pa,na,ca,rfl⟩:=hs.form_
 obtain ⟨pb,nb,cb,rfl⟩:=ht.form_
 have HB1:=hid2 (bstep HB0.out hB1) hB1
 have HN1:Hid (Nums .i64 w1 (.slice pa na ca) M.1∧Nums .i64 w1 (.slice pb nb cb) M.2∧nb≤cb):=⟨hs.nums,ht.nums,ht.cap⟩
 clear hs ht hB1 cF
 go_wp2_with fail
 generalize hW2:World.alloc _ _=W2
 have B2:Below w1.heap.size w1 W2:=by rw [← hW2];exact up_alloc w1 _
 have HB2:=hid2 (bstep HB1.out.1 B2) (bstep HB1.out.2 B2)
 have HN2:Hid (Nums .i64 W2 (.slice pa na ca) M.1∧Nums .i64 W2 (.slice pb nb cb) M.2∧nb≤cb):=⟨HN1.out.1.up B2,HN1.out.2.1.up B2,HN1.out.2.2⟩
 clear hW2 B2 HN1 HB1
 refine (cS.out W2 pa pb na ca nb cb HB2.out.1 HN2.out.1 HN2.out.2.1 HN2.out.2.2).mono ?_
 rintro e w3 ⟨v3,rfl,⟨s3,t3,rfl,hs,ht⟩,hB3⟩
 obtain ⟨pa3,na3,ca3,rfl⟩:=hs.form_
 obtain ⟨pb3,nb3,cb3,rfl⟩:=ht.form_
 clear cS HN2
 obtain ⟨HF,r0,r1,r2,r3,z0,z1⟩:=fin2 XR HB0 (bstep HB2.out.2 hB3) (hs.low HB2.out.2.size) (ht.low HB2.out.2.size) (by omega)
 clear hs ht hB3 HB2
 go_wp2
 exact bodyPost_ret (v:=.tuple #[.agg #[.slice pa3 na3 ca3,.slice pb3 nb3 cb3],.int .i64 0]) (by simp [results,Tryz.results102,go_sem,z0,z1]) rfl ⟨_,rfl,HF.out⟩
theorem cawayf_any (p1 q1:Option Addr) (n1 c1 m1 e1:Nat) (p3:Option Addr) (n3 c3:Nat) (g:Ten) (d:List Int) (hg:TenG g) (hd:RI d) (hE:scaleE g.1 g.2=0) (hF:foldE (scale2 g (-4294967296)).1 (scale2 g (-4294967296)).2 d=0) (w:World) (hd1:Nums .i64 w (.slice p1 n1 c1) g.1) (hx1:Nums .i64 w (.slice q1 m1 e1) g.2) (hc1:m1≤e1) (h3:Nums .i64 w (.slice p3 n3 c3) d):
  Calls Tryz.prog 112 #[(.agg #[.slice p1 n1 c1,.slice q1 m1 e1]),.slice p3 n3 c3] w fun e w'=>∃ v',e = .returned (.tuple #[v',.int .i64 0])∧TRes w' w.heap.size v' (fold2 (scale2 g (-4294967296)) d).1 (fold2 (scale2 g (-4294967296)) d).2∧Below w.heap.size w w':=by
 obtain ⟨M,eM⟩:∃ M,scale2 g (-4294967296)=M:=⟨_,rfl⟩
 have cF:Hid (∀ W,Below w.heap.size w W→Calls Tryz.prog 103 #[(.agg #[.slice p1 n1 c1,.slice q1 m1 e1]),.int .i64 (-4294967296)] W fun e w'=>∃ v',e = .returned (.tuple #[v',.int .i64 0])∧TRes w' W.heap.size v' M.1 M.2∧Below W.heap.size W w'):=fun W hW=>by
  have:=tscale_any p1 q1 n1 c1 m1 e1 g.1 g.2 hg.2.1 hg.2.2 (-4294967296) (by unfold InR;omega) W (hd1.up hW) (hx1.up hW)
  rw [hE] at this
  rw [← eM]
  exact this
 have hm:TenG M:=by rw [← eM];exact (scale_g2 hg _).1
 rw [eM] at hF ⊢
 have cS:Hid (∀ (W:World) (p q:Option Addr) (n c m e:Nat),Below w.heap.size w W→Nums .i64 W (.slice p n c) M.1→Nums .i64 W (.slice q m e) M.2→m≤e→Calls Tryz.prog 101 #[.agg #[.slice p n c,.slice q m e],.slice p3 n3 c3] W fun e w'=>∃ v',e = .returned (.tuple #[v',.int .i64 0])∧TRes w' W.heap.size v' (fold2 M d).1 (fold2 M d).2∧Below W.heap.size W w'):=fun W p q n c m e hW a1 a2 a3=>by
  have:=tfold_any p q p3 n c m e n3 c3 M.1 M.2 d hm.2.1 hm.2.2 hd W a1 a2 (h3.up hW)
  rw [hF] at this
  exact this
 clear eM hm hF hE hd1 hx1 hc1 h3 hg hd
 obtain ⟨R,eR⟩:∃ R,fold2 M d=R:=⟨_,rfl⟩
 rw [eR] at cS ⊢
 clear eR
 go_enter Tryz.func112,Tryz.ntmps112
 go_wp2_with fail
 generalize hW0:World.alloc _ _=W0
 have HB0:=hidB (w:=w) hW0 (by go_grown)
 have XA:Hid (Cel W0 w.heap.size (.slice p1 n1 c1) (.slice q1 m1 e1)):=celW hW0 (by simp [go_sem])
 have XR:Hid (Cel W0 (w.heap.size+1) (.slice none 0 0) (.slice none 0 0)):=celW hW0 (by simp [go_sem])
 clear hW0
 refine (cF.out W0 HB0.out).mono ?_
 rintro e w1 ⟨v1,rfl,⟨s1,t1,rfl,hs,ht⟩,hB1⟩
 obtain ⟨pa,na,ca,rfl⟩:=hs.form_
 obtain ⟨pb,nb,cb,rfl⟩:=ht.form_
 have HB1:=hid2 (bstep HB0.out hB1) hB1
 have HN1:Hid (Nums .i64 w1 (.slice pa na ca) M.1∧Nums .i64 w1 (.slice pb nb cb) M.2∧nb≤cb):=⟨hs.nums,ht.nums,ht.cap⟩
 clear hs ht hB1 cF
 go_wp2_with fail
 generalize hW2:World.alloc _ _=W2
 have B2:Below w1.heap.size w1 W2:=by rw [← hW2];exact up_alloc w1 _
 have HB2:=hid2 (bstep HB1.out.1 B2) (bstep HB1.out.2 B2)
 have HN2:Hid (Nums .i64 W2 (.slice pa na ca) M.1∧Nums .i64 W2 (.slice pb nb cb) M.2∧nb≤cb):=⟨HN1.out.1.up B2,HN1.out.2.1.up B2,HN1.out.2.2⟩
 clear hW2 B2 HN1 HB1
 refine (cS.out W2 pa pb na ca nb cb HB2.out.1 HN2.out.1 HN2.out.2.1 HN2.out.2.2).mono ?_
 rintro e w3 ⟨v3,rfl,⟨s3,t3,rfl,hs,ht⟩,hB3⟩
 obtain ⟨pa3,na3,ca3,rfl⟩:=hs.form_
 obtain ⟨pb3,nb3,cb3,rfl⟩:=ht.form_
 clear cS HN2
 obtain ⟨HF,r0,r1,r2,r3,z0,z1⟩:=fin2 XR HB0 (bstep HB2.out.2 hB3) (hs.low HB2.out.2.size) (ht.low HB2.out.2.size) (by omega)
 clear hs ht hB3 HB2
 go_wp2
 exact bodyPost_ret (v:=.tuple #[.agg #[.slice pa3 na3 ca3,.slice pb3 nb3 cb3],.int .i64 0]) (by simp [results,Tryz.results112,go_sem,z0,z1]) rfl ⟨_,rfl,HF.out⟩
theorem cshared_any (p2:Option Addr) (n2 c2:Nat) (d:List Int) (v:Int) (hv:InR v) (gd:goodN (ntl d)) (w:World) (h2:Nums .i64 w (.slice p2 n2 c2) d):
  Calls Tryz.prog 107 #[.int .i64 v,.slice p2 n2 c2] w fun e w'=>∃ v',e = .returned (.tuple #[v',.int .i64 0])∧TRes w' w.heap.size v' d (List.replicate (prodN (ntl d)) (Fx.hold (rqI v (prodN (ntl d):Int))))∧Below w.heap.size w w':=by
 have rd:RI d:=RI_good gd
 have hN1:1≤prodN (ntl d):=prodN_pos gd.2.1
 obtain ⟨N,eN⟩:∃ N,prodN (ntl d)=N:=⟨_,rfl⟩
 rw [eN] at hN1 ⊢
 have cN:Hid (∀ W x,Below w.heap.size w W→Calls Tryz.prog 51 #[.slice p2 n2 c2,.int .i64 x] W fun e w'=>∃ v',e = .returned (.tuple #[v',.int .i64 0])∧TRes w' W.heap.size v' d (List.replicate N x)∧Below W.heap.size W w'):=fun W x hW=>by
  have:=tnew_any (.slice p2 n2 c2) d rd x W (h2.up hW)
  rw [show newE d=0 from if_pos gd,show newD d=d from if_pos gd,show newV d x=List.replicate N x from (if_pos gd).trans (by rw [eN])] at this
  exact this
 obtain ⟨Y,eY⟩:∃ Y,(List.replicate N (0:Int)).set 0 v=Y:=⟨_,rfl⟩
 have HY:Hid ((List.replicate N (0:Int)).set 0 v=Y):=eY
 obtain ⟨H,eH⟩:∃ H,Fx.hold (rqI v (N:Int))=H:=⟨_,rfl⟩
 have cM:Hid (∀ W a_ b_ c_ d_ e_ f_,Nums .i64 W (.slice a_ b_ c_) d→Nums .i64 W (.slice d_ e_ f_) Y→Calls Tryz.prog 125 #[.agg #[.slice a_ b_ c_,.slice d_ e_ f_]] W fun e w'=>e = .returned (.tuple #[.int .i64 H,.int .i64 0])∧Below W.heap.size W w'):=fun W a_ b_ c_ d_ e_ f_ u1 u2=>by
  have ry:RI Y:=by
   rw [← eY]
   intro y hy
   rcases List.mem_or_eq_of_mem_set hy with h|h
   ·rw [List.eq_of_mem_replicate h];omega
   ·rw [h];exact hv
  have py:isP d Y:=⟨gd,by rw [← eY,List.length_set,List.length_replicate,eN]⟩
  have:=mean_any a_ d_ b_ c_ e_ f_ d Y rd ry W u1 u2
  rw [show matE d Y=0 from if_pos py,show meanV d Y=H from (if_pos py).trans (by rw [← eY,mean_one v N hN1,eH])] at this
  exact this
 rw [eH]
 have hl0:(List.replicate N (0:Int)).length=N:=List.length_replicate
 have HL:Hid ((List.replicate N (0:Int)).length=N):=hl0
 obtain ⟨Z,eZ⟩:∃ Z,List.replicate N (0:Int)=Z:=⟨_,rfl⟩
 have HZ:Hid (List.replicate N (0:Int)=Z):=eZ
 rw [eZ] at HY HL
 have hN0:(0:Int) < (N:Int):=by omega
 clear eN eY eH eZ hl0 rd gd h2 hv
 go_enter Tryz.func107,Tryz.ntmps107
 go_wp2_with fail
 generalize hW0:World.alloc _ _=W0
 have HB0:=hidB (w:=w) hW0 (by go_grown)
 have XR:Hid (Cel W0 w.heap.size (.slice none 0 0) (.slice none 0 0)):=celW hW0 (by simp [go_sem])
 clear hW0
 refine (cN.out W0 0 HB0.out).mono ?_
 rintro e w1 ⟨v1,rfl,⟨s1,t1,rfl,hs1,ht1⟩,hB1⟩
 obtain ⟨p1,n1,c1,rfl⟩:=hs1.form_
 rw [HZ.out] at ht1
 obtain ⟨gq,cq,rfl,hgq⟩:=ht1.at (by rw [HL.out];omega)
 rw [HL.out] at ht1 ⊢
 have hoff:Off gq (.slice p1 n1 c1):=by
  obtain ⟨cs,fz,hob⟩:=ht1.obj
  exact hs1.off_type hob (by decide)
 obtain ⟨hc0,hf0⟩:=ht1.cell HL.out 0 (by omega)
 have kg:=cell_lt hc0
 have HS:Hid (Nums .i64 (w1.setCell ⟨gq,0,none⟩ (.int .i64 v)) (.slice p1 n1 c1) d∧Nums .i64 (w1.setCell ⟨gq,0,none⟩ (.int .i64 v)) (.slice (some ⟨gq,0,none⟩) N cq) Y∧Below W0.heap.size W0 (w1.setCell ⟨gq,0,none⟩ (.int .i64 v))):=by
  refine ⟨hs1.nums.stay ((Stay.refl gq _).set 0 _) hoff,?_,hB1.setCell (p:=⟨gq,0,none⟩) hgq _⟩
  have:=(ht1.store HL.out 0 v).nums
  rw [HY.out] at this
  exact this
 clear hs1 ht1 hB1 hoff
 go_wp2_with fail
 generalize hW2:World.alloc _ _=W2
 have B2:Below (w1.setCell ⟨gq,0,none⟩ (.int .i64 v)).heap.size (w1.setCell ⟨gq,0,none⟩ (.int .i64 v)) W2:=by rw [← hW2];exact up_alloc _ _
 have HB2:=hid2 (bstep HB0.out (bstep HS.out.2.2 B2)) (bstep HS.out.2.2 B2)
 have HN2:Hid (Nums .i64 W2 (.slice p1 n1 c1) d∧Nums .i64 W2 (.slice (some ⟨gq,0,none⟩) N cq) Y):=⟨HS.out.1.up B2,HS.out.2.1.up B2⟩
 clear hW2 B2 HS kg hc0 hf0
 refine (cM.out W2 _ _ _ _ _ _ HN2.out.1 HN2.out.2).mono ?_
 rintro e w3 ⟨rfl,hB3⟩
 have HB3:=hid2 (bstep HB2.out.1 hB3) (bstep HB2.out.2 hB3)
 clear hB3 HB2 cM HN2
 go_wp2_with fail
 refine (cN.out w3 H HB3.out.1).mono ?_
 rintro e w7 ⟨v7,rfl,⟨s7,t7,rfl,hs,ht⟩,hB7⟩
 obtain ⟨pa3,na3,ca3,rfl⟩:=hs.form_
 obtain ⟨pb3,nb3,cb3,rfl⟩:=ht.form_
 obtain ⟨HF,r0,r1,r2,r3,z0,z1⟩:=fin2 XR HB0 (bstep HB3.out.2 hB7) (hs.low HB3.out.2.size) (ht.low HB3.out.2.size) (by omega)
 clear hs ht hB7 HB3 cN
 go_wp2
 exact bodyPost_ret (v:=.tuple #[.agg #[.slice pa3 na3 ca3,.slice pb3 nb3 cb3],.int .i64 0]) (by simp [results,Tryz.results107,go_sem,z0,z1]) rfl ⟨_,rfl,HF.out⟩
end Go.Proofs.YtpdkkcnmgiihcaaGreatDoor.Wd
