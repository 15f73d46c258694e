/- Tensors: what tens.each, Add, Sub, Mul hand back. -/
import Derived.Test.YtjlofobnmjompaaGreatDoorJ02
set_option linter.unusedVariables false
set_option linter.unusedSimpArgs false
set_option maxHeartbeats 16000000
set_option maxRecDepth 16000
namespace Go.Proofs.YtjlofobnmjompaaGreatDoor.Wd
open Go.RowKit
theorem RI.in {l:List Int} (h:RI l) (k:Nat) (hk:k < l.length):Fx.InR (l.getD k 0):=h.at k hk
theorem each_no (K:FuncId) (hEnt:∀ args W,(callFunc K args).run Tryz.prog W = .ok (.enter K args) W) (op:Int→Int→Int) (cK:∀ a b,Fx.InR a→Fx.InR b→∀ W,Calls Tryz.prog K #[.int .i64 a,.int .i64 b] W fun e w'=>e = .returned (.int .i64 (op a b))∧w'=W)
  (p p2 p3 p4:Option Addr) (n c n2 c2 n3 c3 n4 c4:Nat) (d x d' y:List Int) (hd:RI d) (hx:RI x) (hd':RI d') (hy:RI y) (w:World) (h1:Nums .i64 w (.slice p n c) d) (h2:Nums .i64 w (.slice p2 n2 c2) x) (h3:Nums .i64 w (.slice p3 n3 c3) d') (h4:Nums .i64 w (.slice p4 n4 c4) y)
  (hno:¬ (isP d x∧isP d' y∧joinE d d'=0)):
  Calls Tryz.prog 117 #[.agg #[.slice p n c,.slice p2 n2 c2],.agg #[.slice p3 n3 c3,.slice p4 n4 c4],.func (.func K) #[] #[]] w fun e w'=>∃ v',e = .returned (.tuple #[v',.int .i64 (eachE d x d' y)])∧TRes w' w.heap.size v' (eachD d x d' y) (eachV op d x d' y)∧Below w.heap.size w w':=by
 have cA:=fun W (hW:Below w.heap.size w W)=>tgood_any _ _ d x hd W (h1.up hW) (h2.up hW)
 have cB:=fun W (hW:Below w.heap.size w W)=>tgood_any _ _ d' y hd' W (h3.up hW) (h4.up hW)
 have cJ:=fun W (hW:Below w.heap.size w W)=>join_any _ _ d d' hd hd' W (h1.up hW) (h3.up hW)
 by_cases ha:isP d x
 ·rw [decide_eq_true ha] at cA
  by_cases hb:isP d' y
  ·rw [decide_eq_true hb] at cB
   have hE:joinE d d'≠0:=fun h=>hno ⟨ha,hb,h⟩
   obtain ⟨e1,e2,e3⟩:=each_bad (op:=op) ⟨ha,hb⟩ hE
   rw [e1,e2,e3]
   obtain ⟨E,eE⟩:∃ E,joinE d d'=E:=⟨_,rfl⟩
   obtain ⟨JL,eJ⟩:∃ JL,joinL d d'=JL:=⟨_,rfl⟩
   rw [eE] at hE cJ ⊢
   rw [eJ] at cJ
   have hE':(E != 0)=true:=by simp [hE]
   clear eE eJ e1 e2 e3 ha hb hno h1 h2 h3 h4 hd hx hd' hy cK
   go_enter Tryz.func117,Tryz.ntmps117
   go_wp2_with fail
   generalize hW0:World.alloc _ _=W0
   have HB0:=hidB (w:=w) hW0 (by go_grown)
   have XA:Hid (Cel W0 w.heap.size (.slice p n c) (.slice p2 n2 c2)):=celW hW0 (by simp [go_sem])
   have XB:Hid (Cel W0 (w.heap.size+1) (.slice p3 n3 c3) (.slice p4 n4 c4)):=celW hW0 (by simp [go_sem])
   have XR:Hid (Cel W0 (w.heap.size+2) (.slice none 0 0) (.slice none 0 0)):=celW hW0 (by simp [go_sem])
   clear hW0
   refine (cA W0 HB0.out).mono ?_
   rintro e w1 ⟨rfl,hB1⟩
   have HB1:=hid2 (bstep HB0.out hB1) hB1
   clear hB1
   have xb:=XB.out.up HB1.out.2
   obtain ⟨b0,b1,_,_⟩:=xb
   go_wp2_with fail
   refine (cB w1 HB1.out.1).mono ?_
   rintro e w2 ⟨rfl,hB2⟩
   have HB2:=hid2 (bstep HB1.out.1 hB2) (bstep HB1.out.2 hB2)
   clear hB2 b0 b1
   have xa:=XA.out.up HB2.out.2
   have xb:=XB.out.up HB2.out.2
   obtain ⟨a0,a1,_,_⟩:=xa
   obtain ⟨b0,b1,_,_⟩:=xb
   go_wp2_with fail
   refine (cJ w2 HB2.out.1).mono ?_
   rintro e w3 ⟨vj,rfl,hO3,hB3⟩
   have HB3:=hid2 (bstep HB2.out.1 hB3) (bstep HB2.out.2 hB3)
   have HO3:Hid (OwnK .i64 3 w3 w2.heap.size vj JL∧Below w2.heap.size w2 w3):=⟨hO3,hB3⟩
   clear hB3 hO3 a0 a1 b0 b1
   have xr:=(XR.out.up HB3.out.2)
   have BF:=below_cell (HB3.out.1) (w.heap.size+2) (by omega) (.slice none 0 0) (.slice none 0 0)
   have cf:=xr.set (.slice none 0 0) (.slice none 0 0)
   obtain ⟨r0,r1,r2,r3⟩:=xr
   obtain ⟨y0,y1,_,_⟩:=cf
   go_wp2
   exact bodyPost_ret (v:=.tuple #[.agg #[.slice none 0 0,.slice none 0 0],.int .i64 E]) (by simp [results,Tryz.results117,go_sem,y0,y1]) rfl ⟨_,rfl,TRes.none _ _,BF⟩
  ·rw [decide_eq_false hb] at cB
   obtain ⟨e1,e2,e3⟩:=each_none (op:=op) (d:=d) (x:=x) (d':=d') (y:=y) fun h=>hb h.2
   rw [e1,e2,e3]
   clear e1 e2 e3 ha hb hno h1 h2 h3 h4 hd hx hd' hy cK cJ
   go_enter Tryz.func117,Tryz.ntmps117
   go_wp2_with fail
   generalize hW0:World.alloc _ _=W0
   have HB0:=hidB (w:=w) hW0 (by go_grown)
   have XA:Hid (Cel W0 w.heap.size (.slice p n c) (.slice p2 n2 c2)):=celW hW0 (by simp [go_sem])
   have XB:Hid (Cel W0 (w.heap.size+1) (.slice p3 n3 c3) (.slice p4 n4 c4)):=celW hW0 (by simp [go_sem])
   have XR:Hid (Cel W0 (w.heap.size+2) (.slice none 0 0) (.slice none 0 0)):=celW hW0 (by simp [go_sem])
   clear hW0
   refine (cA W0 HB0.out).mono ?_
   rintro e w1 ⟨rfl,hB1⟩
   have HB1:=hid2 (bstep HB0.out hB1) hB1
   clear hB1
   have xb:=XB.out.up HB1.out.2
   obtain ⟨b0,b1,_,_⟩:=xb
   go_wp2_with fail
   refine (cB w1 HB1.out.1).mono ?_
   rintro e w2 ⟨rfl,hB2⟩
   have HB2:=hid2 (bstep HB1.out.1 hB2) (bstep HB1.out.2 hB2)
   clear hB2 b0 b1
   have xr:=(XR.out.up HB2.out.2)
   have BF:=below_cell (HB2.out.1) (w.heap.size+2) (by omega) (.slice none 0 0) (.slice none 0 0)
   have cf:=xr.set (.slice none 0 0) (.slice none 0 0)
   obtain ⟨r0,r1,r2,r3⟩:=xr
   obtain ⟨y0,y1,_,_⟩:=cf
   go_wp2
   exact bodyPost_ret (v:=.tuple #[.agg #[.slice none 0 0,.slice none 0 0],.int .i64 1]) (by simp [results,Tryz.results117,go_sem,y0,y1]) rfl ⟨_,rfl,TRes.none _ _,BF⟩
 ·rw [decide_eq_false ha] at cA
  obtain ⟨e1,e2,e3⟩:=each_none (op:=op) (d:=d) (x:=x) (d':=d') (y:=y) fun h=>ha h.1
  rw [e1,e2,e3]
  clear e1 e2 e3 ha hno h1 h2 h3 h4 hd hx hd' hy cK cJ cB
  go_enter Tryz.func117,Tryz.ntmps117
  go_wp2_with fail
  generalize hW0:World.alloc _ _=W0
  have HB0:=hidB (w:=w) hW0 (by go_grown)
  have XA:Hid (Cel W0 w.heap.size (.slice p n c) (.slice p2 n2 c2)):=celW hW0 (by simp [go_sem])
  have XB:Hid (Cel W0 (w.heap.size+1) (.slice p3 n3 c3) (.slice p4 n4 c4)):=celW hW0 (by simp [go_sem])
  have XR:Hid (Cel W0 (w.heap.size+2) (.slice none 0 0) (.slice none 0 0)):=celW hW0 (by simp [go_sem])
  clear hW0
  refine (cA W0 HB0.out).mono ?_
  rintro e w1 ⟨rfl,hB1⟩
  have HB1:=hid2 (bstep HB0.out hB1) hB1
  clear hB1
  have xr:=(XR.out.up HB1.out.2)
  have BF:=below_cell (HB1.out.1) (w.heap.size+2) (by omega) (.slice none 0 0) (.slice none 0 0)
  have cf:=xr.set (.slice none 0 0) (.slice none 0 0)
  obtain ⟨r0,r1,r2,r3⟩:=xr
  obtain ⟨y0,y1,_,_⟩:=cf
  go_wp2
  exact bodyPost_ret (v:=.tuple #[.agg #[.slice none 0 0,.slice none 0 0],.int .i64 1]) (by simp [results,Tryz.results117,go_sem,y0,y1]) rfl ⟨_,rfl,TRes.none _ _,BF⟩
theorem each_yes (K:FuncId) (hEnt:∀ args W,(callFunc K args).run Tryz.prog W = .ok (.enter K args) W) (op:Int→Int→Int) (cK:∀ a b,Fx.InR a→Fx.InR b→∀ W,Calls Tryz.prog K #[.int .i64 a,.int .i64 b] W fun e w'=>e = .returned (.int .i64 (op a b))∧w'=W)
  (p p2 p3 p4:Option Addr) (n c n2 c2 n3 c3 n4 c4:Nat) (d x d' y:List Int) (hd:RI d) (hx:RI x) (hd':RI d') (hy:RI y) (w:World) (h1:Nums .i64 w (.slice p n c) d) (h2:Nums .i64 w (.slice p2 n2 c2) x) (h3:Nums .i64 w (.slice p3 n3 c3) d') (h4:Nums .i64 w (.slice p4 n4 c4) y)
  (a b J:List Nat) (hJ:Joint d x d' y a b J):
  Calls Tryz.prog 117 #[.agg #[.slice p n c,.slice p2 n2 c2],.agg #[.slice p3 n3 c3,.slice p4 n4 c4],.func (.func K) #[] #[]] w fun e w'=>∃ v',e = .returned (.tuple #[v',.int .i64 (eachE d x d' y)])∧TRes w' w.heap.size v' (eachD d x d' y) (eachV op d x d' y)∧Below w.heap.size w w':=by
 have cA:=fun W (hW:Below w.heap.size w W)=>tgood_any _ _ d x hd W (h1.up hW) (h2.up hW)
 have cB:=fun W (hW:Below w.heap.size w W)=>tgood_any _ _ d' y hd' W (h3.up hW) (h4.up hW)
 have cJ:=fun W (hW:Below w.heap.size w W)=>join_any _ _ d d' hd hd' W (h1.up hW) (h3.up hW)
 obtain ⟨e1,e2,e3⟩:=hJ.E (op:=op)
 rw [e1,e2,e3]
 have hpa:isP d x:=by rw [hJ.da];unfold isP;rw [ntl_itl];exact ⟨hJ.ga,hJ.lx⟩
 have hpb:isP d' y:=by rw [hJ.db];unfold isP;rw [ntl_itl];exact ⟨hJ.gb,hJ.ly⟩
 rw [decide_eq_true hpa] at cA
 rw [decide_eq_true hpb] at cB
 rw [hJ.je,hJ.jn] at cJ
 obtain ⟨JL,eJ⟩:∃ JL,itl J=JL:=⟨_,rfl⟩
 obtain ⟨V,eV⟩:∃ V,((List.range (prodN J)).map fun i=>op (x.getD (fromN a J i) 0) (y.getD (fromN b J i) 0))=V:=⟨_,rfl⟩
 obtain ⟨N,eN⟩:∃ N,prodN J=N:=⟨_,rfl⟩
 rw [eJ] at cJ ⊢
 rw [eV]
 have HJ:Hid (Joint d x d' y a b J∧itl J=JL∧((List.range (prodN J)).map fun i=>op (x.getD (fromN a J i) 0) (y.getD (fromN b J i) 0))=V∧prodN J=N∧V.length=N):=⟨hJ,eJ,eV,eN,by rw [← eV,← eN];simp⟩
 have hN:1≤N∧N≤4096:=by rw [← eN];exact ⟨hJ.gJ.pos,hJ.gJ.2.2⟩
 have hN':1≤(N:Int)∧(N:Int)≤4096:=by omega
 have HR:Hid (RI x∧RI y):=⟨hx,hy⟩
 have HEnt:Hid (∀ args W,(callFunc K args).run Tryz.prog W = .ok (.enter K args) W):=hEnt
 have HCK:Hid (∀ a b,Fx.InR a→Fx.InR b→∀ W,Calls Tryz.prog K #[.int .i64 a,.int .i64 b] W fun e w'=>e = .returned (.int .i64 (op a b))∧w'=W):=cK
 have H0:Hid (Nums .i64 w (.slice p n c) (itl a)∧Nums .i64 w (.slice p2 n2 c2) x∧Nums .i64 w (.slice p3 n3 c3) (itl b)∧Nums .i64 w (.slice p4 n4 c4) y):=⟨by rw [← hJ.da];exact h1,h2,by rw [← hJ.db];exact h3,h4⟩
 clear e1 e2 e3 hpa hpb eJ eV eN h1 h2 h3 h4 hd hx hd' hy cK hJ hEnt
 go_enter Tryz.func117,Tryz.ntmps117
 go_wp2_with fail
 generalize hW0:World.alloc _ _=W0
 have HB0:=hidB (w:=w) hW0 (by go_grown)
 have XA:Hid (Cel W0 w.heap.size (.slice p n c) (.slice p2 n2 c2)):=celW hW0 (by simp [go_sem])
 have XB:Hid (Cel W0 (w.heap.size+1) (.slice p3 n3 c3) (.slice p4 n4 c4)):=celW hW0 (by simp [go_sem])
 have XR:Hid (Cel W0 (w.heap.size+2) (.slice none 0 0) (.slice none 0 0)):=celW hW0 (by simp [go_sem])
 clear hW0
 refine (cA W0 HB0.out).mono ?_
 rintro e w1 ⟨rfl,hB1⟩
 have HB1:=hid2 (bstep HB0.out hB1) hB1
 clear hB1
 have xb:=XB.out.up HB1.out.2
 obtain ⟨b0,b1,_,_⟩:=xb
 go_wp2_with fail
 refine (cB w1 HB1.out.1).mono ?_
 rintro e w2 ⟨rfl,hB2⟩
 have HB2:=hid2 (bstep HB1.out.1 hB2) (bstep HB1.out.2 hB2)
 clear hB2 b0 b1
 have xa:=XA.out.up HB2.out.2
 have xb:=XB.out.up HB2.out.2
 obtain ⟨a0,a1,_,_⟩:=xa
 obtain ⟨b0,b1,_,_⟩:=xb
 go_wp2_with fail
 refine (cJ w2 HB2.out.1).mono ?_
 rintro e w3 ⟨vj,rfl,hO3,hB3⟩
 have HB3:=hid2 (bstep HB2.out.1 hB3) (bstep HB2.out.2 hB3)
 have HO3:Hid (OwnK .i64 3 w3 w2.heap.size vj JL∧Below w2.heap.size w2 w3):=⟨hO3,hB3⟩
 clear hB3 hO3 a0 a1 b0 b1
 have cZ:=size_any vj JL (by rw [← HJ.out.2.1];exact RI_itl HJ.out.1.gJ.le) w3 HO3.out.1.nums
 rw [← HJ.out.2.1,ntl_itl,sizeN_good HJ.out.1.gJ,HJ.out.2.2.2.1] at cZ
 go_wp2_with fail
 refine cZ.mono ?_
 rintro e w9 ⟨rfl,rfl⟩
 clear cZ
 go_wp2_with (at_make;refine wpList_makeK fixT (by decide) _ rfl (.tmp 36) (.tmp 36) rfl .i64 .i64 N N N rfl rfl rfl rfl (by omega) w.heap.size w HB3.out.1.size HB3.out.1 ?_;intro w4 HO4 B4 B4';clear B4')
 have HB4:=hid2 (bstep HB3.out.1 B4) (bstep HB3.out.2 B4)
 have HJ4:Hid (OwnK .i64 3 w4 w2.heap.size vj JL):=HO3.out.1.up B4
 obtain ⟨g,hg⟩:∃ g,w9.heap.size=g:=⟨_,rfl⟩
 rw [hg] at HO4
 have Hg:Hid (W0.heap.size≤g∧w2.heap.size≤g∧g < w4.heap.size∧w9.heap.size=g):=⟨by rw [← hg];exact HB3.out.2.size,by rw [← hg];exact HO3.out.2.size,HO4.out.size,hg⟩
 have cSA:∀ W,Below w4.heap.size w4 W→Calls Tryz.prog 133 #[.slice p n c,vj] W fun e w'=>∃ v',e = .returned v'∧OwnK .i64 3 w' w4.heap.size v' (itl (spreadN a J))∧Below W.heap.size W w':=fun W hW=>by
  refine (spread_any _ _ a J HJ.out.1.ga HJ.out.1.gJ (join_le HJ.out.1.ja) W (H0.out.1.up (bstep HB4.out.1 hW)) ?_).mono ?_
  ·rw [HJ.out.2.1];exact (HJ4.out.up hW).nums
  ·rintro e w' ⟨v',rfl,h,hb⟩
   exact ⟨v',rfl,h.low hW.size,hb⟩
 have cSB:∀ W,Below w4.heap.size w4 W→Calls Tryz.prog 133 #[.slice p3 n3 c3,vj] W fun e w'=>∃ v',e = .returned v'∧OwnK .i64 3 w' w4.heap.size v' (itl (spreadN b J))∧Below W.heap.size W w':=fun W hW=>by
  refine (spread_any _ _ b J HJ.out.1.gb HJ.out.1.gJ (join_le HJ.out.1.jb) W (H0.out.2.2.1.up (bstep HB4.out.1 hW)) ?_).mono ?_
  ·rw [HJ.out.2.1];exact (HJ4.out.up hW).nums
  ·rintro e w' ⟨v',rfl,h,hb⟩
   exact ⟨v',rfl,h.low hW.size,hb⟩
 have xa:=XA.out.up HB4.out.2
 have xb:=XB.out.up HB4.out.2
 obtain ⟨a0,a1,_,_⟩:=xa
 obtain ⟨b0,b1,_,_⟩:=xb
 have z0:=cell_lt a0
 have z1:=cell_lt b0
 clear B4
 haveI:Nonempty World:=⟨w⟩
 go_wp2_with fail
 refine rel [⟨3,41,fun v W=>OwnK .i64 3 W w4.heap.size v (itl (spreadN a J))⟩,⟨7,45,fun v W=>OwnK .i64 3 W w4.heap.size v (itl (spreadN b J))⟩] 8 76 (by kernel_rfl) rfl rfl (by kernel_rfl) (by rfl) ?_ ?_
 ·intro e he v W W' h hb
  simp only [List.mem_cons,List.not_mem_nil,or_false] at he
  rcases he with rfl|rfl
  ·exact OwnK.up h hb
  ·exact OwnK.up h hb
 apply Exists.intro
 refine ⟨fun x=>?_,?_,?_⟩
 ·simp only [List.take_succ_cons,List.take_zero]
  iterate 3
   refine relQuiet rfl rfl ?_
   apply Exists.intro
   refine ⟨fun F hF hf K hK=>?_,?_⟩
   ·have hFc:=hF.cell
    have hFf:=hF.frozen
    go_big_quiet_op
    exact hK
   (try simp only [putL])
  refine relTold rfl rfl ?_ ?_
  ·intro F hF hf d
   have hFc:=hF.cell
   have hFf:=hF.frozen
   simp [yieldsR,yieldsUpon,go_sem]
   refine (cSA _ (hF.below d)).mono ?_
   rintro e' w8 ⟨v8,rfl,h8,hb8⟩
   exact ⟨_,rfl,h8,hb8⟩
  iterate 3
   (try simp only [putL])
   refine relQuiet rfl rfl ?_
   apply Exists.intro
   refine ⟨fun F hF hf K hK=>?_,?_⟩
   ·have hFc:=hF.cell
    have hFf:=hF.frozen
    go_big_quiet_op
    exact hK
  (try simp only [putL])
  refine relTold rfl rfl ?_ ?_
  ·intro F hF hf d
   have hFc:=hF.cell
   have hFf:=hF.frozen
   simp [yieldsR,yieldsUpon,go_sem]
   refine (cSB _ (hF.below d)).mono ?_
   rintro e' w8 ⟨v8,rfl,h8,hb8⟩
   exact ⟨_,rfl,h8,hb8⟩
  (try simp only [putL])
  refine relEnd ?_
  exact rfl
 ·exact fun x=>rfl
 ·intro w5 xs hB5 hf
  simp only [List.drop_succ_cons,List.drop_zero]
  have hfa:=hf _ List.mem_cons_self
  have hfb:=hf _ (List.mem_cons_of_mem _ List.mem_cons_self)
  obtain ⟨fa,efa⟩:∃ fa,xs 3=fa:=⟨_,rfl⟩
  obtain ⟨fb,efb⟩:∃ fb,xs 7=fb:=⟨_,rfl⟩
  simp only [efa,efb] at hfa hfb ⊢
  clear efa efb hf
  obtain ⟨pa,na,ca,rfl,HLa⟩:=hfa.nums.lst
  obtain ⟨pb,nb,cb,rfl,HLb⟩:=hfb.nums.lst
  obtain rfl:na=N:=by rw [← HLa.out.1,itl_len,spreadN_len,HJ.out.2.2.2.1]
  obtain rfl:nb=na:=by rw [← HLb.out.1,itl_len,spreadN_len,HJ.out.2.2.2.1]
  have HFa:Hid (OwnK .i64 3 w5 w4.heap.size (.slice pa nb ca) (itl (spreadN a J))∧OwnK .i64 3 w5 w4.heap.size (.slice pb nb cb) (itl (spreadN b J))∧Below w4.heap.size w4 w5):=⟨hfa,hfb,hB5⟩
  have HB5:=hid2 (bstep HB4.out.1 hB5) (bstep HB4.out.2 hB5)
  have XA5:=XA.out.up HB5.out.2
  have XB5:=XB.out.up HB5.out.2
  have XR5:=XR.out.up HB5.out.2
  have HX5:Hid (Cel w5 w.heap.size (.slice p n c) (.slice p2 n2 c2)∧Cel w5 (w.heap.size+1) (.slice p3 n3 c3) (.slice p4 n4 c4)∧Cel w5 (w.heap.size+2) (.slice none 0 0) (.slice none 0 0)):=⟨XA5,XB5,XR5⟩
  have hz:=cell_lt XR.out.1
  have HO5:Hid (OwnK .i64 23 w5 g (.slice (some ⟨g,0,none⟩) nb nb) (rowF V 0)):=by
   show OwnK _ _ _ _ _ _
   rw [rowF_zero,HJ.out.2.2.2.2]
   exact HO4.out.up hB5
  have HJ5:Hid (OwnK .i64 3 w5 w2.heap.size vj JL):=HJ4.out.up hB5
  have Hz:Hid (w.heap.size+2 < W0.heap.size):=hz
  rw [hg]
  clear hfa hfb hB5 HLa HLb XA5 XB5 XR5 a0 a1 b0 b1 z0 z1 cSA cSB HO4 HJ4 hg hz
  go_wp2_with fail
  go_loopg [48] nb (fun gg i wr=>∃ (k:Nat),k≤nb∧gg=nb - k∧i = .int .i64 (k:Int)∧Hid (OwnK .i64 23 wr g (.slice (some ⟨g,0,none⟩) nb nb) (rowF V k))∧Hid (Below w.heap.size w wr∧Stay g w5 wr))
  case atStart=>exact ⟨0,by omega,by omega,by first|rfl|simp,HO5,HB5.out.1,Stay.refl _ _⟩
  case round=>
   obtain ⟨k,hk,hg,rfl,HRk,hBS⟩:=hrel
   obtain ⟨R1,hR1⟩:∃ R1:World,R1=wr:=⟨_,rfl⟩
   subst hR1
   by_cases hkn:k < nb
   ·have hk':(k:Int) < (nb:Int):=by omega
    have hla:=(HFa.out.1.nums.stay hBS.out.2 (HFa.out.1.off Hg.out.2.2.1)).lst
    have hlb:=(HFa.out.2.1.nums.stay hBS.out.2 (HFa.out.2.1.off Hg.out.2.2.1)).lst
    obtain ⟨_,_,_,e4,HLa⟩:=hla
    cases e4
    obtain ⟨_,_,_,e4,HLb⟩:=hlb
    cases e4
    obtain ⟨qa,oa,rfl,ha1⟩:=HLa.out.2 k hkn
    obtain ⟨qb,ob,rfl,hb1⟩:=HLb.out.2 k hkn
    have hkJ:k < prodN J:=by rw [HJ.out.2.2.2.1];exact hkn
    rw [itl_getD,spread_at HJ.out.1.ga HJ.out.1.gJ HJ.out.1.fa HJ.out.1.ja k hkJ] at ha1
    rw [itl_getD,spread_at HJ.out.1.gb HJ.out.1.gJ HJ.out.1.fb HJ.out.1.jb k hkJ] at hb1
    have ia:=fromN_lt HJ.out.1.ga.2.1 HJ.out.1.gJ.2.1 HJ.out.1.fa HJ.out.1.ja k hkJ
    have ib:=fromN_lt HJ.out.1.gb.2.1 HJ.out.1.gJ.2.1 HJ.out.1.fb HJ.out.1.jb k hkJ
    obtain ⟨_,_,_,e4,HX⟩:=(H0.out.2.1.up hBS.out.1).lst
    cases e4
    obtain ⟨_,_,_,e4,HY⟩:=(H0.out.2.2.2.up hBS.out.1).lst
    cases e4
    obtain ⟨i,ei⟩:∃ i,fromN a J k=i:=⟨_,rfl⟩
    obtain ⟨j,ej⟩:∃ j,fromN b J k=j:=⟨_,rfl⟩
    rw [ei] at ha1 ia
    rw [ej] at hb1 ib
    rw [← HJ.out.1.lx,HX.out.1] at ia
    rw [← HJ.out.1.ly,HY.out.1] at ib
    obtain ⟨qx,ox,rfl,hx1⟩:=HX.out.2 i ia
    obtain ⟨qy,oy,rfl,hy1⟩:=HY.out.2 j ib
    have ia':(i:Int) < (n2:Int):=by omega
    have ib':(j:Int) < (n4:Int):=by omega
    have rx:=HR.out.1.in i (by rw [HX.out.1];exact ia)
    have ry:=HR.out.2.in j (by rw [HY.out.1];exact ib)
    obtain ⟨X,eX⟩:∃ X,x.getD i 0=X:=⟨_,rfl⟩
    obtain ⟨Y,eY⟩:∃ Y,y.getD j 0=Y:=⟨_,rfl⟩
    rw [eX] at hx1 rx
    rw [eY] at hy1 ry
    obtain ⟨Z,eZ⟩:∃ Z,op X Y=Z:=⟨_,rfl⟩
    have HZ:Hid (V.getD k 0=Z):=by
     show _=_
     rw [← HJ.out.2.2.1,getD_map_range _ _ _ _ hkJ,ei,ej,eX,eY,eZ]
    have cz:∀ W,Calls Tryz.prog K #[.int .i64 X,.int .i64 Y] W fun e w'=>e = .returned (.int .i64 Z)∧w'=W:=fun W=>by rw [← eZ];exact HCK.out X Y rx ry W
    have hne0:w.heap.size≠g:=by have:=Hz.out;have:=Hg.out.1;omega
    have hne1:w.heap.size+1≠g:=by have:=Hz.out;have:=Hg.out.1;omega
    obtain ⟨a0,a1,_,_⟩:=HX5.out.1.stay hBS.out.2 hne0
    obtain ⟨b0,b1,_,_⟩:=HX5.out.2.1.stay hBS.out.2 hne1
    have z0:=cell_lt a0
    have z1:=cell_lt b0
    have z2:=cell_lt ha1
    have z3:=cell_lt hb1
    have z4:=cell_lt hx1
    have z5:=cell_lt hy1
    have z6:=HRk.out.size
    have Hk:Hid (k < V.length):=by show _ < _;rw [HJ.out.2.2.2.2];exact hkn
    clear eX eY eZ ei ej HLa HLb HX HY hne0 hne1 hkJ ia ib
    go_wp2_with fail
    refine flow 21 76 (by kernel_rfl) rfl rfl (by kernel_rfl) ?_
    apply Exists.intro
    refine ⟨?_,?_⟩
    ·intro F hF
     have hFc:=hF.cell
     have hFf:=hF.frozen
     simp only [List.take_succ_cons,List.take_zero,List.eraseIdx_cons_succ,List.eraseIdx_cons_zero]
     repeat (go_big_quiet_step ((rw [HEnt.out];exact ⟨rfl,hF.same (cz _)⟩)))
     refine wpQuiet_nil ?_
     exact rfl
    ·intro W1 hb1
     simp only [List.drop_succ_cons,List.drop_zero]
     have HR2:=HRk.out.up hb1
     obtain ⟨hown,hfz⟩:=HR2.cell (by rw [rowF_len];exact HJ.out.2.2.2.2) k hkn
     have H5:Hid (OwnK .i64 23 (W1.setCell ⟨g,k,none⟩ (.int .i64 Z)) g (.slice (some ⟨g,0,none⟩) nb nb) (rowF V (k+1))):=by
      have:=HR2.store (by rw [rowF_len];exact HJ.out.2.2.2.2) k Z
      rw [← HZ.out,rowF_set V k Hk.out] at this
      rw [← HZ.out]
      exact this
     have hgw:w.heap.size≤g:=by have:=Hz.out;have:=Hg.out.1;omega
     have H6:Hid (Below w.heap.size w (W1.setCell ⟨g,k,none⟩ (.int .i64 Z))∧Stay g w5 (W1.setCell ⟨g,k,none⟩ (.int .i64 Z))):=⟨(bstep hBS.out.1 hb1).setCell (p:=⟨g,k,none⟩) hgw _,(hBS.out.2.up hb1).set _ _⟩
     clear HR2 hb1 cz z0 z1 z2 z3 z4 z5 z6 a0 a1 b0 b1
     go_wp2
     go_roundg (nb - (k+1))
     case measure=>omega
     case rel=>exact ⟨k+1,by omega,rfl,by first|rfl|simp,H5,H6⟩
   ·obtain rfl:k=nb:=by omega
    obtain ⟨pj,nj,cj,rfl,_⟩:=HJ5.out.nums.lst
    have hne2:w.heap.size+2≠g:=by have:=Hz.out;have:=Hg.out.1;omega
    have xr:=HX5.out.2.2.stay hBS.out.2 hne2
    have hfin:=HRk.out
    rw [← HJ.out.2.2.2.2,rowF_full,HJ.out.2.2.2.2] at hfin
    have hjf:=HJ5.out.stay hBS.out.2 (HO3.out.1.off_new (by rw [Hg.out.2.2.2];exact Nat.le_refl _))
    have HF:Hid (TRes (set2 R1 (w.heap.size+2) (.slice pj nj cj) (.slice (some ⟨g,0,none⟩) k k)) w.heap.size (.agg #[.slice pj nj cj,.slice (some ⟨g,0,none⟩) k k]) JL V∧Below w.heap.size w (set2 R1 (w.heap.size+2) (.slice pj nj cj) (.slice (some ⟨g,0,none⟩) k k))):=by
     refine ⟨(TRes.set (hjf.low HB2.out.2.size) (hfin.low Hg.out.1) Hz.out).low HB0.out.size,below_cell hBS.out.1 _ (by omega) _ _⟩
    have cf:=xr.set (.slice pj nj cj) (.slice (some ⟨g,0,none⟩) k k)
    obtain ⟨r0,r1,r2,r3⟩:=xr
    obtain ⟨y0,y1,_,_⟩:=cf
    clear hfin hjf
    go_wp2
    exact bodyPost_ret (v:=.tuple #[.agg #[.slice pj nj cj,.slice (some ⟨g,0,none⟩) k k],.int .i64 0]) (by simp [results,Tryz.results117,go_sem,y0,y1]) rfl ⟨_,rfl,HF.out⟩
theorem each_any (K:FuncId) (hEnt:∀ args W,(callFunc K args).run Tryz.prog W = .ok (.enter K args) W) (op:Int→Int→Int) (cK:∀ a b,Fx.InR a→Fx.InR b→∀ W,Calls Tryz.prog K #[.int .i64 a,.int .i64 b] W fun e w'=>e = .returned (.int .i64 (op a b))∧w'=W)
  (p p2 p3 p4:Option Addr) (n c n2 c2 n3 c3 n4 c4:Nat) (d x d' y:List Int) (hd:RI d) (hx:RI x) (hd':RI d') (hy:RI y) (w:World) (h1:Nums .i64 w (.slice p n c) d) (h2:Nums .i64 w (.slice p2 n2 c2) x) (h3:Nums .i64 w (.slice p3 n3 c3) d') (h4:Nums .i64 w (.slice p4 n4 c4) y):
  Calls Tryz.prog 117 #[.agg #[.slice p n c,.slice p2 n2 c2],.agg #[.slice p3 n3 c3,.slice p4 n4 c4],.func (.func K) #[] #[]] w fun e w'=>∃ v',e = .returned (.tuple #[v',.int .i64 (eachE d x d' y)])∧TRes w' w.heap.size v' (eachD d x d' y) (eachV op d x d' y)∧Below w.heap.size w w':=by
 by_cases h:isP d x∧isP d' y∧joinE d d'=0
 ·obtain ⟨a,b,J,hJ⟩:=joint ⟨h.1,h.2.1⟩ h.2.2
  exact each_yes K hEnt op cK p p2 p3 p4 n c n2 c2 n3 c3 n4 c4 d x d' y hd hx hd' hy w h1 h2 h3 h4 a b J hJ
 ·exact each_no K hEnt op cK p p2 p3 p4 n c n2 c2 n3 c3 n4 c4 d x d' y hd hx hd' hy w h1 h2 h3 h4 h
theorem tadd_any (p p2 p3 p4:Option Addr) (n c n2 c2 n3 c3 n4 c4:Nat) (d x d' y:List Int) (hd:RI d) (hx:RI x) (hd':RI d') (hy:RI y) (w:World) (h1:Nums .i64 w (.slice p n c) d) (h2:Nums .i64 w (.slice p2 n2 c2) x) (h3:Nums .i64 w (.slice p3 n3 c3) d') (h4:Nums .i64 w (.slice p4 n4 c4) y):
  Calls Tryz.prog 90 #[.agg #[.slice p n c,.slice p2 n2 c2],.agg #[.slice p3 n3 c3,.slice p4 n4 c4]] w fun e w'=>∃ v',e = .returned (.tuple #[v',.int .i64 (eachE d x d' y)])∧TRes w' w.heap.size v' (eachD d x d' y) (eachV (fun a b=>Fx.hold (a+b)) d x d' y)∧Below w.heap.size w w':=by
 have cE:∀ W,Below w.heap.size w W→Calls Tryz.prog 117 #[.agg #[.slice p n c,.slice p2 n2 c2],.agg #[.slice p3 n3 c3,.slice p4 n4 c4],.func (.func 118) #[] #[]] W fun e w'=>∃ v',e = .returned (.tuple #[v',.int .i64 (eachE d x d' y)])∧TRes w' W.heap.size v' (eachD d x d' y) (eachV (fun a b=>Fx.hold (a+b)) d x d' y)∧Below W.heap.size W w':=
  fun W hW=>each_any _ (fun args W=>by simp [go_sem]) _ (fun a b ha hb W=>Fx.add_any a b ha hb W) p p2 p3 p4 n c n2 c2 n3 c3 n4 c4 d x d' y hd hx hd' hy W (h1.up hW) (h2.up hW) (h3.up hW) (h4.up hW)
 obtain ⟨E,eE⟩:∃ E,eachE d x d' y=E:=⟨_,rfl⟩
 obtain ⟨D,eD⟩:∃ D,eachD d x d' y=D:=⟨_,rfl⟩
 obtain ⟨V,eV⟩:∃ V,eachV (fun a b=>Fx.hold (a+b)) d x d' y=V:=⟨_,rfl⟩
 rw [eE,eD,eV] at cE ⊢
 clear eE eD eV h1 h2 h3 h4 hd hx hd' hy
 go_enter Tryz.func90,Tryz.ntmps90
 go_wp2_with fail
 generalize hW0:World.alloc _ _=W0
 have HB0:Hid (Below w.heap.size w W0):=by show Below _ _ _;rw [← hW0];go_grown
 have XR:Hid (Cel W0 (w.heap.size+2) (.slice none 0 0) (.slice none 0 0)):=celW hW0 (by simp [go_sem])
 clear hW0
 refine (cE W0 HB0.out).mono ?_
 rintro e w1 ⟨v1,rfl,⟨s1,t1,rfl,hs1,ht1⟩,hB1⟩
 obtain ⟨ps,ns,cs,rfl,_⟩:=hs1.nums.lst
 obtain ⟨pt,nt,ct,rfl,_⟩:=ht1.nums.lst
 have xr:=XR.out.up hB1
 have BF:=below_cell (bstep HB0.out hB1) (w.heap.size+2) (by omega) (.slice ps ns cs) (.slice pt nt ct)
 have HF:Hid (TRes (set2 w1 (w.heap.size+2) (.slice ps ns cs) (.slice pt nt ct)) w.heap.size (.agg #[.slice ps ns cs,.slice pt nt ct]) D V):=(TRes.set hs1 ht1 (cell_lt XR.out.1)).low HB0.out.size
 have cf:=xr.set (.slice ps ns cs) (.slice pt nt ct)
 obtain ⟨r0,r1,r2,r3⟩:=xr
 obtain ⟨y0,y1,_,_⟩:=cf
 clear hs1 ht1 hB1
 go_wp2
 exact bodyPost_ret (v:=.tuple #[.agg #[.slice ps ns cs,.slice pt nt ct],.int .i64 E]) (by simp [results,Tryz.results90,go_sem,y0,y1]) rfl ⟨_,rfl,HF.out,BF⟩
theorem tsub_any (p p2 p3 p4:Option Addr) (n c n2 c2 n3 c3 n4 c4:Nat) (d x d' y:List Int) (hd:RI d) (hx:RI x) (hd':RI d') (hy:RI y) (w:World) (h1:Nums .i64 w (.slice p n c) d) (h2:Nums .i64 w (.slice p2 n2 c2) x) (h3:Nums .i64 w (.slice p3 n3 c3) d') (h4:Nums .i64 w (.slice p4 n4 c4) y):
  Calls Tryz.prog 119 #[.agg #[.slice p n c,.slice p2 n2 c2],.agg #[.slice p3 n3 c3,.slice p4 n4 c4]] w fun e w'=>∃ v',e = .returned (.tuple #[v',.int .i64 (eachE d x d' y)])∧TRes w' w.heap.size v' (eachD d x d' y) (eachV (fun a b=>Fx.hold (a - b)) d x d' y)∧Below w.heap.size w w':=by
 have cE:∀ W,Below w.heap.size w W→Calls Tryz.prog 117 #[.agg #[.slice p n c,.slice p2 n2 c2],.agg #[.slice p3 n3 c3,.slice p4 n4 c4],.func (.func 148) #[] #[]] W fun e w'=>∃ v',e = .returned (.tuple #[v',.int .i64 (eachE d x d' y)])∧TRes w' W.heap.size v' (eachD d x d' y) (eachV (fun a b=>Fx.hold (a - b)) d x d' y)∧Below W.heap.size W w':=
  fun W hW=>each_any _ (fun args W=>by simp [go_sem]) _ (fun a b ha hb W=>Fx.sub_any a b ha hb W) p p2 p3 p4 n c n2 c2 n3 c3 n4 c4 d x d' y hd hx hd' hy W (h1.up hW) (h2.up hW) (h3.up hW) (h4.up hW)
 obtain ⟨E,eE⟩:∃ E,eachE d x d' y=E:=⟨_,rfl⟩
 obtain ⟨D,eD⟩:∃ D,eachD d x d' y=D:=⟨_,rfl⟩
 obtain ⟨V,eV⟩:∃ V,eachV (fun a b=>Fx.hold (a - b)) d x d' y=V:=⟨_,rfl⟩
 rw [eE,eD,eV] at cE ⊢
 clear eE eD eV h1 h2 h3 h4 hd hx hd' hy
 go_enter Tryz.func119,Tryz.ntmps119
 go_wp2_with fail
 generalize hW0:World.alloc _ _=W0
 have HB0:Hid (Below w.heap.size w W0):=by show Below _ _ _;rw [← hW0];go_grown
 have XR:Hid (Cel W0 (w.heap.size+2) (.slice none 0 0) (.slice none 0 0)):=celW hW0 (by simp [go_sem])
 clear hW0
 refine (cE W0 HB0.out).mono ?_
 rintro e w1 ⟨v1,rfl,⟨s1,t1,rfl,hs1,ht1⟩,hB1⟩
 obtain ⟨ps,ns,cs,rfl,_⟩:=hs1.nums.lst
 obtain ⟨pt,nt,ct,rfl,_⟩:=ht1.nums.lst
 have xr:=XR.out.up hB1
 have BF:=below_cell (bstep HB0.out hB1) (w.heap.size+2) (by omega) (.slice ps ns cs) (.slice pt nt ct)
 have HF:Hid (TRes (set2 w1 (w.heap.size+2) (.slice ps ns cs) (.slice pt nt ct)) w.heap.size (.agg #[.slice ps ns cs,.slice pt nt ct]) D V):=(TRes.set hs1 ht1 (cell_lt XR.out.1)).low HB0.out.size
 have cf:=xr.set (.slice ps ns cs) (.slice pt nt ct)
 obtain ⟨r0,r1,r2,r3⟩:=xr
 obtain ⟨y0,y1,_,_⟩:=cf
 clear hs1 ht1 hB1
 go_wp2
 exact bodyPost_ret (v:=.tuple #[.agg #[.slice ps ns cs,.slice pt nt ct],.int .i64 E]) (by simp [results,Tryz.results119,go_sem,y0,y1]) rfl ⟨_,rfl,HF.out,BF⟩
theorem tmul_any (p p2 p3 p4:Option Addr) (n c n2 c2 n3 c3 n4 c4:Nat) (d x d' y:List Int) (hd:RI d) (hx:RI x) (hd':RI d') (hy:RI y) (w:World) (h1:Nums .i64 w (.slice p n c) d) (h2:Nums .i64 w (.slice p2 n2 c2) x) (h3:Nums .i64 w (.slice p3 n3 c3) d') (h4:Nums .i64 w (.slice p4 n4 c4) y):
  Calls Tryz.prog 120 #[.agg #[.slice p n c,.slice p2 n2 c2],.agg #[.slice p3 n3 c3,.slice p4 n4 c4]] w fun e w'=>∃ v',e = .returned (.tuple #[v',.int .i64 (eachE d x d' y)])∧TRes w' w.heap.size v' (eachD d x d' y) (eachV (Fx.mulI) d x d' y)∧Below w.heap.size w w':=by
 have cE:∀ W,Below w.heap.size w W→Calls Tryz.prog 117 #[.agg #[.slice p n c,.slice p2 n2 c2],.agg #[.slice p3 n3 c3,.slice p4 n4 c4],.func (.func 134) #[] #[]] W fun e w'=>∃ v',e = .returned (.tuple #[v',.int .i64 (eachE d x d' y)])∧TRes w' W.heap.size v' (eachD d x d' y) (eachV (Fx.mulI) d x d' y)∧Below W.heap.size W w':=
  fun W hW=>each_any _ (fun args W=>by simp [go_sem]) _ (fun a b ha hb W=>Fx.mul_any a b ha hb W) p p2 p3 p4 n c n2 c2 n3 c3 n4 c4 d x d' y hd hx hd' hy W (h1.up hW) (h2.up hW) (h3.up hW) (h4.up hW)
 obtain ⟨E,eE⟩:∃ E,eachE d x d' y=E:=⟨_,rfl⟩
 obtain ⟨D,eD⟩:∃ D,eachD d x d' y=D:=⟨_,rfl⟩
 obtain ⟨V,eV⟩:∃ V,eachV (Fx.mulI) d x d' y=V:=⟨_,rfl⟩
 rw [eE,eD,eV] at cE ⊢
 clear eE eD eV h1 h2 h3 h4 hd hx hd' hy
 go_enter Tryz.func120,Tryz.ntmps120
 go_wp2_with fail
 generalize hW0:World.alloc _ _=W0
 have HB0:Hid (Below w.heap.size w W0):=by show Below _ _ _;rw [← hW0];go_grown
 have XR:Hid (Cel W0 (w.heap.size+2) (.slice none 0 0) (.slice none 0 0)):=celW hW0 (by simp [go_sem])
 clear hW0
 refine (cE W0 HB0.out).mono ?_
 rintro e w1 ⟨v1,rfl,⟨s1,t1,rfl,hs1,ht1⟩,hB1⟩
 obtain ⟨ps,ns,cs,rfl,_⟩:=hs1.nums.lst
 obtain ⟨pt,nt,ct,rfl,_⟩:=ht1.nums.lst
 have xr:=XR.out.up hB1
 have BF:=below_cell (bstep HB0.out hB1) (w.heap.size+2) (by omega) (.slice ps ns cs) (.slice pt nt ct)
 have HF:Hid (TRes (set2 w1 (w.heap.size+2) (.slice ps ns cs) (.slice pt nt ct)) w.heap.size (.agg #[.slice ps ns cs,.slice pt nt ct]) D V):=(TRes.set hs1 ht1 (cell_lt XR.out.1)).low HB0.out.size
 have cf:=xr.set (.slice ps ns cs) (.slice pt nt ct)
 obtain ⟨r0,r1,r2,r3⟩:=xr
 obtain ⟨y0,y1,_,_⟩:=cf
 clear hs1 ht1 hB1
 go_wp2
 exact bodyPost_ret (v:=.tuple #[.agg #[.slice ps ns cs,.slice pt nt ct],.int .i64 E]) (by simp [results,Tryz.results120,go_sem,y0,y1]) rfl ⟨_,rfl,HF.out,BF⟩
end Go.Proofs.YtjlofobnmjompaaGreatDoor.Wd
