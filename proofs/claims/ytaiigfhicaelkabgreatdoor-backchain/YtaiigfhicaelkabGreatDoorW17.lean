/- Tensors: what conv.BackKernel hands back. -/
import Derived.Test.YtaiigfhicaelkabGreatDoorW11
set_option linter.unusedVariables false
set_option linter.unusedSimpArgs false
set_option maxHeartbeats 16000000
set_option maxRecDepth 16000
namespace Go.Proofs.YtaiigfhicaelkabGreatDoor.Wd
open Go.RowKit Fx
theorem cker_any (p p2 p3 p4:Option Addr) (n c n2 c2 n3 c3 n4 c4:Nat) (d x d' y:List Int) (st lg:Int) (hd:RI d) (hx:RI x) (hd':RI d') (hy:RI y) (w:World) (hT:Hid (Tz w)) (h1:Nums .i64 w (.slice p n c) d) (h2:Nums .i64 w (.slice p2 n2 c2) x) (h3:Nums .i64 w (.slice p3 n3 c3) d') (h4:Nums .i64 w (.slice p4 n4 c4) y):
  Calls Tryz.prog 162 #[.agg #[.slice p n c,.slice p2 n2 c2],.agg #[.slice p3 n3 c3,.slice p4 n4 c4],.int .i64 st,.int .i64 lg] w fun e w'=>∃ v',e = .returned (.tuple #[v',.int .i64 (bkE d x d' y st lg)])∧TRes w' w.heap.size v' (bkD d x d' y st lg) (bkV d x d' y st lg)∧Below w.heap.size w w':=by
 have cA:=fun W (hW:Below w.heap.size w W)=>tgood_any _ _ d x hd W (h1.up hW) (h2.up hW)
 have cB:=fun W (hW:Below w.heap.size w W)=>tgood_any _ _ d' y hd' W (h3.up hW) (h4.up hW)
 have cSt:∀ W:World,Calls Tryz.prog 97 #[.int .i64 st] W fun e w'=>e = .returned (.bool (decide (1≤st∧st≤64)))∧Below W.heap.size W w':=fun W=>goodStep_any st W
 have cLg:∀ W:World,Calls Tryz.prog 181 #[.int .i64 lg] W fun e w'=>e = .returned (.bool (decide (1≤lg∧lg≤4096)))∧Below W.heap.size W w':=fun W=>goodLength_any lg W
 obtain ⟨_,_,_,e4,HD⟩:=h1.lst
 cases e4
 obtain ⟨_,_,_,e4,HD'⟩:=h3.lst
 cases e4
 have HN:Hid (Nums .i64 w (.slice p2 n2 c2) x∧Nums .i64 w (.slice p4 n4 c4) y):=⟨h2,h4⟩
 haveI:Nonempty World:=⟨w⟩
 by_cases hp:isP d x
 ·rw [decide_eq_true hp] at cA
  by_cases hq:isP d' y
  ·rw [decide_eq_true hq] at cB
   by_cases hs:1≤st∧st≤64
   ·rw [decide_eq_true hs] at cSt
    by_cases hl:1≤lg∧lg≤4096
    ·rw [decide_eq_true hl] at cLg
     have hA:biA d x d' y st lg:=⟨hp,hq,hs,hl⟩
     obtain ⟨stN,rfl⟩:∃ q:Nat,st=q:=⟨st.toNat,by omega⟩
     obtain ⟨lgN,rfl⟩:∃ q:Nat,lg=q:=⟨lg.toNat,by omega⟩
     have hn4:n≤4:=by have:=hp.1.1;rw [ntl_len,HD.out.1] at this;exact this
     have hn4':(n:Int)≤4:=by omega
     have hm4:n3≤4:=by have:=hq.1.1;rw [ntl_len,HD'.out.1] at this;exact this
     have hm4':(n3:Int)≤4:=by omega
     by_cases hn:n=2
     ·subst hn
      by_cases hn3:n3=2
      ·subst hn3
       obtain ⟨D0,D1,rfl,hx0,k0,k1,k2⟩:=two_sides hp HD.out.1
       obtain ⟨E0,E1,rfl,hy0,l0,l1,l3⟩:=two_sides hq HD'.out.1
       have HDc:Hid ((∃ q o,p=some ⟨q,o,none⟩∧w.cell? ⟨q,o,none⟩=some (.int .i64 (D0:Int))∧w.cell? ⟨q,o+1,none⟩=some (.int .i64 (D1:Int)))∧(∃ q o,p3=some ⟨q,o,none⟩∧w.cell? ⟨q,o,none⟩=some (.int .i64 (E0:Int))∧w.cell? ⟨q,o+1,none⟩=some (.int .i64 (E1:Int)))):=by
        obtain ⟨q,o,rfl,hA0⟩:=HD.out.2 0 (by omega)
        obtain ⟨q',o',e',hA1⟩:=HD.out.2 1 (by omega)
        cases e'
        obtain ⟨r,s,rfl,hB0⟩:=HD'.out.2 0 (by omega)
        obtain ⟨r',s',e',hB1⟩:=HD'.out.2 1 (by omega)
        cases e'
        exact ⟨⟨_,_,rfl,hA0,hA1⟩,_,_,rfl,hB0,hB1⟩
       obtain ⟨⟨qa,oa,rfl,ca0,ca1⟩,qb,ob,rfl,cb0,cb1⟩:=HDc.out
       have zD:=le_side k2 k0 k1
       have zE:=le_side l3 l0 l1
       have zD':(D0:Int)≤4096∧(D1:Int)≤4096:=by omega
       have zE':(E0:Int)≤4096∧(E1:Int)≤4096:=by omega
       by_cases hw:lgN≤E1
       ·have hw':(lgN:Int)≤(E1:Int):=by omega
        by_cases hS:stopsN E1 lgN stN=D1
        ·obtain ⟨e1,e2,e3⟩:=bk_fine hA hw hS
         rw [e1,e2,e3]
         have HG:Hid (∀ (gs:Nat) (pd:Option Addr) (nd cd:Nat) (W:World),Below w.heap.size w W→Nums .i64 W (.slice pd nd cd) [(D0:Int),(E0:Int),(lgN:Int)]→SlC W gs E0 E1 D0 lgN stN→W.cell? ⟨w.heap.size,1,none⟩=some (.slice p2 n2 c2)→W.cell? ⟨w.heap.size+1,1,none⟩=some (.slice p4 n4 c4)→Calls Tryz.prog 98 #[.slice pd nd cd,.func (.func 184) #[] #[.pointer (some ⟨gs,0,none⟩),.pointer (some ⟨w.heap.size,0,none⟩),.pointer (some ⟨w.heap.size+1,0,none⟩)]] W fun e w'=>∃ v',e = .returned (.tuple #[v',.int .i64 (gatE [(D0:Int),(E0:Int),(lgN:Int)])])∧TRes w' W.heap.size v' (newD [(D0:Int),(E0:Int),(lgN:Int)]) (if goodN (ntl [(D0:Int),(E0:Int),(lgN:Int)]) then kerV D0 E0 D1 E1 lgN stN x y else [])∧Below W.heap.size W w'):=fun gs pd nd cd W hW hN hs h1' h2'=>ker_gath E0 E1 D0 lgN stN D1 hS (by omega) hw zE.2 (by omega) (by omega) l0 k0 k2 l3 zD.1 zE.1 gs _ _ p2 n2 c2 p4 n4 c4 x y hx hy hx0 hy0 pd nd cd W (Hid.up_tz hT hW) hN hs h1' h2' (HN.out.1.up hW) (HN.out.2.up hW)
         obtain ⟨EE,eEE⟩:∃ E,gatE [(D0:Int),(E0:Int),(lgN:Int)]=E:=⟨_,rfl⟩
         obtain ⟨DD,eDD⟩:∃ E,newD [(D0:Int),(E0:Int),(lgN:Int)]=E:=⟨_,rfl⟩
         obtain ⟨VV,eVV⟩:∃ E,(if goodN (ntl [(D0:Int),(E0:Int),(lgN:Int)]) then kerV D0 E0 D1 E1 lgN stN x y else [])=E:=⟨_,rfl⟩
         rw [eEE,eDD,eVV] at HG ⊢
         have cSo:∀ W:World,Calls Tryz.prog 99 #[.agg #[.int .i64 (E0:Int),.int .i64 (E1:Int),.int .i64 (D0:Int),.int .i64 (lgN:Int),.int .i64 (stN:Int)]] W fun e w'=>e = .returned (.int .i64 (D1:Int))∧Below W.heap.size W w':=fun W=>by
          have:=stops_any E0 E1 D0 lgN stN hw (by omega) (by omega) (by omega) W
          rw [hS] at this
          exact this
         have hq1:((D1:Int) != (D1:Int))=false:=by simp
         have hmf:∀ (fn:Fn) (first cap:Array Value) (w:World),(Instr.makeFunc fn first cap).run Tryz.prog w = .ok (.func fn first cap) w:=fun _ _ _ _=>rfl
         clear e1 e2 e3 hA hp hq hd hx hd' hy h1 h2 h3 h4 HD HD' HDc hx0 hy0 HN hS eEE eDD eVV
         go_enter Tryz.func162,Tryz.ntmps162
         go_wp2_with fail
         generalize hW0:World.alloc _ _=W0
         have HB0:=hidB (w:=w) hW0 (by go_grown)
         have XA:Hid (Cel W0 w.heap.size (.slice (some ⟨qa,oa,none⟩) 2 c) (.slice p2 n2 c2)):=celW hW0 (by simp [go_sem])
         have XB:Hid (Cel W0 (w.heap.size+1) (.slice (some ⟨qb,ob,none⟩) 2 c3) (.slice p4 n4 c4)):=celW hW0 (by simp [go_sem])
         have XR:Hid (Cel W0 (w.heap.size+1+1) (.slice none 0 0) (.slice none 0 0)):=celW hW0 (by simp [go_sem])
         clear hW0
         refine (cA W0 HB0.out).mono ?_
         rintro e w1 ⟨rfl,hB1⟩
         have HB1:=hid2 (bstep HB0.out hB1) hB1
         clear hB1 cA
         obtain ⟨b0,b1,_,_⟩:=XB.out.up HB1.out.2
         go_wp2_with fail
         refine (cB w1 HB1.out.1).mono ?_
         rintro e w2 ⟨rfl,hB2⟩
         have HB2:=hid2 (bstep HB1.out.1 hB2) (bstep HB1.out.2 hB2)
         clear hB2 cB b0 b1 HB1
         go_wp2_with fail
         refine (cSt w2).mono ?_
         rintro e w3 ⟨rfl,hB3⟩
         have HB3:=hid2 (bstep HB2.out.1 hB3) (bstep HB2.out.2 hB3)
         clear hB3 cSt HB2
         go_wp2_with fail
         refine (cLg w3).mono ?_
         rintro e w4 ⟨rfl,hB4⟩
         have HB4:=hid2 (bstep HB3.out.1 hB4) (bstep HB3.out.2 hB4)
         clear hB4 cLg HB3
         obtain ⟨a0,a1,_,_⟩:=XA.out.up HB4.out.2
         obtain ⟨b0,b1,_,_⟩:=XB.out.up HB4.out.2
         have a9:=cell_lt a0
         have b9:=cell_lt b0
         have ua0:=cell_low ca0 HB4.out.1
         have la0:=cell_lt ua0
         have ua1:=cell_low ca1 HB4.out.1
         have la1:=cell_lt ua1
         have ub0:=cell_low cb0 HB4.out.1
         have lb0:=cell_lt ub0
         have ub1:=cell_low cb1 HB4.out.1
         have lb1:=cell_lt ub1
         go_wp2_with fail
         refine name_world (fun w5 hw5=>?_)
         have HB5:Hid (Below w.heap.size w w5∧Below W0.heap.size W0 w5):=by rw [hw5];exact HB4.out
         clear hw5
         clear a0 a1 b0 b1 a9 b9 ua0 la0 ua1 la1 ub0 lb0 ub1 lb1
         obtain ⟨a0,a1,_,_⟩:=XA.out.up HB5.out.2
         obtain ⟨b0,b1,_,_⟩:=XB.out.up HB5.out.2
         have a9:=cell_lt a0
         have b9:=cell_lt b0
         have ua0:=cell_low ca0 HB5.out.1
         have la0:=cell_lt ua0
         have ua1:=cell_low ca1 HB5.out.1
         have la1:=cell_lt ua1
         have ub0:=cell_low cb0 HB5.out.1
         have lb0:=cell_lt ub0
         have ub1:=cell_low cb1 HB5.out.1
         have lb1:=cell_lt ub1
         go_wp2_with fail
         refine flow_new (.cells #[.int .i64 0,.int .i64 0,.int .i64 0,.int .i64 0,.int .i64 0] 138) 15 16 83 10 (by kernel_rfl) rfl rfl (by kernel_rfl) rfl rfl rfl ?_
         apply Exists.intro
         refine ⟨?_,?_,?_⟩
         ·intro F hF
          have hFc:=hF.cell
          have hFf:=hF.frozen
          simp only [List.take_succ_cons,List.take_zero,List.eraseIdx_cons_succ,List.eraseIdx_cons_zero]
          repeat (go_big_quiet_step (fail))
          refine wpQuiet_nil ?_
          exact rfl
         ·intro W
          kernel_rfl
         intro W6 g8 hW hM
         have Y0:=hM.cell (i:=0) rfl
         have Y1:=hM.cell (i:=1) rfl
         have Y2:=hM.cell (i:=2) rfl
         have Y3:=hM.cell (i:=3) rfl
         have Y4:=hM.cell (i:=4) rfl
         have Z0:=hM.frozen 0
         have Z1:=hM.frozen 1
         have Z2:=hM.frozen 2
         have Z3:=hM.frozen 3
         have Z4:=hM.frozen 4
         have lt6:g8 < W6.heap.size:=hM.1
         have ge6:w5.heap.size≤g8:=hM.2.1
         have N5:=five W6 g8 (.int .i64 (E0:Int)) (.int .i64 (E1:Int)) (.int .i64 (D0:Int)) (.int .i64 (lgN:Int)) (.int .i64 (stN:Int)) Y0 Y1 Y2 Y3 Y4
         have N6:=below_set5 (bstep HB5.out.1 hW) g8 (Nat.le_trans HB5.out.1.size ge6) (.int .i64 (E0:Int)) (.int .i64 (E1:Int)) (.int .i64 (D0:Int)) (.int .i64 (lgN:Int)) (.int .i64 (stN:Int))
         have N7:=below_set5 (bstep HB5.out.2 hW) g8 (Nat.le_trans HB5.out.2.size ge6) (.int .i64 (E0:Int)) (.int .i64 (E1:Int)) (.int .i64 (D0:Int)) (.int .i64 (lgN:Int)) (.int .i64 (stN:Int))
         simp only [List.drop_succ_cons,List.drop_zero]
         unfold ptrTo
         clear hM hW a0 a1 b0 b1 a9 b9 ua0 la0 ua1 la1 ub0 lb0 ub1 lb1 ge6
         go_wp2_with fail
         refine name_world (fun w7 hw7=>?_)
         rw [← hw7] at N5 N6 N7
         clear hw7 Y0 Y1 Y2 Y3 Y4 Z0 Z1 Z2 Z3 Z4 lt6
         have HB7:Hid (Below w.heap.size w w7∧Below W0.heap.size W0 w7):=⟨N6,N7⟩
         have X7:Hid (SlC w7 g8 E0 E1 D0 lgN stN):=N5
         clear N5 N6 N7
         obtain ⟨a0,a1,_,_⟩:=XA.out.up HB7.out.2
         obtain ⟨b0,b1,_,_⟩:=XB.out.up HB7.out.2
         have a9:=cell_lt a0
         have b9:=cell_lt b0
         have ua0:=cell_low ca0 HB7.out.1
         have la0:=cell_lt ua0
         have ua1:=cell_low ca1 HB7.out.1
         have la1:=cell_lt ua1
         have ub0:=cell_low cb0 HB7.out.1
         have lb0:=cell_lt ub0
         have ub1:=cell_low cb1 HB7.out.1
         have lb1:=cell_lt ub1
         obtain ⟨z0,z1,z2,z3,z4⟩:=X7.out
         have zl:=cell_lt z0
         refine flow 7 83 (by kernel_rfl) rfl rfl (by kernel_rfl) ?_
         apply Exists.intro
         refine ⟨?_,?_⟩
         ·intro F hF
          have hFc:=hF.cell
          have hFf:=hF.frozen
          simp only [List.take_succ_cons,List.take_zero,List.eraseIdx_cons_succ,List.eraseIdx_cons_zero]
          repeat (go_big_quiet_step (first|(go_at_call 99;with_reducible exact hF.call (cSo _))))
          refine wpQuiet_nil ?_
          exact rfl
         intro w8 hW8
         simp only [List.drop_succ_cons,List.drop_zero]
         have HB8:=hid2 (bstep HB7.out.1 hW8) (bstep HB7.out.2 hW8)
         have X8:Hid (SlC w8 g8 E0 E1 D0 lgN stN):=X7.out.up hW8
         clear hW8 a0 a1 b0 b1 a9 b9 ua0 la0 ua1 la1 ub0 lb0 ub1 lb1 z0 z1 z2 z3 z4 zl X7 HB7 cSo
         obtain ⟨a0,a1,_,_⟩:=XA.out.up HB8.out.2
         obtain ⟨b0,b1,_,_⟩:=XB.out.up HB8.out.2
         have a9:=cell_lt a0
         have b9:=cell_lt b0
         obtain ⟨z0,z1,z2,z3,z4⟩:=X8.out
         have zl:=cell_lt z0
         go_wp2_with fail
         generalize hW9:World.alloc _ _=W9
         have hB9:Below w8.heap.size w8 W9:=by rw [← hW9];exact up_alloc w8 _
         have hN9:Nums .i64 W9 (.slice (some ⟨w8.heap.size,0,none⟩) 3 3) [(D0:Int),(E0:Int),(lgN:Int)]:=by rw [← hW9];exact nums_lit (k:=.i64) w8 [(D0:Int),(E0:Int),(lgN:Int)] 3 (0,0) rfl
         have HB9:=hid2 (bstep HB8.out.1 hB9) (bstep HB8.out.2 hB9)
         refine (HG.out g8 _ _ _ W9 HB9.out.1 hN9 (X8.out.up hB9) (XA.out.up HB9.out.2).2.1 (XB.out.up HB9.out.2).2.1).mono ?_
         rintro e w10 ⟨v10,rfl,⟨s10,t10,rfl,hs10,ht10⟩,hB10⟩
         obtain ⟨pa1,na1,ca_1,rfl,_⟩:=hs10.nums.lst
         obtain ⟨pb1,nb1,cb_1,rfl,_⟩:=ht10.nums.lst
         have HB10:=hid2 (bstep HB9.out.1 hB10) (bstep HB9.out.2 hB10)
         have xr:=XR.out.up HB10.out.2
         have hz:=cell_lt XR.out.1
         have hz9:=HB9.out.2.size
         have HF:Hid (TRes (set2 w10 (w.heap.size+1+1) (.slice pa1 na1 ca_1) (.slice pb1 nb1 cb_1)) w.heap.size (.agg #[.slice pa1 na1 ca_1,.slice pb1 nb1 cb_1]) DD VV∧Below w.heap.size w (set2 w10 (w.heap.size+1+1) (.slice pa1 na1 ca_1) (.slice pb1 nb1 cb_1))):=⟨(TRes.set hs10 ht10 (by omega)).low (by have:=HB9.out.1.size;omega),below_cell HB10.out.1 _ (by omega) _ _⟩
         have cf:=xr.set (.slice pa1 na1 ca_1) (.slice pb1 nb1 cb_1)
         obtain ⟨r0,r1,r2,r3⟩:=xr
         obtain ⟨y0,y1,_,_⟩:=cf
         have r9:=cell_lt r0
         clear hs10 ht10 hB10 hN9 hB9 hW9 a0 a1 b0 b1 a9 b9 z0 z1 z2 z3 z4 zl HG
         go_wp2
         exact bodyPost_ret (v:=.tuple #[.agg #[.slice pa1 na1 ca_1,.slice pb1 nb1 cb_1],.int .i64 EE]) (by simp [results,Tryz.results162,go_sem,y0,y1]) rfl ⟨_,rfl,HF.out⟩
        ·obtain ⟨SX,hS0⟩:∃ S,stopsN E1 lgN stN=S:=⟨_,rfl⟩
         rw [hS0] at hS
         obtain ⟨e1,e2,e3⟩:=bk_shape hA (fun h=>hS (by have:=h.2.2.2;simp at this;omega))
         rw [e1,e2,e3]
         have hne9:D1≠SX:=fun h=>hS h.symm
         clear hS
         have hS:=hS0
         clear hS0
         have cSo:∀ W:World,Calls Tryz.prog 99 #[.agg #[.int .i64 (E0:Int),.int .i64 (E1:Int),.int .i64 (D0:Int),.int .i64 (lgN:Int),.int .i64 (stN:Int)]] W fun e w'=>e = .returned (.int .i64 (SX:Int))∧Below W.heap.size W w':=fun W=>by
          have:=stops_any E0 E1 D0 lgN stN hw (by omega) (by omega) (by omega) W
          rw [hS] at this
          exact this
         have hq1:((D1:Int) != (SX:Int))=true:=by simp;omega
         have hq2:¬ ((D1:Int)=(SX:Int)):=by omega
         have hmf:∀ (fn:Fn) (first cap:Array Value) (w:World),(Instr.makeFunc fn first cap).run Tryz.prog w = .ok (.func fn first cap) w:=fun _ _ _ _=>rfl
         clear e1 e2 e3 hA hp hq hd hx hd' hy h1 h2 h3 h4 HD HD' HDc hx0 hy0 HN hS 
         go_enter Tryz.func162,Tryz.ntmps162
         go_wp2_with fail
         generalize hW0:World.alloc _ _=W0
         have HB0:=hidB (w:=w) hW0 (by go_grown)
         have XA:Hid (Cel W0 w.heap.size (.slice (some ⟨qa,oa,none⟩) 2 c) (.slice p2 n2 c2)):=celW hW0 (by simp [go_sem])
         have XB:Hid (Cel W0 (w.heap.size+1) (.slice (some ⟨qb,ob,none⟩) 2 c3) (.slice p4 n4 c4)):=celW hW0 (by simp [go_sem])
         have XR:Hid (Cel W0 (w.heap.size+1+1) (.slice none 0 0) (.slice none 0 0)):=celW hW0 (by simp [go_sem])
         clear hW0
         refine (cA W0 HB0.out).mono ?_
         rintro e w1 ⟨rfl,hB1⟩
         have HB1:=hid2 (bstep HB0.out hB1) hB1
         clear hB1 cA
         obtain ⟨b0,b1,_,_⟩:=XB.out.up HB1.out.2
         go_wp2_with fail
         refine (cB w1 HB1.out.1).mono ?_
         rintro e w2 ⟨rfl,hB2⟩
         have HB2:=hid2 (bstep HB1.out.1 hB2) (bstep HB1.out.2 hB2)
         clear hB2 cB b0 b1 HB1
         go_wp2_with fail
         refine (cSt w2).mono ?_
         rintro e w3 ⟨rfl,hB3⟩
         have HB3:=hid2 (bstep HB2.out.1 hB3) (bstep HB2.out.2 hB3)
         clear hB3 cSt HB2
         go_wp2_with fail
         refine (cLg w3).mono ?_
         rintro e w4 ⟨rfl,hB4⟩
         have HB4:=hid2 (bstep HB3.out.1 hB4) (bstep HB3.out.2 hB4)
         clear hB4 cLg HB3
         obtain ⟨a0,a1,_,_⟩:=XA.out.up HB4.out.2
         obtain ⟨b0,b1,_,_⟩:=XB.out.up HB4.out.2
         have a9:=cell_lt a0
         have b9:=cell_lt b0
         have ua0:=cell_low ca0 HB4.out.1
         have la0:=cell_lt ua0
         have ua1:=cell_low ca1 HB4.out.1
         have la1:=cell_lt ua1
         have ub0:=cell_low cb0 HB4.out.1
         have lb0:=cell_lt ub0
         have ub1:=cell_low cb1 HB4.out.1
         have lb1:=cell_lt ub1
         go_wp2_with fail
         refine name_world (fun w5 hw5=>?_)
         have HB5:Hid (Below w.heap.size w w5∧Below W0.heap.size W0 w5):=by rw [hw5];exact HB4.out
         clear hw5
         clear a0 a1 b0 b1 a9 b9 ua0 la0 ua1 la1 ub0 lb0 ub1 lb1
         obtain ⟨a0,a1,_,_⟩:=XA.out.up HB5.out.2
         obtain ⟨b0,b1,_,_⟩:=XB.out.up HB5.out.2
         have a9:=cell_lt a0
         have b9:=cell_lt b0
         have ua0:=cell_low ca0 HB5.out.1
         have la0:=cell_lt ua0
         have ua1:=cell_low ca1 HB5.out.1
         have la1:=cell_lt ua1
         have ub0:=cell_low cb0 HB5.out.1
         have lb0:=cell_lt ub0
         have ub1:=cell_low cb1 HB5.out.1
         have lb1:=cell_lt ub1
         go_wp2_with fail
         refine flow_new (.cells #[.int .i64 0,.int .i64 0,.int .i64 0,.int .i64 0,.int .i64 0] 138) 15 16 83 10 (by kernel_rfl) rfl rfl (by kernel_rfl) rfl rfl rfl ?_
         apply Exists.intro
         refine ⟨?_,?_,?_⟩
         ·intro F hF
          have hFc:=hF.cell
          have hFf:=hF.frozen
          simp only [List.take_succ_cons,List.take_zero,List.eraseIdx_cons_succ,List.eraseIdx_cons_zero]
          repeat (go_big_quiet_step (fail))
          refine wpQuiet_nil ?_
          exact rfl
         ·intro W
          kernel_rfl
         intro W6 g8 hW hM
         have Y0:=hM.cell (i:=0) rfl
         have Y1:=hM.cell (i:=1) rfl
         have Y2:=hM.cell (i:=2) rfl
         have Y3:=hM.cell (i:=3) rfl
         have Y4:=hM.cell (i:=4) rfl
         have Z0:=hM.frozen 0
         have Z1:=hM.frozen 1
         have Z2:=hM.frozen 2
         have Z3:=hM.frozen 3
         have Z4:=hM.frozen 4
         have lt6:g8 < W6.heap.size:=hM.1
         have ge6:w5.heap.size≤g8:=hM.2.1
         have N5:=five W6 g8 (.int .i64 (E0:Int)) (.int .i64 (E1:Int)) (.int .i64 (D0:Int)) (.int .i64 (lgN:Int)) (.int .i64 (stN:Int)) Y0 Y1 Y2 Y3 Y4
         have N6:=below_set5 (bstep HB5.out.1 hW) g8 (Nat.le_trans HB5.out.1.size ge6) (.int .i64 (E0:Int)) (.int .i64 (E1:Int)) (.int .i64 (D0:Int)) (.int .i64 (lgN:Int)) (.int .i64 (stN:Int))
         have N7:=below_set5 (bstep HB5.out.2 hW) g8 (Nat.le_trans HB5.out.2.size ge6) (.int .i64 (E0:Int)) (.int .i64 (E1:Int)) (.int .i64 (D0:Int)) (.int .i64 (lgN:Int)) (.int .i64 (stN:Int))
         simp only [List.drop_succ_cons,List.drop_zero]
         unfold ptrTo
         clear hM hW a0 a1 b0 b1 a9 b9 ua0 la0 ua1 la1 ub0 lb0 ub1 lb1 ge6
         go_wp2_with fail
         refine name_world (fun w7 hw7=>?_)
         rw [← hw7] at N5 N6 N7
         clear hw7 Y0 Y1 Y2 Y3 Y4 Z0 Z1 Z2 Z3 Z4 lt6
         have HB7:Hid (Below w.heap.size w w7∧Below W0.heap.size W0 w7):=⟨N6,N7⟩
         have X7:Hid (SlC w7 g8 E0 E1 D0 lgN stN):=N5
         clear N5 N6 N7
         obtain ⟨a0,a1,_,_⟩:=XA.out.up HB7.out.2
         obtain ⟨b0,b1,_,_⟩:=XB.out.up HB7.out.2
         have a9:=cell_lt a0
         have b9:=cell_lt b0
         have ua0:=cell_low ca0 HB7.out.1
         have la0:=cell_lt ua0
         have ua1:=cell_low ca1 HB7.out.1
         have la1:=cell_lt ua1
         have ub0:=cell_low cb0 HB7.out.1
         have lb0:=cell_lt ub0
         have ub1:=cell_low cb1 HB7.out.1
         have lb1:=cell_lt ub1
         obtain ⟨z0,z1,z2,z3,z4⟩:=X7.out
         have zl:=cell_lt z0
         refine flow 7 83 (by kernel_rfl) rfl rfl (by kernel_rfl) ?_
         apply Exists.intro
         refine ⟨?_,?_⟩
         ·intro F hF
          have hFc:=hF.cell
          have hFf:=hF.frozen
          simp only [List.take_succ_cons,List.take_zero,List.eraseIdx_cons_succ,List.eraseIdx_cons_zero]
          repeat (go_big_quiet_step (first|(go_at_call 99;with_reducible exact hF.call (cSo _))))
          refine wpQuiet_nil ?_
          exact rfl
         intro w8 hW8
         simp only [List.drop_succ_cons,List.drop_zero]
         have HB8:=hid2 (bstep HB7.out.1 hW8) (bstep HB7.out.2 hW8)
         have X8:Hid (SlC w8 g8 E0 E1 D0 lgN stN):=X7.out.up hW8
         clear hW8 a0 a1 b0 b1 a9 b9 ua0 la0 ua1 la1 ub0 lb0 ub1 lb1 z0 z1 z2 z3 z4 zl X7 HB7 cSo
         have xr:=XR.out.up HB8.out.2
         have BF:=below_cell HB8.out.1 (w.heap.size+1+1) (by omega) (.slice none 0 0) (.slice none 0 0)
         have cf:=xr.set (.slice none 0 0) (.slice none 0 0)
         obtain ⟨r0,r1,r2,r3⟩:=xr
         obtain ⟨y0,y1,_,_⟩:=cf
         go_wp2
         exact bodyPost_ret (v:=.tuple #[.agg #[.slice none 0 0,.slice none 0 0],.int .i64 4]) (by simp [results,Tryz.results162,go_sem,y0,y1]) rfl ⟨_,rfl,TRes.none _ _,BF⟩
       ·obtain ⟨e1,e2,e3⟩:=bk_shape hA (fun h=>hw (by have:=h.2.2.1;simp at this;omega))
        rw [e1,e2,e3]
        have hw':¬ ((lgN:Int)≤(E1:Int)):=by omega
        have hw2:(E1:Int) < (lgN:Int):=by omega
        clear e1 e2 e3 hA hp hq hd hx hd' hy h1 h2 h3 h4 HD HD' HN hw HDc
        go_enter Tryz.func162,Tryz.ntmps162
        go_wp2_with fail
        generalize hW0:World.alloc _ _=W0
        have HB0:=hidB (w:=w) hW0 (by go_grown)
        have XA:Hid (Cel W0 w.heap.size (.slice (some ⟨qa,oa,none⟩) 2 c) (.slice p2 n2 c2)):=celW hW0 (by simp [go_sem])
        have XB:Hid (Cel W0 (w.heap.size+1) (.slice (some ⟨qb,ob,none⟩) 2 c3) (.slice p4 n4 c4)):=celW hW0 (by simp [go_sem])
        have XR:Hid (Cel W0 (w.heap.size+1+1) (.slice none 0 0) (.slice none 0 0)):=celW hW0 (by simp [go_sem])
        clear hW0
        refine (cA W0 HB0.out).mono ?_
        rintro e w1 ⟨rfl,hB1⟩
        have HB1:=hid2 (bstep HB0.out hB1) hB1
        clear hB1 cA
        obtain ⟨b0,b1,_,_⟩:=XB.out.up HB1.out.2
        go_wp2_with fail
        refine (cB w1 HB1.out.1).mono ?_
        rintro e w2 ⟨rfl,hB2⟩
        have HB2:=hid2 (bstep HB1.out.1 hB2) (bstep HB1.out.2 hB2)
        clear hB2 cB b0 b1 HB1
        go_wp2_with fail
        refine (cSt w2).mono ?_
        rintro e w3 ⟨rfl,hB3⟩
        have HB3:=hid2 (bstep HB2.out.1 hB3) (bstep HB2.out.2 hB3)
        clear hB3 cSt HB2
        go_wp2_with fail
        refine (cLg w3).mono ?_
        rintro e w4 ⟨rfl,hB4⟩
        have HB4:=hid2 (bstep HB3.out.1 hB4) (bstep HB3.out.2 hB4)
        clear hB4 cLg HB3
        obtain ⟨a0,a1,_,_⟩:=XA.out.up HB4.out.2
        obtain ⟨b0,b1,_,_⟩:=XB.out.up HB4.out.2
        have a9:=cell_lt a0
        have b9:=cell_lt b0
        have ua0:=cell_low ca0 HB4.out.1
        have la0:=cell_lt ua0
        have ua1:=cell_low ca1 HB4.out.1
        have la1:=cell_lt ua1
        have ub0:=cell_low cb0 HB4.out.1
        have lb0:=cell_lt ub0
        have ub1:=cell_low cb1 HB4.out.1
        have lb1:=cell_lt ub1
        have xr:=XR.out.up HB4.out.2
        have BF:=below_cell HB4.out.1 (w.heap.size+1+1) (by omega) (.slice none 0 0) (.slice none 0 0)
        have cf:=xr.set (.slice none 0 0) (.slice none 0 0)
        obtain ⟨r0,r1,r2,r3⟩:=xr
        obtain ⟨y0,y1,_,_⟩:=cf
        go_wp2
        exact bodyPost_ret (v:=.tuple #[.agg #[.slice none 0 0,.slice none 0 0],.int .i64 4]) (by simp [results,Tryz.results162,go_sem,y0,y1]) rfl ⟨_,rfl,TRes.none _ _,BF⟩
      ·obtain ⟨e1,e2,e3⟩:=bk_shape hA (fun h=>hn3 (by rw [← HD'.out.1];exact h.2.1))
       rw [e1,e2,e3]
       have hne:((n3:Int) != 2)=true:=by simp;omega
       have hne':¬ ((n3:Int)=2):=by omega
       clear e1 e2 e3 hA hp hq hd hx hd' hy h1 h2 h3 h4 HD HD' HN hn3
       go_enter Tryz.func162,Tryz.ntmps162
       go_wp2_with fail
       generalize hW0:World.alloc _ _=W0
       have HB0:=hidB (w:=w) hW0 (by go_grown)
       have XA:Hid (Cel W0 w.heap.size (.slice p 2 c) (.slice p2 n2 c2)):=celW hW0 (by simp [go_sem])
       have XB:Hid (Cel W0 (w.heap.size+1) (.slice p3 n3 c3) (.slice p4 n4 c4)):=celW hW0 (by simp [go_sem])
       have XR:Hid (Cel W0 (w.heap.size+1+1) (.slice none 0 0) (.slice none 0 0)):=celW hW0 (by simp [go_sem])
       clear hW0
       refine (cA W0 HB0.out).mono ?_
       rintro e w1 ⟨rfl,hB1⟩
       have HB1:=hid2 (bstep HB0.out hB1) hB1
       clear hB1 cA
       obtain ⟨b0,b1,_,_⟩:=XB.out.up HB1.out.2
       go_wp2_with fail
       refine (cB w1 HB1.out.1).mono ?_
       rintro e w2 ⟨rfl,hB2⟩
       have HB2:=hid2 (bstep HB1.out.1 hB2) (bstep HB1.out.2 hB2)
       clear hB2 cB b0 b1 HB1
       go_wp2_with fail
       refine (cSt w2).mono ?_
       rintro e w3 ⟨rfl,hB3⟩
       have HB3:=hid2 (bstep HB2.out.1 hB3) (bstep HB2.out.2 hB3)
       clear hB3 cSt HB2
       go_wp2_with fail
       refine (cLg w3).mono ?_
       rintro e w4 ⟨rfl,hB4⟩
       have HB4:=hid2 (bstep HB3.out.1 hB4) (bstep HB3.out.2 hB4)
       clear hB4 cLg HB3
       obtain ⟨a0,a1,_,_⟩:=XA.out.up HB4.out.2
       obtain ⟨b0,b1,_,_⟩:=XB.out.up HB4.out.2
       have a9:=cell_lt a0
       have b9:=cell_lt b0
       have xr:=XR.out.up HB4.out.2
       have BF:=below_cell HB4.out.1 (w.heap.size+1+1) (by omega) (.slice none 0 0) (.slice none 0 0)
       have cf:=xr.set (.slice none 0 0) (.slice none 0 0)
       obtain ⟨r0,r1,r2,r3⟩:=xr
       obtain ⟨y0,y1,_,_⟩:=cf
       go_wp2
       exact bodyPost_ret (v:=.tuple #[.agg #[.slice none 0 0,.slice none 0 0],.int .i64 4]) (by simp [results,Tryz.results162,go_sem,y0,y1]) rfl ⟨_,rfl,TRes.none _ _,BF⟩
     ·obtain ⟨e1,e2,e3⟩:=bk_shape hA (fun h=>hn (by rw [← HD.out.1];exact h.1))
      rw [e1,e2,e3]
      have hne:((n:Int) != 2)=true:=by simp;omega
      have hne':¬ ((n:Int)=2):=by omega
      clear e1 e2 e3 hA hp hq hd hx hd' hy h1 h2 h3 h4 HD HD' HN hn
      go_enter Tryz.func162,Tryz.ntmps162
      go_wp2_with fail
      generalize hW0:World.alloc _ _=W0
      have HB0:=hidB (w:=w) hW0 (by go_grown)
      have XA:Hid (Cel W0 w.heap.size (.slice p n c) (.slice p2 n2 c2)):=celW hW0 (by simp [go_sem])
      have XB:Hid (Cel W0 (w.heap.size+1) (.slice p3 n3 c3) (.slice p4 n4 c4)):=celW hW0 (by simp [go_sem])
      have XR:Hid (Cel W0 (w.heap.size+1+1) (.slice none 0 0) (.slice none 0 0)):=celW hW0 (by simp [go_sem])
      clear hW0
      refine (cA W0 HB0.out).mono ?_
      rintro e w1 ⟨rfl,hB1⟩
      have HB1:=hid2 (bstep HB0.out hB1) hB1
      clear hB1 cA
      obtain ⟨b0,b1,_,_⟩:=XB.out.up HB1.out.2
      go_wp2_with fail
      refine (cB w1 HB1.out.1).mono ?_
      rintro e w2 ⟨rfl,hB2⟩
      have HB2:=hid2 (bstep HB1.out.1 hB2) (bstep HB1.out.2 hB2)
      clear hB2 cB b0 b1 HB1
      go_wp2_with fail
      refine (cSt w2).mono ?_
      rintro e w3 ⟨rfl,hB3⟩
      have HB3:=hid2 (bstep HB2.out.1 hB3) (bstep HB2.out.2 hB3)
      clear hB3 cSt HB2
      go_wp2_with fail
      refine (cLg w3).mono ?_
      rintro e w4 ⟨rfl,hB4⟩
      have HB4:=hid2 (bstep HB3.out.1 hB4) (bstep HB3.out.2 hB4)
      clear hB4 cLg HB3
      obtain ⟨a0,a1,_,_⟩:=XA.out.up HB4.out.2
      obtain ⟨b0,b1,_,_⟩:=XB.out.up HB4.out.2
      have a9:=cell_lt a0
      have b9:=cell_lt b0
      have xr:=XR.out.up HB4.out.2
      have BF:=below_cell HB4.out.1 (w.heap.size+1+1) (by omega) (.slice none 0 0) (.slice none 0 0)
      have cf:=xr.set (.slice none 0 0) (.slice none 0 0)
      obtain ⟨r0,r1,r2,r3⟩:=xr
      obtain ⟨y0,y1,_,_⟩:=cf
      go_wp2
      exact bodyPost_ret (v:=.tuple #[.agg #[.slice none 0 0,.slice none 0 0],.int .i64 4]) (by simp [results,Tryz.results162,go_sem,y0,y1]) rfl ⟨_,rfl,TRes.none _ _,BF⟩
    ·rw [decide_eq_false hl] at cLg
     obtain ⟨e1,e2,e3⟩:=bk_arg (d:=d) (x:=x) (d':=d') (y:=y) (st:=st) (lg:=lg) (fun h=>hl h.2.2.2)
     rw [e1,e2,e3]
     clear e1 e2 e3 hd hx hd' hy h1 h2 h3 h4 HD HD' HN 
     go_enter Tryz.func162,Tryz.ntmps162
     go_wp2_with fail
     generalize hW0:World.alloc _ _=W0
     have HB0:=hidB (w:=w) hW0 (by go_grown)
     have XA:Hid (Cel W0 w.heap.size (.slice p n c) (.slice p2 n2 c2)):=celW hW0 (by simp [go_sem])
     have XB:Hid (Cel W0 (w.heap.size+1) (.slice p3 n3 c3) (.slice p4 n4 c4)):=celW hW0 (by simp [go_sem])
     have XR:Hid (Cel W0 (w.heap.size+1+1) (.slice none 0 0) (.slice none 0 0)):=celW hW0 (by simp [go_sem])
     clear hW0
     refine (cA W0 HB0.out).mono ?_
     rintro e w1 ⟨rfl,hB1⟩
     have HB1:=hid2 (bstep HB0.out hB1) hB1
     clear hB1 cA
     obtain ⟨b0,b1,_,_⟩:=XB.out.up HB1.out.2
     go_wp2_with fail
     refine (cB w1 HB1.out.1).mono ?_
     rintro e w2 ⟨rfl,hB2⟩
     have HB2:=hid2 (bstep HB1.out.1 hB2) (bstep HB1.out.2 hB2)
     clear hB2 cB b0 b1 HB1
     go_wp2_with fail
     refine (cSt w2).mono ?_
     rintro e w3 ⟨rfl,hB3⟩
     have HB3:=hid2 (bstep HB2.out.1 hB3) (bstep HB2.out.2 hB3)
     clear hB3 cSt HB2
     go_wp2_with fail
     refine (cLg w3).mono ?_
     rintro e w4 ⟨rfl,hB4⟩
     have HB4:=hid2 (bstep HB3.out.1 hB4) (bstep HB3.out.2 hB4)
     clear hB4 cLg HB3
     have xr:=XR.out.up HB4.out.2
     have BF:=below_cell HB4.out.1 (w.heap.size+1+1) (by omega) (.slice none 0 0) (.slice none 0 0)
     have cf:=xr.set (.slice none 0 0) (.slice none 0 0)
     obtain ⟨r0,r1,r2,r3⟩:=xr
     obtain ⟨y0,y1,_,_⟩:=cf
     go_wp2
     exact bodyPost_ret (v:=.tuple #[.agg #[.slice none 0 0,.slice none 0 0],.int .i64 1]) (by simp [results,Tryz.results162,go_sem,y0,y1]) rfl ⟨_,rfl,TRes.none _ _,BF⟩
   ·rw [decide_eq_false hs] at cSt
    obtain ⟨e1,e2,e3⟩:=bk_arg (d:=d) (x:=x) (d':=d') (y:=y) (st:=st) (lg:=lg) (fun h=>hs h.2.2.1)
    rw [e1,e2,e3]
    clear e1 e2 e3 hd hx hd' hy h1 h2 h3 h4 HD HD' HN cLg
    go_enter Tryz.func162,Tryz.ntmps162
    go_wp2_with fail
    generalize hW0:World.alloc _ _=W0
    have HB0:=hidB (w:=w) hW0 (by go_grown)
    have XA:Hid (Cel W0 w.heap.size (.slice p n c) (.slice p2 n2 c2)):=celW hW0 (by simp [go_sem])
    have XB:Hid (Cel W0 (w.heap.size+1) (.slice p3 n3 c3) (.slice p4 n4 c4)):=celW hW0 (by simp [go_sem])
    have XR:Hid (Cel W0 (w.heap.size+1+1) (.slice none 0 0) (.slice none 0 0)):=celW hW0 (by simp [go_sem])
    clear hW0
    refine (cA W0 HB0.out).mono ?_
    rintro e w1 ⟨rfl,hB1⟩
    have HB1:=hid2 (bstep HB0.out hB1) hB1
    clear hB1 cA
    obtain ⟨b0,b1,_,_⟩:=XB.out.up HB1.out.2
    go_wp2_with fail
    refine (cB w1 HB1.out.1).mono ?_
    rintro e w2 ⟨rfl,hB2⟩
    have HB2:=hid2 (bstep HB1.out.1 hB2) (bstep HB1.out.2 hB2)
    clear hB2 cB b0 b1 HB1
    go_wp2_with fail
    refine (cSt w2).mono ?_
    rintro e w3 ⟨rfl,hB3⟩
    have HB3:=hid2 (bstep HB2.out.1 hB3) (bstep HB2.out.2 hB3)
    clear hB3 cSt HB2
    have xr:=XR.out.up HB3.out.2
    have BF:=below_cell HB3.out.1 (w.heap.size+1+1) (by omega) (.slice none 0 0) (.slice none 0 0)
    have cf:=xr.set (.slice none 0 0) (.slice none 0 0)
    obtain ⟨r0,r1,r2,r3⟩:=xr
    obtain ⟨y0,y1,_,_⟩:=cf
    go_wp2
    exact bodyPost_ret (v:=.tuple #[.agg #[.slice none 0 0,.slice none 0 0],.int .i64 1]) (by simp [results,Tryz.results162,go_sem,y0,y1]) rfl ⟨_,rfl,TRes.none _ _,BF⟩
  ·rw [decide_eq_false hq] at cB
   obtain ⟨e1,e2,e3⟩:=bk_arg (d:=d) (x:=x) (d':=d') (y:=y) (st:=st) (lg:=lg) (fun h=>hq h.2.1)
   rw [e1,e2,e3]
   clear e1 e2 e3 hd hx hd' hy h1 h2 h3 h4 HD HD' HN cSt cLg
   go_enter Tryz.func162,Tryz.ntmps162
   go_wp2_with fail
   generalize hW0:World.alloc _ _=W0
   have HB0:=hidB (w:=w) hW0 (by go_grown)
   have XA:Hid (Cel W0 w.heap.size (.slice p n c) (.slice p2 n2 c2)):=celW hW0 (by simp [go_sem])
   have XB:Hid (Cel W0 (w.heap.size+1) (.slice p3 n3 c3) (.slice p4 n4 c4)):=celW hW0 (by simp [go_sem])
   have XR:Hid (Cel W0 (w.heap.size+1+1) (.slice none 0 0) (.slice none 0 0)):=celW hW0 (by simp [go_sem])
   clear hW0
   refine (cA W0 HB0.out).mono ?_
   rintro e w1 ⟨rfl,hB1⟩
   have HB1:=hid2 (bstep HB0.out hB1) hB1
   clear hB1 cA
   obtain ⟨b0,b1,_,_⟩:=XB.out.up HB1.out.2
   go_wp2_with fail
   refine (cB w1 HB1.out.1).mono ?_
   rintro e w2 ⟨rfl,hB2⟩
   have HB2:=hid2 (bstep HB1.out.1 hB2) (bstep HB1.out.2 hB2)
   clear hB2 cB b0 b1 HB1
   have xr:=XR.out.up HB2.out.2
   have BF:=below_cell HB2.out.1 (w.heap.size+1+1) (by omega) (.slice none 0 0) (.slice none 0 0)
   have cf:=xr.set (.slice none 0 0) (.slice none 0 0)
   obtain ⟨r0,r1,r2,r3⟩:=xr
   obtain ⟨y0,y1,_,_⟩:=cf
   go_wp2
   exact bodyPost_ret (v:=.tuple #[.agg #[.slice none 0 0,.slice none 0 0],.int .i64 1]) (by simp [results,Tryz.results162,go_sem,y0,y1]) rfl ⟨_,rfl,TRes.none _ _,BF⟩
 ·rw [decide_eq_false hp] at cA
  obtain ⟨e1,e2,e3⟩:=bk_arg (d:=d) (x:=x) (d':=d') (y:=y) (st:=st) (lg:=lg) (fun h=>hp h.1)
  rw [e1,e2,e3]
  clear e1 e2 e3 hd hx hd' hy h1 h2 h3 h4 HD HD' HN cB cSt cLg
  go_enter Tryz.func162,Tryz.ntmps162
  go_wp2_with fail
  generalize hW0:World.alloc _ _=W0
  have HB0:=hidB (w:=w) hW0 (by go_grown)
  have XA:Hid (Cel W0 w.heap.size (.slice p n c) (.slice p2 n2 c2)):=celW hW0 (by simp [go_sem])
  have XB:Hid (Cel W0 (w.heap.size+1) (.slice p3 n3 c3) (.slice p4 n4 c4)):=celW hW0 (by simp [go_sem])
  have XR:Hid (Cel W0 (w.heap.size+1+1) (.slice none 0 0) (.slice none 0 0)):=celW hW0 (by simp [go_sem])
  clear hW0
  refine (cA W0 HB0.out).mono ?_
  rintro e w1 ⟨rfl,hB1⟩
  have HB1:=hid2 (bstep HB0.out hB1) hB1
  clear hB1 cA
  have xr:=XR.out.up HB1.out.2
  have BF:=below_cell HB1.out.1 (w.heap.size+1+1) (by omega) (.slice none 0 0) (.slice none 0 0)
  have cf:=xr.set (.slice none 0 0) (.slice none 0 0)
  obtain ⟨r0,r1,r2,r3⟩:=xr
  obtain ⟨y0,y1,_,_⟩:=cf
  go_wp2
  exact bodyPost_ret (v:=.tuple #[.agg #[.slice none 0 0,.slice none 0 0],.int .i64 1]) (by simp [results,Tryz.results162,go_sem,y0,y1]) rfl ⟨_,rfl,TRes.none _ _,BF⟩
end Go.Proofs.YtaiigfhicaelkabGreatDoor.Wd
