/- The reference's Row. -/
import Derived.Test.YtlhpmjcdkpfjdaaGreatDoorY31
set_option linter.unusedVariables false
set_option linter.unusedSimpArgs false
set_option maxHeartbeats 16000000
set_option maxRecDepth 16000
namespace Go.Proofs.YtlhpmjcdkpfjdaaGreatDoor.Wd
open Go.RowKit Fx
theorem rrow_any (p p2 p3 p4:Option Addr) (n c n2 c2 n3 c3 n4 c4:Nat) (d x d' y:List Int) (st:Int) (hd:RI d) (hx:RI x) (hd':RI d') (hy:RI y) (w:World) (h1:Nums .i64 w (.slice p n c) d) (h2:Nums .i64 w (.slice p2 n2 c2) x) (h3:Nums .i64 w (.slice p3 n3 c3) d') (h4:Nums .i64 w (.slice p4 n4 c4) y):
  Calls Tryz.prog 98 #[.agg #[.slice p n c,.slice p2 n2 c2],.agg #[.slice p3 n3 c3,.slice p4 n4 c4],.int .i64 st] w fun e w'=>∃ v',e = .returned (.tuple #[v',.int .i64 (rwE d x d' y st)])∧TRes w' w.heap.size v' (rwD d x d' y st) (rwV d x d' y st)∧Below w.heap.size w w':=by
 have cA:=fun W (hW:Below w.heap.size w W)=>ris_any _ _ d x hd W (h1.up hW) (h2.up hW)
 have cB:=fun W (hW:Below w.heap.size w W)=>ris_any _ _ d' y hd' W (h3.up hW) (h4.up hW)
 obtain ⟨_,_,_,e4,HD⟩:=h1.lst
 cases e4
 obtain ⟨_,_,_,e4,HD'⟩:=h3.lst
 cases e4
 haveI:Nonempty World:=⟨w⟩
 by_cases hp:isP d x
 ·rw [decide_eq_true hp] at cA
  by_cases hq:isP d' y
  ·rw [decide_eq_true hq] at cB
   by_cases hs1:st < 1
   ·obtain ⟨e1,e2,e3⟩:=rw_arg (d:=d) (x:=x) (d':=d') (y:=y) (st:=st) (fun h=>by omega)
    rw [e1,e2,e3]
    have q109089:decide (st < 1)=true:=decide_eq_true (by omega)
    clear e1 e2 e3 hd hx hd' hy h1 h2 h3 h4 HD HD' hp hq
    go_enter Tryz.func98,Tryz.ntmps98
    go_wp2_with fail
    generalize hW0:World.alloc _ _=W0
    have HB0:=hidB (w:=w) hW0 (by go_grown)
    have XA:Hid (Cel W0 w.heap.size (.slice p n c) (.slice p2 n2 c2)):=celW hW0 (by simp [go_sem])
    have XB:Hid (Cel W0 (w.heap.size+1) (.slice p3 n3 c3) (.slice p4 n4 c4)):=celW hW0 (by simp [go_sem])
    have XR:Hid (Cel W0 (w.heap.size+1+1) (.slice none 0 0) (.slice none 0 0)):=celW hW0 (by simp [go_sem])
    clear hW0
    refine (cA W0 HB0.out).mono ?_
    rintro e w1 ⟨rfl,hB1⟩
    have HB1:=hid2 (bstep HB0.out hB1) hB1
    clear hB1 cA
    obtain ⟨b0,b1,_,_⟩:=XB.out.up HB1.out.2
    go_wp2_with fail
    refine (cB w1 HB1.out.1).mono ?_
    rintro e w2 ⟨rfl,hB2⟩
    have HB2:=hid2 (bstep HB1.out.1 hB2) (bstep HB1.out.2 hB2)
    clear hB2 cB b0 b1 HB1
    have xr:=XR.out.up HB2.out.2
    have BF:=below_cell HB2.out.1 (w.heap.size+1+1) (by omega) (.slice none 0 0) (.slice none 0 0)
    have cf:=xr.set (.slice none 0 0) (.slice none 0 0)
    obtain ⟨r0,r1,r2,r3⟩:=xr
    obtain ⟨y0,y1,_,_⟩:=cf
    go_wp2
    exact bodyPost_ret (v:=.tuple #[.agg #[.slice none 0 0,.slice none 0 0],.int .i64 1]) (by simp [results,Tryz.results98,go_sem,y0,y1]) rfl ⟨_,rfl,TRes.none _ _,BF⟩
   ·by_cases hs2:64 < st
    ·obtain ⟨e1,e2,e3⟩:=rw_arg (d:=d) (x:=x) (d':=d') (y:=y) (st:=st) (fun h=>by omega)
     rw [e1,e2,e3]
     have q109089:decide (st < 1)=false:=decide_eq_false (by omega)
     have q197911:decide (64 < st)=true:=decide_eq_true (by omega)
     clear e1 e2 e3 hd hx hd' hy h1 h2 h3 h4 HD HD' hp hq
     go_enter Tryz.func98,Tryz.ntmps98
     go_wp2_with fail
     generalize hW0:World.alloc _ _=W0
     have HB0:=hidB (w:=w) hW0 (by go_grown)
     have XA:Hid (Cel W0 w.heap.size (.slice p n c) (.slice p2 n2 c2)):=celW hW0 (by simp [go_sem])
     have XB:Hid (Cel W0 (w.heap.size+1) (.slice p3 n3 c3) (.slice p4 n4 c4)):=celW hW0 (by simp [go_sem])
     have XR:Hid (Cel W0 (w.heap.size+1+1) (.slice none 0 0) (.slice none 0 0)):=celW hW0 (by simp [go_sem])
     clear hW0
     refine (cA W0 HB0.out).mono ?_
     rintro e w1 ⟨rfl,hB1⟩
     have HB1:=hid2 (bstep HB0.out hB1) hB1
     clear hB1 cA
     obtain ⟨b0,b1,_,_⟩:=XB.out.up HB1.out.2
     go_wp2_with fail
     refine (cB w1 HB1.out.1).mono ?_
     rintro e w2 ⟨rfl,hB2⟩
     have HB2:=hid2 (bstep HB1.out.1 hB2) (bstep HB1.out.2 hB2)
     clear hB2 cB b0 b1 HB1
     have xr:=XR.out.up HB2.out.2
     have BF:=below_cell HB2.out.1 (w.heap.size+1+1) (by omega) (.slice none 0 0) (.slice none 0 0)
     have cf:=xr.set (.slice none 0 0) (.slice none 0 0)
     obtain ⟨r0,r1,r2,r3⟩:=xr
     obtain ⟨y0,y1,_,_⟩:=cf
     go_wp2
     exact bodyPost_ret (v:=.tuple #[.agg #[.slice none 0 0,.slice none 0 0],.int .i64 1]) (by simp [results,Tryz.results98,go_sem,y0,y1]) rfl ⟨_,rfl,TRes.none _ _,BF⟩
    ·have hs:1≤st∧st≤64:=by omega
     have q109089:decide (st < 1)=false:=decide_eq_false (by omega)
     have q197911:decide (64 < st)=false:=decide_eq_false (by omega)
     have hA:rwA d x d' y st:=⟨hp,hq,hs⟩
     obtain ⟨stN,rfl⟩:∃ q:Nat,st=q:=⟨st.toNat,by omega⟩
     have hn4:n≤4:=by have:=hp.1.1;rw [ntl_len,HD.out.1] at this;exact this
     have hn4':(n:Int)≤4:=by omega
     have hm4:n3≤4:=by have:=hq.1.1;rw [ntl_len,HD'.out.1] at this;exact this
     have hm4':(n3:Int)≤4:=by omega
     by_cases hn:n=2
     ·subst hn
      by_cases hn3:n3=3
      ·subst hn3
       obtain ⟨D0,D1,rfl,hx0,k0,k1,k2⟩:=two_sides hp HD.out.1
       obtain ⟨E0,E1,E2,rfl,hy0,l0,l1,l2,l3⟩:=three_sides hq HD'.out.1
       have HDc:Hid ((∃ q o,p=some ⟨q,o,none⟩∧w.cell? ⟨q,o,none⟩=some (.int .i64 (D0:Int))∧w.cell? ⟨q,o+1,none⟩=some (.int .i64 (D1:Int)))∧(∃ q o,p3=some ⟨q,o,none⟩∧w.cell? ⟨q,o,none⟩=some (.int .i64 (E0:Int))∧w.cell? ⟨q,o+1,none⟩=some (.int .i64 (E1:Int))∧w.cell? ⟨q,o+2,none⟩=some (.int .i64 (E2:Int)))):=by
        obtain ⟨q,o,rfl,hA0⟩:=HD.out.2 0 (by omega)
        obtain ⟨q',o',e',hA1⟩:=HD.out.2 1 (by omega)
        cases e'
        obtain ⟨r,s,rfl,hB0⟩:=HD'.out.2 0 (by omega)
        obtain ⟨r',s',e',hB1⟩:=HD'.out.2 1 (by omega)
        cases e'
        obtain ⟨r',s',e',hB2⟩:=HD'.out.2 2 (by omega)
        cases e'
        exact ⟨⟨_,_,rfl,hA0,hA1⟩,_,_,rfl,hB0,hB1,hB2⟩
       obtain ⟨⟨qa,oa,rfl,ca0,ca1⟩,qb,ob,rfl,cb0,cb1,cb2⟩:=HDc.out
       have zD:=le_side k2 k0 k1
       have zE2:E0*E1≤4096:=Nat.le_trans (Nat.le_mul_of_pos_right _ l2) l3
       have zE:=le_side zE2 l0 l1
       have zE3:E2≤4096:=by have:=Nat.mul_le_mul (Nat.mul_le_mul l0 l1) (Nat.le_refl E2);omega
       have zE':(E0:Int)≤4096∧(E1:Int)≤4096∧(E2:Int)≤4096:=by omega
       have zD':(D0:Int)≤4096∧(D1:Int)≤4096:=by omega
       by_cases hm:D0=E1
       ·subst hm
        have hne:((D0:Int) != (D0:Int))=false:=by simp
        by_cases hw:E2≤D1
        ·have hw':(E2:Int)≤(D1:Int):=by omega
         obtain ⟨S,hS⟩:∃ S,stopsN D1 E2 stN=S:=⟨_,rfl⟩
         obtain ⟨e1,e2,e3⟩:=rw_fine hA hw hS
         rw [e1,e2,e3]
         exact rrow_fine D0 D1 E0 E2 stN S hS l2 hw zD.2 (by omega) (by omega) k0 l0 l3 k2 zE.1 zD.1 qa oa qb ob p2 p4 c n2 c2 c3 n4 c4 x y hx hy hx0 hy0 w ca0 ca1 cb0 cb1 cb2 h2 h4 cA cB
        ·obtain ⟨e1,e2,e3⟩:=rw_shape hA (fun h=>hw (by have:=h.2.2.2;simp at this;omega))
         rw [e1,e2,e3]
         have hw':¬ ((E2:Int)≤(D1:Int)):=by omega
         have hw2:(D1:Int) < (E2:Int):=by omega
         have qn:decide (D1 < E2)=true:=decide_eq_true (by omega)
         clear e1 e2 e3 hA hp hq hd hx hd' hy h1 h2 h3 h4 HD HD' hw HDc
         go_enter Tryz.func98,Tryz.ntmps98
         go_wp2_with fail
         generalize hW0:World.alloc _ _=W0
         have HB0:=hidB (w:=w) hW0 (by go_grown)
         have XA:Hid (Cel W0 w.heap.size (.slice (some ⟨qa,oa,none⟩) 2 c) (.slice p2 n2 c2)):=celW hW0 (by simp [go_sem])
         have XB:Hid (Cel W0 (w.heap.size+1) (.slice (some ⟨qb,ob,none⟩) 3 c3) (.slice p4 n4 c4)):=celW hW0 (by simp [go_sem])
         have XR:Hid (Cel W0 (w.heap.size+1+1) (.slice none 0 0) (.slice none 0 0)):=celW hW0 (by simp [go_sem])
         clear hW0
         refine (cA W0 HB0.out).mono ?_
         rintro e w1 ⟨rfl,hB1⟩
         have HB1:=hid2 (bstep HB0.out hB1) hB1
         clear hB1 cA
         obtain ⟨b0,b1,_,_⟩:=XB.out.up HB1.out.2
         go_wp2_with fail
         refine (cB w1 HB1.out.1).mono ?_
         rintro e w2 ⟨rfl,hB2⟩
         have HB2:=hid2 (bstep HB1.out.1 hB2) (bstep HB1.out.2 hB2)
         clear hB2 cB b0 b1 HB1
         obtain ⟨a0,a1,_,_⟩:=XA.out.up HB2.out.2
         obtain ⟨b0,b1,_,_⟩:=XB.out.up HB2.out.2
         have a9:=cell_lt a0
         have b9:=cell_lt b0
         have ua0:=cell_low ca0 HB2.out.1
         have la0:=cell_lt ua0
         have ua1:=cell_low ca1 HB2.out.1
         have la1:=cell_lt ua1
         have ub0:=cell_low cb0 HB2.out.1
         have lb0:=cell_lt ub0
         have ub1:=cell_low cb1 HB2.out.1
         have lb1:=cell_lt ub1
         have ub2:=cell_low cb2 HB2.out.1
         have lb2:=cell_lt ub2
         go_wp2_with fail
         go_quiet (fail)
         generalize hw5:World.drewN w2 nq=w5
         have HB5:Hid (Below w.heap.size w w5∧Below W0.heap.size W0 w5):=by rw [← hw5];exact ⟨below_drew HB2.out.1 nq,below_drew HB2.out.2 nq⟩
         clear hw5
         clear a0 a1 b0 b1 a9 b9 ua0 la0 ua1 la1 ub0 lb0 ub1 lb1 ub2 lb2
         have xr:=XR.out.up HB5.out.2
         have BF:=below_cell HB5.out.1 (w.heap.size+1+1) (by omega) (.slice none 0 0) (.slice none 0 0)
         have cf:=xr.set (.slice none 0 0) (.slice none 0 0)
         obtain ⟨r0,r1,r2,r3⟩:=xr
         obtain ⟨y0,y1,_,_⟩:=cf
         go_wp2
         exact bodyPost_ret (v:=.tuple #[.agg #[.slice none 0 0,.slice none 0 0],.int .i64 4]) (by simp [results,Tryz.results98,go_sem,y0,y1]) rfl ⟨_,rfl,TRes.none _ _,BF⟩
       ·obtain ⟨e1,e2,e3⟩:=rw_shape hA (fun h=>hm (by have:=h.2.2.1;simp at this;omega))
        rw [e1,e2,e3]
        have hne:((D0:Int) != (E1:Int))=true:=by simp;omega
        have hne':¬ ((D0:Int)=(E1:Int)):=by omega
        clear e1 e2 e3 hA hp hq hd hx hd' hy h1 h2 h3 h4 HD HD' hm HDc
        go_enter Tryz.func98,Tryz.ntmps98
        go_wp2_with fail
        generalize hW0:World.alloc _ _=W0
        have HB0:=hidB (w:=w) hW0 (by go_grown)
        have XA:Hid (Cel W0 w.heap.size (.slice (some ⟨qa,oa,none⟩) 2 c) (.slice p2 n2 c2)):=celW hW0 (by simp [go_sem])
        have XB:Hid (Cel W0 (w.heap.size+1) (.slice (some ⟨qb,ob,none⟩) 3 c3) (.slice p4 n4 c4)):=celW hW0 (by simp [go_sem])
        have XR:Hid (Cel W0 (w.heap.size+1+1) (.slice none 0 0) (.slice none 0 0)):=celW hW0 (by simp [go_sem])
        clear hW0
        refine (cA W0 HB0.out).mono ?_
        rintro e w1 ⟨rfl,hB1⟩
        have HB1:=hid2 (bstep HB0.out hB1) hB1
        clear hB1 cA
        obtain ⟨b0,b1,_,_⟩:=XB.out.up HB1.out.2
        go_wp2_with fail
        refine (cB w1 HB1.out.1).mono ?_
        rintro e w2 ⟨rfl,hB2⟩
        have HB2:=hid2 (bstep HB1.out.1 hB2) (bstep HB1.out.2 hB2)
        clear hB2 cB b0 b1 HB1
        obtain ⟨a0,a1,_,_⟩:=XA.out.up HB2.out.2
        obtain ⟨b0,b1,_,_⟩:=XB.out.up HB2.out.2
        have a9:=cell_lt a0
        have b9:=cell_lt b0
        have ua0:=cell_low ca0 HB2.out.1
        have la0:=cell_lt ua0
        have ua1:=cell_low ca1 HB2.out.1
        have la1:=cell_lt ua1
        have ub0:=cell_low cb0 HB2.out.1
        have lb0:=cell_lt ub0
        have ub1:=cell_low cb1 HB2.out.1
        have lb1:=cell_lt ub1
        have ub2:=cell_low cb2 HB2.out.1
        have lb2:=cell_lt ub2
        go_wp2_with fail
        go_quiet (fail)
        generalize hw5:World.drewN w2 nq=w5
        have HB5:Hid (Below w.heap.size w w5∧Below W0.heap.size W0 w5):=by rw [← hw5];exact ⟨below_drew HB2.out.1 nq,below_drew HB2.out.2 nq⟩
        clear hw5
        clear a0 a1 b0 b1 a9 b9 ua0 la0 ua1 la1 ub0 lb0 ub1 lb1 ub2 lb2
        have xr:=XR.out.up HB5.out.2
        have BF:=below_cell HB5.out.1 (w.heap.size+1+1) (by omega) (.slice none 0 0) (.slice none 0 0)
        have cf:=xr.set (.slice none 0 0) (.slice none 0 0)
        obtain ⟨r0,r1,r2,r3⟩:=xr
        obtain ⟨y0,y1,_,_⟩:=cf
        go_wp2
        exact bodyPost_ret (v:=.tuple #[.agg #[.slice none 0 0,.slice none 0 0],.int .i64 4]) (by simp [results,Tryz.results98,go_sem,y0,y1]) rfl ⟨_,rfl,TRes.none _ _,BF⟩
      ·obtain ⟨e1,e2,e3⟩:=rw_shape hA (fun h=>hn3 (by rw [← HD'.out.1];exact h.2.1))
       rw [e1,e2,e3]
       have hne:((n3:Int) != 3)=true:=by simp;omega
       have hne':¬ ((n3:Int)=3):=by omega
       clear e1 e2 e3 hA hp hq hd hx hd' hy h1 h2 h3 h4 HD HD' hn3
       go_enter Tryz.func98,Tryz.ntmps98
       go_wp2_with fail
       generalize hW0:World.alloc _ _=W0
       have HB0:=hidB (w:=w) hW0 (by go_grown)
       have XA:Hid (Cel W0 w.heap.size (.slice p 2 c) (.slice p2 n2 c2)):=celW hW0 (by simp [go_sem])
       have XB:Hid (Cel W0 (w.heap.size+1) (.slice p3 n3 c3) (.slice p4 n4 c4)):=celW hW0 (by simp [go_sem])
       have XR:Hid (Cel W0 (w.heap.size+1+1) (.slice none 0 0) (.slice none 0 0)):=celW hW0 (by simp [go_sem])
       clear hW0
       refine (cA W0 HB0.out).mono ?_
       rintro e w1 ⟨rfl,hB1⟩
       have HB1:=hid2 (bstep HB0.out hB1) hB1
       clear hB1 cA
       obtain ⟨b0,b1,_,_⟩:=XB.out.up HB1.out.2
       go_wp2_with fail
       refine (cB w1 HB1.out.1).mono ?_
       rintro e w2 ⟨rfl,hB2⟩
       have HB2:=hid2 (bstep HB1.out.1 hB2) (bstep HB1.out.2 hB2)
       clear hB2 cB b0 b1 HB1
       obtain ⟨a0,a1,_,_⟩:=XA.out.up HB2.out.2
       obtain ⟨b0,b1,_,_⟩:=XB.out.up HB2.out.2
       have a9:=cell_lt a0
       have b9:=cell_lt b0
       go_wp2_with fail
       go_quiet (fail)
       generalize hw5:World.drewN w2 nq=w5
       have HB5:Hid (Below w.heap.size w w5∧Below W0.heap.size W0 w5):=by rw [← hw5];exact ⟨below_drew HB2.out.1 nq,below_drew HB2.out.2 nq⟩
       clear hw5
       clear a0 a1 b0 b1 a9 b9
       have xr:=XR.out.up HB5.out.2
       have BF:=below_cell HB5.out.1 (w.heap.size+1+1) (by omega) (.slice none 0 0) (.slice none 0 0)
       have cf:=xr.set (.slice none 0 0) (.slice none 0 0)
       obtain ⟨r0,r1,r2,r3⟩:=xr
       obtain ⟨y0,y1,_,_⟩:=cf
       go_wp2
       exact bodyPost_ret (v:=.tuple #[.agg #[.slice none 0 0,.slice none 0 0],.int .i64 4]) (by simp [results,Tryz.results98,go_sem,y0,y1]) rfl ⟨_,rfl,TRes.none _ _,BF⟩
     ·obtain ⟨e1,e2,e3⟩:=rw_shape hA (fun h=>hn (by rw [← HD.out.1];exact h.1))
      rw [e1,e2,e3]
      have hne:((n:Int) != 2)=true:=by simp;omega
      have hne':¬ ((n:Int)=2):=by omega
      clear e1 e2 e3 hA hp hq hd hx hd' hy h1 h2 h3 h4 HD HD' hn
      go_enter Tryz.func98,Tryz.ntmps98
      go_wp2_with fail
      generalize hW0:World.alloc _ _=W0
      have HB0:=hidB (w:=w) hW0 (by go_grown)
      have XA:Hid (Cel W0 w.heap.size (.slice p n c) (.slice p2 n2 c2)):=celW hW0 (by simp [go_sem])
      have XB:Hid (Cel W0 (w.heap.size+1) (.slice p3 n3 c3) (.slice p4 n4 c4)):=celW hW0 (by simp [go_sem])
      have XR:Hid (Cel W0 (w.heap.size+1+1) (.slice none 0 0) (.slice none 0 0)):=celW hW0 (by simp [go_sem])
      clear hW0
      refine (cA W0 HB0.out).mono ?_
      rintro e w1 ⟨rfl,hB1⟩
      have HB1:=hid2 (bstep HB0.out hB1) hB1
      clear hB1 cA
      obtain ⟨b0,b1,_,_⟩:=XB.out.up HB1.out.2
      go_wp2_with fail
      refine (cB w1 HB1.out.1).mono ?_
      rintro e w2 ⟨rfl,hB2⟩
      have HB2:=hid2 (bstep HB1.out.1 hB2) (bstep HB1.out.2 hB2)
      clear hB2 cB b0 b1 HB1
      obtain ⟨a0,a1,_,_⟩:=XA.out.up HB2.out.2
      obtain ⟨b0,b1,_,_⟩:=XB.out.up HB2.out.2
      have a9:=cell_lt a0
      have b9:=cell_lt b0
      go_wp2_with fail
      go_quiet (fail)
      generalize hw5:World.drewN w2 nq=w5
      have HB5:Hid (Below w.heap.size w w5∧Below W0.heap.size W0 w5):=by rw [← hw5];exact ⟨below_drew HB2.out.1 nq,below_drew HB2.out.2 nq⟩
      clear hw5
      clear a0 a1 b0 b1 a9 b9
      have xr:=XR.out.up HB5.out.2
      have BF:=below_cell HB5.out.1 (w.heap.size+1+1) (by omega) (.slice none 0 0) (.slice none 0 0)
      have cf:=xr.set (.slice none 0 0) (.slice none 0 0)
      obtain ⟨r0,r1,r2,r3⟩:=xr
      obtain ⟨y0,y1,_,_⟩:=cf
      go_wp2
      exact bodyPost_ret (v:=.tuple #[.agg #[.slice none 0 0,.slice none 0 0],.int .i64 4]) (by simp [results,Tryz.results98,go_sem,y0,y1]) rfl ⟨_,rfl,TRes.none _ _,BF⟩
  ·rw [decide_eq_false hq] at cB
   obtain ⟨e1,e2,e3⟩:=rw_arg (d:=d) (x:=x) (d':=d') (y:=y) (st:=st) (fun h=>hq h.2.1)
   rw [e1,e2,e3]
   clear e1 e2 e3 hd hx hd' hy h1 h2 h3 h4 HD HD' 
   go_enter Tryz.func98,Tryz.ntmps98
   go_wp2_with fail
   generalize hW0:World.alloc _ _=W0
   have HB0:=hidB (w:=w) hW0 (by go_grown)
   have XA:Hid (Cel W0 w.heap.size (.slice p n c) (.slice p2 n2 c2)):=celW hW0 (by simp [go_sem])
   have XB:Hid (Cel W0 (w.heap.size+1) (.slice p3 n3 c3) (.slice p4 n4 c4)):=celW hW0 (by simp [go_sem])
   have XR:Hid (Cel W0 (w.heap.size+1+1) (.slice none 0 0) (.slice none 0 0)):=celW hW0 (by simp [go_sem])
   clear hW0
   refine (cA W0 HB0.out).mono ?_
   rintro e w1 ⟨rfl,hB1⟩
   have HB1:=hid2 (bstep HB0.out hB1) hB1
   clear hB1 cA
   obtain ⟨b0,b1,_,_⟩:=XB.out.up HB1.out.2
   go_wp2_with fail
   refine (cB w1 HB1.out.1).mono ?_
   rintro e w2 ⟨rfl,hB2⟩
   have HB2:=hid2 (bstep HB1.out.1 hB2) (bstep HB1.out.2 hB2)
   clear hB2 cB b0 b1 HB1
   have xr:=XR.out.up HB2.out.2
   have BF:=below_cell HB2.out.1 (w.heap.size+1+1) (by omega) (.slice none 0 0) (.slice none 0 0)
   have cf:=xr.set (.slice none 0 0) (.slice none 0 0)
   obtain ⟨r0,r1,r2,r3⟩:=xr
   obtain ⟨y0,y1,_,_⟩:=cf
   go_wp2
   exact bodyPost_ret (v:=.tuple #[.agg #[.slice none 0 0,.slice none 0 0],.int .i64 1]) (by simp [results,Tryz.results98,go_sem,y0,y1]) rfl ⟨_,rfl,TRes.none _ _,BF⟩
 ·rw [decide_eq_false hp] at cA
  obtain ⟨e1,e2,e3⟩:=rw_arg (d:=d) (x:=x) (d':=d') (y:=y) (st:=st) (fun h=>hp h.1)
  rw [e1,e2,e3]
  clear e1 e2 e3 hd hx hd' hy h1 h2 h3 h4 HD HD' cB
  go_enter Tryz.func98,Tryz.ntmps98
  go_wp2_with fail
  generalize hW0:World.alloc _ _=W0
  have HB0:=hidB (w:=w) hW0 (by go_grown)
  have XA:Hid (Cel W0 w.heap.size (.slice p n c) (.slice p2 n2 c2)):=celW hW0 (by simp [go_sem])
  have XB:Hid (Cel W0 (w.heap.size+1) (.slice p3 n3 c3) (.slice p4 n4 c4)):=celW hW0 (by simp [go_sem])
  have XR:Hid (Cel W0 (w.heap.size+1+1) (.slice none 0 0) (.slice none 0 0)):=celW hW0 (by simp [go_sem])
  clear hW0
  refine (cA W0 HB0.out).mono ?_
  rintro e w1 ⟨rfl,hB1⟩
  have HB1:=hid2 (bstep HB0.out hB1) hB1
  clear hB1 cA
  have xr:=XR.out.up HB1.out.2
  have BF:=below_cell HB1.out.1 (w.heap.size+1+1) (by omega) (.slice none 0 0) (.slice none 0 0)
  have cf:=xr.set (.slice none 0 0) (.slice none 0 0)
  obtain ⟨r0,r1,r2,r3⟩:=xr
  obtain ⟨y0,y1,_,_⟩:=cf
  go_wp2
  exact bodyPost_ret (v:=.tuple #[.agg #[.slice none 0 0,.slice none 0 0],.int .i64 1]) (by simp [results,Tryz.results98,go_sem,y0,y1]) rfl ⟨_,rfl,TRes.none _ _,BF⟩
end Go.Proofs.YtlhpmjcdkpfjdaaGreatDoor.Wd
