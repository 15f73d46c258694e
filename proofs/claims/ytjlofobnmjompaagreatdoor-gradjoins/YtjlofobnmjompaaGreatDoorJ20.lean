/- act.Back: what it hands back. · What a gradient of a node gives for the two that it is of, as the document's table has it; nodes that were reckoned of those ahead of them: what is given has their shapes. · A sweep back over a tape, as the document has it: each node's gradient has its shape. -/
import Derived.Test.YtjlofobnmjompaaGreatDoorJ17
import Derived.Test.YtjlofobnmjompaaGreatDoorJ12
import Derived.Test.YtjlofobnmjompaaGreatDoorJ01
import Derived.Test.YtjlofobnmjompaaGreatDoorJ18
import Derived.Test.YtjlofobnmjompaaGreatDoorJ19
set_option linter.unusedVariables false
set_option linter.unusedSimpArgs false
set_option maxHeartbeats 16000000
set_option maxRecDepth 16000
namespace Go.Proofs.YtjlofobnmjompaaGreatDoor.Wd
open Go.RowKit Fx
def unbE (k:Int) (d x d' y:List Int):Int:=if (1≤k∧k≤5)∧isP d x∧isP d' y then if d=d' then 0 else 4 else 1
def unbD (k:Int) (d x d' y:List Int):List Int:=if ((1≤k∧k≤5)∧isP d x∧isP d' y)∧d=d' then d' else []
def unbV (k:Int) (d x d' y:List Int):List Int:=if ((1≤k∧k≤5)∧isP d x∧isP d' y)∧d=d' then (List.range x.length).map fun i=>Fx.mulI (y.getD i 0) (Fx.slopeI k (x.getD i 0)) else []
theorem unb_no {k:Int} {d x d' y:List Int} (h:¬ ((1≤k∧k≤5)∧isP d x∧isP d' y)):unbE k d x d' y=1∧unbD k d x d' y = []∧unbV k d x d' y = []:=⟨if_neg h,if_neg fun h'=>h h'.1,if_neg fun h'=>h h'.1⟩
theorem unb_off {k:Int} {d x d' y:List Int} (h:(1≤k∧k≤5)∧isP d x∧isP d' y) (hd:¬ d=d'):unbE k d x d' y=4∧unbD k d x d' y = []∧unbV k d x d' y = []:=⟨(if_pos h).trans (if_neg hd),if_neg fun h'=>hd h'.2,if_neg fun h'=>hd h'.2⟩
theorem unb_yes {k:Int} {d x d' y:List Int} (h:(1≤k∧k≤5)∧isP d x∧isP d' y) (hd:d=d'):unbE k d x d' y=0∧unbD k d x d' y=d'∧unbV k d x d' y=(List.range x.length).map fun i=>Fx.mulI (y.getD i 0) (Fx.slopeI k (x.getD i 0)):=⟨(if_pos h).trans (if_pos hd),if_pos ⟨h,hd⟩,if_pos ⟨h,hd⟩⟩
theorem aback_no (k:Int) (p p2 p3 p4:Option Addr) (n c n2 c2 n3 c3 n4 c4:Nat) (d x d' y:List Int) (hd:RI d) (hx:RI x) (hd':RI d') (hy:RI y) (w:World) (h1:Nums .i64 w (.slice p n c) d) (h2:Nums .i64 w (.slice p2 n2 c2) x) (h3:Nums .i64 w (.slice p3 n3 c3) d') (h4:Nums .i64 w (.slice p4 n4 c4) y) (hno:¬ (((1≤k∧k≤5)∧isP d x∧isP d' y)∧d=d')):
  Calls Tryz.prog 110 #[.int .i64 k,.agg #[.slice p n c,.slice p2 n2 c2],.agg #[.slice p3 n3 c3,.slice p4 n4 c4]] w fun e w'=>∃ v',e = .returned (.tuple #[v',.int .i64 (unbE k d x d' y)])∧TRes w' w.heap.size v' (unbD k d x d' y) (unbV k d x d' y)∧Below w.heap.size w w':=by
 have cA:=fun W (hW:Below w.heap.size w W)=>tgood_any _ _ d x hd W (h1.up hW) (h2.up hW)
 have cB:=fun W (hW:Below w.heap.size w W)=>tgood_any _ _ d' y hd' W (h3.up hW) (h4.up hW)
 by_cases hk:1≤k∧k≤5
 ·obtain ⟨K1,K2,e1,e2,f1,f2,cl⟩:=line_yes k hk
  by_cases hp:isP d x
  ·rw [decide_eq_true hp] at cA
   by_cases hp':isP d' y
   ·rw [decide_eq_true hp'] at cB
    have hP:isP d x∧isP d' y:=⟨hp,hp'⟩
    have hne:¬ d=d':=fun h=>hno ⟨⟨hk,hp,hp'⟩,h⟩
    have cQ:=fun W (hW:Below w.heap.size w W)=>equal_any _ _ d d' (by have:=hP.1.1.1;rw [ntl_len] at this;omega) W (h1.up hW) (h3.up hW)
    rw [decide_eq_false hne] at cQ
    obtain ⟨q1,q2,q3⟩:=unb_off (k:=k) ⟨hk,hp,hp'⟩ hne
    rw [q1,q2,q3]
    clear q1 q2 q3 hP hne hno hp hp' hk f1 f2 e1 e2 h1 h2 h3 h4 hd hx hd' hy
    go_enter Tryz.func110,Tryz.ntmps110
    go_wp2_with fail
    generalize hW0:World.alloc _ _=W0
    have HB0:=hidB (w:=w) hW0 (by go_grown)
    have XA:Hid (Cel W0 w.heap.size (.slice p n c) (.slice p2 n2 c2)):=celW hW0 (by simp [go_sem])
    have XB:Hid (Cel W0 (w.heap.size+1) (.slice p3 n3 c3) (.slice p4 n4 c4)):=celW hW0 (by simp [go_sem])
    have XR:Hid (Cel W0 (w.heap.size+2) (.slice none 0 0) (.slice none 0 0)):=celW hW0 (by simp [go_sem])
    clear hW0
    refine (cl W0).mono ?_
    rintro e w1 ⟨rfl,hB1⟩
    have HB1:=hid2 (bstep HB0.out hB1) hB1
    clear hB1 cl
    obtain ⟨a0,a1,_,_⟩:=XA.out.up (HB1.out.2)
    have z0:=cell_lt a0
    obtain ⟨b0,b1,_,_⟩:=XB.out.up (HB1.out.2)
    have z1:=cell_lt b0
    go_wp2_with fail
    generalize hW2:World.alloc _ _=W2
    have B2:Below w1.heap.size w1 W2:=by rw [← hW2];exact up_alloc w1 _
    have XL:Hid (Cel W2 w1.heap.size (.func (.func K1) #[] #[]) (.func (.func K2) #[] #[])):=by show Cel _ _ _ _;unfold Cel;rw [← hW2];simp [go_sem]
    have HB2:=hid2 (bstep HB1.out.1 B2) (bstep HB1.out.2 B2)
    have HL:Hid (W0.heap.size≤w1.heap.size):=HB1.out.2.size
    obtain ⟨bl,hbl⟩:∃ bl,w1.heap.size=bl:=⟨_,rfl⟩
    rw [hbl] at XL HL ⊢
    clear hW2 B2
    refine (cA W2 HB2.out.1).mono ?_
    rintro e w3 ⟨rfl,hB3⟩
    have HB3:Hid (Below w.heap.size w w3∧Below W0.heap.size W0 w3∧Below W2.heap.size W2 w3):=⟨bstep HB2.out.1 hB3,bstep HB2.out.2 hB3,hB3⟩
    clear hB3 cA a0 a1 z0 b0 b1 z1
    obtain ⟨b0,b1,_,_⟩:=XB.out.up (HB3.out.2.1)
    have z1:=cell_lt b0
    go_wp2_with fail
    refine (cB w3 HB3.out.1).mono ?_
    rintro e w4 ⟨rfl,hB4⟩
    have HB4:Hid (Below w.heap.size w w4∧Below W0.heap.size W0 w4∧Below W2.heap.size W2 w4):=⟨bstep HB3.out.1 hB4,bstep HB3.out.2.1 hB4,bstep HB3.out.2.2 hB4⟩
    clear hB4 cB b0 b1 z1
    obtain ⟨a0,a1,_,_⟩:=XA.out.up (HB4.out.2.1)
    have z0:=cell_lt a0
    obtain ⟨b0,b1,_,_⟩:=XB.out.up (HB4.out.2.1)
    have z1:=cell_lt b0
    go_wp2_with fail
    refine (cQ w4 HB4.out.1).mono ?_
    rintro e w5 ⟨rfl,mq,rfl⟩
    have HB5:Hid (Below w.heap.size w (w4.drewN mq)∧Below W0.heap.size W0 (w4.drewN mq)∧Below W2.heap.size W2 (w4.drewN mq)):=⟨bstep HB4.out.1 (bdrew _ _),bstep HB4.out.2.1 (bdrew _ _),bstep HB4.out.2.2 (bdrew _ _)⟩
    obtain ⟨w5,hw5⟩:∃ w5:World,w4.drewN mq=w5:=⟨_,rfl⟩
    rw [hw5] at HB5 ⊢
    clear cQ a0 a1 z0 b0 b1 z1 hw5
    have xr:=(XR.out.up (And.intro (HB5.out).1 (HB5.out).2.1).2)
    have BF:=below_cell ((And.intro (HB5.out).1 (HB5.out).2.1).1) (w.heap.size+2) (by omega) (.slice none 0 0) (.slice none 0 0)
    have cf:=xr.set (.slice none 0 0) (.slice none 0 0)
    obtain ⟨r0,r1,r2,r3⟩:=xr
    obtain ⟨y0,y1,_,_⟩:=cf
    go_wp2
    exact bodyPost_ret (v:=.tuple #[.agg #[.slice none 0 0,.slice none 0 0],.int .i64 4]) (by simp [results,Tryz.results110,go_sem,y0,y1]) rfl ⟨_,rfl,TRes.none _ _,BF⟩
   ·rw [decide_eq_false hp'] at cB
    obtain ⟨q1,q2,q3⟩:=unb_no (k:=k) (d:=d) (x:=x) (d':=d') (y:=y) fun h=>hp' h.2.2
    rw [q1,q2,q3]
    clear q1 q2 q3 hno hp hp' hk f1 f2 e1 e2 h1 h2 h3 h4 hd hx hd' hy
    go_enter Tryz.func110,Tryz.ntmps110
    go_wp2_with fail
    generalize hW0:World.alloc _ _=W0
    have HB0:=hidB (w:=w) hW0 (by go_grown)
    have XA:Hid (Cel W0 w.heap.size (.slice p n c) (.slice p2 n2 c2)):=celW hW0 (by simp [go_sem])
    have XB:Hid (Cel W0 (w.heap.size+1) (.slice p3 n3 c3) (.slice p4 n4 c4)):=celW hW0 (by simp [go_sem])
    have XR:Hid (Cel W0 (w.heap.size+2) (.slice none 0 0) (.slice none 0 0)):=celW hW0 (by simp [go_sem])
    clear hW0
    refine (cl W0).mono ?_
    rintro e w1 ⟨rfl,hB1⟩
    have HB1:=hid2 (bstep HB0.out hB1) hB1
    clear hB1 cl
    obtain ⟨a0,a1,_,_⟩:=XA.out.up (HB1.out.2)
    have z0:=cell_lt a0
    obtain ⟨b0,b1,_,_⟩:=XB.out.up (HB1.out.2)
    have z1:=cell_lt b0
    go_wp2_with fail
    generalize hW2:World.alloc _ _=W2
    have B2:Below w1.heap.size w1 W2:=by rw [← hW2];exact up_alloc w1 _
    have XL:Hid (Cel W2 w1.heap.size (.func (.func K1) #[] #[]) (.func (.func K2) #[] #[])):=by show Cel _ _ _ _;unfold Cel;rw [← hW2];simp [go_sem]
    have HB2:=hid2 (bstep HB1.out.1 B2) (bstep HB1.out.2 B2)
    have HL:Hid (W0.heap.size≤w1.heap.size):=HB1.out.2.size
    obtain ⟨bl,hbl⟩:∃ bl,w1.heap.size=bl:=⟨_,rfl⟩
    rw [hbl] at XL HL ⊢
    clear hW2 B2
    refine (cA W2 HB2.out.1).mono ?_
    rintro e w3 ⟨rfl,hB3⟩
    have HB3:Hid (Below w.heap.size w w3∧Below W0.heap.size W0 w3∧Below W2.heap.size W2 w3):=⟨bstep HB2.out.1 hB3,bstep HB2.out.2 hB3,hB3⟩
    clear hB3 cA a0 a1 z0 b0 b1 z1
    obtain ⟨b0,b1,_,_⟩:=XB.out.up (HB3.out.2.1)
    have z1:=cell_lt b0
    go_wp2_with fail
    refine (cB w3 HB3.out.1).mono ?_
    rintro e w4 ⟨rfl,hB4⟩
    have HB4:Hid (Below w.heap.size w w4∧Below W0.heap.size W0 w4∧Below W2.heap.size W2 w4):=⟨bstep HB3.out.1 hB4,bstep HB3.out.2.1 hB4,bstep HB3.out.2.2 hB4⟩
    clear hB4 cB b0 b1 z1
    have xr:=(XR.out.up (And.intro (HB4.out).1 (HB4.out).2.1).2)
    have BF:=below_cell ((And.intro (HB4.out).1 (HB4.out).2.1).1) (w.heap.size+2) (by omega) (.slice none 0 0) (.slice none 0 0)
    have cf:=xr.set (.slice none 0 0) (.slice none 0 0)
    obtain ⟨r0,r1,r2,r3⟩:=xr
    obtain ⟨y0,y1,_,_⟩:=cf
    go_wp2
    exact bodyPost_ret (v:=.tuple #[.agg #[.slice none 0 0,.slice none 0 0],.int .i64 1]) (by simp [results,Tryz.results110,go_sem,y0,y1]) rfl ⟨_,rfl,TRes.none _ _,BF⟩
  ·rw [decide_eq_false hp] at cA
   obtain ⟨q1,q2,q3⟩:=unb_no (k:=k) (d:=d) (x:=x) (d':=d') (y:=y) fun h=>hp h.2.1
   rw [q1,q2,q3]
   clear q1 q2 q3 hno hp hk f1 f2 e1 e2 h1 h2 h3 h4 hd hx hd' hy cB
   go_enter Tryz.func110,Tryz.ntmps110
   go_wp2_with fail
   generalize hW0:World.alloc _ _=W0
   have HB0:=hidB (w:=w) hW0 (by go_grown)
   have XA:Hid (Cel W0 w.heap.size (.slice p n c) (.slice p2 n2 c2)):=celW hW0 (by simp [go_sem])
   have XB:Hid (Cel W0 (w.heap.size+1) (.slice p3 n3 c3) (.slice p4 n4 c4)):=celW hW0 (by simp [go_sem])
   have XR:Hid (Cel W0 (w.heap.size+2) (.slice none 0 0) (.slice none 0 0)):=celW hW0 (by simp [go_sem])
   clear hW0
   refine (cl W0).mono ?_
   rintro e w1 ⟨rfl,hB1⟩
   have HB1:=hid2 (bstep HB0.out hB1) hB1
   clear hB1 cl
   obtain ⟨a0,a1,_,_⟩:=XA.out.up (HB1.out.2)
   have z0:=cell_lt a0
   obtain ⟨b0,b1,_,_⟩:=XB.out.up (HB1.out.2)
   have z1:=cell_lt b0
   go_wp2_with fail
   generalize hW2:World.alloc _ _=W2
   have B2:Below w1.heap.size w1 W2:=by rw [← hW2];exact up_alloc w1 _
   have XL:Hid (Cel W2 w1.heap.size (.func (.func K1) #[] #[]) (.func (.func K2) #[] #[])):=by show Cel _ _ _ _;unfold Cel;rw [← hW2];simp [go_sem]
   have HB2:=hid2 (bstep HB1.out.1 B2) (bstep HB1.out.2 B2)
   have HL:Hid (W0.heap.size≤w1.heap.size):=HB1.out.2.size
   obtain ⟨bl,hbl⟩:∃ bl,w1.heap.size=bl:=⟨_,rfl⟩
   rw [hbl] at XL HL ⊢
   clear hW2 B2
   refine (cA W2 HB2.out.1).mono ?_
   rintro e w3 ⟨rfl,hB3⟩
   have HB3:Hid (Below w.heap.size w w3∧Below W0.heap.size W0 w3∧Below W2.heap.size W2 w3):=⟨bstep HB2.out.1 hB3,bstep HB2.out.2 hB3,hB3⟩
   clear hB3 cA a0 a1 z0 b0 b1 z1
   have xr:=(XR.out.up (And.intro (HB3.out).1 (HB3.out).2.1).2)
   have BF:=below_cell ((And.intro (HB3.out).1 (HB3.out).2.1).1) (w.heap.size+2) (by omega) (.slice none 0 0) (.slice none 0 0)
   have cf:=xr.set (.slice none 0 0) (.slice none 0 0)
   obtain ⟨r0,r1,r2,r3⟩:=xr
   obtain ⟨y0,y1,_,_⟩:=cf
   go_wp2
   exact bodyPost_ret (v:=.tuple #[.agg #[.slice none 0 0,.slice none 0 0],.int .i64 1]) (by simp [results,Tryz.results110,go_sem,y0,y1]) rfl ⟨_,rfl,TRes.none _ _,BF⟩
 ·have cl:=line_no k (by omega)
  obtain ⟨q1,q2,q3⟩:=unb_no (k:=k) (d:=d) (x:=x) (d':=d') (y:=y) fun h=>hk h.1
  rw [q1,q2,q3]
  clear q1 q2 q3 hno h1 h2 h3 h4 hd hx hd' hy hk cA cB
  go_enter Tryz.func110,Tryz.ntmps110
  go_wp2_with fail
  generalize hW0:World.alloc _ _=W0
  have HB0:=hidB (w:=w) hW0 (by go_grown)
  have XA:Hid (Cel W0 w.heap.size (.slice p n c) (.slice p2 n2 c2)):=celW hW0 (by simp [go_sem])
  have XB:Hid (Cel W0 (w.heap.size+1) (.slice p3 n3 c3) (.slice p4 n4 c4)):=celW hW0 (by simp [go_sem])
  have XR:Hid (Cel W0 (w.heap.size+2) (.slice none 0 0) (.slice none 0 0)):=celW hW0 (by simp [go_sem])
  clear hW0
  refine (cl W0).mono ?_
  rintro e w1 ⟨rfl,hB1⟩
  have HB1:=hid2 (bstep HB0.out hB1) hB1
  clear hB1 cl
  have xr:=(XR.out.up HB1.out.2)
  have hzr:=cell_lt xr.1
  have BF:=bstep (below_cell HB1.out.1 (w.heap.size+2) (by omega) (.slice none 0 0) (.slice none 0 0)) (up_alloc _ (.cells #[.nilFunc,.nilFunc] 200))
  have cf:=(xr.set (.slice none 0 0) (.slice none 0 0)).up (up_alloc _ (.cells #[.nilFunc,.nilFunc] 200))
  obtain ⟨r0,r1,r2,r3⟩:=xr
  obtain ⟨y0,y1,_,_⟩:=cf
  go_wp2
  exact bodyPost_ret (v:=.tuple #[.agg #[.slice none 0 0,.slice none 0 0],.int .i64 1]) (by simp [results,Tryz.results110,go_sem,y0,y1]) rfl ⟨_,rfl,TRes.none _ _,BF⟩
theorem aback_yes (k:Int) (p p2 p3 p4:Option Addr) (n c n2 c2 n3 c3 n4 c4:Nat) (d x d' y:List Int) (hd:RI d) (hx:RI x) (hd':RI d') (hy:RI y) (w:World) (h1:Nums .i64 w (.slice p n c) d) (h2:Nums .i64 w (.slice p2 n2 c2) x) (h3:Nums .i64 w (.slice p3 n3 c3) d') (h4:Nums .i64 w (.slice p4 n4 c4) y) (hall:((1≤k∧k≤5)∧isP d x∧isP d' y)∧d=d'):
  Calls Tryz.prog 110 #[.int .i64 k,.agg #[.slice p n c,.slice p2 n2 c2],.agg #[.slice p3 n3 c3,.slice p4 n4 c4]] w fun e w'=>∃ v',e = .returned (.tuple #[v',.int .i64 (unbE k d x d' y)])∧TRes w' w.heap.size v' (unbD k d x d' y) (unbV k d x d' y)∧Below w.heap.size w w':=by
 have cA:=fun W (hW:Below w.heap.size w W)=>tgood_any _ _ d x hd W (h1.up hW) (h2.up hW)
 have cB:=fun W (hW:Below w.heap.size w W)=>tgood_any _ _ d' y hd' W (h3.up hW) (h4.up hW)
 have hk:=hall.1.1
 obtain ⟨K1,K2,e1,e2,f1,f2,cl⟩:=line_yes k hk
 rw [decide_eq_true hall.1.2.1] at cA
 rw [decide_eq_true hall.1.2.2] at cB
 have hP:isP d x∧isP d' y:=hall.1.2
 have cQ:=fun W (hW:Below w.heap.size w W)=>equal_any _ _ d d' (by have:=hP.1.1.1;rw [ntl_len] at this;omega) W (h1.up hW) (h3.up hW)
 rw [decide_eq_true hall.2] at cQ
 obtain ⟨q1,q2,q3⟩:=unb_yes hall.1 hall.2
 rw [q1,q2,q3]
 obtain ⟨V,eV⟩:∃ V,((List.range x.length).map fun i=>Fx.mulI (y.getD i 0) (Fx.slopeI k (x.getD i 0)))=V:=⟨_,rfl⟩
 rw [eV]
 have HN:Hid (Nums .i64 w (.slice p3 n3 c3) d'):=h3
 obtain ⟨_,_,_,e4,HX⟩:=h2.lst
 cases e4
 obtain ⟨_,_,_,e4,HY⟩:=h4.lst
 cases e4
 have hxy:x.length=y.length:=by rw [hall.1.2.1.2,hall.1.2.2.2,hall.2]
 have hlen:x.length≤4096:=by rw [hall.1.2.1.2];exact hall.1.2.1.1.2.2
 have hd4:d'.length≤1073741824:=by have:=hall.1.2.2.1.1;rw [ntl_len] at this;omega
 rw [hxy,HY.out.1] at hlen
 obtain rfl:n4=n2:=by rw [← HX.out.1,← HY.out.1,hxy]
 have hlen':(n4:Int)≤4096:=by omega
 have HV:Hid (((List.range x.length).map fun i=>Fx.mulI (y.getD i 0) (Fx.slopeI k (x.getD i 0)))=V∧V.length=n4∧RI x∧RI y∧x.length=n4∧y.length=n4∧d'.length≤1073741824):=⟨eV,by rw [← eV,List.length_map,List.length_range];exact HX.out.1,hx,hy,HX.out.1,HY.out.1,hd4⟩
 have HC2:Hid (∀ x W,Calls Tryz.prog K2 #[.int .i64 x] W fun e w'=>e = .returned (.int .i64 (slopeI k x))∧w'=W):=f2
 have HEnt:Hid (∀ args W,(callFunc K2 args).run Tryz.prog W = .ok (.enter K2 args) W):=e2
 haveI:Nonempty World:=⟨w⟩
 clear q1 q2 q3 eV h1 h2 h3 h4 hd hx hd' hy hk hall hP f1 f2 e1 e2 hxy hd4
 go_enter Tryz.func110,Tryz.ntmps110
 go_wp2_with fail
 generalize hW0:World.alloc _ _=W0
 have HB0:=hidB (w:=w) hW0 (by go_grown)
 have XA:Hid (Cel W0 w.heap.size (.slice p n c) (.slice p2 n4 c2)):=celW hW0 (by simp [go_sem])
 have XB:Hid (Cel W0 (w.heap.size+1) (.slice p3 n3 c3) (.slice p4 n4 c4)):=celW hW0 (by simp [go_sem])
 have XR:Hid (Cel W0 (w.heap.size+2) (.slice none 0 0) (.slice none 0 0)):=celW hW0 (by simp [go_sem])
 clear hW0
 refine (cl W0).mono ?_
 rintro e w1 ⟨rfl,hB1⟩
 have HB1:=hid2 (bstep HB0.out hB1) hB1
 clear hB1 cl
 obtain ⟨a0,a1,_,_⟩:=XA.out.up (HB1.out.2)
 have z0:=cell_lt a0
 obtain ⟨b0,b1,_,_⟩:=XB.out.up (HB1.out.2)
 have z1:=cell_lt b0
 go_wp2_with fail
 generalize hW2:World.alloc _ _=W2
 have B2:Below w1.heap.size w1 W2:=by rw [← hW2];exact up_alloc w1 _
 have XL:Hid (Cel W2 w1.heap.size (.func (.func K1) #[] #[]) (.func (.func K2) #[] #[])):=by show Cel _ _ _ _;unfold Cel;rw [← hW2];simp [go_sem]
 have HB2:=hid2 (bstep HB1.out.1 B2) (bstep HB1.out.2 B2)
 have HL:Hid (W0.heap.size≤w1.heap.size):=HB1.out.2.size
 obtain ⟨bl,hbl⟩:∃ bl,w1.heap.size=bl:=⟨_,rfl⟩
 rw [hbl] at XL HL ⊢
 clear hW2 B2
 refine (cA W2 HB2.out.1).mono ?_
 rintro e w3 ⟨rfl,hB3⟩
 have HB3:Hid (Below w.heap.size w w3∧Below W0.heap.size W0 w3∧Below W2.heap.size W2 w3):=⟨bstep HB2.out.1 hB3,bstep HB2.out.2 hB3,hB3⟩
 clear hB3 cA a0 a1 z0 b0 b1 z1
 obtain ⟨b0,b1,_,_⟩:=XB.out.up (HB3.out.2.1)
 have z1:=cell_lt b0
 go_wp2_with fail
 refine (cB w3 HB3.out.1).mono ?_
 rintro e w4 ⟨rfl,hB4⟩
 have HB4:Hid (Below w.heap.size w w4∧Below W0.heap.size W0 w4∧Below W2.heap.size W2 w4):=⟨bstep HB3.out.1 hB4,bstep HB3.out.2.1 hB4,bstep HB3.out.2.2 hB4⟩
 clear hB4 cB b0 b1 z1
 obtain ⟨a0,a1,_,_⟩:=XA.out.up (HB4.out.2.1)
 have z0:=cell_lt a0
 obtain ⟨b0,b1,_,_⟩:=XB.out.up (HB4.out.2.1)
 have z1:=cell_lt b0
 go_wp2_with fail
 refine (cQ w4 HB4.out.1).mono ?_
 rintro e w5 ⟨rfl,mq,rfl⟩
 have HB5:Hid (Below w.heap.size w (w4.drewN mq)∧Below W0.heap.size W0 (w4.drewN mq)∧Below W2.heap.size W2 (w4.drewN mq)):=⟨bstep HB4.out.1 (bdrew _ _),bstep HB4.out.2.1 (bdrew _ _),bstep HB4.out.2.2 (bdrew _ _)⟩
 obtain ⟨w5,hw5⟩:∃ w5:World,w4.drewN mq=w5:=⟨_,rfl⟩
 rw [hw5] at HB5 ⊢
 clear cQ a0 a1 z0 b0 b1 z1 hw5
 obtain ⟨a0,a1,_,_⟩:=XA.out.up (HB5.out.2.1)
 have z0:=cell_lt a0
 obtain ⟨b0,b1,_,_⟩:=XB.out.up (HB5.out.2.1)
 have z1:=cell_lt b0
 go_wp2_with (at_make;refine wpList_makeK fixT (by decide) _ rfl (.tmp 40) (.tmp 40) rfl .i64 .i64 n4 n4 n4 rfl rfl rfl rfl (by omega) w.heap.size w HB5.out.1.size HB5.out.1 ?_;intro w6 HO6 B6 B6';clear B6';have XA6:=(XA.out.up (bstep HB5.out.2.1 B6));obtain ⟨a2,a3,_,_⟩:=XA6)
 obtain ⟨g,hg⟩:∃ g,w5.heap.size=g:=⟨_,rfl⟩
 have HB6:Hid (Below w.heap.size w w6∧Below W0.heap.size W0 w6∧Below W2.heap.size W2 w6):=⟨bstep HB5.out.1 B6,bstep HB5.out.2.1 B6,bstep HB5.out.2.2 B6⟩
 rw [hg] at HO6 ⊢
 have hz:=cell_lt XR.out.1
 have Hg:Hid (W0.heap.size≤g∧w.heap.size+2 < W0.heap.size∧bl < g):=⟨by rw [← hg];exact HB5.out.2.1.size,hz,by rw [← hg];exact Nat.lt_of_lt_of_le (cell_lt XL.out.1) HB5.out.2.2.size⟩
 have HO7:Hid (OwnK .i64 23 w6 g (.slice (some ⟨g,0,none⟩) n4 n4) (rowF V 0)):=by
  show OwnK _ _ _ _ _ _
  rw [rowF_zero,HV.out.2.1]
  exact HO6.out
 clear a0 a1 a2 a3 b0 b1 z0 z1 HO6 B6 hg hz
 go_loopg [45] n4 (fun gg i wr=>∃ (q:Nat),q≤n4∧gg=n4 - q∧i = .int .i64 (q:Int)∧Hid (OwnK .i64 23 wr g (.slice (some ⟨g,0,none⟩) n4 n4) (rowF V q))∧Hid (Below w.heap.size w wr∧Stay g w6 wr))
 case atStart=>exact ⟨0,by omega,by omega,by first|rfl|simp,HO7,HB6.out.1,Stay.refl _ _⟩
 case round=>
  obtain ⟨j,hj,hg,rfl,HRk,hBS⟩:=hrel
  obtain ⟨R1,hR1⟩:∃ R1:World,R1=wr:=⟨_,rfl⟩
  subst hR1
  by_cases hjn:j < n4
  ·have hj':(j:Int) < (n4:Int):=by omega
   obtain ⟨q,o,rfl,hc0⟩:=HX.out.2 j hjn
   have hc1:=cell_low hc0 hBS.out.1
   obtain ⟨q',o',rfl,hd0⟩:=HY.out.2 j hjn
   have hd1:=cell_low hd0 hBS.out.1
   have ry:=HV.out.2.2.2.1.at j (by rw [HV.out.2.2.2.2.2.1];exact hjn)
   obtain ⟨X,eX⟩:∃ X,x.getD j 0=X:=⟨_,rfl⟩
   obtain ⟨Y,eY⟩:∃ Y,y.getD j 0=Y:=⟨_,rfl⟩
   rw [eX] at hc1
   rw [eY] at hd1 ry
   obtain ⟨SL,eS⟩:∃ SL,Fx.slopeI k X=SL:=⟨_,rfl⟩
   obtain ⟨Z,eZ⟩:∃ Z,Fx.mulI Y SL=Z:=⟨_,rfl⟩
   have HZ:Hid (V.getD j 0=Z):=by
    show _=_
    rw [← HV.out.1,getD_map_range _ _ _ _ (by rw [HV.out.2.2.2.2.1];exact hjn),eX,eY,eS,eZ]
   have rs:InR SL:=by rw [← eS];exact slope_rng _ _
   have cs:∀ W,Calls Tryz.prog K2 #[.int .i64 X] W fun e w'=>e = .returned (.int .i64 SL)∧w'=W:=fun W=>by rw [← eS];exact HC2.out X W
   have cm:∀ W,Calls Tryz.prog 134 #[.int .i64 Y,.int .i64 SL] W fun e w'=>e = .returned (.int .i64 Z)∧w'=W:=fun W=>by rw [← eZ];exact Fx.mul_any Y SL ry rs W
   have hne:bl≠g:=by have:=Hg.out;omega
   have hne1:w.heap.size+1≠g:=by have:=Hg.out;omega
   obtain ⟨l0,l1,_,_⟩:=(XL.out.up HB6.out.2.2).stay hBS.out.2 hne
   obtain ⟨b0,b1,_,_⟩:=(XB.out.up HB6.out.2.1).stay hBS.out.2 hne1
   have hgw:w.heap.size≤g:=by have:=Hg.out;have:=HB0.out.size;omega
   have z0:=cell_lt l0
   have z1:=cell_lt b0
   have z2:=cell_lt hc1
   have z3:=cell_lt hd1
   have z4:=HRk.out.size
   have Hk:Hid (j < V.length):=by show _ < _;rw [HV.out.2.1];exact hjn
   clear eX eY eS eZ hc0 hd0 hne hne1 ry rs
   go_wp2_with fail
   refine flow 13 69 (by kernel_rfl) rfl rfl (by kernel_rfl) ?_
   apply Exists.intro
   refine ⟨?_,?_⟩
   ·intro F hF
    have hFc:=hF.cell
    have hFf:=hF.frozen
    simp only [List.take_succ_cons,List.take_zero,List.eraseIdx_cons_succ,List.eraseIdx_cons_zero]
    repeat (go_big_quiet_step (first|(go_at_call 134;with_reducible exact hF.same (cm _))|(rw [HEnt.out];exact ⟨rfl,hF.same (cs _)⟩)))
    refine wpQuiet_nil ?_
    exact rfl
   ·intro R2 hb2
    simp only [List.drop_succ_cons,List.drop_zero]
    have HR2:=HRk.out.up hb2
    obtain ⟨hown,hfz⟩:=HR2.cell (by rw [rowF_len];exact HV.out.2.1) j hjn
    have H5:Hid (OwnK .i64 23 (R2.setCell ⟨g,j,none⟩ (.int .i64 Z)) g (.slice (some ⟨g,0,none⟩) n4 n4) (rowF V (j+1))):=by
     have:=HR2.store (by rw [rowF_len];exact HV.out.2.1) j Z
     rw [← HZ.out,rowF_set V j Hk.out] at this
     rw [← HZ.out]
     exact this
    have H6:Hid (Below w.heap.size w (R2.setCell ⟨g,j,none⟩ (.int .i64 Z))∧Stay g w6 (R2.setCell ⟨g,j,none⟩ (.int .i64 Z))):=⟨(bstep hBS.out.1 hb2).setCell (p:=⟨g,j,none⟩) hgw _,(hBS.out.2.up hb2).set _ _⟩
    clear HR2 hb2 cs cm z0 z1 z2 z3 z4 l0 l1 b0 b1 hc1 hd1
    go_wp2
    go_roundg (n4 - (j+1))
    case measure=>omega
    case rel=>exact ⟨j+1,by omega,rfl,by first|rfl|simp,H5,H6⟩
  ·obtain rfl:j=n4:=by omega
   have hne0:w.heap.size+1≠g:=by have:=Hg.out;omega
   have hne1:w.heap.size+2≠g:=by have:=Hg.out;omega
   obtain ⟨b0,b1,_,_⟩:=(XB.out.up HB6.out.2.1).stay hBS.out.2 hne0
   have xr1:=(XR.out.up HB6.out.2.1).stay hBS.out.2 hne1
   have hfin:=HRk.out
   rw [← HV.out.2.1,rowF_full,HV.out.2.1] at hfin
   have HF1:Hid (OwnK .i64 23 R1 g (.slice (some ⟨g,0,none⟩) j j) V):=hfin
   have cc:=cloneI_any _ d' HV.out.2.2.2.2.2.2 R1 (HN.out.up hBS.out.1)
   have HXR:Hid (Cel R1 (w.heap.size+2) (.slice none 0 0) (.slice none 0 0)):=xr1
   clear hfin xr1 hne0 hne1
   go_wp2_with fail
   refine cc.mono ?_
   rintro e w7 ⟨v7,rfl,h7,hB7⟩
   obtain ⟨p7,n7,c7,rfl,_⟩:=h7.nums.lst
   have HF:Hid (TRes (set2 w7 (w.heap.size+2) (.slice p7 n7 c7) (.slice (some ⟨g,0,none⟩) j j)) w.heap.size (.agg #[.slice p7 n7 c7,.slice (some ⟨g,0,none⟩) j j]) d' V∧Below w.heap.size w (set2 w7 (w.heap.size+2) (.slice p7 n7 c7) (.slice (some ⟨g,0,none⟩) j j))):=by
    have hs:g≤R1.heap.size:=Nat.le_of_lt HF1.out.size
    exact ⟨(TRes.set (h7.low (Nat.le_trans Hg.out.1 hs)) ((HF1.out.up hB7).low Hg.out.1) Hg.out.2.1).low HB0.out.size,below_cell (bstep hBS.out.1 hB7) _ (by omega) _ _⟩
   clear cc h7 b0 b1
   have xr:=(HXR.out.up hB7)
   have cf:=xr.set (.slice p7 n7 c7) (.slice (some ⟨g,0,none⟩) j j)
   obtain ⟨r0,r1,r2,r3⟩:=xr
   obtain ⟨y0,y1,_,_⟩:=cf
   go_wp2
   exact bodyPost_ret (v:=.tuple #[.agg #[.slice p7 n7 c7,.slice (some ⟨g,0,none⟩) j j],.int .i64 0]) (by simp [results,Tryz.results110,go_sem,y0,y1]) rfl ⟨_,rfl,HF.out⟩
theorem aback_any (k:Int) (p p2 p3 p4:Option Addr) (n c n2 c2 n3 c3 n4 c4:Nat) (d x d' y:List Int) (hd:RI d) (hx:RI x) (hd':RI d') (hy:RI y) (w:World) (h1:Nums .i64 w (.slice p n c) d) (h2:Nums .i64 w (.slice p2 n2 c2) x) (h3:Nums .i64 w (.slice p3 n3 c3) d') (h4:Nums .i64 w (.slice p4 n4 c4) y):
  Calls Tryz.prog 110 #[.int .i64 k,.agg #[.slice p n c,.slice p2 n2 c2],.agg #[.slice p3 n3 c3,.slice p4 n4 c4]] w fun e w'=>∃ v',e = .returned (.tuple #[v',.int .i64 (unbE k d x d' y)])∧TRes w' w.heap.size v' (unbD k d x d' y) (unbV k d x d' y)∧Below w.heap.size w w':=by
 by_cases h:((1≤k∧k≤5)∧isP d x∧isP d' y)∧d=d'
 ·exact aback_yes k p p2 p3 p4 n c n2 c2 n3 c3 n4 c4 d x d' y hd hx hd' hy w h1 h2 h3 h4 h
 ·exact aback_no k p p2 p3 p4 n c n2 c2 n3 c3 n4 c4 d x d' y hd hx hd' hy w h1 h2 h3 h4 h
/-- Numbers again and again along a side. -/
def sprV (d:List Nat) (s:Nat) (g:List Int):List Int:=(List.range (prodN d)).map fun j=>g.getD (j / (d.getD s 0*prodN (d.drop (s+1)))*prodN (d.drop (s+1))+j % prodN (d.drop (s+1))) 0
/-- Noughts, but at so many places these numbers. -/
def scaV (N:Nat) (p g:List Int):Nat→List Int
 | 0=>List.replicate N 0
 | k+1=>(scaV N p g k).set (p.getD k 0).toNat (g.getD k 0)
theorem scaV_len (N:Nat) (p g:List Int):∀ k,(scaV N p g k).length=N
 | 0=>by simp [scaV]
 | k+1=>by rw [scaV,List.length_set,scaV_len N p g k]
abbrev Ten:=List Int×List Int
def fold2 (t:Ten) (d:List Int):Ten:=(foldD t.1 t.2 d,foldV t.1 t.2 d)
def mul2 (s t:Ten):Ten:=(eachD s.1 s.2 t.1 t.2,eachV Fx.mulI s.1 s.2 t.1 t.2)
def add2 (s t:Ten):Ten:=(eachD s.1 s.2 t.1 t.2,eachV (fun a b=>Fx.hold (a+b)) s.1 s.2 t.1 t.2)
def scale2 (t:Ten) (k:Int):Ten:=(scaleD t.1 t.2,scaleV t.1 t.2 k)
def flip2 (t:Ten):Ten:=(flD t.1 t.2,flV t.1 t.2)
def mm2 (s t:Ten):Ten:=(mD s.1 s.2 t.1 t.2,mV s.1 s.2 t.1 t.2)
/-- For A. -/
def onA (op k:Int) (a b g:Ten):Ten:=
 if op=2∨op=3 then fold2 g a.1 else if op=4 then fold2 (mul2 g b) a.1 else if op=5 then scale2 g k else if op=6 then mm2 g (flip2 b) else if op=7 then flip2 g
 else if op=8 then (a.1,sprV (ntl a.1) k.toNat g.2) else if op=9 then (a.1,List.replicate (prodN (ntl a.1)) (g.2.getD 0 0)) else if op=10 then (a.1,List.replicate (prodN (ntl a.1)) (Fx.hold (rqI (g.2.getD 0 0) (a.2.length:Int))))
 else if op=11 then (unbD k a.1 a.2 g.1 g.2,unbV k a.1 a.2 g.1 g.2) else if op=12 then (biD g.1 g.2 b.1 b.2 k (a.1.getD 1 0),biV g.1 g.2 b.1 b.2 k (a.1.getD 1 0))
 else if op=13 then (a.1,scaV (prodN (ntl a.1)) (plP a.1 a.2 k) g.2 (plP a.1 a.2 k).length) else if op=14 then (shpD g.1 g.2 a.1,shpV g.1 g.2 a.1) else ([],[])
/-- For B. -/
def onB (op k:Int) (a b g:Ten):Ten:=
 if op=2 then fold2 g b.1 else if op=3 then fold2 (scale2 g (-4294967296)) b.1 else if op=4 then fold2 (mul2 g a) b.1 else if op=6 then mm2 (flip2 a) g
 else if op=12 then (bkD g.1 g.2 a.1 a.2 k (b.1.getD 2 0),bkV g.1 g.2 a.1 a.2 k (b.1.getD 2 0)) else ([],[])
abbrev TenG (t:Ten):Prop:=TnsG t.1 t.2
theorem fold_g {t:Ten} {d:List Int} (ht:TenG t) (hf:foldP t.1 t.2 d):TenG (fold2 t d)∧(fold2 t d).1=d:=by
 obtain ⟨a,b,hU⟩:=under hf
 obtain ⟨_,e2,e3⟩:=hU.V hf
 have hd:(fold2 t d).1=d:=if_pos hf
 refine ⟨?_,hd⟩
 show TnsG (foldD t.1 t.2 d) (foldV t.1 t.2 d)
 rw [e2,e3]
 refine tnsg (isP_itl hU.gb ?_) (foldK_RI _)
 exact foldK_len _ _ _ _ _
/-- What two join to, each is spread to. -/
theorem joint_fold {d x d' y:List Int} {a b J:List Nat} (h:Joint d x d' y a b J) {g:List Int} (hg:isP (itl J) g):foldP (itl J) g d∧foldP (itl J) g d':=by
 have e1:goodN (joinN a J):=by rw [h.ja];exact h.gJ
 have e2:goodN (joinN b J):=by rw [h.jb];exact h.gJ
 obtain ⟨p1,p2⟩:=join_fine h.ga h.gJ h.fa e1
 obtain ⟨q1,q2⟩:=join_fine h.gb h.gJ h.fb e2
 refine ⟨⟨⟨hg,by rw [h.da,ntl_itl];exact h.ga⟩,?_,?_⟩,⟨hg,by rw [h.db,ntl_itl];exact h.gb⟩,?_,?_⟩
 ·rw [h.da];exact p2
 ·rw [h.da,p1,h.ja]
 ·rw [h.db];exact q2
 ·rw [h.db,q1,h.jb]
/-- Times one of the two: the shape stays. -/
theorem mul_g {t s:Ten} {J b:List Nat} (ht:TenG t) (hs:TenG s) (eJ:t.1=itl J) (eb:s.1=itl b) (gJ:goodN J) (gb:goodN b) (fb:fitsN b J) (jb:joinN b J=J):TenG (mul2 t s)∧(mul2 t s).1=t.1:=by
 have f2:fitsN J b:=fun i h1 h2=>by
  have:=fb i h1 (by omega)
  rcases this with h|h|h
  ·exact .inl h.symm
  ·exact .inr (.inr h)
  ·exact .inr (.inl h)
 have j2:joinN J b=J:=by rw [joinN_comm];exact jb
 obtain ⟨p1,p2⟩:=join_fine gJ gb f2 (by rw [j2];exact gJ)
 have hE:joinE t.1 s.1=0:=by rw [eJ,eb];exact p2
 have hp:isP t.1 t.2∧isP s.1 s.2:=⟨ht.1,hs.1⟩
 have hE2:eachE t.1 t.2 s.1 s.2=0:=(if_pos hp).trans hE
 have hD:eachD t.1 t.2 s.1 s.2=t.1:=(if_pos hp).trans (by rw [eJ,eb,p1,j2])
 exact ⟨each_g (fun a b=>mulI_rng a b) hE2,hD⟩
theorem add_g {t s:Ten} (ht:TenG t) (hs:TenG s) (e:s.1=t.1):TenG (add2 t s)∧(add2 t s).1=t.1:=by
 obtain ⟨a,ga,ea⟩:=good_itl ht.1.1
 obtain ⟨f,j⟩:=join_same a
 obtain ⟨p1,p2⟩:=join_fine ga ga f (by rw [j];exact ga)
 have hp:isP t.1 t.2∧isP s.1 s.2:=⟨ht.1,hs.1⟩
 have hE2:eachE t.1 t.2 s.1 s.2=0:=(if_pos hp).trans (by rw [e,ea];exact p2)
 have hD:eachD t.1 t.2 s.1 s.2=t.1:=(if_pos hp).trans (by rw [e,ea,p1,j])
 exact ⟨each_g (fun a b=>hold_rng _) hE2,hD⟩
theorem scale_g2 {t:Ten} (ht:TenG t) (k:Int):TenG (scale2 t k)∧(scale2 t k).1=t.1:=⟨scale_g (if_pos ht.1),if_pos ht.1⟩
theorem RI_rep {n:Nat} {v:Int} (h:InR v):RI (List.replicate n v):=fun y hy=>by rw [List.eq_of_mem_replicate hy];exact h
theorem new_g {d:List Int} {v:Int} (hd:goodN (ntl d)) (h:InR v):TnsG d (List.replicate (prodN (ntl d)) v):=tnsg ⟨hd,by simp⟩ (RI_rep h)
theorem sca_RI {N:Nat} {p g:List Int} (hg:RI g):∀ k,RI (scaV N p g k)
 | 0=>RI_rep (by unfold InR;omega)
 | k+1=>fun y hy=>by
  rw [scaV] at hy
  rcases List.mem_or_eq_of_mem_set hy with h|h
  ·exact sca_RI hg k y h
  ·rw [h];exact InR_get hg k
theorem on_each {op k:Int} {a b g:Ten} (ho:op=2∨op=3∨op=4) (ha:TenG a) (hb:TenG b) (hE:eachE a.1 a.2 b.1 b.2=0) (hg:TenG g) (eg:g.1=eachD a.1 a.2 b.1 b.2):
  (TenG (onA op k a b g)∧(onA op k a b g).1=a.1)∧TenG (onB op k a b g)∧(onB op k a b g).1=b.1:=by
 have hp:isP a.1 a.2∧isP b.1 b.2:=⟨ha.1,hb.1⟩
 have hj:joinE a.1 b.1=0:=(if_pos hp).symm.trans hE
 obtain ⟨A,B,J,h⟩:=joint hp hj
 have eJ:g.1=itl J:=eg.trans (h.E (op:=fun a b=>a)).2.1
 have pg:∀ t:Ten,TenG t→t.1=g.1→isP (itl J) t.2:=fun t ht et=>by rw [← eJ,← et];exact ht.1
 have fo:∀ t:Ten,TenG t→t.1=g.1→(TenG (fold2 t a.1)∧(fold2 t a.1).1=a.1)∧TenG (fold2 t b.1)∧(fold2 t b.1).1=b.1:=fun t ht et=>by
  have hf:=joint_fold h (pg t ht et)
  rw [← eJ,← et] at hf
  exact ⟨fold_g ht hf.1,fold_g ht hf.2⟩
 rcases ho with rfl|rfl|rfl
 ·exact fo g hg rfl
 ·have hs:=scale_g2 hg (-4294967296)
  exact ⟨(fo g hg rfl).1,(fo _ hs.1 hs.2).2⟩
 ·have h1:=mul_g hg hb eJ h.db h.gJ h.gb h.fb h.jb
  have h2:=mul_g hg ha eJ h.da h.gJ h.ga h.fa h.ja
  exact ⟨(fo _ h1.1 h1.2).1,(fo _ h2.1 h2.2).2⟩
theorem flip_two {D0 D1:Nat} {x:List Int} (h:TnsG [(D0:Int),(D1:Int)] x):TenG (flip2 ([(D0:Int),(D1:Int)],x))∧(flip2 ([(D0:Int),(D1:Int)],x)).1 = [(D1:Int),(D0:Int)]:=by
 have hE:flE [(D0:Int),(D1:Int)] x=0:=(if_pos h.1).trans (if_pos rfl)
 exact ⟨fl_g h.2.2 hE,if_pos ⟨h.1,rfl⟩⟩
theorem mm_two {A C E:Nat} {x y:List Int} (h1:TnsG [(A:Int),(C:Int)] x) (h2:TnsG [(C:Int),(E:Int)] y) (hg:goodN (ntl [(A:Int),(E:Int)])):TenG (mm2 ([(A:Int),(C:Int)],x) ([(C:Int),(E:Int)],y))∧(mm2 ([(A:Int),(C:Int)],x) ([(C:Int),(E:Int)],y)).1 = [(A:Int),(E:Int)]:=by
 have hP:mP [(A:Int),(C:Int)] x [(C:Int),(E:Int)] y:=⟨⟨h1.1,h2.1⟩,rfl,rfl,rfl⟩
 have hE:mE [(A:Int),(C:Int)] x [(C:Int),(E:Int)] y=0:=(if_pos ⟨h1.1,h2.1⟩).trans ((if_pos hP).trans (if_pos hg))
 exact ⟨m_g hE,if_pos ⟨hP,hg⟩⟩
theorem on_mul {k:Int} {a b g:Ten} (ha:TenG a) (hb:TenG b) (hE:mE a.1 a.2 b.1 b.2=0) (hg:TenG g) (eg:g.1=mD a.1 a.2 b.1 b.2):
  (TenG (onA 6 k a b g)∧(onA 6 k a b g).1=a.1)∧TenG (onB 6 k a b g)∧(onB 6 k a b g).1=b.1:=by
 have hPG:mP a.1 a.2 b.1 b.2∧mG a.1 b.1:=by
  unfold mE at hE
  by_cases hp:isP a.1 a.2∧isP b.1 b.2
  ·rw [if_pos hp] at hE
   by_cases hm:mP a.1 a.2 b.1 b.2
   ·rw [if_pos hm] at hE
    by_cases hq:mG a.1 b.1
    ·exact ⟨hm,hq⟩
    ·rw [if_neg hq] at hE;cases hE
   ·rw [if_neg hm] at hE;cases hE
  ·rw [if_neg hp] at hE;cases hE
 have eg':=eg.trans (if_pos hPG)
 obtain ⟨aD,aX⟩:=a
 obtain ⟨bD,bX⟩:=b
 obtain ⟨gD,gX⟩:=g
 obtain ⟨A,C,rfl,_⟩:=two_sides ha.1 hPG.1.2.2.1
 obtain ⟨C',E,rfl,_⟩:=two_sides hb.1 hPG.1.2.1
 obtain rfl:C=C':=by have:=hPG.1.2.2.2;simp at this;omega
 have eg2:gD = [(A:Int),(E:Int)]:=eg'
 subst eg2
 have fb:=flip_two hb
 have fa:=flip_two ha
 have e1:flip2 ([(C:Int),(E:Int)],bX)=([(E:Int),(C:Int)],(flip2 ([(C:Int),(E:Int)],bX)).2):=Prod.ext fb.2 rfl
 have e2:flip2 ([(A:Int),(C:Int)],aX)=([(C:Int),(A:Int)],(flip2 ([(A:Int),(C:Int)],aX)).2):=Prod.ext fa.2 rfl
 rw [e1] at fb
 rw [e2] at fa
 refine ⟨?_,?_⟩
 ·show TenG (mm2 _ (flip2 _))∧(mm2 _ (flip2 _)).1=_
  rw [e1]
  exact mm_two hg fb.1 ha.1.1
 ·show TenG (mm2 (flip2 _) _)∧(mm2 (flip2 _) _).1=_
  rw [e2]
  exact mm_two fa.1 hg hb.1.1
theorem on_row {k:Int} {a b g:Ten} (ha:TenG a) (hb:TenG b) (hE:rwE a.1 a.2 b.1 b.2 k=0) (hg:TenG g) (eg:g.1=rwD a.1 a.2 b.1 b.2 k):
  (TenG (onA 12 k a b g)∧(onA 12 k a b g).1=a.1)∧TenG (onB 12 k a b g)∧(onB 12 k a b g).1=b.1:=by
 have hPG:rwA a.1 a.2 b.1 b.2 k∧rwS a.1 b.1∧goodN (ntl (rwO a.1 b.1 k)):=by
  unfold rwE at hE
  by_cases hp:rwA a.1 a.2 b.1 b.2 k
  ·rw [if_pos hp] at hE
   by_cases hm:rwS a.1 b.1
   ·rw [if_pos hm] at hE
    unfold gatE at hE
    by_cases hq:goodN (ntl (rwO a.1 b.1 k))
    ·exact ⟨hp,hm,hq⟩
    ·rw [if_neg hq] at hE;cases hE
   ·rw [if_neg hm] at hE;cases hE
  ·rw [if_neg hp] at hE;cases hE
 obtain ⟨hA,hS,hG⟩:=hPG
 have eg':g.1=rwO a.1 b.1 k:=eg.trans ((if_pos ⟨hA,hS⟩).trans (if_pos hG))
 obtain ⟨st,rfl⟩:∃ q:Nat,k=q:=⟨k.toNat,by have:=hA.2.2;omega⟩
 obtain ⟨aD,aX⟩:=a
 obtain ⟨bD,bX⟩:=b
 obtain ⟨gD,gX⟩:=g
 obtain ⟨R,L,rfl,hx0,k0,k1,k2⟩:=two_sides ha.1 hS.1
 obtain ⟨O,R',wd,rfl,hy0,l0,l1,l2,l3⟩:=three_sides hb.1 hS.2.1
 obtain rfl:R=R':=by have:=hS.2.2.1;simp at this;omega
 have hw:wd≤L:=by have:=hS.2.2.2;simp at this;omega
 obtain ⟨S,hS0⟩:∃ S,stopsN L wd st=S:=⟨_,rfl⟩
 have eg2:gD = [(O:Int),(S:Int)]:=eg'.trans (by rw [← hS0];rfl)
 subst eg2
 have z:=le_side k2 k0 k1
 have zw:wd≤4096:=by omega
 have b1:biA [(O:Int),(S:Int)] gX [(O:Int),(R:Int),(wd:Int)] bX st L:=⟨hg.1,hb.1,hA.2.2,by omega,by omega⟩
 have b2:biA [(O:Int),(S:Int)] gX [(R:Int),(L:Int)] aX st wd:=⟨hg.1,ha.1,hA.2.2,by omega,by omega⟩
 obtain ⟨_,e2,e3⟩:=bi_fine b1 hw hS0
 obtain ⟨_,f2,f3⟩:=bk_fine b2 hw hS0
 refine ⟨?_,?_⟩
 ·show TnsG (biD _ _ _ _ _ _) (biV _ _ _ _ _ _)∧biD _ _ _ _ _ _=_
  rw [show ((([(R:Int),(L:Int)],aX):Ten).1.getD 1 0)=(L:Int) from rfl,e2,e3]
  unfold newD
  rw [if_pos ha.1.1,if_pos ha.1.1]
  refine ⟨tnsg ⟨ha.1.1,?_⟩ ?_,rfl⟩
  ·rw [gradV_len]
   exact (prod_two R L).symm
  ·unfold gradV
   exact RI_map fun i _=>by unfold gradN rnd;exact hold_rng _
 ·show TnsG (bkD _ _ _ _ _ _) (bkV _ _ _ _ _ _)∧bkD _ _ _ _ _ _=_
  rw [show ((([(O:Int),(R:Int),(wd:Int)],bX):Ten).1.getD 2 0)=(wd:Int) from rfl,f2,f3]
  unfold newD
  rw [if_pos hb.1.1,if_pos hb.1.1]
  refine ⟨tnsg ⟨hb.1.1,?_⟩ ?_,rfl⟩
  ·rw [kerV_len]
   exact (prod_three O R wd).symm
  ·unfold kerV
   exact RI_map fun i _=>by unfold kerN rnd;exact hold_rng _
/-- An Op of one node. -/
theorem on_one {op k:Int} {a g:Ten} (ho:op=5∨op=7∨op=8∨op=9∨op=10∨op=11∨op=13∨op=14) (ha:TenG a) (hE:rkE op a.1 a.2 [] [] k=0) (hg:TenG g) (eg:g.1=rkD op a.1 a.2 [] [] k):
  TenG (onA op k a ([],[]) g)∧(onA op k a ([],[]) g).1=a.1:=by
 rcases ho with rfl|rfl|rfl|rfl|rfl|rfl|rfl|rfl
 ·have e:g.1=a.1:=eg.trans (if_pos ha.1)
  have h:=scale_g2 hg k
  exact ⟨h.1,h.2.trans e⟩
 ·have hE':flE a.1 a.2=0:=hE
  have h2:a.1.length=2:=by
   unfold flE at hE'
   rw [if_pos ha.1] at hE'
   by_cases h:a.1.length=2
   ·exact h
   ·rw [if_neg h] at hE';cases hE'
  obtain ⟨aD,aX⟩:=a
  obtain ⟨gD,gX⟩:=g
  obtain ⟨D0,D1,rfl,_⟩:=two_sides ha.1 h2
  have e0:flD [(D0:Int),(D1:Int)] aX = [(D1:Int),(D0:Int)]:=if_pos ⟨ha.1,rfl⟩
  have e:gD = [(D1:Int),(D0:Int)]:=eg.trans e0
  subst e
  exact flip_two hg
 ·show TnsG a.1 (sprV (ntl a.1) k.toNat g.2)∧a.1=a.1
  refine ⟨tnsg ⟨ha.1.1,by unfold sprV;simp⟩ ?_,rfl⟩
  unfold sprV
  exact RI_map fun j _=>InR_get hg.2.2 _
 ·exact ⟨new_g ha.1.1 (InR_get hg.2.2 _),rfl⟩
 ·exact ⟨new_g ha.1.1 (hold_rng _),rfl⟩
 ·have hE':bentE k a.1 a.2=0:=hE
  have hk:(1≤k∧k≤5)∧isP a.1 a.2:=by
   unfold bentE at hE'
   by_cases h:(1≤k∧k≤5)∧isP a.1 a.2
   ·exact h
   ·rw [if_neg h] at hE';cases hE'
  have e:g.1=a.1:=eg.trans (if_pos hk)
  have hp:((1≤k∧k≤5)∧isP a.1 a.2∧isP g.1 g.2)∧a.1=g.1:=⟨⟨hk.1,ha.1,hg.1⟩,e.symm⟩
  show TnsG (unbD k a.1 a.2 g.1 g.2) (unbV k a.1 a.2 g.1 g.2)∧unbD k a.1 a.2 g.1 g.2=a.1
  unfold unbD unbV
  rw [if_pos hp,if_pos hp]
  refine ⟨tnsg ⟨hg.1.1,?_⟩ (RI_map fun i _=>mulI_rng _ _),e⟩
  rw [List.length_map,List.length_range,e]
  exact ha.1.2
 ·refine ⟨tnsg ⟨ha.1.1,scaV_len _ _ _ _⟩ (sca_RI hg.2.2 _),rfl⟩
 ·have hE':shpE a.1 a.2 [(a.2.length:Int)]=0:=hE
  have hp:(isP a.1 a.2∧goodN (ntl [(a.2.length:Int)]))∧prodN (ntl [(a.2.length:Int)])=a.2.length:=by
   unfold shpE at hE'
   by_cases h:isP a.1 a.2∧goodN (ntl [(a.2.length:Int)])
   ·rw [if_pos h] at hE'
    by_cases h2:prodN (ntl [(a.2.length:Int)])=a.2.length
    ·exact ⟨h,h2⟩
    ·rw [if_neg h2] at hE';cases hE'
   ·rw [if_neg h] at hE';cases hE'
  have e:g.1 = [(a.2.length:Int)]:=eg.trans (if_pos hp)
  have hl:g.2.length=a.2.length:=by rw [hg.1.2,e];exact hp.2
  have hq:(isP g.1 g.2∧goodN (ntl a.1))∧prodN (ntl a.1)=g.2.length:=⟨⟨hg.1,ha.1.1⟩,by rw [hl];exact ha.1.2.symm⟩
  show TnsG (shpD g.1 g.2 a.1) (shpV g.1 g.2 a.1)∧shpD g.1 g.2 a.1=a.1
  unfold shpD shpV
  rw [if_pos hq,if_pos hq]
  exact ⟨tnsg ⟨ha.1.1,hq.2.symm⟩ hg.2.2,rfl⟩
/-- A node that was reckoned of those ahead of it. -/
def NdV (ns:List Nd) (i:Nat) (nd:Nd):Prop:=
 (nd.op=1∧nd.a = -1∧nd.b = -1)∨((2≤nd.op∧nd.op≤14)∧(0≤nd.a∧nd.a < (i:Int))∧(twoP nd.op→0≤nd.b∧nd.b < (i:Int))∧(¬ twoP nd.op→nd.b = -1)
  ∧ rkE nd.op (ndN ns nd.a).D (ndN ns nd.a).X (dD ns nd.op nd.b) (dX ns nd.op nd.b) nd.k=0∧nd.D=rkD nd.op (ndN ns nd.a).D (ndN ns nd.a).X (dD ns nd.op nd.b) (dX ns nd.op nd.b) nd.k)
def NodesV (ns:List Nd):Prop:=∀ i nd,ns[i]?=some nd→NdV ns i nd
theorem ndN_push {ns:List Nd} {x:Nd} {i:Int} (h0:0≤i) (h1:i < (ns.length:Int)):ndN (ns++[x]) i=ndN ns i:=by
 unfold ndN
 rw [List.getD_eq_getElem?_getD,List.getD_eq_getElem?_getD,List.getElem?_append_left (by omega)]
theorem NdV.push {ns:List Nd} {i:Nat} {nd x:Nd} (h:NdV ns i nd) (hi:i≤ns.length):NdV (ns++[x]) i nd:=by
 rcases h with h|⟨h1,h2,h3,h4,h5⟩
 ·exact .inl h
 ·have ea:ndN (ns++[x]) nd.a=ndN ns nd.a:=ndN_push h2.1 (by omega)
  have eb:dD (ns++[x]) nd.op nd.b=dD ns nd.op nd.b∧dX (ns++[x]) nd.op nd.b=dX ns nd.op nd.b:=by
   unfold dD dX
   by_cases ht:twoP nd.op
   ·have:=h3 ht
    rw [if_pos ht,if_pos ht,if_pos ht,if_pos ht,ndN_push this.1 (by omega)]
    exact ⟨rfl,rfl⟩
   ·rw [if_neg ht,if_neg ht,if_neg ht,if_neg ht]
    exact ⟨rfl,rfl⟩
  refine .inr ⟨h1,h2,h3,h4,?_⟩
  rw [ea,eb.1,eb.2]
  exact h5
theorem NodesV.nil:NodesV []:=fun i nd h=>by simp at h
theorem NodesV.push {ns:List Nd} {x:Nd} (h:NodesV ns) (hx:NdV ns ns.length x):NodesV (ns++[x]):=fun i nd hi=>by
 by_cases hl:i < ns.length
 ·rw [List.getElem?_append_left hl] at hi
  exact (h i nd hi).push (by omega)
 ·rw [List.getElem?_append_right (by omega)] at hi
  have hi0:i - ns.length=0:=by
   rcases Nat.eq_zero_or_pos (i - ns.length) with e|e
   ·exact e
   ·rw [List.getElem?_eq_none (by simp;omega)] at hi;cases hi
  rw [hi0] at hi
  cases hi
  obtain rfl:i=ns.length:=by omega
  exact hx.push (Nat.le_refl _)
theorem NodesV.leaf {ns:List Nd} {d x:List Int} (h:NodesV ns):NodesV (leafN ns d x):=by
 unfold leafN
 split
 ·exact h.push (.inl ⟨rfl,rfl,rfl⟩)
 ·exact h
theorem NodesV.do {ns:List Nd} {op a b k:Int} (h:NodesV ns):NodesV (doN ns op a b k):=by
 unfold doN
 split
 ·rename_i hp
  have ho:=hp.1.2
  have eb:dD ns op (dB op b)=dD ns op b∧dX ns op (dB op b)=dX ns op b:=by
   unfold dD dX dB
   by_cases ht:twoP op
   ·simp only [if_pos ht]
    exact ⟨trivial,trivial⟩
   ·simp only [if_neg ht]
    exact ⟨trivial,trivial⟩
  refine h.push (.inr ⟨ho.1,ho.2.1,fun ht=>?_,fun ht=>if_neg ht,?_⟩)
  ·have e:(dN ns op a b k).b=b:=if_pos ht
   rw [e]
   exact ho.2.2 ht
  ·show rkE op _ _ (dD ns op (dB op b)) (dX ns op (dB op b)) _=0∧rkD op _ _ _ _ _=rkD op _ _ (dD ns op (dB op b)) (dX ns op (dB op b)) _
   rw [eb.1,eb.2]
   exact ⟨hp.2,rfl⟩
 ·exact h
/-- The two that a node is of. -/
def aOf (ns:List Nd) (nd:Nd):Ten:=((ndN ns nd.a).D,(ndN ns nd.a).X)
def bOf (ns:List Nd) (nd:Nd):Ten:=(dD ns nd.op nd.b,dX ns nd.op nd.b)
/-- What a gradient of a node gives is of their shapes. -/
theorem on_g {ns:List Nd} (hG:NodesG ns) (hV:NodesV ns) {i:Nat} {nd:Nd} (hi:ns[i]?=some nd) (h1:nd.op≠1) {g:Ten} (hg:TenG g) (eg:g.1=nd.D):
  (TenG (onA nd.op nd.k (aOf ns nd) (bOf ns nd) g)∧(onA nd.op nd.k (aOf ns nd) (bOf ns nd) g).1=(aOf ns nd).1)∧(twoP nd.op→TenG (onB nd.op nd.k (aOf ns nd) (bOf ns nd) g)∧(onB nd.op nd.k (aOf ns nd) (bOf ns nd) g).1=(bOf ns nd).1):=by
 have hl:i < ns.length:=(List.getElem?_eq_some_iff.1 hi).1
 rcases hV i nd hi with h|⟨ho,ha,hb,hb',hE,hD⟩
 ·exact absurd h.1 h1
 have ga:TenG (aOf ns nd):=hG.at ha.1 (by omega)
 have gb:twoP nd.op→TenG (bOf ns nd):=fun ht=>by
  have:=hb ht
  show TnsG (dD ns nd.op nd.b) (dX ns nd.op nd.b)
  unfold dD dX
  rw [if_pos ht,if_pos ht]
  exact hG.at this.1 (by omega)
 have eg2:=eg.trans hD
 by_cases ht:twoP nd.op
 ·have gb':=gb ht
  rcases ht with e|e|e|e|e
  ·rw [e] at hE eg2 ⊢
   have:=on_each (op:=2) (k:=nd.k) (.inl rfl) ga gb' (by rw [show bOf ns nd=(dD ns 2 nd.b,dX ns 2 nd.b) by unfold bOf;rw [e]];exact hE) hg (by rw [show bOf ns nd=(dD ns 2 nd.b,dX ns 2 nd.b) by unfold bOf;rw [e]];exact eg2)
   exact ⟨this.1,fun _=>this.2⟩
  ·rw [e] at hE eg2 ⊢
   have:=on_each (op:=3) (k:=nd.k) (.inr (.inl rfl)) ga gb' (by rw [show bOf ns nd=(dD ns 3 nd.b,dX ns 3 nd.b) by unfold bOf;rw [e]];exact hE) hg (by rw [show bOf ns nd=(dD ns 3 nd.b,dX ns 3 nd.b) by unfold bOf;rw [e]];exact eg2)
   exact ⟨this.1,fun _=>this.2⟩
  ·rw [e] at hE eg2 ⊢
   have:=on_each (op:=4) (k:=nd.k) (.inr (.inr rfl)) ga gb' (by rw [show bOf ns nd=(dD ns 4 nd.b,dX ns 4 nd.b) by unfold bOf;rw [e]];exact hE) hg (by rw [show bOf ns nd=(dD ns 4 nd.b,dX ns 4 nd.b) by unfold bOf;rw [e]];exact eg2)
   exact ⟨this.1,fun _=>this.2⟩
  ·rw [e] at hE eg2 ⊢
   have:=on_mul (k:=nd.k) ga gb' (by rw [show bOf ns nd=(dD ns 6 nd.b,dX ns 6 nd.b) by unfold bOf;rw [e]];exact hE) hg (by rw [show bOf ns nd=(dD ns 6 nd.b,dX ns 6 nd.b) by unfold bOf;rw [e]];exact eg2)
   exact ⟨this.1,fun _=>this.2⟩
  ·rw [e] at hE eg2 ⊢
   have:=on_row (k:=nd.k) ga gb' (by rw [show bOf ns nd=(dD ns 12 nd.b,dX ns 12 nd.b) by unfold bOf;rw [e]];exact hE) hg (by rw [show bOf ns nd=(dD ns 12 nd.b,dX ns 12 nd.b) by unfold bOf;rw [e]];exact eg2)
   exact ⟨this.1,fun _=>this.2⟩
 ·have eb:bOf ns nd=([],[]):=Prod.ext (if_neg ht) (if_neg ht)
  have e1:dD ns nd.op nd.b = []:=if_neg ht
  have e2:dX ns nd.op nd.b = []:=if_neg ht
  rw [e1,e2] at hE eg2
  rw [eb]
  exact ⟨on_one (by omega) ga hE hg eg2,fun h=>absurd h ht⟩
def noT:Ten:=([],[])
/-- The gradients so far, and which were given anything. -/
abbrev SwT:=List Ten×List Bool
def sw0 (ns:List Nd) (root:Nat):SwT:=(((List.range (root+1)).map fun (i:Nat)=>((ndN ns (i:Int)).D,List.replicate (ndN ns (i:Int)).X.length (0:Int))).set root ((ndN ns (root:Int)).D,[4294967296]),(List.replicate (root+1) false).set root true)
def swGive (s:SwT) (j:Nat) (p:Ten):SwT:=(s.1.set j (add2 (s.1.getD j noT) p),s.2.set j true)
def swStep (ns:List Nd) (i:Nat) (s:SwT):SwT:=
 if s.2.getD i false=true∧(ndN ns (i:Int)).op≠1 then
  if 0≤(ndN ns (i:Int)).b then swGive (swGive s (ndN ns (i:Int)).a.toNat (onA (ndN ns (i:Int)).op (ndN ns (i:Int)).k (aOf ns (ndN ns (i:Int))) (bOf ns (ndN ns (i:Int))) (s.1.getD i noT))) (ndN ns (i:Int)).b.toNat (onB (ndN ns (i:Int)).op (ndN ns (i:Int)).k (aOf ns (ndN ns (i:Int))) (bOf ns (ndN ns (i:Int))) (s.1.getD i noT))
  else swGive s (ndN ns (i:Int)).a.toNat (onA (ndN ns (i:Int)).op (ndN ns (i:Int)).k (aOf ns (ndN ns (i:Int))) (bOf ns (ndN ns (i:Int))) (s.1.getD i noT))
 else s
def swK (ns:List Nd) (root:Nat):Nat→SwT
 | 0=>sw0 ns root
 | k+1=>swStep ns (root - k) (swK ns root k)
def swE (ns:List Nd) (root:Int):Int:=if 0≤root∧root < (ns.length:Int) then if (ndN ns root).X.length=1 then 0 else 4 else 1
def swL (ns:List Nd) (root:Int):List Ten:=if swE ns root=0 then (swK ns root.toNat (root.toNat+1)).1 else []
/-- Gradients of the nodes' shapes. -/
structure SwG (ns:List Nd) (root:Nat) (s:SwT):Prop where
 l:s.1.length=root+1
 v:s.2.length=root+1
 g:∀ i:Nat,i≤root→TenG (s.1.getD i noT)∧(s.1.getD i noT).1=(ndN ns (i:Int)).D
theorem getD_put {α:Type} (l:List α) (i j:Nat) (x y:α) (hi:i < l.length):(l.set i x).getD j y=if i=j then x else l.getD j y:=by
 rw [List.getD_eq_getElem?_getD,List.getD_eq_getElem?_getD,List.getElem?_set]
 by_cases h:i=j
 ·subst h
  simp [hi]
 ·simp [h]
theorem SwG.give {ns:List Nd} {root:Nat} {s:SwT} (h:SwG ns root s) {j:Nat} {p:Ten} (hj:j≤root) (hp:TenG p) (ep:p.1=(ndN ns (j:Int)).D):SwG ns root (swGive s j p):=by
 refine ⟨by simp [swGive,h.l],by simp [swGive,h.v],fun i hi=>?_⟩
 have hjl:j < s.1.length:=by rw [h.l];omega
 show TenG ((s.1.set j (add2 (s.1.getD j noT) p)).getD i noT)∧((s.1.set j (add2 (s.1.getD j noT) p)).getD i noT).1=_
 rw [getD_put _ _ _ _ _ hjl]
 by_cases e:j=i
 ·subst e
  rw [if_pos rfl]
  have h0:=h.g j hj
  have h1:=add_g h0.1 hp (ep.trans h0.2.symm)
  exact ⟨h1.1,h1.2.trans h0.2⟩
 ·rw [if_neg e]
  exact h.g i hi
theorem ndN_get {ns:List Nd} {i:Nat} (h:i < ns.length):ns[i]?=some (ndN ns (i:Int)):=by
 have:=List.getElem?_eq_getElem h
 rw [this,nd_at this]
theorem sw0_g {ns:List Nd} (hG:NodesG ns) {root:Nat} (hr:root < ns.length) (h1:(ndN ns (root:Int)).X.length=1):SwG ns root (sw0 ns root):=by
 refine ⟨by simp [sw0],by simp [sw0],fun i hi=>?_⟩
 have hi':i < ns.length:=by omega
 have gi:TnsG (ndN ns (i:Int)).D (ndN ns (i:Int)).X:=hG _ (nd_mem (ndN_get hi'))
 show TenG ((List.set _ root _).getD i noT)∧((List.set _ root _).getD i noT).1=_
 rw [getD_put _ _ _ _ _ (by simp)]
 by_cases e:root=i
 ·subst e
  rw [if_pos rfl]
  refine ⟨tnsg ⟨gi.1.1,?_⟩ ?_,rfl⟩
  ·rw [← gi.1.2,h1]
   rfl
  ·intro y hy
   simp at hy
   subst hy
   omega
 ·rw [if_neg e,List.getD_eq_getElem?_getD,List.getElem?_map,List.getElem?_range (by omega)]
  show TnsG (ndN ns (i:Int)).D (List.replicate (ndN ns (i:Int)).X.length 0)∧(ndN ns (i:Int)).D=_
  refine ⟨tnsg ⟨gi.1.1,?_⟩ (RI_rep (by unfold InR;omega)),rfl⟩
  rw [List.length_replicate]
  exact gi.1.2
theorem SwG.step {ns:List Nd} (hG:NodesG ns) (hV:NodesV ns) {root i:Nat} {s:SwT} (h:SwG ns root s) (hr:root < ns.length) (hi:i≤root):SwG ns root (swStep ns i s):=by
 unfold swStep
 have hil:i < ns.length:=by omega
 split
 ·rename_i hc
  have hg:=h.g i hi
  obtain ⟨o1,o2⟩:=on_g hG hV (ndN_get hil) hc.2 hg.1 hg.2
  rcases hV i _ (ndN_get hil) with hh|⟨ho,ha,hb,hb',_⟩
  ·exact absurd hh.1 hc.2
  have ga:=h.give (j:=(ndN ns (i:Int)).a.toNat) (by omega) o1.1 (o1.2.trans (by rw [Int.toNat_of_nonneg ha.1];rfl))
  split
  ·rename_i hb0
   have ht:twoP (ndN ns (i:Int)).op:=by
    by_cases ht:twoP (ndN ns (i:Int)).op
    ·exact ht
    ·have:=hb' ht;omega
   have q:=o2 ht
   have hbb:=hb ht
   refine ga.give (by omega) q.1 (q.2.trans ?_)
   show dD ns _ _=_
   unfold dD
   rw [if_pos ht,Int.toNat_of_nonneg hbb.1]
  ·exact ga
 ·exact h
theorem swK_g {ns:List Nd} (hG:NodesG ns) (hV:NodesV ns) {root:Nat} (hr:root < ns.length) (h1:(ndN ns (root:Int)).X.length=1):∀ k,SwG ns root (swK ns root k)
 | 0=>sw0_g hG hr h1
 | k+1=>(swK_g hG hV hr h1 k).step hG hV hr (by omega)
end Go.Proofs.YtjlofobnmjompaaGreatDoor.Wd
