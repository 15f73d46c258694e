/- Tensors: what the reference's Turn hands back. -/
import Derived.Test.YtlhpmjcdkpfjdaaGreatDoorY21
import Derived.Test.YtlhpmjcdkpfjdaaGreatDoorY10
import Derived.Test.YtlhpmjcdkpfjdaaGreatDoorY03
import Derived.Test.YtlhpmjcdkpfjdaaGreatDoorY09
set_option linter.unusedVariables false
set_option linter.unusedSimpArgs false
set_option maxHeartbeats 16000000
set_option maxRecDepth 16000
namespace Go.Proofs.YtlhpmjcdkpfjdaaGreatDoor.Wd
open Go.RowKit
/-- append behind numbers of the call's own, as a step of a region that draws its order. -/
theorem step_appendK {P:Program} {t e:TypeId} {k:IntKind} {b:Nat} (T:NumT P t e k b) (hb8:b≤8) {ops:Array Oper} {o:Oper} {a:Act} {w:World} {K:Act→World→Prop} {Q:Exit→Act→World→Prop} {E:Prop} (hgd:o.guard=none) (s x:Operand)
  (ho:o.op = .call { callee:=.builtin .append,args:=#[s,x],argTypes:=#[t,t] }) (B:Nat) (v0:Value) (l0:List Int) (hs:a.eval s=v0) (hown:OwnK k e w B v0 l0)
  (ad:Addr) (l:List Int) (n c:Nat) (hx:a.eval x = .slice (some ad) n c) (hln:l.length=n) (hb:Nums k w (.slice (some ad) n c) l) (hlen:l0.length+l.length≤1073741824) (hB:B≤w.heap.size) (w0:World) (hB0:Below B w0 w)
  (h:∀ v' w',Hid (OwnK k e w' B v' (l0++l))→Below B w0 w'→K (a.put o.dst v') w'):
  if Region.wanted o (yielded ops a.tmps)=true then Oper.wp P o a w K Q else E:=by
 have hw:Region.wanted o (yielded ops a.tmps)=true:=by simp [Region.wanted,hgd]
 rw [if_pos hw]
 obtain ⟨i0,hi,hz0,hz1,hz2⟩:=info_of T
 rcases hb with ⟨h1,_⟩|⟨ad',c',e1,hc⟩
 ·cases h1
 ·have e2:ad'=ad∧c'=c:=by
   injection e1 with a1 a2 a3
   injection a1 with a1
   exact ⟨a1.symm,a3.symm⟩
  obtain ⟨rfl,rfl⟩:=e2
  subst hln
  have hm:(l0.length+l.length)*b≤1073741824*8:=Nat.mul_le_mul hlen hb8
  obtain ⟨v',w',hr,ho',hgr,_⟩:=run_append_own (P:=P) w B t o.type e i0 (.int k 0) 1 b T.ht hi hz0 hz1 hz2 rfl (by decide) v0 l0.length (vals k l0) hown ad' l.length c' (vals k l) (by simp [vals]) hc (vals_one k l) (by unfold maxLen;omega) (by omega) hB
  unfold Oper.wp
  simp [execOp,ho,resolve,invoke,builtin,hs,hx,hr,Result.andThen]
  refine h v' w' ?_ (Below.grown hB0 hgr hB hown.block)
  show OwnK _ _ _ _ _ _
  unfold OwnK vals at *
  simpa using ho'
/-- The sides that the first k name. -/
def preK (d o:List Int) (k:Nat):List Int:=(List.range k).map fun i=>d.getD (o.getD i 0).toNat 0
theorem preK_len (d o:List Int) (k:Nat):(preK d o k).length=k:=by simp [preK]
theorem preK_succ (d o:List Int) (k:Nat):preK d o (k+1)=preK d o k++[d.getD (o.getD k 0).toNat 0]:=by
 unfold preK
 rw [List.range_succ,List.map_append]
 rfl
theorem preK_full {d x o:List Int} {a r:List Nat} (h:Turns d x o a r):preK d o a.length=itl (dimsT a r):=by
 refine List.ext_getElem (by rw [preK_len,itl_len,dimsT_len,h.or.1]) fun i h1 h2=>?_
 rw [← getD_lt (preK d o a.length) i 0 h1,← getD_lt (itl (dimsT a r)) i 0 h2,itl_getD]
 rw [preK_len] at h1
 unfold preK
 rw [getD_map_range _ _ _ _ h1,dimsT_get a r i (by rw [h.or.1];exact h1),h.da,h.dr,itl_getD,itl_getD,Int.toNat_natCast]
theorem at_turn {a r:List Nat} (ga:goodN a) (h:orderN a.length r) (i:Nat) (hi:i < prodN a):atI (itl a) (itl (unp r (placeN (dimsT a r) i) a.length))=((turnI a r i:Nat):Int)∧atB (itl a) (itl (unp r (placeN (dimsT a r) i) a.length))=true:=by
 have hin:=inside_unp h (inside_place _ i (good_turn ga h).2.1 (by rw [prodN_turn h];exact hi))
 have hb:atB (itl a) (itl (unp r (placeN (dimsT a r) i) a.length))=true:=by
  unfold atB
  rw [ntl_itl,decide_eq_true ga,Bool.true_and]
  exact inside_inB hin
 refine ⟨?_,hb⟩
 unfold atI
 rw [if_pos hb,ntl_itl,ntl_itl]
 rfl
theorem place_turn {a r:List Nat} (ga:goodN a) (h:orderN a.length r) (i:Nat) (hi:i < prodN a):placeI (itl (dimsT a r)) (i:Int)=itl (placeN (dimsT a r) i)∧decide (0≤(i:Int)∧(i:Int) < ((sizeN (ntl (itl (dimsT a r))):Nat):Int))=true:=by
 have hc:0≤(i:Int)∧(i:Int) < ((sizeN (ntl (itl (dimsT a r))):Nat):Int):=by
  rw [ntl_itl,sizeN_good (good_turn ga h),prodN_turn h]
  omega
 refine ⟨?_,decide_eq_true hc⟩
 unfold placeI
 rw [if_pos hc,ntl_itl,Int.toNat_natCast]
theorem unpK_le {r p:List Nat} {n b:Nat} (hp:∀ x,x∈p→x≤b):∀ k x,x∈unpK r p n k→x≤b
 | 0,x,hx=>by
  have:=List.eq_of_mem_replicate hx
  omega
 | k+1,x,hx=>by
  rw [unpK] at hx
  rcases List.mem_or_eq_of_mem_set hx with h|h
  ·exact unpK_le hp k x h
  ·rw [h]
   rcases Nat.lt_or_ge k p.length with hk|hk
   ·rw [getD_lt p k 0 hk];exact hp _ (List.getElem_mem _)
   ·rw [getD_ge p k 0 hk];omega
theorem rturn_any (p p2 p3:Option Addr) (n c n2 c2 n3 c3:Nat) (d x o:List Int) (hd:RI d) (ho:RI o) (w:World) (h1:Nums .i64 w (.slice p n c) d) (h2:Nums .i64 w (.slice p2 n2 c2) x) (h3:Nums .i64 w (.slice p3 n3 c3) o) (hn3:n3≤9223372036854775807):
  Calls Tryz.prog 135 #[.agg #[.slice p n c,.slice p2 n2 c2],.slice p3 n3 c3] w fun e w'=>∃ v',e = .returned (.tuple #[v',.int .i64 (turnE d x o)])∧TRes w' w.heap.size v' (turnD d x o) (turnV d x o)∧Below w.heap.size w w':=by
 have cA:=fun W (hW:Below w.heap.size w W)=>ris_any _ _ d x hd W (h1.up hW) (h2.up hW)
 have HN:Hid (Nums .i64 w (.slice p n c) d∧Nums .i64 w (.slice p2 n2 c2) x∧Nums .i64 w (.slice p3 n3 c3) o):=⟨h1,h2,h3⟩
 obtain ⟨_,_,_,e4,HD⟩:=h1.lst
 cases e4
 obtain ⟨_,_,_,e4,HX⟩:=h2.lst
 cases e4
 obtain ⟨_,_,_,e4,HO⟩:=h3.lst
 cases e4
 by_cases hp:isP d x
 ·rw [decide_eq_true hp] at cA
  have hn:n≤4:=by rw [← HD.out.1,← ntl_len d];exact hp.1.1
  have hn':(n:Int)≤4:=by omega
  by_cases hq:n=n3
  ·subst hq
   obtain ⟨E,eE⟩:∃ E,turnE d x o=E:=⟨_,rfl⟩
   obtain ⟨D,eD⟩:∃ D,turnD d x o=D:=⟨_,rfl⟩
   obtain ⟨V,eV⟩:∃ V,turnV d x o=V:=⟨_,rfl⟩
   have HE:Hid (turnE d x o=E∧turnD d x o=D∧turnV d x o=V):=⟨eE,eD,eV⟩
   have HP:Hid (isP d x∧RI o∧RI d∧o.length=n∧d.length=n):=⟨hp,ho,hd,HO.out.1,HD.out.1⟩
   rw [eE,eD,eV]
   clear h1 h2 h3 hd ho hp eE eD eV hn3
   go_enter Tryz.func135,Tryz.ntmps135
   go_wp2_with fail
   generalize hW0:World.alloc _ _=W0
   have HB0:=hidB (w:=w) hW0 (by go_grown)
   have XA:Hid (Cel W0 w.heap.size (.slice p n c) (.slice p2 n2 c2)):=celW hW0 (by simp [go_sem])
   have XR:Hid (Cel W0 (w.heap.size+1) (.slice none 0 0) (.slice none 0 0)):=celW hW0 (by simp [go_sem])
   clear hW0
   refine (cA W0 HB0.out).mono ?_
   rintro e w1 ⟨rfl,hB1⟩
   have HB1:=hid2 (bstep HB0.out hB1) hB1
   clear hB1
   clear cA
   obtain ⟨a0,a1,_,_⟩:=XA.out.up HB1.out.2
   have hzW:=HB1.out.2.size
   go_wp2_with fail
   go_loopg [6,7] n (fun gg r i wr=>∃ (k:Nat),k≤n∧gg=n - k∧i = .int .i64 (k:Int)∧Hid (ordK o n k)∧Hid (OwnK .i64 3 wr w1.heap.size r (preK d o k))∧Hid (Below w1.heap.size w1 wr))
   case atStart=>exact ⟨0,by omega,by omega,by first|rfl|simp,ordK_zero _ _,OwnK.nil _ _ _ _,Below.refl _ _⟩
   case round=>
    obtain ⟨k,hk,hg,rfl,HK,HV6,hB⟩:=hrel
    obtain ⟨R1,hR1⟩:∃ R1:World,R1=wr:=⟨_,rfl⟩
    subst hR1
    obtain ⟨v6,ev6⟩:∃ v6,v6=u6:=⟨_,rfl⟩
    subst ev6
    by_cases hkn:k < n
    ·have hk':(k:Int) < (n:Int):=by omega
     obtain ⟨q3,o3,rfl,hc0⟩:=HO.out.2 k hkn
     have hc1:=cell_low hc0 (bstep HB1.out.1 hB.out)
     have ry:=HP.out.2.1.at k (by rw [HP.out.2.2.2.1];exact hkn)
     obtain ⟨y,ey⟩:∃ y,o.getD k 0=y:=⟨_,rfl⟩
     have Hy:Hid (o.getD k 0=y):=ey
     rw [ey] at hc1 ry
     clear ey hc0 a0 a1
     have HW1:Hid (Below w.heap.size w R1∧Below W0.heap.size W0 R1):=⟨bstep HB1.out.1 hB.out,bstep HB1.out.2 hB.out⟩
     by_cases hy0:y < 0
     ·have hno:=turn_none (d:=d) (x:=x) (o:=o) (fun h=>by have:=(h.2.2.1 k (by rw [HP.out.2.2.2.2];exact hkn)).1;rw [Hy.out] at this;omega)
      rw [HE.out.1,HE.out.2.1,HE.out.2.2] at hno
      obtain ⟨rfl,rfl,rfl⟩:=hno
      have xr:=(XR.out.up HW1.out.2)
      have BF:=below_cell (HW1.out.1) (w.heap.size+1) (by omega) (.slice none 0 0) (.slice none 0 0)
      have cf:=xr.set (.slice none 0 0) (.slice none 0 0)
      obtain ⟨r0,r1,r2,r3⟩:=xr
      obtain ⟨y0,y1,_,_⟩:=cf
      go_wp2
      exact bodyPost_ret (v:=.tuple #[.agg #[.slice none 0 0,.slice none 0 0],.int .i64 1]) (by simp [results,Tryz.results135,go_sem,y0,y1]) rfl ⟨_,rfl,TRes.none _ _,BF⟩
     by_cases hy1:(n:Int)≤y
     ·have hno:=turn_none (d:=d) (x:=x) (o:=o) (fun h=>by have:=(h.2.2.1 k (by rw [HP.out.2.2.2.2];exact hkn)).2;rw [Hy.out,HP.out.2.2.2.2] at this;omega)
      rw [HE.out.1,HE.out.2.1,HE.out.2.2] at hno
      obtain ⟨rfl,rfl,rfl⟩:=hno
      have xr:=(XR.out.up HW1.out.2)
      have BF:=below_cell (HW1.out.1) (w.heap.size+1) (by omega) (.slice none 0 0) (.slice none 0 0)
      have cf:=xr.set (.slice none 0 0) (.slice none 0 0)
      obtain ⟨r0,r1,r2,r3⟩:=xr
      obtain ⟨y0,y1,_,_⟩:=cf
      go_wp2
      exact bodyPost_ret (v:=.tuple #[.agg #[.slice none 0 0,.slice none 0 0],.int .i64 1]) (by simp [results,Tryz.results135,go_sem,y0,y1]) rfl ⟨_,rfl,TRes.none _ _,BF⟩
     obtain ⟨j,ej⟩:∃ j:Nat,y=(j:Int):=⟨y.toNat,by omega⟩
     subst ej
     have hj:j < n:=by omega
     have hj':(j:Int) < (n:Int):=by omega
     clear ry hy0 hy1
     go_wp2_with fail
     go_loopg [8] k (fun gg i wr=>∃ (m e:Nat),m≤k∧gg=k - m∧i = .int .i64 (m:Int)∧Hid (∀ i,i < m→o.getD i 0≠(j:Int))∧wr=R1.drewN e)
     case atStart=>exact ⟨0,0,by omega,by omega,by first|rfl|simp,fun i hi=>by omega,rfl⟩
     case round=>
      obtain ⟨m,e,hm,hgm,rfl,HM,rfl⟩:=hrel
      by_cases hmk:m < k
      ·have hmk':(m:Int) < (k:Int):=by omega
       have hmn:(m:Int) < (n:Int):=by omega
       obtain ⟨_,_,e5,hm0⟩:=HO.out.2 m (by omega)
       cases e5
       have hm1:=cell_low hm0 HW1.out.1
       obtain ⟨ym,eym⟩:∃ ym,o.getD m 0=ym:=⟨_,rfl⟩
       have Hym:Hid (o.getD m 0=ym):=eym
       rw [eym] at hm1
       clear eym hm0
       by_cases hyy:ym=(j:Int)
       ·subst hyy
        have hno:=turn_none (d:=d) (x:=x) (o:=o) (fun h=>by
         have:=h.2.2.2 m (by rw [HP.out.2.2.2.2];omega) k (by rw [HP.out.2.2.2.2];exact hkn) (by rw [Hym.out,Hy.out])
         omega)
        rw [HE.out.1,HE.out.2.1,HE.out.2.2] at hno
        obtain ⟨rfl,rfl,rfl⟩:=hno
        go_wp2_with fail
        go_region
        have xr:=(XR.out.up (below_drew HW1.out.2 (e+1)))
        have BF:=below_cell (below_drew HW1.out.1 (e+1)) (w.heap.size+1) (by omega) (.slice none 0 0) (.slice none 0 0)
        have cf:=xr.set (.slice none 0 0) (.slice none 0 0)
        obtain ⟨r0,r1,r2,r3⟩:=xr
        obtain ⟨y0,y1,_,_⟩:=cf
        go_wp2
        exact bodyPost_ret (v:=.tuple #[.agg #[.slice none 0 0,.slice none 0 0],.int .i64 1]) (by simp [results,Tryz.results135,go_sem,y0,y1]) rfl ⟨_,rfl,TRes.none _ _,BF⟩
       ·have hyy':(ym==(j:Int))=false:=by simp [hyy]
        have HM2:Hid (∀ i,i < m+1→o.getD i 0≠(j:Int)):=fun i hi=>by
         rcases Nat.lt_succ_iff_lt_or_eq.1 hi with h|rfl
         ·exact HM.out i h
         ·rw [Hym.out];exact hyy
        go_wp2_with fail
        go_region
        all_goals
         go_wp2
         go_roundg (k - (m+1))
        case measure=>omega
        case rel=>exact ⟨m+1,e+1,by omega,rfl,by first|rfl|simp,HM2,rfl⟩
      ·obtain rfl:m=k:=by omega
       obtain ⟨qd,od,rfl,hd0⟩:=HD.out.2 j hj
       have hd1:=cell_low hd0 HW1.out.1
       obtain ⟨A,eA⟩:∃ A,d.getD j 0=A:=⟨_,rfl⟩
       have HA:Hid (d.getD (o.getD m 0).toNat 0=A):=by show _=_;rw [Hy.out,Int.toNat_natCast];exact eA
       rw [eA] at hd1
       obtain ⟨a0,a1,_,_⟩:=XA.out.up HW1.out.2
       have HK2:Hid (ordK o n (m+1)):=ordK_succ HK.out (by rw [Hy.out];omega) fun i hi=>by rw [Hy.out];exact HM.out i hi
       clear eA hd0
       generalize hR2:World.drewN R1 e=R2
       have hBR2:Below R1.heap.size R1 R2:=by rw [← hR2];exact below_drew (Below.refl _ _) e
       have HW2:Hid (Below w1.heap.size w1 R2∧Below w.heap.size w R2):=⟨bstep hB.out hBR2,bstep HW1.out.1 hBR2⟩
       have BD:Below R2.heap.size R2 R2.drew:=⟨rfl,rfl,rfl,Nat.le_refl _,fun _ _=>rfl⟩
       have H6:Hid (OwnK .i64 3 (R2.drew.alloc (.cells #[.int .i64 A] 3)) w1.heap.size v6 (preK d o m)):=((HV6.out.up hBR2).up BD).up (up_alloc R2.drew _)
       have H6n:Hid (Nums .i64 (R2.drew.alloc (.cells #[.int .i64 A] 3)) (.slice (some ⟨R2.heap.size,0,none⟩) 1 1) [A]):=nums_lit (k:=.i64) R2.drew [A] 1 (0,0) rfl
       have H6b:Hid (Below w1.heap.size w1 (R2.drew.alloc (.cells #[.int .i64 A] 3))):=blit (bstep HW2.out.1 BD) _
       have H6l:Hid ((preK d o m).length+[A].length≤1073741824):=by show _≤_;rw [preK_len,List.length_singleton];omega
       have hc2:=cell_low hc1 hBR2
       have hd2:=cell_low hd1 hBR2
       have a2:=cell_low a0 hBR2
       clear hBR2 BD hR2 hc1 hd1 a0 a1
       go_wp2_with fail
       go_region_law (refine step_appendK numT (by decide) rfl (.tmp 65) (.tmp 74) rfl w1.heap.size v6 (preK d o m) (by simp [Act.eval,Act.put]) H6.out ⟨R2.heap.size,0,none⟩ [A] 1 1 (by simp [Act.eval,Act.put]) rfl H6n.out H6l.out H6b.out.size w1 H6b.out ?_;intro v7 w7 H7 B7)
       all_goals
        have H8:Hid (OwnK .i64 3 w7 w1.heap.size v7 (preK d o (m+1))):=by
         show OwnK _ _ _ _ _ _
         rw [preK_succ,HA.out]
         exact H7.out
        clear H7
        go_wp2
        go_roundg (n - (m+1))
       all_goals first
        | omega
        | exact ⟨m+1,by omega,rfl,by first|rfl|simp,HK2,H8,B7⟩
    ·obtain rfl:k=n:=by omega
     have ht:turnP d x o:=⟨HP.out.1,by rw [HP.out.2.2.2.2];exact ordK_full HP.out.2.2.2.1 HK.out⟩
     obtain ⟨a,r,hT⟩:=turns ht
     obtain ⟨e1,e2,e3⟩:=hT.V ht
     rw [HE.out.1] at e1
     rw [HE.out.2.1] at e2
     rw [HE.out.2.2] at e3
     subst e1
     have ha:a.length=k:=by rw [← HP.out.2.2.2.2,hT.da,itl_len]
     have hnN:prodN a=n2:=by rw [← hT.lx];exact HX.out.1
     rw [hnN] at e3
     have HT:Hid (Turns d x o a r∧a.length=k∧prodN a=n2∧D=itl (dimsT a r)∧V=((List.range n2).map fun i=>x.getD (turnI a r i) 0)∧D.length=k∧V.length=n2):=⟨hT,ha,hnN,e2,e3,by rw [e2,itl_len,dimsT_len,hT.or.1,ha],by rw [e3];simp⟩
     have hN:1≤n2∧n2≤4096:=by rw [← hnN];exact ⟨hT.ga.pos,hT.ga.2.2⟩
     have hN':1≤(n2:Int)∧(n2:Int)≤4096:=by omega
     have hv6:=HV6.out
     rw [← ha,preK_full hT,← e2] at hv6
     have HV:Hid (OwnK .i64 3 R1 w1.heap.size v6 D):=hv6
     have HW1:Hid (Below w.heap.size w R1∧Below W0.heap.size W0 R1):=⟨bstep HB1.out.1 hB.out,bstep HB1.out.2 hB.out⟩
     have cN:=rnew_any v6 D (by rw [e2];exact RI_itl (good_turn hT.ga hT.or).le) (by rw [e2,ntl_itl];exact good_turn hT.ga hT.or) 0 R1 hv6.nums
     rw [show prodN (ntl D)=n2 by rw [e2,ntl_itl,prodN_turn hT.or];exact hnN] at cN
     clear ht hT e2 e3 ha hnN hv6 a0 a1
     go_wp2_with fail
     refine cN.mono ?_
     rintro e w4 ⟨v4,rfl,⟨s4,g,cg,rfl,hs4,ht4,hOff,hgB⟩,hB4⟩
     obtain ⟨p4,n4,c4,rfl,_⟩:=hs4.nums.lst
     have HOff:Hid (Off g (.slice p4 n4 c4)):=hOff
     go_wp2_with fail
     generalize hW5:World.alloc _ _=W5
     obtain ⟨b5,hb5⟩:∃ b5,w4.heap.size=b5:=⟨_,rfl⟩
     have B5:Below w4.heap.size w4 W5:=by rw [← hW5];exact up_alloc w4 _
     have XT:Hid (Cel W5 b5 (.slice p4 n4 c4) (.slice (some ⟨g,0,none⟩) n2 cg)):=by
      show Cel _ _ _ _
      unfold Cel
      rw [← hW5,← hb5]
      simp [go_sem]
     have HB5:Hid (Below w.heap.size w W5∧Below W0.heap.size W0 W5):=⟨bstep HW1.out.1 (bstep hB4 B5),bstep HW1.out.2 (bstep hB4 B5)⟩
     have HD5:Hid (OwnK .i64 3 W5 R1.heap.size (.slice p4 n4 c4) D):=hs4.up B5
     have HX5:Hid (Cel W5 w.heap.size (.slice p k c) (.slice p2 n2 c2)∧Cel W5 (w.heap.size+1) (.slice none 0 0) (.slice none 0 0)):=⟨XA.out.up HB5.out.2,XR.out.up HB5.out.2⟩
     have HO5:Hid (OwnK .i64 33 W5 g (.slice (some ⟨g,0,none⟩) n2 cg) (rowF V 0)):=by
      show OwnK _ _ _ _ _ _
      rw [rowF_zero,HT.out.2.2.2.2.2.2]
      exact (ht4.up B5).base
     have hz:=cell_lt XR.out.1
     have hgl:=ht4.size
     have Hg:Hid (W0.heap.size≤g∧w.heap.size+1 < W0.heap.size∧g < b5∧R1.heap.size≤g∧W0.heap.size≤R1.heap.size):=⟨Nat.le_trans HW1.out.2.size hgB,hz,by omega,hgB,HW1.out.2.size⟩
     rw [hb5]
     have HV5:Hid (OwnK .i64 3 W5 w1.heap.size v6 D∧Off g v6):=⟨HV.out.up (bstep hB4 B5),HV.out.off_new hgB⟩
     clear hW5 B5 hb5 hz hgl hs4 ht4 hB4 hgB hOff cN
     go_loopg [10] n2 (fun gg i wr=>∃ (i_:Nat),i_≤n2∧gg=n2 - i_∧i = .int .i64 (i_:Int)∧Hid (OwnK .i64 33 wr g (.slice (some ⟨g,0,none⟩) n2 cg) (rowF V i_))∧Hid (Below w.heap.size w wr∧Stay g W5 wr))
     case atStart=>exact ⟨0,by omega,by omega,by first|rfl|simp,HO5,HB5.out.1,Stay.refl _ _⟩
     case round=>
      obtain ⟨m,hm,hgm,rfl,HRm,hBS⟩:=hrel
      obtain ⟨R2,hR2⟩:∃ R2:World,R2=wr:=⟨_,rfl⟩
      subst hR2
      have hnb:b5≠g:=by have:=Hg.out;omega
      have hne0:w.heap.size≠g:=by have:=Hg.out;omega
      obtain ⟨t0,t1,_,_⟩:=XT.out.stay hBS.out.2 hnb
      by_cases hmn:m < n2
      ·have hm':(m:Int) < (n2:Int):=by omega
       have hmJ:m < prodN a:=by rw [HT.out.2.2.1];exact hmn
       have hor:=HT.out.1.or
       have cP:=rplace_any v6 D (by rw [HT.out.2.2.2.1];exact RI_itl (good_turn HT.out.1.ga hor).le) (m:Int) R2 (HV5.out.1.nums.stay hBS.out.2 HV5.out.2)
       obtain ⟨f1,f2⟩:=place_turn HT.out.1.ga hor m hmJ
       rw [HT.out.2.2.2.1,f1,f2] at cP
       obtain ⟨P,eP⟩:∃ P,placeN (dimsT a r) m=P:=⟨_,rfl⟩
       rw [eP] at cP
       have hPl:P.length=k:=by rw [← eP,placeN_len,dimsT_len,hor.1,HT.out.2.1]
       have hPb:∀ x,x∈P→x≤4096:=by
        intro x hx
        obtain ⟨i,hi,rfl⟩:=List.mem_iff_getElem.1 hx
        have hin:=inside_place (dimsT a r) m (good_turn HT.out.1.ga hor).2.1 (by rw [prodN_turn hor];exact hmJ)
        rw [eP] at hin
        have hi2:i < (dimsT a r).length:=by rw [← inside_len hin];exact hi
        have:=inside_get hin i _ _ (List.getElem?_eq_getElem hi2) (List.getElem?_eq_getElem hi)
        have h2:=(good_turn HT.out.1.ga hor).le _ (List.getElem_mem hi2)
        omega
       have HPP:Hid (placeN (dimsT a r) m=P∧P.length=k∧∀ x,x∈P→x≤4096):=⟨eP,hPl,hPb⟩
       clear f1 f2 eP hPl hPb hor
       go_wp2_with fail
       refine cP.mono ?_
       rintro e w7 ⟨v7,rfl,h7,hB7⟩
       obtain ⟨p7,n7,c7,rfl,HL7⟩:=h7.nums.lst
       have hn7:k=n7:=by rw [← HL7.out.1,itl_len,HPP.out.2.1]
       subst hn7
       have H7:Hid (OwnK .i64 3 w7 R2.heap.size (.slice p7 k c7) (itl P)):=h7
       have HB7:Hid (Below w.heap.size w w7∧Stay g W5 w7∧Below R2.heap.size R2 w7):=⟨bstep hBS.out.1 hB7,hBS.out.2.up hB7,hB7⟩
       clear cP h7 hB7 HL7 t0 t1
       go_wp2_with (at_make;refine wpList_makeK numT (by decide) _ rfl (.tmp 92) (.tmp 92) rfl .i64 .i64 k k k rfl rfl rfl rfl (by omega) w.heap.size w HB7.out.1.size HB7.out.1 ?_;intro w8 HO8 B8 B8';clear B8')
       obtain ⟨gq,hgq⟩:∃ gq,w7.heap.size=gq:=⟨_,rfl⟩
       have Hgq:Hid (w7.heap.size=gq):=hgq
       rw [hgq] at HO8 ⊢
       rw [show List.replicate k (0:Int)=itl (unpK r P k 0) by unfold itl unpK;rw [List.map_replicate];rfl] at HO8
       have HB8:Hid (Below w7.heap.size w7 w8):=B8
       clear hgq B8
       go_loopg [14] k (fun gg i wr=>∃ (q_:Nat),q_≤k∧gg=k - q_∧i = .int .i64 (q_:Int)∧Hid (OwnK .i64 3 wr gq (.slice (some ⟨gq,0,none⟩) k k) (itl (unpK r P k q_)))∧Hid (Below w7.heap.size w7 wr))
       case atStart=>exact ⟨0,by omega,by omega,by first|rfl|simp,HO8,HB8⟩
       case round=>
        obtain ⟨q_,hq,hgq,rfl,HQ,hBQ⟩:=hrel
        obtain ⟨R3,hR3⟩:∃ R3:World,R3=wr:=⟨_,rfl⟩
        subst hR3
        by_cases hqn:q_ < k
        ·have hq':(q_:Int) < (k:Int):=by omega
         obtain ⟨q3,o3,rfl,hc0⟩:=HO.out.2 q_ hqn
         have hc1:=cell_low hc0 (bstep HB7.out.1 hBQ.out)
         have hkr:q_ < r.length:=by rw [HT.out.1.or.1,HT.out.2.1];exact hqn
         rw [HT.out.1.dr,itl_getD] at hc1
         obtain ⟨j,ej⟩:∃ j,r.getD q_ 0=j:=⟨_,rfl⟩
         have hj:j < k:=by
          rw [← ej,getD_lt r q_ 0 hkr,← HT.out.2.1]
          exact HT.out.1.or.2.1 _ (List.getElem_mem _)
         have hj':(j:Int) < (k:Int):=by omega
         rw [ej] at hc1
         obtain ⟨_,_,_,e5,HL7⟩:=(H7.out.up hBQ.out).nums.lst
         cases e5
         obtain ⟨q7,o7,rfl,hp1⟩:=HL7.out.2 q_ hqn
         rw [itl_getD] at hp1
         obtain ⟨pv,epv⟩:∃ pv,P.getD q_ 0=pv:=⟨_,rfl⟩
         rw [epv] at hp1
         obtain ⟨hown,hfz⟩:=HQ.out.cell (by rw [itl_len,unpK_len]) j hj
         have H9:Hid (OwnK .i64 3 (R3.setCell ⟨gq,j,none⟩ (.int .i64 (pv:Int))).drew gq (.slice (some ⟨gq,0,none⟩) k k) (itl (unpK r P k (q_+1)))):=by
          have:=HQ.out.store (by rw [itl_len,unpK_len]) j (pv:Int)
          rw [← itl_set] at this
          show OwnK _ _ _ _ _ _
          rw [unpK,ej,epv]
          exact OwnK.up this ⟨rfl,rfl,rfl,Nat.le_refl _,fun _ _=>rfl⟩
         have HB9:Hid (Below w7.heap.size w7 (R3.setCell ⟨gq,j,none⟩ (.int .i64 (pv:Int))).drew):=(hBQ.out.setCell (p:=⟨gq,j,none⟩) (Nat.le_of_eq Hgq.out) _).trans ⟨rfl,rfl,rfl,Nat.le_refl _,fun _ _=>rfl⟩
         clear ej epv HL7 hc0 hkr
         go_wp2_with fail
         go_region
         go_wp2
         go_roundg (k - (q_+1))
         case measure=>omega
         case rel=>exact ⟨q_+1,by omega,rfl,by first|rfl|simp,H9,HB9⟩
        ·obtain rfl:q_=k:=by omega
         have hor:=HT.out.1.or
         have hBR:Below w.heap.size w R3:=bstep HB7.out.1 hBQ.out
         have cT:=rat_any (.slice p q_ c) (.slice (some ⟨gq,0,none⟩) q_ q_) d (itl (unpK r P q_ q_)) HP.out.2.2.1 (RI_itl (unpK_le HPP.out.2.2 q_)) R3 (HN.out.1.up hBR) HQ.out.nums
         obtain ⟨f1,f2⟩:=at_turn HT.out.1.ga hor m hmJ
         rw [HPP.out.1,HT.out.2.1] at f1 f2
         rw [HT.out.1.da,show unpK r P q_ q_=unp r P q_ from rfl,f1,f2] at cT
         have ia:=turnI_lt HT.out.1.ga hor m hmJ
         rw [HT.out.2.2.1] at ia
         obtain ⟨i,ei⟩:∃ i,turnI a r m=i:=⟨_,rfl⟩
         rw [ei] at cT ia
         have ia':(i:Int) < (n2:Int):=by omega
         have HBR:Hid (Below w.heap.size w R3∧Stay g W5 R3):=⟨hBR,HB7.out.2.1.up hBQ.out⟩
         have HRm3:Hid (OwnK .i64 33 R3 g (.slice (some ⟨g,0,none⟩) n2 cg) (rowF V m)):=HRm.out.up (bstep HB7.out.2.2 hBQ.out)
         obtain ⟨X,eX⟩:∃ X,x.getD i 0=X:=⟨_,rfl⟩
         have HZ:Hid (V.getD m 0=X∧x.getD i 0=X):=⟨by rw [HT.out.2.2.2.2.1,getD_map_range _ _ _ _ hmn,ei,eX],eX⟩
         obtain ⟨a0,a1,_,_⟩:=HX5.out.1.stay HBR.out.2 hne0
         clear f1 f2 ei eX hor hBR
         go_wp2_with fail
         refine cT.mono ?_
         rintro e R4 ⟨rfl,e4,hR4⟩
         have hB4:Below R3.heap.size R3 R4:=by rw [hR4];exact below_drew (Below.refl _ _) e4
         have HBR4:Hid (Below w.heap.size w R4∧Stay g W5 R4):=⟨bstep HBR.out.1 hB4,HBR.out.2.up hB4⟩
         have HRm4:Hid (OwnK .i64 33 R4 g (.slice (some ⟨g,0,none⟩) n2 cg) (rowF V m)):=HRm3.out.up hB4
         clear cT hR4 hB4 a0 a1
         obtain ⟨a0,a1,_,_⟩:=HX5.out.1.stay HBR4.out.2 hne0
         obtain ⟨t0,t1,_,_⟩:=XT.out.stay HBR4.out.2 hnb
         obtain ⟨qx,ox,rfl,hx0⟩:=HX.out.2 i ia
         have hx1:=cell_low hx0 HBR4.out.1
         rw [HZ.out.2] at hx1
         obtain ⟨hown,hfz⟩:=HRm4.out.cell (by rw [rowF_len];exact HT.out.2.2.2.2.2.2) m hmn
         have hgw:w.heap.size≤g:=by have:=Hg.out;omega
         have H5:Hid (OwnK .i64 33 (R4.setCell ⟨g,m,none⟩ (.int .i64 X)).drew g (.slice (some ⟨g,0,none⟩) n2 cg) (rowF V (m+1))):=by
          have:=HRm4.out.store (by rw [rowF_len];exact HT.out.2.2.2.2.2.2) m X
          have e2:=rowF_set V m (by rw [HT.out.2.2.2.2.2.2];exact hmn)
          rw [HZ.out.1] at e2
          rw [e2] at this
          exact OwnK.up this ⟨rfl,rfl,rfl,Nat.le_refl _,fun _ _=>rfl⟩
         have H6:Hid (Below w.heap.size w (R4.setCell ⟨g,m,none⟩ (.int .i64 X)).drew∧Stay g W5 (R4.setCell ⟨g,m,none⟩ (.int .i64 X)).drew):=⟨(HBR4.out.1.setCell (p:=⟨g,m,none⟩) hgw _).trans ⟨rfl,rfl,rfl,Nat.le_refl _,fun _ _=>rfl⟩,(HBR4.out.2.set _ _).up ⟨rfl,rfl,rfl,Nat.le_refl _,fun _ _=>rfl⟩⟩
         clear hx0 hgw
         go_wp2_with fail
         go_region
         go_wp2
         go_roundg (n2 - (m+1))
         case measure=>omega
         case rel=>exact ⟨m+1,by omega,rfl,by first|rfl|simp,H5,H6⟩
      ·obtain rfl:m=n2:=by omega
       have hfin:=HRm.out
       rw [← HT.out.2.2.2.2.2.2,rowF_full,HT.out.2.2.2.2.2.2] at hfin
       have HXR:Hid (Cel W5 (w.heap.size+1) (.slice none 0 0) (.slice none 0 0)):=HX5.out.2
       have hne1:w.heap.size+1≠g:=by have:=Hg.out;omega
       have hfd:=HD5.out.stay hBS.out.2 (fun ad n1 c1 e1=>HOff.out ad n1 c1 e1)
       have HF:Hid (TRes (set2 R2 (w.heap.size+1) (.slice p4 n4 c4) (.slice (some ⟨g,0,none⟩) m cg)) w.heap.size (.agg #[.slice p4 n4 c4,.slice (some ⟨g,0,none⟩) m cg]) D V∧Below w.heap.size w (set2 R2 (w.heap.size+1) (.slice p4 n4 c4) (.slice (some ⟨g,0,none⟩) m cg))):=
        ⟨(TRes.set (hfd.low Hg.out.2.2.2.2) (hfin.low Hg.out.1) Hg.out.2.1).low HB0.out.size,below_cell hBS.out.1 _ (by omega) _ _⟩
       have xr:=HXR.out.stay hBS.out.2 hne1
       have cf:=xr.set (.slice p4 n4 c4) (.slice (some ⟨g,0,none⟩) m cg)
       obtain ⟨r0,r1,r2,r3⟩:=xr
       obtain ⟨y0,y1,_,_⟩:=cf
       clear hfin hfd hne1 hnb
       go_wp2
       exact bodyPost_ret (v:=.tuple #[.agg #[.slice p4 n4 c4,.slice (some ⟨g,0,none⟩) m cg],.int .i64 0]) (by simp [results,Tryz.results135,go_sem,y0,y1]) rfl ⟨_,rfl,HF.out⟩
  ·have hne:((n3:Int) != (n:Int))=true:=by simp;omega
   have hne':¬ ((n3:Int)=(n:Int)):=by omega
   obtain ⟨e1,e2,e3⟩:=turn_none (d:=d) (x:=x) (o:=o) fun h=>hq (by rw [← HD.out.1,← HO.out.1];exact h.2.1.symm)
   rw [e1,e2,e3]
   clear e1 e2 e3 h1 h2 h3 hd ho hp hq
   go_enter Tryz.func135,Tryz.ntmps135
   go_wp2_with fail
   generalize hW0:World.alloc _ _=W0
   have HB0:=hidB (w:=w) hW0 (by go_grown)
   have XA:Hid (Cel W0 w.heap.size (.slice p n c) (.slice p2 n2 c2)):=celW hW0 (by simp [go_sem])
   have XR:Hid (Cel W0 (w.heap.size+1) (.slice none 0 0) (.slice none 0 0)):=celW hW0 (by simp [go_sem])
   clear hW0
   refine (cA W0 HB0.out).mono ?_
   rintro e w1 ⟨rfl,hB1⟩
   have HB1:=hid2 (bstep HB0.out hB1) hB1
   clear hB1
   clear cA
   obtain ⟨a0,a1,_,_⟩:=XA.out.up HB1.out.2
   have xr:=(XR.out.up HB1.out.2)
   have BF:=below_cell (HB1.out.1) (w.heap.size+1) (by omega) (.slice none 0 0) (.slice none 0 0)
   have cf:=xr.set (.slice none 0 0) (.slice none 0 0)
   obtain ⟨r0,r1,r2,r3⟩:=xr
   obtain ⟨y0,y1,_,_⟩:=cf
   go_wp2
   exact bodyPost_ret (v:=.tuple #[.agg #[.slice none 0 0,.slice none 0 0],.int .i64 1]) (by simp [results,Tryz.results135,go_sem,y0,y1]) rfl ⟨_,rfl,TRes.none _ _,BF⟩
 ·rw [decide_eq_false hp] at cA
  obtain ⟨e1,e2,e3⟩:=turn_none (d:=d) (x:=x) (o:=o) fun h=>hp h.1
  rw [e1,e2,e3]
  clear e1 e2 e3 h1 h2 h3 hd ho hp
  go_enter Tryz.func135,Tryz.ntmps135
  go_wp2_with fail
  generalize hW0:World.alloc _ _=W0
  have HB0:=hidB (w:=w) hW0 (by go_grown)
  have XA:Hid (Cel W0 w.heap.size (.slice p n c) (.slice p2 n2 c2)):=celW hW0 (by simp [go_sem])
  have XR:Hid (Cel W0 (w.heap.size+1) (.slice none 0 0) (.slice none 0 0)):=celW hW0 (by simp [go_sem])
  clear hW0
  refine (cA W0 HB0.out).mono ?_
  rintro e w1 ⟨rfl,hB1⟩
  have HB1:=hid2 (bstep HB0.out hB1) hB1
  clear hB1
  have xr:=(XR.out.up HB1.out.2)
  have BF:=below_cell (HB1.out.1) (w.heap.size+1) (by omega) (.slice none 0 0) (.slice none 0 0)
  have cf:=xr.set (.slice none 0 0) (.slice none 0 0)
  obtain ⟨r0,r1,r2,r3⟩:=xr
  obtain ⟨y0,y1,_,_⟩:=cf
  go_wp2
  exact bodyPost_ret (v:=.tuple #[.agg #[.slice none 0 0,.slice none 0 0],.int .i64 1]) (by simp [results,Tryz.results135,go_sem,y0,y1]) rfl ⟨_,rfl,TRes.none _ _,BF⟩
end Go.Proofs.YtlhpmjcdkpfjdaaGreatDoor.Wd
