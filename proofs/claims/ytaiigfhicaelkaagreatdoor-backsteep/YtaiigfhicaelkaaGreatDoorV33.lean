/- BackSteep's numbers: a sum of whole numbers by whole numbers, one of them a whole step on. · BackSteep: a slope that is reckoned back is the difference that it makes. -/
import Derived.Test.YtaiigfhicaelkaaGreatDoorV16
import Derived.Deep.AppendLies
import Derived.Test.YtaiigfhicaelkaaGreatDoorV25
import Derived.Test.YtaiigfhicaelkaaGreatDoorV21
set_option linter.unusedVariables false
set_option linter.unusedSimpArgs false
set_option maxHeartbeats 16000000
set_option maxRecDepth 16000
namespace Go.Proofs.YtaiigfhicaelkaaGreatDoor.Wd
open Go.RowKit Fx
def R16 (l:List Int):Prop:=∀ q,-32768≤l.getD q 0∧l.getD q 0≤32767
def stx (x:List Int) (j i q:Nat):Int:=x.getD q 0*4294967296+(if i=1∧q=j then 4294967296 else 0)
def sty (k:List Int) (q:Nat):Int:=k.getD q 0*4294967296
def stX (n:Nat) (x:List Int) (j i:Nat):List Int:=(List.range n).map (stx x j i)
def stY (n:Nat) (k:List Int):List Int:=(List.range n).map (sty k)
theorem stx_in {x:List Int} (hx:R16 x) (j i q:Nat):-140737488355328≤stx x j i q∧stx x j i q≤140737488355328:=by
 have:=hx q
 unfold stx
 split <;> omega
theorem sty_in {k:List Int} (hk:R16 k) (q:Nat):-140737488355328≤sty k q∧sty k q≤140737488355328:=by
 have:=hk q
 unfold sty
 omega
theorem st_lns {n:Nat} {x k:List Int} (j i:Nat) (hx:R16 x) (hk:R16 k) (h1:1≤n) (h2:n≤20):Lns n (stX n x j i) (stY n k):=
 ⟨by simp [stX],by simp [stY],h1,by omega,RI_map fun q _=>by have:=stx_in hx j i q;unfold InR;omega,RI_map fun q _=>by have:=sty_in hk q;unfold InR;omega⟩
theorem st_prod {a b:Int} (ha:-140737488355328≤a∧a≤140737488355328) (hb:-32768≤b∧b≤32767):Fx.mulI a (b*4294967296)=a*b∧-4611686018427387904≤a*b∧a*b≤4611686018427387904:=by
 have h:(a*b).natAbs≤4611686018427387904:=by
  rw [Int.natAbs_mul]
  have h1:a.natAbs≤140737488355328:=by omega
  have h2:b.natAbs≤32768:=by omega
  exact Nat.le_trans (Nat.mul_le_mul h1 h2) (by decide)
 refine ⟨?_,by omega,by omega⟩
 rw [mulI_rnd,← Int.mul_assoc,show (4294967296:Int)=((4294967296:Nat):Int) from rfl,rnd_mul _ _ (by omega),Fx.hold_in (by omega) (by omega)]
/-- The sum, exact. -/
def stT (n:Nat) (x k:List Int) (j i:Nat):Int:=sumI (fun q=>stx x j i q*k.getD q 0) n
theorem sumI_congr' {f g:Nat→Int}:∀ n,(∀ q,q < n→f q=g q)→sumI f n=sumI g n
 | 0,_=>rfl
 | n+1,h=>by rw [sumI,sumI,sumI_congr' n fun q hq=>h q (by omega),h n (by omega)]
theorem st_value {n:Nat} {x k:List Int} (j i:Nat) (hx:R16 x) (hk:R16 k) (h1:1≤n) (h2:n≤20):allV [(n:Int)] (lnP n (stX n x j i) (stY n k))=Fx.hold (stT n x k j i):=by
 have hl:=st_lns j i hx hk h1 h2
 have e:lnP n (stX n x j i) (stY n k)=(List.range n).map fun q=>stx x j i q*k.getD q 0:=by
  unfold lnP
  rw [(each_same (isP_line hl.hx hl.h1 hl.h2) (isP_line hl.hk hl.h1 hl.h2)).2.2,hl.hx]
  refine List.map_congr_left fun q hq=>?_
  have hq':=List.mem_range.1 hq
  have e1:(stX n x j i).getD q 0=stx x j i q:=by unfold stX;exact getD_map_range _ _ _ _ hq'
  have e2:(stY n k).getD q 0=k.getD q 0*4294967296:=by unfold stY;exact getD_map_range _ _ _ _ hq'
  rw [e1,e2,(st_prod (stx_in hx j i q) (hk q)).1]
 refine (if_pos (isP_line hl.pl hl.h1 hl.h2)).trans ?_
 rw [e]
 unfold totalI stT
 rw [List.length_map,List.length_range]
 refine congrArg Fx.hold (sumI_congr' n fun q hq=>?_)
 exact getD_map_range _ _ _ _ hq
theorem st_diff (x k:List Int) (j:Nat):∀ n,stT n x k j 1 - stT n x k j 0=if j < n then k.getD j 0*4294967296 else 0
 | 0=>rfl
 | n+1=>by
  have ih:=st_diff x k j n
  have e:∀ i,stT (n+1) x k j i=stT n x k j i+stx x j i n*k.getD n 0:=fun i=>rfl
  rw [e,e]
  have e0:stx x j 0 n=x.getD n 0*4294967296:=by unfold stx;rw [if_neg (by omega),Int.add_zero]
  by_cases h:n=j
  ·subst h
   have e1:stx x n 1 n=x.getD n 0*4294967296+4294967296:=by unfold stx;rw [if_pos ⟨rfl,rfl⟩]
   rw [if_neg (by omega)] at ih
   rw [e0,e1,if_pos (by omega),Int.add_mul]
   generalize x.getD n 0*4294967296*k.getD n 0=A at *
   omega
  ·have e1:stx x j 1 n=x.getD n 0*4294967296:=by unfold stx;rw [if_neg (by omega),Int.add_zero]
   rw [e0,e1]
   generalize x.getD n 0*4294967296*k.getD n 0=A at *
   by_cases hj:j < n
   ·rw [if_pos hj] at ih
    rw [if_pos (by omega)]
    omega
   ·rw [if_neg hj] at ih
    rw [if_neg (by omega)]
    omega
theorem hold_near {v:Int} (h1:-4611686018427387904≤Fx.hold v) (h2:Fx.hold v≤4611686018427387904):Fx.hold v=v:=by
 unfold Fx.hold at *
 split at h1 <;> split at h2 <;> first|(split at h1 <;> split at h2 <;> first|omega|(split <;> first|omega|rfl))|omega
/-- What differs is the slope. -/
theorem st_slope {n:Nat} {x k:List Int} {j:Nat} (hj:j < n) {A B:Int} (eA:Fx.hold (stT n x k j 0)=A) (eB:Fx.hold (stT n x k j 1)=B) (h1:-4611686018427387904≤A∧A≤4611686018427387904) (h2:-4611686018427387904≤B∧B≤4611686018427387904):B - A=sty k j:=by
 have d:=st_diff x k j n
 rw [if_pos hj] at d
 have q1:=hold_near (v:=stT n x k j 0) (by omega) (by omega)
 have q2:=hold_near (v:=stT n x k j 1) (by omega) (by omega)
 unfold sty
 omega
/-- Two slices of the call's own do not share a block. -/
def Ap (u v:Value):Prop:=∀ g,¬ (u.ownBlock=some g∧v.ownBlock=some g)
theorem Ap.symm {u v:Value} (h:Ap u v):Ap v u:=fun g c=>h g ⟨c.2,c.1⟩
theorem OwnK.lt {k:IntKind} {e:TypeId} {W:World} {B g:Nat} {v:Value} {l:List Int} (h:OwnK k e W B v l) (hg:v.ownBlock=some g):g < W.heap.size:=by
 rcases h.2 with ⟨h1,_⟩|⟨q,cap,cur,h1,h2,h3,_⟩
 ·rw [h1] at hg;cases hg
 ·rw [h1] at hg
  cases hg
  rcases Nat.lt_or_ge q W.heap.size with h|h
  ·exact h
  ·rw [Array.getElem?_eq_none h] at h3;cases h3
theorem OwnK.grown {k:IntKind} {e:TypeId} {W W':World} {B:Nat} {u v:Value} {l:List Int} (h:OwnK k e W B v l) (hg:W.grownBy W' u.ownBlock) (hap:Ap u v):OwnK k e W' B v l:=by
 refine ⟨h.1,?_⟩
 rcases h.2 with h1|⟨q,cap,cur,h1,h2,h3,h4⟩
 ·exact .inl h1
 ·have hq:q < W.heap.size:=h.lt (by rw [h1];rfl)
  exact .inr ⟨q,cap,cur,h1,h2,by rw [hg.block q hq (fun c=>hap q ⟨c.symm,by rw [h1];rfl⟩)];exact h3,h4⟩
theorem wpList_append_apart {P:Program} {t e:TypeId} {k:IntKind} {b:Nat} (T:NumT P t e k b) (hb8:b≤8) {ops:Array Oper} {rest:List Oper} {o:Oper} {a:Act} {Q:Exit→Act→World→Prop} {w:World} (hgd:o.guard=none) (s x:Operand)
  (ho:o.op = .call { callee:=.builtin .append,args:=#[s,x],argTypes:=#[t,t] }) (B:Nat) (u:Value) (l0:List Int) (hs:a.eval s=u) (hown:OwnK k e w B u l0)
  (ad:Addr) (X:Int) (c:Nat) (hx:a.eval x = .slice (some ad) 1 c) (hb:Nums k w (.slice (some ad) 1 c) [X]) (hlen:l0.length+1≤1073741824) (hB:B≤w.heap.size) (w0:World) (hB0:Below B w0 w) (v:Value) (lv:List Int) (hv:OwnK k e w B v lv) (hap:Ap u v)
  (h:∀ u' w',Hid (OwnK k e w' B u' (l0++[X])∧OwnK k e w' B v lv∧Ap u' v)→Below B w0 w'→wpList P ops Q rest (a.put o.dst u') w'):wpList P ops Q (o :: rest) a w:=by
 obtain ⟨i0,hi,hz0,hz1,hz2⟩:=info_of T
 have hm:(l0.length+1)*b≤1073741824*8:=Nat.mul_le_mul hlen hb8
 have hc:∀ j u,(vals k [X])[j]?=some u→w.cell? (ad.add j)=some u:=by
  rcases hb with ⟨h1,_⟩|⟨ad',c',e1,hc⟩
  ·cases h1
  ·cases e1
   exact hc
 refine wpList_append_lies _ hgd s x t ho B e i0 (.int k 0) 1 b T.ht hi hz0 hz1 hz2 rfl (by decide) u l0.length _ hs hown ad 1 c (vals k [X]) hx (by simp [vals]) hc (vals_one k [X]) (by omega) (by unfold maxLen;omega) (by omega) hB w.heap.size rfl ?_
 intro g cap w' h1 h2 h3 h4
 refine h _ w' ⟨?_,hv.grown h2 hap,fun q hq=>?_⟩ (Below.grown hB0 h2 hB hown.block)
 ·unfold OwnK vals at *
  simpa using h1
 ·obtain ⟨hq1,hq2⟩:=hq
  cases hq1
  rcases h3 with h3|h3
  ·exact hap _ ⟨h3,hq2⟩
  ·have hlt:g < w.heap.size:=hv.lt hq2
   omega
theorem rng_succ (f:Nat→Int) (k:Nat):(List.range (k+1)).map f=(List.range k).map f++[f k]:=by rw [List.range_succ,List.map_append];rfl
theorem bsteep_walk (w:World) (hT:Hid (Tz w)) (za:Nat→Int) (n c:Nat) (p:Option Addr) (zb:Nat→Int) (n2 c2:Nat) (p2:Option Addr) (at_:Int) (r1:RowN .i16 w p n c za) (r2:RowN .i16 w p2 n2 c2 zb) (hat:-9223372036854775808≤at_∧at_≤9223372036854775807):
  Calls Tryz.prog 8 #[.slice p n c,.slice p2 n2 c2,.int .i64 at_] w fun e w'=>e = .returned (.bool true)∧Below w.heap.size w w':=by
 have HA:Hid (Nums .i16 w (.slice p n c) (nlst n za)∧Nums .i16 w (.slice p2 n2 c2) (nlst n2 zb)):=⟨r1.nums,r2.nums⟩
 have h16:∀ {p_:Option Addr} {n_ c_:Nat} {z_:Nat→Int},RowN .i16 w p_ n_ c_ z_→R16 (nlst n_ z_):=fun {p_ n_ c_ z_} r q=>by
  rcases Nat.lt_or_ge q n_ with hq|hq
  ·have e:=nlst_get n_ z_ q hq
   rw [List.getD_eq_getElem?_getD,e]
   have:=r.wf (z_ q) (List.mem_map.2 ⟨q,List.mem_range.2 hq,rfl⟩)
   simp [Lit.wf,IntKind.min,IntKind.max,IntKind.signed,IntKind.bits] at this
   show -32768≤z_ q∧z_ q≤32767
   omega
  ·rw [List.getD_eq_getElem?_getD,List.getElem?_eq_none (by rw [nlst_len];exact hq)]
   show (-32768:Int)≤0∧(0:Int)≤32767
   omega
 have HI:Hid (R16 (nlst n za)∧R16 (nlst n2 zb)∧(nlst n za).length=n∧(nlst n2 zb).length=n2):=⟨h16 r1,h16 r2,nlst_len _ _,nlst_len _ _⟩
 have hf1:(n:Int)≤9223372036854775807:=by have h1:=r1.1.1;have h2:=r1.1.2.1;omega
 have hf2:(n2:Int)≤9223372036854775807:=by have h1:=r2.1.1;have h2:=r2.1.2.1;omega
 obtain ⟨x,ex⟩:∃ x,nlst n za=x:=⟨_,rfl⟩
 obtain ⟨y,ey⟩:∃ y,nlst n2 zb=y:=⟨_,rfl⟩
 rw [ex,ey] at HA HI
 clear ex ey r1 r2 h16
 haveI:Nonempty World:=⟨w⟩
 go_enter Tryz.func8,Tryz.ntmps8
 go_wp2_with fail
 refine (awake11_any w hT).mono ?_
 rintro e wa ⟨rfl,hBa⟩
 have HB_wa:Hid (Below w.heap.size w wa):=hBa
 clear hBa
 by_cases hn1:n < 1
 ·obtain rfl:n=0:=by omega
  go_wp2
  go_ret
  exact ⟨rfl,HB_wa.out⟩
 have hd1:decide ((n:Int) < 1)=false:=decide_eq_false (by omega)
 by_cases hn2:20 < n
 ·have hd2:decide ((20:Int) < (n:Int))=true:=decide_eq_true (by omega)
  have hd2n:decide (20 < n)=true:=decide_eq_true (by omega)
  go_wp2
  go_ret
  exact ⟨rfl,HB_wa.out⟩
 have hd2:decide ((20:Int) < (n:Int))=false:=decide_eq_false (by omega)
 have hd2n:decide (20 < n)=false:=decide_eq_false (by omega)
 by_cases hn3:n2=n
 case neg=>
  have hd3:((n2:Int) != (n:Int))=true:=by simp;omega
  have hd3n:(n2 != n)=true:=by simp;omega
  go_wp2
  go_ret
  exact ⟨rfl,HB_wa.out⟩
 obtain rfl:=hn3
 by_cases ha0:at_ < 0
 ·have hd4:decide (at_ < 0)=true:=decide_eq_true ha0
  go_wp2
  go_ret
  exact ⟨rfl,HB_wa.out⟩
 have hd4:decide (at_ < 0)=false:=decide_eq_false ha0
 by_cases ha1:(n2:Int)≤at_
 ·have hd5:decide ((n2:Int)≤at_)=true:=decide_eq_true ha1
  go_wp2
  go_ret
  exact ⟨rfl,HB_wa.out⟩
 have hd5:decide ((n2:Int)≤at_)=false:=decide_eq_false ha1
 obtain ⟨j,rfl⟩:∃ j:Nat,at_=(j:Int):=⟨at_.toNat,by omega⟩
 have hj:j < n2:=by omega
 have hj':(j:Int) < (n2:Int):=by omega
 have hn20:(n2:Int)≤20:=by omega
 have hn1':(1:Int)≤(n2:Int):=by omega
 have hd5n:decide (n2≤j)=false:=decide_eq_false (by omega)
 have HL:Hid ((∀ i,Lns n2 (stX n2 x j i) (stY n2 y))∧1≤n2∧n2≤20):=⟨fun i=>st_lns j i HI.out.1 HI.out.2.1 (by omega) (by omega),by omega,by omega⟩
 have HR:Hid (RI [(n2:Int)]):=fun q hq=>by simp at hq;omega
 have HV:Hid (∀ i,allV [(n2:Int)] (lnP n2 (stX n2 x j i) (stY n2 y))=Fx.hold (stT n2 x y j i)):=fun i=>st_value j i HI.out.1 HI.out.2.1 (by omega) (by omega)
 obtain ⟨_,_,_,e4,HX⟩:∃ p_ n_ c_,Value.slice p n2 c = .slice p_ n_ c_∧Hid (∀ q,q < n2→∃ b o,p=some ⟨b,o,none⟩∧w.cell? ⟨b,o+q,none⟩=some (.int .i16 (x.getD q 0))):=⟨_,_,_,rfl,fun q hq=>by
  obtain ⟨p_,c_,e_,hv⟩:=HA.out.1.view
  cases e_
  exact hv q (by rw [HI.out.2.2.1];exact hq)⟩
 obtain ⟨_,_,_,e5,HY⟩:∃ p_ n_ c_,Value.slice p2 n2 c2 = .slice p_ n_ c_∧Hid (∀ q,q < n2→∃ b o,p2=some ⟨b,o,none⟩∧w.cell? ⟨b,o+q,none⟩=some (.int .i16 (y.getD q 0))):=⟨_,_,_,rfl,fun q hq=>by
  obtain ⟨p_,c_,e_,hv⟩:=HA.out.2.view
  cases e_
  exact hv q (by rw [HI.out.2.2.2];exact hq)⟩
 clear e4 e5 hn1 hn2 ha0 ha1 HA
 go_wp2_with fail
 generalize hW0:World.alloc _ _=W0
 obtain ⟨ab,eab⟩:∃ b,wa.heap.size=b:=⟨_,rfl⟩
 have HC0:Hid (W0.heap[ab]?=some (.cells #[.int .i64 0,.int .i64 0] 59 (0,0))∧w.heap.size≤ab):=by
  refine ⟨?_,by rw [← eab];exact HB_wa.out.size⟩
  rw [← hW0,← eab]
  exact heap_alloc_new _ _
 have HB0:Hid (Below w.heap.size w W0):=by show Below _ _ _;rw [← hW0];exact bstep HB_wa.out (up_alloc _ _)
 rw [eab]
 clear hW0 eab
 try simp only [hd1,hd2,hd2n,hd4,hd5,hd5n,Bool.or_self,Bool.or_false,Bool.false_or]
 go_loopg [8,9] 2 (fun gg sl ii wr=>∃ (i:Nat),i≤2∧gg=2 - i∧ii = .int .i64 (i:Int)∧sl = .int .i64 (if i=0 then 0 else sty y j)∧Hid (wr.heap[ab]?=some (.cells #[.int .i64 (if 1≤i then Fx.hold (stT n2 x y j 0) else 0),.int .i64 (if 2≤i then Fx.hold (stT n2 x y j 1) else 0)] 59 (0,0)))∧Hid (Below w.heap.size w wr))
 case atStart=>exact ⟨0,by omega,by omega,by first|rfl|simp,by first|rfl|simp,HC0.out.1,HB0.out⟩
 case round=>
  obtain ⟨i,hi,hgi,rfl,rfl,HC,HBi⟩:=hrel
  obtain ⟨R1,hR1⟩:∃ R1:World,R1=wr:=⟨_,rfl⟩
  subst hR1
  by_cases hin:i < 2
  ·have hi':(i:Int) < 2:=by omega
   obtain ⟨SL,eSL⟩:∃ s,(if i=0 then 0 else sty y j)=s:=⟨_,rfl⟩
   rw [eSL]
   clear eSL
   go_wp2_with fail
   go_loopg [10,11,12] n2 (fun gg u v q wr=>∃ (k:Nat),k≤n2∧gg=n2 - k∧q = .int .i64 (k:Int)∧Hid (OwnK .i64 33 wr R1.heap.size u ((List.range k).map (stx x j i)))∧Hid (OwnK .i64 33 wr R1.heap.size v ((List.range k).map (sty y))∧Ap u v)∧Hid (Below R1.heap.size R1 wr))
   case atStart=>exact ⟨0,by omega,by omega,by first|rfl|simp,OwnK.nil _ _ _ _,⟨OwnK.nil _ _ _ _,fun q hq=>by cases hq.1⟩,Below.refl _ _⟩
   case round=>
    obtain ⟨k,hk,hgk,rfl,HU,HVj,hBk⟩:=hrel
    obtain ⟨R2,hR2⟩:∃ R2:World,R2=wr:=⟨_,rfl⟩
    subst hR2
    have hBw:Below w.heap.size w R2:=bstep HBi.out hBk.out
    by_cases hkn:k < n2
    ·have hk':(k:Int) < (n2:Int):=by omega
     obtain ⟨qx,ox,rfl,hcx⟩:=HX.out k hkn
     obtain ⟨qy,oy,rfl,hcy⟩:=HY.out k hkn
     have hx16:=HI.out.1 k
     have hy16:=HI.out.2.1 k
     obtain ⟨X,eX⟩:∃ X,x.getD k 0=X:=⟨_,rfl⟩
     obtain ⟨Y,eY⟩:∃ Y,y.getD k 0=Y:=⟨_,rfl⟩
     rw [eX] at hcx hx16
     rw [eY] at hcy hy16
     have hcx1:=cell_low hcx hBw
     have ltx:=cell_lt hcx1
     have HCy:Hid (w.cell? ⟨qy,oy+k,none⟩=some (.int .i16 Y)):=hcy
     obtain ⟨XV,eXV⟩:∃ XV,stx x j i k=XV:=⟨_,rfl⟩
     have HXY:Hid (stx x j i k=XV∧sty y k=Y*4294967296):=⟨eXV,by unfold sty;rw [eY]⟩
     have lu:((List.range k).map (stx x j i)).length=k:=by simp
     have lv:((List.range k).map (sty y)).length=k:=by simp
     have H6:Hid (OwnK .i64 33 (R2.alloc (.cells #[.int .i64 XV] 33)) R1.heap.size u10 ((List.range k).map (stx x j i))):=HU.out.up (up_alloc R2 _)
     have H6v:Hid (OwnK .i64 33 (R2.alloc (.cells #[.int .i64 XV] 33)) R1.heap.size u11 ((List.range k).map (sty y))):=HVj.out.1.up (up_alloc R2 _)
     have H6n:Hid (Nums .i64 (R2.alloc (.cells #[.int .i64 XV] 33)) (.slice (some ⟨R2.heap.size,0,none⟩) 1 1) [XV]):=nums_lit (k:=.i64) R2 [XV] 1 (0,0) rfl
     have H6b:Hid (Below R1.heap.size R1 (R2.alloc (.cells #[.int .i64 XV] 33))):=blit hBk.out _
     have HLn:Hid (((List.range k).map (stx x j i)).length+1≤1073741824∧((List.range k).map (sty y)).length+1≤1073741824):=⟨by rw [lu];omega,by rw [lv];omega⟩
     have hcase:(i=1∧k=j∧XV=X*4294967296+4294967296)∨(¬ (i=1∧k=j)∧XV=X*4294967296):=by
      rw [← eXV]
      unfold stx
      rw [eX]
      by_cases hc:i=1∧k=j
      ·rw [if_pos hc];exact .inl ⟨hc.1,hc.2,rfl⟩
      ·rw [if_neg hc];exact .inr ⟨hc,by omega⟩
     clear eX eY eXV hBw lu lv hcx hcy
     rcases hcase with ⟨h1_,h2_,h3_⟩|⟨hc,h3_⟩
     ·have hi1i:((i:Int)==1)=true:=by simp;omega
      have hi1n:(i==1)=true:=by simp;omega
      have hkj:((k:Int)==(j:Int))=true:=by simp;omega
      have hkjn:(k==j)=true:=by simp;omega
      subst h3_
      clear h1_ h2_
      go_wp2_with (first|(at_builtin;refine wpList_append_apart fixT (by decide) rfl (.tmp 85) (.tmp 92) rfl R1.heap.size _ _ rfl H7.out _ (Y*4294967296) 1 rfl H7n.out HLn.out.2 H7b.out.size R1 H7b.out _ _ H7v.out H4.out.2.2.symm ?_;intro v' w5 H5 B5)|(at_builtin;refine wpList_append_apart fixT (by decide) rfl (.tmp 81) (.tmp 83) rfl R1.heap.size _ _ rfl H6.out _ (X*4294967296+4294967296) 1 rfl H6n.out HLn.out.1 H6b.out.size R1 H6b.out _ _ H6v.out HVj.out.2 ?_;intro u' w4 H4 B4;have uy:=cell_low HCy.out (bstep HBi.out B4);have uy9:=cell_lt uy;have H7:Hid (OwnK .i64 33 (w4.alloc (.cells #[.int .i64 (Y*4294967296)] 33)) R1.heap.size u11 ((List.range k).map (sty y))):=H4.out.2.1.up (up_alloc w4 _);have H7v:Hid (OwnK .i64 33 (w4.alloc (.cells #[.int .i64 (Y*4294967296)] 33)) R1.heap.size u' ((List.range k).map (stx x j i)++[(X*4294967296+4294967296)])):=H4.out.1.up (up_alloc w4 _);have H7n:Hid (Nums .i64 (w4.alloc (.cells #[.int .i64 (Y*4294967296)] 33)) (.slice (some ⟨w4.heap.size,0,none⟩) 1 1) [Y*4294967296]):=nums_lit (k:=.i64) w4 [Y*4294967296] 1 (0,0) rfl;have H7b:Hid (Below R1.heap.size R1 (w4.alloc (.cells #[.int .i64 (Y*4294967296)] 33))):=blit B4 _))
      clear hcx1 ltx
      have H8:Hid (OwnK .i64 33 w5 R1.heap.size u' ((List.range (k+1)).map (stx x j i))):=by
       show OwnK _ _ _ _ _ _
       rw [rng_succ,HXY.out.1]
       exact H5.out.2.1
      have H9:Hid (OwnK .i64 33 w5 R1.heap.size v' ((List.range (k+1)).map (sty y))∧Ap u' v'):=by
       refine ⟨?_,H5.out.2.2.symm⟩
       rw [rng_succ,HXY.out.2]
       exact H5.out.1
      go_wp2
      go_roundg (n2 - (k+1))
      case measure=>omega
      case rel=>exact ⟨k+1,by omega,rfl,by first|rfl|simp,H8,H9,B5⟩
     ·subst h3_
      by_cases hi1:i=1
      ·have hi1i:((i:Int)==1)=true:=by simp;omega
       have hi1n:(i==1)=true:=by simp;omega
       have hkj:((k:Int)==(j:Int))=false:=by simp;omega
       have hkjn:(k==j)=false:=by simp;omega
       clear hc hi1
       go_wp2_with (first|(at_builtin;refine wpList_append_apart fixT (by decide) rfl (.tmp 85) (.tmp 92) rfl R1.heap.size _ _ rfl H7.out _ (Y*4294967296) 1 rfl H7n.out HLn.out.2 H7b.out.size R1 H7b.out _ _ H7v.out H4.out.2.2.symm ?_;intro v' w5 H5 B5)|(at_builtin;refine wpList_append_apart fixT (by decide) rfl (.tmp 81) (.tmp 83) rfl R1.heap.size _ _ rfl H6.out _ (X*4294967296) 1 rfl H6n.out HLn.out.1 H6b.out.size R1 H6b.out _ _ H6v.out HVj.out.2 ?_;intro u' w4 H4 B4;have uy:=cell_low HCy.out (bstep HBi.out B4);have uy9:=cell_lt uy;have H7:Hid (OwnK .i64 33 (w4.alloc (.cells #[.int .i64 (Y*4294967296)] 33)) R1.heap.size u11 ((List.range k).map (sty y))):=H4.out.2.1.up (up_alloc w4 _);have H7v:Hid (OwnK .i64 33 (w4.alloc (.cells #[.int .i64 (Y*4294967296)] 33)) R1.heap.size u' ((List.range k).map (stx x j i)++[(X*4294967296)])):=H4.out.1.up (up_alloc w4 _);have H7n:Hid (Nums .i64 (w4.alloc (.cells #[.int .i64 (Y*4294967296)] 33)) (.slice (some ⟨w4.heap.size,0,none⟩) 1 1) [Y*4294967296]):=nums_lit (k:=.i64) w4 [Y*4294967296] 1 (0,0) rfl;have H7b:Hid (Below R1.heap.size R1 (w4.alloc (.cells #[.int .i64 (Y*4294967296)] 33))):=blit B4 _))
       clear hcx1 ltx
       have H8:Hid (OwnK .i64 33 w5 R1.heap.size u' ((List.range (k+1)).map (stx x j i))):=by
        show OwnK _ _ _ _ _ _
        rw [rng_succ,HXY.out.1]
        exact H5.out.2.1
       have H9:Hid (OwnK .i64 33 w5 R1.heap.size v' ((List.range (k+1)).map (sty y))∧Ap u' v'):=by
        refine ⟨?_,H5.out.2.2.symm⟩
        rw [rng_succ,HXY.out.2]
        exact H5.out.1
       go_wp2
       go_roundg (n2 - (k+1))
       case measure=>omega
       case rel=>exact ⟨k+1,by omega,rfl,by first|rfl|simp,H8,H9,B5⟩
      ·have hi1i:((i:Int)==1)=false:=by simp;omega
       have hi1n:(i==1)=false:=by simp;omega
       clear hc hi1
       go_wp2_with (first|(at_builtin;refine wpList_append_apart fixT (by decide) rfl (.tmp 85) (.tmp 92) rfl R1.heap.size _ _ rfl H7.out _ (Y*4294967296) 1 rfl H7n.out HLn.out.2 H7b.out.size R1 H7b.out _ _ H7v.out H4.out.2.2.symm ?_;intro v' w5 H5 B5)|(at_builtin;refine wpList_append_apart fixT (by decide) rfl (.tmp 81) (.tmp 83) rfl R1.heap.size _ _ rfl H6.out _ (X*4294967296) 1 rfl H6n.out HLn.out.1 H6b.out.size R1 H6b.out _ _ H6v.out HVj.out.2 ?_;intro u' w4 H4 B4;have uy:=cell_low HCy.out (bstep HBi.out B4);have uy9:=cell_lt uy;have H7:Hid (OwnK .i64 33 (w4.alloc (.cells #[.int .i64 (Y*4294967296)] 33)) R1.heap.size u11 ((List.range k).map (sty y))):=H4.out.2.1.up (up_alloc w4 _);have H7v:Hid (OwnK .i64 33 (w4.alloc (.cells #[.int .i64 (Y*4294967296)] 33)) R1.heap.size u' ((List.range k).map (stx x j i)++[(X*4294967296)])):=H4.out.1.up (up_alloc w4 _);have H7n:Hid (Nums .i64 (w4.alloc (.cells #[.int .i64 (Y*4294967296)] 33)) (.slice (some ⟨w4.heap.size,0,none⟩) 1 1) [Y*4294967296]):=nums_lit (k:=.i64) w4 [Y*4294967296] 1 (0,0) rfl;have H7b:Hid (Below R1.heap.size R1 (w4.alloc (.cells #[.int .i64 (Y*4294967296)] 33))):=blit B4 _))
       clear hcx1 ltx
       have H8:Hid (OwnK .i64 33 w5 R1.heap.size u' ((List.range (k+1)).map (stx x j i))):=by
        show OwnK _ _ _ _ _ _
        rw [rng_succ,HXY.out.1]
        exact H5.out.2.1
       have H9:Hid (OwnK .i64 33 w5 R1.heap.size v' ((List.range (k+1)).map (sty y))∧Ap u' v'):=by
        refine ⟨?_,H5.out.2.2.symm⟩
        rw [rng_succ,HXY.out.2]
        exact H5.out.1
       go_wp2
       go_roundg (n2 - (k+1))
       case measure=>omega
       case rel=>exact ⟨k+1,by omega,rfl,by first|rfl|simp,H8,H9,B5⟩
    ·obtain rfl:k=n2:=by omega
     have HU2:Hid (OwnK .i64 33 R2 R1.heap.size u10 (stX k x j i)∧OwnK .i64 33 R2 R1.heap.size u11 (stY k y)):=⟨HU.out,HVj.out.1⟩
     have HB2:Hid (Below w.heap.size w R2∧Below R1.heap.size R1 R2):=⟨hBw,hBk.out⟩
     obtain ⟨pu,nu,cu,rfl⟩:=HU2.out.1.form_
     obtain ⟨pv,nv,cv,rfl⟩:=HU2.out.2.form_
     obtain rfl:nu=k:=by
      obtain ⟨p_,c_,e_,_⟩:=HU2.out.1.nums.view
      cases e_
      exact (HL.out.1 i).hx
     obtain rfl:nv=nu:=by
      obtain ⟨p_,c_,e_,_⟩:=HU2.out.2.nums.view
      cases e_
      exact (HL.out.1 i).hk
     clear HU HVj hBk hBw hkn hgk hk
     have HN:Hid (Nums .i64 R2 (.slice pu nv cu) (stX nv x j i)∧Nums .i64 R2 (.slice pv nv cv) (stY nv y)):=⟨HU2.out.1.nums,HU2.out.2.nums⟩
     clear HU2
     go_wp2_with fail
     refine (cnew_any R2).mono ?_
     rintro e w1 ⟨tb,rfl,hT1,hB1⟩
     have HT1:Hid (TapC w1 R2.heap.size tb []∧Below w.heap.size w w1∧Below R2.heap.size R2 w1):=⟨hT1,bstep HB2.out.1 hB1,hB1⟩
     clear hT1 hB1
     go_wp2_with fail
     refine (row11_any pu nv cu (stX nv x j i) w1 (HN.out.1.up HT1.out.2.2) (by have:=HL.out.2.2;omega)).mono ?_
     rintro e r2 ⟨g2,rfl,ha,hb,_,_,hB⟩
     go_wp2_with fail
     have cc:=cleaf_any R2.heap.size tb [] NodesG.nil _ _ 1 1 nv cu [(nv:Int)] (stX nv x j i) HR.out (HL.out.1 i).rx r2 (HT1.out.1.up hB) ha hb
     rw [(HL.out.1 i).l1.1,(HL.out.1 i).l1.2.1,(HL.out.1 i).l1.2.2] at cc
     refine cc.mono ?_
     rintro e w2 ⟨rfl,hT',hC',_⟩
     have HT2:Hid (TapC w2 R2.heap.size tb (ln1 nv (stX nv x j i))∧Below w.heap.size w w2∧Below R2.heap.size R2 w2):=⟨hT',(bstep HT1.out.2.1 hB).trans (hC'.mono HB2.out.1.size),(bstep HT1.out.2.2 hB).trans hC'⟩
     clear cc hT' hC' hB ha hb HT1
     go_wp2_with fail
     refine (row11_any pv nv cv (stY nv y) w2 (HN.out.2.up HT2.out.2.2) (by have:=HL.out.2.2;omega)).mono ?_
     rintro e r3 ⟨g3,rfl,ha,hb,_,_,hB⟩
     go_wp2_with fail
     have cc:=cleaf_any R2.heap.size tb (ln1 nv (stX nv x j i)) (HL.out.1 i).g1.1 _ _ 1 1 nv cv [(nv:Int)] (stY nv y) HR.out (HL.out.1 i).rk r3 (HT2.out.1.up hB) ha hb
     rw [(HL.out.1 i).l2.1,(HL.out.1 i).l2.2.1,(HL.out.1 i).l2.2.2] at cc
     refine cc.mono ?_
     rintro e w3 ⟨rfl,hT',hC',_⟩
     have HT3:Hid (TapC w3 R2.heap.size tb (ln2 nv (stX nv x j i) (stY nv y))∧Below w.heap.size w w3∧Below R2.heap.size R2 w3):=⟨hT',(bstep HT2.out.2.1 hB).trans (hC'.mono HB2.out.1.size),(bstep HT2.out.2.2 hB).trans hC'⟩
     clear cc hT' hC' hB ha hb HT2
     go_wp2_with fail
     have cc:=cdo_any R2.heap.size tb (ln2 nv (stX nv x j i) (stY nv y)) (HL.out.1 i).g2.1 4 0 1 0 (by unfold InR;omega) w3 HT3.out.1 (Hid.up_tz hT HT3.out.2.1)
     rw [(HL.out.1 i).l3.1,(HL.out.1 i).l3.2.1,(HL.out.1 i).l3.2.2] at cc
     refine cc.mono ?_
     rintro e w4 ⟨rfl,hT',hC',_⟩
     have HT4:Hid (TapC w4 R2.heap.size tb (ln3 nv (stX nv x j i) (stY nv y))∧Below w.heap.size w w4∧Below R2.heap.size R2 w4):=⟨hT',HT3.out.2.1.trans (hC'.mono HB2.out.1.size),HT3.out.2.2.trans hC'⟩
     clear cc hT' hC' HT3
     go_wp2_with fail
     have cc:=cdo_any R2.heap.size tb (ln3 nv (stX nv x j i) (stY nv y)) (HL.out.1 i).g3.1 9 2 (-1) 0 (by unfold InR;omega) w4 HT4.out.1 (Hid.up_tz hT HT4.out.2.1)
     rw [(HL.out.1 i).l4.1,(HL.out.1 i).l4.2.1,(HL.out.1 i).l4.2.2] at cc
     refine cc.mono ?_
     rintro e w5 ⟨rfl,hT',hC',_⟩
     have HT5:Hid (TapC w5 R2.heap.size tb (ln4 nv (stX nv x j i) (stY nv y))∧Below w.heap.size w w5∧Below R2.heap.size R2 w5):=⟨hT',HT4.out.2.1.trans (hC'.mono HB2.out.1.size),HT4.out.2.2.trans hC'⟩
     clear cc hT' hC' HT4
     go_wp2_with fail
     have cc:=csweep_any R2.heap.size tb (ln4 nv (stX nv x j i) (stY nv y)) (HL.out.1 i).g4.1 (HL.out.1 i).g4.2 (NodesK.of rfl) (by show 4≤512;omega) 3 w5 HT5.out.1 (Hid.up_tz hT HT5.out.2.1)
     rw [(HL.out.1 i).sw.1,(HL.out.1 i).sw.2] at cc
     refine cc.mono ?_
     rintro e w6 ⟨v6,rfl,hO,hB⟩
     obtain ⟨p6,c6,rfl,hc6⟩:=hO.form
     have HO6:Hid (OwnTs w6 w5.heap.size (.slice p6 4 c6) [([(nv:Int)],(stY nv y)),([(nv:Int)],(stX nv x j i)),([(nv:Int)],List.replicate nv 4294967296),([],[4294967296])]):=hO
     have HT6:Hid (TapC w6 R2.heap.size tb (ln4 nv (stX nv x j i) (stY nv y))∧Below w.heap.size w w6∧Below R2.heap.size R2 w6):=⟨HT5.out.1.up hB,bstep HT5.out.2.1 hB,bstep HT5.out.2.2 hB⟩
     simp only [List.length_cons,List.length_nil,Nat.zero_add,Nat.reduceAdd] at hc6 ⊢
     have H65:Hid (R2.heap.size≤w5.heap.size):=HT5.out.2.2.size
     clear cc hO hB HT5
     go_wp2_with fail
     have cc:=cvalue_any R2.heap.size tb (ln4 nv (stX nv x j i) (stY nv y)) (HL.out.1 i).g4.1 3 ⟨9,2,-1,0,[],[allV [(nv:Int)] (lnP nv (stX nv x j i) (stY nv y))]⟩ rfl w6 HT6.out.1
     refine cc.mono ?_
     rintro e w7 ⟨v7,rfl,⟨s7,t7,rfl,hs7,ht7⟩,hB⟩
     obtain ⟨ps7,ns7,cs7,rfl⟩:=hs7.form_
     obtain ⟨g7,c7,rfl,hg7⟩:=ht7.at (by simp)
     obtain ⟨y7,_⟩:=ht7.cell rfl 0 (by simp)
     rw [show ([allV [(nv:Int)] (lnP nv (stX nv x j i) (stY nv y))]:List Int).getD 0 0=allV [(nv:Int)] (lnP nv (stX nv x j i) (stY nv y)) from rfl,HV.out i] at y7
     have hO7:=HO6.out.up hB
     obtain ⟨q6,s0,u0,ep,x00,x01,hs0,hu0⟩:=hO7.at 0 _ rfl
     subst ep
     obtain ⟨ps0,ns0,cs0,rfl⟩:=hs0.form_
     obtain ⟨g0,c0,rfl,hg0⟩:=hu0.at (by rw [(HL.out.1 i).hk];omega)
     obtain ⟨y0,_⟩:=hu0.cell rfl j (by rw [(HL.out.1 i).hk];exact hj)
     have eYj:(stY nv y).getD j 0=sty y j:=by unfold stY;exact getD_map_range _ _ _ _ hj
     rw [eYj] at y0
     rw [(HL.out.1 i).hk] at x01
     have z0:=cell_lt x00
     have z1:=cell_lt y0
     have z7:=cell_lt y7
     have hab:w7.heap[ab]?=some (.cells #[.int .i64 (if 1≤i then Fx.hold (stT nv x y j 0) else 0),.int .i64 (if 2≤i then Fx.hold (stT nv x y j 1) else 0)] 59 (0,0)):=((((HB2.out.2.trans ((HT6.out.2.2.trans (hB.mono HT6.out.2.2.size)).mono HB2.out.2.size)).block _ (heap_lt HC.out))).trans HC.out)
     have HB7:Hid (Below w.heap.size w w7):=bstep HT6.out.2.1 hB
     obtain ⟨YJ,eYJ⟩:∃ v,sty y j=v:=⟨_,rfl⟩
     obtain ⟨HT_,eHT⟩:∃ v,Fx.hold (stT nv x y j i)=v:=⟨_,rfl⟩
     rw [eYJ] at y0
     rw [eHT] at y7
     have HE:Hid (sty y j=YJ∧Fx.hold (stT nv x y j i)=HT_):=⟨eYJ,eHT⟩
     have hg7a:g7≠ab:=by
      have l1:=heap_lt HC.out
      have l2:=HB2.out.2.size
      have l3:=HT6.out.2.2.size
      omega
     have hg0a:g0≠ab:=by
      have l1:=heap_lt HC.out
      have l2:=HB2.out.2.size
      have l3:=H65.out
      omega
     simp only [List.length_cons,List.length_nil,Nat.zero_add]
     clear hg0 H65
     clear cc hs7 ht7 hB hO7 hs0 hu0 eYj HO6 HT6 eYJ eHT hg7 HN
     have kab:=heap_lt hab
     rcases (show i=0∨i=1 by omega) with rfl|rfl
     ·simp only [Nat.not_succ_le_zero,if_false,Nat.le_refl,if_true,Nat.zero_le,Nat.reduceLeDiff] at hab
      obtain ⟨a0_,a1_⟩:=box_cell (i:=0) hab rfl
      obtain ⟨b0_,b1_⟩:=box_cell (i:=1) hab rfl
      have hq6:q6≠ab:=fun e=>by
       have h:=x00
       rw [e] at h
       exact absurd (a0_.symm.trans h) (by simp)
      have HZ:Hid ((w7.setCell ⟨ab,0,none⟩ (.int .i64 HT_)).heap[ab]?=some (.cells #[.int .i64 (Fx.hold (stT nv x y j 0)),.int .i64 0] 59 (0,0))∧Below w.heap.size w (w7.setCell ⟨ab,0,none⟩ (.int .i64 HT_))):=⟨(heap_setat hab).trans (by rw [← HE.out.2];rfl),HB7.out.setCell (p:=⟨ab,0,none⟩) HC0.out.2 _⟩
      clear hab
      go_wp2
      generalize hZ:World.alloc _ _=Z
      have HZ2:Hid (Z.heap[ab]?=some (.cells #[.int .i64 (if 1≤0+1 then Fx.hold (stT nv x y j 0) else 0),.int .i64 (if 2≤0+1 then Fx.hold (stT nv x y j 1) else 0)] 59 (0,0))):=by
       show _=_
       rw [← hZ]
       exact ((up_alloc _ _).block _ (heap_lt HZ.out.1)).trans HZ.out.1
      have HZ3:Hid (Below w.heap.size w Z):=by
       show Below _ _ _
       rw [← hZ]
       exact bstep HZ.out.2 (up_alloc _ _)
      clear hZ HZ
      go_roundg (2 - (0+1))
      case measure=>omega
      case rel=>exact ⟨0+1,by omega,rfl,by first|rfl|simp,by rw [← HE.out.1];rfl,HZ2,HZ3⟩
     ·simp only [Nat.not_succ_le_zero,if_false,Nat.le_refl,if_true,Nat.zero_le,Nat.reduceLeDiff] at hab
      obtain ⟨a0_,a1_⟩:=box_cell (i:=0) hab rfl
      obtain ⟨b0_,b1_⟩:=box_cell (i:=1) hab rfl
      have hq6:q6≠ab:=fun e=>by
       have h:=x00
       rw [e] at h
       exact absurd (a0_.symm.trans h) (by simp)
      have HZ:Hid ((w7.setCell ⟨ab,1,none⟩ (.int .i64 HT_)).heap[ab]?=some (.cells #[.int .i64 (Fx.hold (stT nv x y j 0)),.int .i64 (Fx.hold (stT nv x y j 1))] 59 (0,0))∧Below w.heap.size w (w7.setCell ⟨ab,1,none⟩ (.int .i64 HT_))):=⟨(heap_setat hab).trans (by rw [← HE.out.2];rfl),HB7.out.setCell (p:=⟨ab,1,none⟩) HC0.out.2 _⟩
      clear hab
      go_wp2
      generalize hZ:World.alloc _ _=Z
      have HZ2:Hid (Z.heap[ab]?=some (.cells #[.int .i64 (if 1≤1+1 then Fx.hold (stT nv x y j 0) else 0),.int .i64 (if 2≤1+1 then Fx.hold (stT nv x y j 1) else 0)] 59 (0,0))):=by
       show _=_
       rw [← hZ]
       exact ((up_alloc _ _).block _ (heap_lt HZ.out.1)).trans HZ.out.1
      have HZ3:Hid (Below w.heap.size w Z):=by
       show Below _ _ _
       rw [← hZ]
       exact bstep HZ.out.2 (up_alloc _ _)
      clear hZ HZ
      go_roundg (2 - (1+1))
      case measure=>omega
      case rel=>exact ⟨1+1,by omega,rfl,by first|rfl|simp,by rw [← HE.out.1];rfl,HZ2,HZ3⟩
  ·obtain rfl:i=2:=by omega
   have hC2:=HC.out
   simp only [Nat.reduceLeDiff,if_true,Nat.le_refl] at hC2
   obtain ⟨A0,eA0⟩:∃ v,Fx.hold (stT n2 x y j 0)=v:=⟨_,rfl⟩
   obtain ⟨A1,eA1⟩:∃ v,Fx.hold (stT n2 x y j 1)=v:=⟨_,rfl⟩
   rw [eA0,eA1] at hC2
   obtain ⟨a0_,a1_⟩:=box_cell (i:=0) hC2 rfl
   obtain ⟨b0_,b1_⟩:=box_cell (i:=1) hC2 rfl
   have ka:=cell_lt a0_
   have hA0:-9223372036854775808≤A0∧A0≤9223372036854775807:=by rw [← eA0];exact hold_rng _
   have hA1:-9223372036854775808≤A1∧A1≤9223372036854775807:=by rw [← eA1];exact hold_rng _
   have HS:Hid ((-4611686018427387904≤A0∧A0≤4611686018427387904)→(-4611686018427387904≤A1∧A1≤4611686018427387904)→A1 - A0=sty y j):=fun h1 h2=>st_slope hj eA0 eA1 h1 h2
   have hsy:=sty_in HI.out.2.1 j
   obtain ⟨SS,eSS⟩:∃ v,sty y j=v:=⟨_,rfl⟩
   rw [eSS] at hsy HS
   have e2:(if 2=0 then 0 else sty y j)=SS:=eSS
   rw [e2]
   clear hC2 eA0 eA1 eSS e2 HC
   by_cases c1:4611686018427387904 < A0
   ·have t1:decide (4611686018427387904 < A0)=true:=decide_eq_true c1
    go_wp2
    go_ret
    exact ⟨rfl,HBi.out⟩
   have t1:decide (4611686018427387904 < A0)=false:=decide_eq_false c1
   by_cases c2_:A0 < -4611686018427387904
   ·have t2:decide (A0 < -4611686018427387904)=true:=decide_eq_true c2_
    go_wp2
    go_ret
    exact ⟨rfl,HBi.out⟩
   have t2:decide (A0 < -4611686018427387904)=false:=decide_eq_false c2_
   by_cases c3:4611686018427387904 < A1
   ·have t3:decide (4611686018427387904 < A1)=true:=decide_eq_true c3
    go_wp2
    go_ret
    exact ⟨rfl,HBi.out⟩
   have t3:decide (4611686018427387904 < A1)=false:=decide_eq_false c3
   by_cases c4:A1 < -4611686018427387904
   ·have t4:decide (A1 < -4611686018427387904)=true:=decide_eq_true c4
    go_wp2
    go_ret
    exact ⟨rfl,HBi.out⟩
   have t4:decide (A1 < -4611686018427387904)=false:=decide_eq_false c4
   obtain rfl:A1=A0+SS:=by have:=HS.out ⟨by omega,by omega⟩ ⟨by omega,by omega⟩;omega
   have e9:A0+SS - A0=SS:=by omega
   clear HS
   go_wp2
   go_ret
   exact ⟨rfl,HBi.out⟩
end Go.Proofs.YtaiigfhicaelkaaGreatDoor.Wd
