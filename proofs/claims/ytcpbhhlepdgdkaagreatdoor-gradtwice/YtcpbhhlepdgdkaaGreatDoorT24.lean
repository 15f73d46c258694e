/- The code's play: the steps of a plan, on -/
import Derived.Test.YtcpbhhlepdgdkaaGreatDoorT23
import Derived.Maps.AppendAt
import Derived.Lib.SmallJoins
import Derived.Deep.Slices
import Derived.ChangeSame
set_option linter.unusedVariables false
set_option linter.unusedSimpArgs false
set_option maxHeartbeats 16000000
set_option maxRecDepth 16000
namespace Go.Proofs.YtcpbhhlepdgdkaaGreatDoor.Wd
open Go.RowKit Fx
def spA (sts:List Sp) (i:Nat):Sp:=sts.getD i ⟨1,0,0,0,[],[],false⟩
/-- The first i steps: an error, the nodes, the last node, the parameters' nodes. -/
def pyF (f:Int) (sts:List Sp) (ns:List Nd):Nat->Int×List Nd×Int×List Int
 | 0=>(0,ns,0,[])
 | i+1=>if (pyF f sts ns i).1=0 then (stE f (pyF f sts ns i).2.1 (spA sts i),stN f (pyF f sts ns i).2.1 (spA sts i),stR f (pyF f sts ns i).2.1 (spA sts i),if (spA sts i).par=true then (pyF f sts ns i).2.2.2++[stR f (pyF f sts ns i).2.1 (spA sts i)] else (pyF f sts ns i).2.2.2) else pyF f sts ns i
theorem j_a {P:Program} {t e:TypeId} {s b:Nat} (T:GT P t e s b) (hb:b<=256) (U:0 < s) {ops:Array Oper} {rest:List Oper} {o:Oper} {a:Act} {Q:Exit->Act->World->Prop} {w:World} (R:o.guard=none) (M x:Operand)
  (ho:o.op = .call { callee:=.builtin .append,args:=#[M,x],argTypes:=#[t,t] }) (B:Nat) (v:Value) (n:Nat) (xs:List Value) (hs:a.eval M=v) (L:w.ownsRow B e s v n xs) (g:Nat) (u:List Value) (hx:a.eval x = .slice (some ⟨g,0,none⟩) 1 1)
  (hg:w.heap[g]?=some (.cells u.toArray e (0,0))) (hu:u.length=s) (h1:∀ y∈u,y.oneCell'=true) (hn:n+1<=1073741825) (hB:B<=w.heap.size)
  (h:∀ E J,Hid (J.ownsRow B e s E (n+1) (xs++u))->Hid (w.grownBy J v.ownBlock)->Hid (E.ownBlock=v.ownBlock∨E.ownBlock=some w.heap.size)->wpList P ops Q rest (a.put o.dst E) J):wpList P ops Q (o :: rest) a w:=by
 have H:=T.hi;cases V:P.info? e with
 | none=>rw [V] at H;cases H
 | some i=>
  rw [V] at H;simp only [Option.map_some,Option.some.injEq,Prod.mk.injEq] at H;obtain ⟨I,aa,O⟩:=H;cases D:i.zero with
  | none=>rw [D] at I;cases I
  | some z=>
   rw [D] at I;simp only [Option.map_some,Option.some.injEq] at I;have hm:(n+1)*b<=1073741825*256:=Nat.mul_le_mul hn hb
   exact wpList_append_own_at w R M x t ho B e i z s b T.ht V D aa O I U v n xs hs L ⟨g,0,none⟩ 1 1 u hx (by omega) (fun j y hj=>by
    rw [a_t,Nat.zero_add];unfold World.cell?;simpa [hg] using hj) h1 (by unfold maxLen;omega) (by omega) hB (fun E J h2 h3 _ h5=>h E J h2 h3 h5)
theorem u_a {B n c:Nat} {W W':World} {p:Option Addr} {sts:List Sp} {I:List Value} {Bs m:Nat} (ho:W'.ownsRow Bs 121 7 (.slice p m c) m I) (E:StsC B W sts I) (hm:sts.length=m) (i:Nat) (hi:i < m):
  ∃ q L U O R M J,p=some ⟨q,0,none⟩/\W'.cell? ⟨q,i*7,none⟩=some (.int .i64 (spA sts i).op)/\W'.cell? ⟨q,i*7+1,none⟩=some (.int .i64 (spA sts i).a)/\W'.cell? ⟨q,i*7+2,none⟩=some (.int .i64 (spA sts i).b)/\W'.cell? ⟨q,i*7+3,none⟩=some (.int .i64 (spA sts i).k)/\W'.cell? ⟨q,i*7+4,none⟩=some (.slice L U O)/\W'.cell? ⟨q,i*7+5,none⟩=some (.slice R M J)/\W'.cell? ⟨q,i*7+6,none⟩=some (.bool (spA sts i).par)/\Kept B W (.slice L U O) (spA sts i).D/\Kept B W (.slice R M J) (spA sts i).X:=by
 have V:sts[i]?=some (spA sts i):=by
  unfold spA;rw [List.getD_eq_getElem?_getD,List.getElem?_eq_getElem (by omega)];rfl
 obtain ⟨L,U,O,R,M,J,e,h1,h2⟩:=E.2 i _ V
 have H:∀ j u,((I.drop (i*7)).take 7)[j]?=some u->I[i*7+j]?=some u:=fun j u h=>by
  rw [List.getElem?_take] at h
  split at h
  ·rw [List.getElem?_drop] at h;exact h
  ·cases h
 rw [e] at H;rcases ho.2 with ⟨h0,h1⟩|⟨g,aa,ab,hv,hb,hg,rest⟩
 ·omega
 ·cases hv
  have E:∀ j u,I[j]?=some u->W'.cell? ⟨g,j,none⟩=some u:=fun j u h=>by
   have:=ho.cells (g:=g) rfl j u h;rw [a_t,Nat.zero_add] at this;exact this
  exact ⟨g,L,U,O,R,M,J,rfl,E _ _ (H 0 _ rfl),E _ _ (H 1 _ rfl),E _ _ (H 2 _ rfl),E _ _ (H 3 _ rfl),E _ _ (H 4 _ rfl),E _ _ (H 5 _ rfl),E _ _ (H 6 _ rfl),h1,h2⟩
theorem k_l (f:Int) (sts:List Sp) (ns:List Nd) (i:Nat) (h:(pyF f sts ns i).1≠0):∀ k,pyF f sts ns (i+k)=pyF f sts ns i
 | 0=>rfl
 | k+1=>by
  have e:=k_l f sts ns i h k;show (if (pyF f sts ns (i+k)).1=0 then _ else pyF f sts ns (i+k))=_;rw [e,if_neg h]
theorem j_b (f:Int) (sts:List Sp) (ns:List Nd):∀ i,(pyF f sts ns i).2.2.2.length<=i
 | 0=>by simp [pyF]
 | i+1=>by
  have:=j_b f sts ns i;unfold pyF
  split
  ·dsimp only
   split
   ·rw [List.length_append];simp;omega
   ·omega
  ·omega
theorem NodesG.st {f:Int} {ns:List Nd} {st:Sp} (h:NodesG ns) (D:RI st.X):NodesG (stN f ns st):=by
 unfold stN
 split
 ·exact h.leaf D
 ·exact h.do
/-- The parameters' row, and that no node lies there. -/
structure PrO (w:World) (B tb:Nat) (ps:List Int) (v:Value) (W:World):Prop where
 own:OwnK .i64 3 W w.heap.size v ps
 off:∀ x,v.ownBlock=some x->AvT x W tb
theorem PrO.nil (w:World) (B D:Nat) (W:World):PrO w B D [] (.slice none 0 0) W:=⟨OwnK.nil _ _ _ _,fun x h=>by cases h⟩
theorem PrO.lt {w:World} {B D:Nat} {ps:List Int} {v:Value} {W:World} (h:PrO w B D ps v W):∀ x,v.ownBlock=some x->w.heap.size<=x/\x < W.heap.size:=fun x E=>World.ownsRow.lt h.own x E
theorem PrO.tape {w:World} {B D:Nat} {ps:List Int} {v:Value} {W W':World} (h:PrO w B D ps v W) (H:Only SC W W') (I:Spar2 D W W'):PrO w B D ps v W':=⟨h.own.only H (by decide),fun x E=>I.2 x (h.lt x E).2 (h.off x E)⟩
theorem PrO.up {w:World} {B E:Nat} {ps:List Int} {v:Value} {W W':World} (h:PrO w B E ps v W) (D:Below W.heap.size W W'):PrO w B E ps v W':=⟨h.own.up D,fun x H=>(h.off x H).up D⟩
theorem k_2 {a b:World} (h:a.grownBy b none):Below a.heap.size a b:=⟨h.os,h.tape,h.output,h.size,fun k D=>h.block k D (fun e=>by cases e)⟩
theorem PrO.grow {w:World} {B tb:Nat} {ps:List Int} {ns:List Nd} {v U:Value} {x:Int} {W W':World} (h:PrO w B tb ps v W) (M:TapC W B tb ns) (ho:W'.ownsRow w.heap.size 3 1 U (ps.length+1) (a_4 .i64 ps++[.int .i64 x])) (E:W.grownBy W' v.ownBlock) (H:U.ownBlock=v.ownBlock∨U.ownBlock=some W.heap.size):PrO w B tb (ps++[x]) U W'/\TapC W' B tb ns/\(∀ D,Below B D W->Only SC D W->D.heap.size<=w.heap.size->B<=w.heap.size->Below B D W'/\Only SC D W'):=by
 have L:OwnK .i64 3 W' w.heap.size U (ps++[x]):=by
  unfold OwnK;rw [List.length_append];unfold a_4 at *;rw [List.map_append];exact ho
 have J:∀ D,Below B D W->Only SC D W->D.heap.size<=w.heap.size->B<=w.heap.size->Below B D W'/\Only SC D W':=fun D aa O hz ab=>by
  refine ⟨Below.grown aa E ?_ fun k V=>Nat.le_trans ab (h.lt k V).1,Nat.le_trans O.1 E.size,fun k V hp=>?_⟩
  ·obtain ⟨hb,_,_,hv,_⟩:=M;exact Nat.le_trans hb (Nat.le_of_lt (a_i hv))
  ·rw [E.block k (Nat.lt_of_lt_of_le V O.1) (fun e=>by have:=(h.lt k e.symm).1;omega)];exact O.2 k V hp
 cases hb:v.ownBlock with
 | none=>
  rw [hb] at E H;have hB:=k_2 E;refine ⟨⟨L,fun y I=>?_⟩,M.up hB,J⟩;rcases H with R|R
  ·rw [R] at I;cases I
  ·rw [R] at I;cases I;exact (M.av (Nat.le_refl _)).up hB
 | some r=>
  rw [hb] at E H
  obtain ⟨cs,fz,hr⟩:∃ cs fz,W.heap[r]?=some (.cells cs 3 fz):=by
   rcases h.own.2 with ⟨rfl,_⟩|⟨g,ac,ad,rfl,_,hc,_⟩
   ·cases hb
   ·cases hb;exact ⟨_,_,hc⟩
  refine ⟨⟨L,fun y I=>?_⟩,M.beside E hr (h.off r hb),J⟩;rcases H with R|R
  ·rw [R] at I;cases I;exact (h.off r hb).beside M E hr
  ·rw [R] at I;cases I;exact (M.av (Nat.le_refl _)).beside M E hr
theorem o_S (B J:Nat) (ns:List Nd) (hG:NodesG ns) (sts:List Sp) (aa:∀ i,i < sts.length->SpOk (spA sts i)/\((spA sts i).op≠1->RkC (spA sts i).op)) (ar:sts.length<=200) (aE:ns.length<=512) (q:Option Addr) (m r Bs:Nat) (xs:List Value) (hm:sts.length=m) (w:World) (hT:TapC w B J ns) (aD:Hid (∀ W,Below B w W->Tz W)) (ho:w.ownsRow Bs 121 7 (.slice q m r) m xs) (hc:StsC B w sts xs):
  Calls Tryz.prog 37 #[.pointer (some ⟨J,0,none⟩),.slice q m r] w fun e w'=>∃ v,e = .returned (.tuple #[.int .i64 (if (pyF ns.length sts ns m).1=0 then (pyF ns.length sts ns m).2.2.1 else 0),v,.int .i64 (pyF ns.length sts ns m).1])/\OwnK .i64 3 w' w.heap.size v (if (pyF ns.length sts ns m).1=0 then (pyF ns.length sts ns m).2.2.2 else [])/\TapC w' B J (pyF ns.length sts ns m).2.1/\Below B w w'/\Only SC w w':=by
 haveI:Nonempty World:=⟨w⟩
 have an:=d_G B J ns w hT
 have az:B<=w.heap.size:=by
  obtain ⟨hb,_,_,hv,_⟩:=hT;exact Nat.le_trans hb (Nat.le_of_lt (a_i hv))
 obtain ⟨f,ef⟩:∃ f:Int,(ns.length:Int)=f:=⟨_,rfl⟩
 have hf:0<=f/\f<=1000:=by omega
 rw [ef] at an ⊢;have V:=k_l f sts ns;have ac:=j_b f sts ns;obtain ⟨F,eF⟩:∃ F,pyF f sts ns=F:=⟨_,rfl⟩
 have h0:F 0=(0,ns,0,[]):=by rw [<- eF];rfl
 have hs:∀ i,(F i).1=0->F (i+1)=(stE f (F i).2.1 (spA sts i),stN f (F i).2.1 (spA sts i),stR f (F i).2.1 (spA sts i),if (spA sts i).par=true then (F i).2.2.2++[stR f (F i).2.1 (spA sts i)] else (F i).2.2.2):=fun i h=>by
  rw [<- eF] at h ⊢
  conv=>lhs;unfold pyF
  rw [if_pos h]
 rw [eF] at V ac ⊢;have HF:Hid (F 0=(0,ns,0,[])/\(∀ i,(F i).1=0->F (i+1)=(stE f (F i).2.1 (spA sts i),stN f (F i).2.1 (spA sts i),stR f (F i).2.1 (spA sts i),if (spA sts i).par=true then (F i).2.2.2++[stR f (F i).2.1 (spA sts i)] else (F i).2.2.2))/\(∀ i,(F i).1≠0->∀ k,F (i+k)=F i)/\(∀ i,(F i).2.2.2.length<=i)):=⟨h0,hs,V,ac⟩
 have HK:Hid (B<=w.heap.size/\w.ownsRow Bs 121 7 (.slice q m r) m xs/\StsC B w sts xs/\sts.length=m/\(∀ i,i < m->SpOk (spA sts i)/\((spA sts i).op≠1->RkC (spA sts i).op))):=⟨az,ho,hc,hm,by rw [<- hm];exact aa⟩
 have HT:Hid (TapC w B J ns/\NodesG ns):=⟨hT,hG⟩
 have aI:m<=200:=by omega
 obtain ⟨LR,aj⟩:∃ z,(if (F m).1=0 then (F m).2.2.1 else 0)=z:=⟨_,rfl⟩
 obtain ⟨PR,ao⟩:∃ z,(if (F m).1=0 then (F m).2.2.2 else [])=z:=⟨_,rfl⟩
 rw [aj,ao];have aC:Hid ((if (F m).1=0 then (F m).2.2.1 else 0)=LR/\(if (F m).1=0 then (F m).2.2.2 else [])=PR):=⟨aj,ao⟩
 clear aj ao h0 hs V ac eF ho hc hm aa hT hG ar aE az ef;go_enter Tryz.func37,Tryz.ntmps37;go_wp2_with fail
 refine an.mono ?_;rintro e I ⟨rfl,rfl⟩;clear an;go_wp2_with fail
 go_loopg [8,9,18] m (fun gg u v i wr=>∃ (k:Nat),k<=m/\gg=m - k/\u = .int .i64 (F k).2.2.1/\i = .int .i64 (k:Int)/\Hid ((F k).1=0/\TapC wr B J (F k).2.1/\NodesG (F k).2.1/\PrO I B J (F k).2.2.2 v wr/\Below B I wr/\Only SC I wr))
 case atStart=>
  refine ⟨0,by omega,by omega,by rw [HF.out.1],rfl,?_⟩;show _/\_;rw [HF.out.1];exact ⟨rfl,HT.out.1,HT.out.2,PrO.nil _ _ _ _,Below.refl _ _,Only.refl _ _⟩
 case round=>
  obtain ⟨k,hk,hg,rfl,rfl,L⟩:=hrel;by_cases av:k < m
  ·have aH:(k:Int) < (m:Int):=by omega
   obtain ⟨aa,ap⟩:=HK.out.2.2.2.2 k av;have M:=HF.out.2.1 k L.out.1;obtain ⟨g,s1,n1,c1,s2,n2,c2,rfl,y0,y1,y2,y3,y4,y5,y6,k1,k2⟩:=u_a (n:=0) (a_C HK.out.2.1 L.out.2.2.2.2.2 (by decide)) HK.out.2.2.1 HK.out.2.2.2.1 k av;obtain ⟨st,aq⟩:∃ st,spA sts k=st:=⟨_,rfl⟩
   rw [aq] at y0 y1 y2 y3 y6 k1 k2 M aa ap;have ai:R4 B I wr:=⟨L.out.2.2.2.2.1,L.out.2.2.2.2.2.more (by simp)⟩
   have cL:Hid (∀ W,Below wr.heap.size wr W->Calls Tryz.prog 51 #[.pointer (some ⟨J,0,none⟩),.agg #[.int .i64 st.op,.int .i64 st.a,.int .i64 st.b,.int .i64 st.k,.slice s1 n1 c1,.slice s2 n2 c2,.bool st.par],.int .i64 f] W fun e w'=>e = .returned (.tuple #[.int .i64 (stR f (F k).2.1 st),.int .i64 (stE f (F k).2.1 st)])/\TapC w' B J (stN f (F k).2.1 st)/\Below B W w'/\Only SC W w'/\Spar2 J W w'):=fun W hW=>by
    have hR:R4 B I W:=ai.trans (R4.of (Nat.le_trans HK.out.1 ai.size) hW);exact q_7 B J (F k).2.1 L.out.2.2.1 st aa ap f hf s1 n1 c1 s2 n2 c2 W (L.out.2.1.up hW) (aD.out W hR.bel) (k1 W hR) (k2 W hR)
   have ah:Hid (NodesG (stN f (F k).2.1 st)):=L.out.2.2.1.st aa.rX;obtain ⟨E,eE⟩:∃ E,stE f (F k).2.1 st=E:=⟨_,rfl⟩
   obtain ⟨R,eR⟩:∃ E,stR f (F k).2.1 st=E:=⟨_,rfl⟩
   obtain ⟨NS,eN⟩:∃ E,stN f (F k).2.1 st=E:=⟨_,rfl⟩
   rw [eE,eR,eN] at cL M;rw [eN] at ah;have O:Hid (F (k+1)=(E,NS,R,if st.par=true then (F k).2.2.2++[R] else (F k).2.2.2)):=M;obtain ⟨op,a,b,kk,D,X,U⟩:=st;simp only [] at y0 y1 y2 y3 y6 cL;have aF:=a_g y0;clear aa ap M k1 k2 aq ai eE eR eN hf;go_wp2_with fail
   generalize ae:World.alloc _ _=W2;have ad:Hid (Below wr.heap.size wr W2):=by rw [<- ae];exact a_b wr _
   have e6:W2.cell? ⟨wr.heap.size,6,none⟩=some (.bool U):=by rw [<- ae];simp [go_sem]
   have aB:Hid (∃ cs,W2.heap[wr.heap.size]?=some (.cells cs 121 (0,0))/\cs[6]?=some (.bool U)):=⟨_,by rw [<- ae];exact Array.getElem?_push_size,rfl⟩
   clear ae y0 y1 y2 y3 y4 y5 y6 aF;refine (cL.out W2 ad.out).mono ?_;rintro e w3 ⟨rfl,aA,ax,af,au⟩
   have aL:w3.cell? ⟨wr.heap.size,6,none⟩=some (.bool U):=by
    obtain ⟨cs,h1,h2⟩:=aB.out;have:=af.keep h1 (by decide);unfold World.cell?;simp [this,h2]
   have H:Hid (TapC w3 B J NS/\PrO I B J (F k).2.2.2 u9 w3/\Below B I w3/\Only SC I w3):=⟨aA,(L.out.2.2.2.1.up ad.out).tape af au,L.out.2.2.2.2.1.trans ((ad.out.mono (Nat.le_trans HK.out.1 L.out.2.2.2.2.2.1)).trans ax),L.out.2.2.2.2.2.trans ((Only.of ad.out).trans af)⟩
   clear aA ax af au e6 aB cL;by_cases hE:E=0
   case neg=>
    have aJ:(E != 0)=true:=by simpa using hE
    have HE:Hid (F m=(E,NS,R,if U=true then (F k).2.2.2++[R] else (F k).2.2.2)):=by
     have h4:=HF.out.2.2.1 (k+1) (by rw [O.out];exact hE) (m - (k+1));rw [show k+1+(m - (k+1))=m by omega] at h4;show _=_;rw [h4,O.out]
    have am:Hid (∃ v,Ending.returned (.tuple #[.int .i64 0,.slice none 0 0,.int .i64 E]) = .returned (.tuple #[.int .i64 LR,v,.int .i64 (F m).1])/\OwnK .i64 3 w3 I.heap.size v PR/\TapC w3 B J (F m).2.1/\Below B I w3/\Only SC I w3):=by
     show ∃ _,_;have e1:(F m).1=E:=by rw [HE.out]
     have e2:=aC.out;rw [if_neg (by rw [e1];exact hE),if_neg (by rw [e1];exact hE)] at e2;rw [<- e2.1,<- e2.2,e1];refine ⟨_,rfl,OwnK.nil _ _ _ _,?_,H.out.2.2⟩;rw [HE.out];exact H.out.1
    clear HE H O L;go_wp2;exact bodyPost_ret (v:=.tuple #[.int .i64 0,.slice none 0 0,.int .i64 E]) (by simp [results,Tryz.results37,go_sem]) rfl am.out
   subst hE;cases U with
   | false=>
    have HN:Hid ((F (k+1)).1=0/\TapC w3 B J (F (k+1)).2.1/\NodesG (F (k+1)).2.1/\PrO I B J (F (k+1)).2.2.2 u9 w3/\Below B I w3/\Only SC I w3):=by
     show _/\_;rw [O.out];exact ⟨rfl,H.out.1,ah.out,H.out.2.1,H.out.2.2⟩
    have HL:Hid ((F (k+1)).2.2.1=R):=by show _=_;rw [O.out]
    clear H L O;go_wp2;go_roundg (m - (k+1))
    case measure=>omega
    case rel=>exact ⟨k+1,by omega,rfl,by rw [HL.out],by first|rfl|simp,HN⟩
   | true=>
    obtain ⟨pv,nv,cv,rfl,aw⟩:=H.out.2.1.own.nums.lst;have ak:=aw.out.1;have aK:=HF.out.2.2.2 k;have aG:Hid ((F k).2.2.2.length=nv):=ak;clear aw;have ab:Below w3.heap.size w3 (w3.alloc (.cells #[.int .i64 R] 3)):=a_b w3 _;have ag:Hid (PrO I B J (F k).2.2.2 (.slice pv nv cv) (w3.alloc (.cells #[.int .i64 R] 3))/\TapC (w3.alloc (.cells #[.int .i64 R] 3)) B J NS):=⟨H.out.2.1.up ab,H.out.1.up ab⟩
    have A1:Hid ((w3.alloc (.cells #[.int .i64 R] 3)).ownsRow I.heap.size 3 1 (.slice pv nv cv) nv (a_4 .i64 (F k).2.2.2)):=by
     have:=ag.out.1.own;unfold OwnK at this;rw [ak] at this;exact this
    have A2:Hid ((w3.alloc (.cells #[.int .i64 R] 3)).heap[w3.heap.size]?=some (.cells [Value.int .i64 R].toArray 3 (0,0))):=Array.getElem?_push_size;have A3:Hid (∀ y∈[Value.int .i64 R],y.oneCell'=true):=fun y hy=>by simp at hy;subst hy;rfl
    have A4:Hid (I.heap.size<=(w3.alloc (.cells #[.int .i64 R] 3)).heap.size):=Nat.le_trans H.out.2.2.2.1 ab.size;have A5:Hid (Below B I (w3.alloc (.cells #[.int .i64 R] 3))/\Only SC I (w3.alloc (.cells #[.int .i64 R] 3))):=⟨H.out.2.2.1.trans (ab.mono (Nat.le_trans HK.out.1 H.out.2.2.2.1)),H.out.2.2.2.trans (Only.of ab)⟩
    have ay:nv+1<=1073741825:=by omega
    clear ab H ak;go_wp2_with (at_builtin;refine j_a s_o (by decide) (by decide) rfl (.tmp 34) (.tmp 36) rfl I.heap.size _ _ _ rfl A1.out _ [.int .i64 R] rfl A2.out rfl A3.out ay A4.out ?_;intro v0 w0 H0 O0 B0)
    have HN:Hid ((F (k+1)).1=0/\TapC w0 B J (F (k+1)).2.1/\NodesG (F (k+1)).2.1/\PrO I B J (F (k+1)).2.2.2 v0 w0/\Below B I w0/\Only SC I w0):=by
     show _/\_;rw [O.out];obtain ⟨g1,g2,g3⟩:=ag.out.1.grow (x:=R) ag.out.2 (by rw [aG.out];exact H0.out) O0.out B0.out;exact ⟨rfl,g2,ah.out,g1,g3 I A5.out.1 A5.out.2 (Nat.le_refl _) HK.out.1⟩
    have HL:Hid ((F (k+1)).2.2.1=R):=by show _=_;rw [O.out]
    clear A1 A2 A3 A4 A5 H0 O0 B0 ag O L;go_wp2;go_roundg (m - (k+1))
    case measure=>omega
    case rel=>exact ⟨k+1,by omega,rfl,by rw [HL.out],by first|rfl|simp,HN⟩
  ·obtain rfl:k=m:=by omega
   have am:Hid (∃ v,Ending.returned (.tuple #[.int .i64 (F k).2.2.1,u9,.int .i64 0]) = .returned (.tuple #[.int .i64 LR,v,.int .i64 (F k).1])/\OwnK .i64 3 wr I.heap.size v PR/\TapC wr B J (F k).2.1/\Below B I wr/\Only SC I wr):=by
    show ∃ _,_;have e2:=aC.out;rw [if_pos L.out.1,if_pos L.out.1] at e2;rw [<- e2.1,<- e2.2,L.out.1];exact ⟨_,rfl,L.out.2.2.2.1.own,L.out.2.1,L.out.2.2.2.2⟩
   go_wp2;exact bodyPost_ret (v:=.tuple #[.int .i64 (F k).2.2.1,u9,.int .i64 0]) (by simp [results,Tryz.results37,go_sem]) rfl am.out
theorem j_c {sts:List Sp} {i:Nat} (h:i < sts.length):spA sts i∈sts:=by
 unfold spA;rw [List.getD_eq_getElem?_getD,List.getElem?_eq_getElem h];exact List.getElem_mem h
theorem RI.nil:RI []:=fun y h=>by simp at h
theorem RI.takes {l:List Int} (h:RI l) (n:Nat):RI (l.take n):=fun y D=>h y (List.mem_of_mem_take D)
theorem RI.drops {l:List Int} (h:RI l) (n:Nat):RI (l.drop n):=fun y D=>h y (List.mem_of_mem_drop D)
theorem m_8 {op a b k:Int} (E:1<=op/\op<=14) (D:0<=a/\a<=1000) (hb:0<=b/\b<=1000) (H:0<=k/\k<=1000):SpOk (spD op a b k):=⟨D,hb,H,E,RI.nil,RI.nil⟩
theorem p_B {D X:List Int} {q:Bool} (E:RI D) (H:RI X):SpOk ⟨1,0,0,0,D,X,q⟩:=⟨show (0:Int)<=0/\(0:Int)<=1000 by omega,show (0:Int)<=0/\(0:Int)<=1000 by omega,show (0:Int)<=0/\(0:Int)<=1000 by omega,show (1:Int)<=1/\(1:Int)<=14 by omega,E,H⟩
theorem s_p {l:Ly} {d:List Int} (J:a_R l) (I:InOk d):∀ j,RI (shA (c_w l d) j):=fun j=>by
 have M:=I.prod;have L:0<=d.getD 0 0/\d.getD 0 0<=1024:=by rcases I with ⟨x,rfl,h⟩|⟨x,y,rfl,O,D⟩ <;> simp <;> omega
 unfold c_w;rcases a_L J with ⟨-,k,H,E⟩|⟨-,k,H,E⟩|⟨-,k,H,E⟩|⟨-,k,H,E⟩|⟨-,k,H,E⟩ <;> rw [k]
 ·match j with
  | 0=>intro y D;simp [shA] at D;omega
  | 1=>intro y D;simp [shA] at D;omega
  | j+2=>intro y D;simp [shA] at D
 ·match j with
  | 0=>intro y D;simp [shA] at D;simp at L;omega
  | j+1=>intro y D;simp [shA] at D
 all_goals intro y D;simp [shA] at D
theorem p_C {PP:List (List Int)} {rest:List Int} (D:∀ j,RI (shA PP j)) (H:RI rest):∀ j,(∀ st,st∈(prS PP rest j).1->SpOk st)/\RI (prS PP rest j).2
 | 0=>⟨fun st h=>by simp [prS] at h,H⟩
 | j+1=>by
  obtain ⟨I,E⟩:=p_C D H j;refine ⟨fun st h=>?_,E.drops _⟩;simp only [prS,List.mem_append,List.mem_cons,List.not_mem_nil,or_false] at h;rcases h with h|rfl
  ·exact I st h
  ·exact p_B (D j) (E.takes _)
theorem q_8 {l:Ly} {d:List Int} (J:a_R l) (L:InOk d) {N:Nat} (U:N<=200) {rest:List Int} (O:RI rest) {I D:Int} (hb:0<=I/\I<=300) (V:0<=D/\D<=300):(∀ st,st∈f_U l d N rest I D->SpOk st)/\RI (i_l l d rest)/\k_0 l d N<=N+5:=by
 obtain ⟨R,M⟩:=p_C (s_p J L) O (c_w l d).length;refine ⟨fun st h=>?_,M,?_⟩
 ·unfold f_U at h;rw [List.mem_append] at h;rcases h with h|h
  ·exact R st h
  ·rcases a_L J with ⟨-,k,H,E⟩|⟨-,k,H,E⟩|⟨-,k,H,E⟩|⟨-,k,H,E⟩|⟨-,k,H,E⟩ <;> rw [k] at h
   ·simp only [if_true] at h;unfold n_B at h
    split at h <;> simp only [List.mem_cons,List.not_mem_nil,or_false] at h
    ·rcases h with rfl|rfl|rfl|rfl <;> refine m_8 ?_ ?_ ?_ ?_ <;> omega
    ·rcases h with rfl|rfl|rfl <;> refine m_8 ?_ ?_ ?_ ?_ <;> omega
   all_goals
    simp at h;subst h;refine m_8 ?_ ?_ ?_ ?_ <;> omega
 ·unfold k_0 r_s
  split
  ·split <;> omega
  ·split <;> omega
theorem m_9 {d:List Int} {ls:List Ly} {S:List (List Int)} {P X:List Int} (E:NetOk d ls S) (D:ls.length<=16) (I:RI d) (J:RI P) (L:RI X):∀ i,i<=ls.length->(∀ st,st∈(plF d ls S P X i).1->SpOk st)/\RI (plF d ls S P X i).2.1/\(0<=(plF d ls S P X i).2.2.1/\(plF d ls S P X i).2.2.1<=300)/\0<=(plF d ls S P X i).2.2.2/\(plF d ls S P X i).2.2.2<=300
 | 0,_=>by
  refine ⟨fun st h=>?_,J,by simp [plF],by simp [plF],by simp [plF]⟩;simp only [plF,List.mem_cons,List.not_mem_nil,or_false] at h;subst h;exact p_B I L
 | i+1,hi=>by
  obtain ⟨V,O,U,H⟩:=m_9 E D I J L i (by omega);have hN:=h_e d ls S P X i;obtain ⟨R,M,g3⟩:=q_8 (E.lay i (by omega)) (E.inn i (by omega)) (N:=(plF d ls S P X i).1.length) (by omega) O U H;refine ⟨fun st h=>?_,M,H,?_,?_⟩
  ·simp only [plF,List.mem_append] at h;rcases h with h|h
   ·exact V st h
   ·exact R st h
  ·simp only [plF];omega
  ·simp only [plF];omega
/-- What Run makes: an error, the nodes, the last one, the parameters' nodes. -/
def rnF (d:List Int) (ls:List Ly) (ns:List Nd) (P X:List Int):Int×List Nd×Int×List Int:=
 if nE d ls=0 then
  if (P.length:Int)=c_a ls (nS d ls) ls.length/\(X.length:Int)=a_u d then
   if ns.length+(plF d ls (nS d ls) P X ls.length).1.length<=512 then
    ((pyF ns.length (plF d ls (nS d ls) P X ls.length).1 ns (plF d ls (nS d ls) P X ls.length).1.length).1,(pyF ns.length (plF d ls (nS d ls) P X ls.length).1 ns (plF d ls (nS d ls) P X ls.length).1.length).2.1,(if (pyF ns.length (plF d ls (nS d ls) P X ls.length).1 ns (plF d ls (nS d ls) P X ls.length).1.length).1=0 then (pyF ns.length (plF d ls (nS d ls) P X ls.length).1 ns (plF d ls (nS d ls) P X ls.length).1.length).2.2.1 else 0),(if (pyF ns.length (plF d ls (nS d ls) P X ls.length).1 ns (plF d ls (nS d ls) P X ls.length).1.length).1=0 then (pyF ns.length (plF d ls (nS d ls) P X ls.length).1 ns (plF d ls (nS d ls) P X ls.length).1.length).2.2.2 else []))
   else (2,ns,0,[])
  else (1,ns,0,[])
 else (nE d ls,ns,0,[])
theorem TapC.rn {B H D:Nat} {W W':World} {ns:List Nd} (h:TapC W B D ns) (E:Rn H W W'):TapC W' B D ns:=Tap.only h E.onl (by decide) (by decide) (by decide) (by decide)
theorem InOk.ri {d:List Int} (h:InOk d):RI d:=by
 rcases h with ⟨x,rfl,h⟩|⟨x,y,rfl,H,E⟩ <;> intro z D <;> simp at D <;> omega
theorem q_9 (B tb:Nat) (ns:List Nd) (hG:NodesG ns) (aN:ns.length<=512) (d:List Int) (ls:List Ly) (P X:List Int) (hP:RI P) (hX:RI X) (aI:nE d ls=0->∀ st,st∈(plF d ls (nS d ls) P X ls.length).1->st.op≠1->RkC st.op) (p p2 pp px:Option Addr) (n c n2 c2 np cp nx cx:Nat) (ai:n2<=1073741823) (aM:P.length<=1073741824) (w:World) (hT:TapC w B tb ns) (a2:Hid (∀ W,Below B w W->Tz W)) (aR:Hid (Kz w)) (aA:Kept B w (.slice p n c) d) (ay:∀ W',Rn B w W'->LyR 0 W' p2 n2 ls) (hp:Kept B w (.slice pp np cp) P) (aS:np<=cp) (hx:Kept B w (.slice px nx cx) X):
  Calls Tryz.prog 23 #[.pointer (some ⟨tb,0,none⟩),.agg #[.slice p n c,.slice p2 n2 c2],.slice pp np cp,.slice px nx cx] w fun e w'=>∃ v,e = .returned (.tuple #[.int .i64 (rnF d ls ns P X).2.2.1,v,.int .i64 (rnF d ls ns P X).1])/\OwnK .i64 3 w' w.heap.size v (rnF d ls ns P X).2.2.2/\TapC w' B tb (rnF d ls ns P X).2.1/\Below B w w':=by
 haveI:Nonempty World:=⟨w⟩
 have aW:B<=w.heap.size:=by
  obtain ⟨hb,_,_,hv,_⟩:=hT;exact Nat.le_trans hb (Nat.le_of_lt (a_i hv))
 obtain ⟨H,aH⟩:∃ R,rnF d ls ns P X=R:=⟨_,rfl⟩
 obtain ⟨E,eE⟩:∃ E,nE d ls=E:=⟨_,rfl⟩
 obtain ⟨M,eS⟩:∃ S,nS d ls=S:=⟨_,rfl⟩
 obtain ⟨sl,aC⟩:∃ sl,M.length=sl:=⟨_,rfl⟩
 have aV:P.length=np:=by
  obtain ⟨_,_,_,e,h⟩:=hp.nums.lst;cases e;exact h.out.1
 have aJ:X.length=nx:=by
  obtain ⟨_,_,_,e,h⟩:=hx.nums.lst;cases e;exact h.out.1
 have I:Hid (rnF d ls ns P X=H/\nE d ls=E/\nS d ls=M/\M.length=sl/\P.length=np/\X.length=nx):=⟨aH,eE,eS,aC,aV,aJ⟩
 have cS:Hid (∀ W,Below w.heap.size w W->Calls Tryz.prog 32 #[.agg #[.slice p n c,.slice p2 n2 c2]] W fun e w'=>∃ ps cs,e = .returned (.tuple #[.slice ps sl cs,.int .i64 E])/\OwnS w' W.heap.size (.slice ps sl cs) M/\Below W.heap.size W w'):=fun W hW=>by
  have:=g_w p p2 n c n2 c2 d ls ai W (Hid.up_kz aR hW) (aA.nums.up hW) ((ay w (Rn.refl _ _)).up hW);rw [eE,eS,aC] at this;exact this
 have J:Hid (B<=w.heap.size/\TapC w B tb ns/\NodesG ns/\ns.length<=512/\Kept B w (.slice p n c) d/\(∀ W',Rn B w W'->LyR 0 W' p2 n2 ls)/\Kept B w (.slice pp np cp) P/\np<=cp/\Kept B w (.slice px nx cx) X/\P.length<=1073741824/\RI P/\RI X/\n2<=1073741823):=⟨aW,hT,hG,aN,aA,ay,hp,aS,hx,aM,hP,hX,ai⟩
 have aO:Hid (E=0->∀ st,st∈(plF d ls M P X ls.length).1->st.op≠1->RkC st.op):=by
  show _->_;rw [<- eE,<- eS];exact aI
 rw [aH];clear aH eE eS aC aV aJ aA ay hp aS hx aM hP hX hT hG aN aI aR aW ai;go_enter Tryz.func23,Tryz.ntmps23;go_wp2_with fail
 generalize ax:World.alloc _ _=W0;have aU:Hid (Below w.heap.size w W0):=by rw [<- ax];exact a_b w _
 obtain ⟨g0,g1⟩:W0.cell? ⟨w.heap.size,0,none⟩=some (.slice p n c)/\W0.cell? ⟨w.heap.size,1,none⟩=some (.slice p2 n2 c2):=by rw [<- ax];simp [go_sem]
 clear ax;refine (cS.out W0 aU.out).mono ?_;rintro e w1 ⟨ps,cs,rfl,ap,ah⟩;have ao:Hid (Below w.heap.size w w1):=a_c aU.out ah;replace g0:=a_h ah g0;replace g1:=a_h ah g1;by_cases h0:E=0
 case neg=>
  have a7:(E != 0)=true:=by simpa using h0
  have V:Hid (∃ v,Ending.returned (.tuple #[.int .i64 0,.slice none 0 0,.int .i64 E]) = .returned (.tuple #[.int .i64 H.2.2.1,v,.int .i64 H.1])/\OwnK .i64 3 w1 w.heap.size v H.2.2.2/\TapC w1 B tb H.2.1/\Below B w w1):=by
   have h5:H=(E,ns,0,[]):=by
    rw [<- I.out.1];unfold rnF;rw [I.out.2.1,if_neg h0]
   show ∃ _,_;rw [h5];exact ⟨_,rfl,OwnK.nil _ _ _ _,J.out.2.1.up ao.out,ao.out.mono J.out.1⟩
  clear ap ah cS I;go_wp2;exact bodyPost_ret (v:=.tuple #[.int .i64 0,.slice none 0 0,.int .i64 E]) (by simp [results,Tryz.results23,go_sem]) rfl V.out
 subst h0;obtain ⟨S,hf,hs,ht⟩:=e_3 I.out.2.1;obtain ⟨_,h4,h5⟩:=k_U hf hs ht;rw [I.out.2.2.1] at h4;subst h4;obtain ⟨p',c',e',aP⟩:=ap.rd;cases e';have L:Hid (NetOk d ls M/\InOk d/\ls.length<=16):=⟨NetOk.of hf hs,((c_j d ls).1 hf).1,by unfold e_Q at ht;simp at ht;omega⟩
 have cc:=c_k p p2 ps n c n2 c2 _ cs d ls M L.out.1 (by have:=J.out.2.2.2.2.2.2.2.2.2.2.2.2;omega) w1 ((J.out.2.2.2.2.2.1 w (Rn.refl _ _)).up ao.out) aP;obtain ⟨ct,az⟩:∃ ct,c_a ls M ls.length=ct:=⟨_,rfl⟩
 rw [az] at cc;have aK:Hid (OwnS w1 W0.heap.size (.slice ps M.length cs) M):=ap;clear ap ah hf hs ht h5 aP cS;go_wp2_with fail
 refine cc.mono ?_;rintro e w2 ⟨rfl,aj⟩;have ad:Hid (Below w.heap.size w w2):=a_c ao.out aj;have av:Hid (OwnS w2 0 (.slice ps M.length cs) M):=(aK.out.up aj).low (Nat.zero_le _);replace g0:=a_h aj g0;replace g1:=a_h aj g1;have am:Hid (c_a ls M ls.length=ct):=az;have kg:=a_g g0;clear aj cc aK az
 have ak:Hid (¬ ((P.length:Int)=ct/\(X.length:Int)=a_u d)->∀ W,Below w.heap.size w W->∃ v,Ending.returned (.tuple #[.int .i64 0,.slice none 0 0,.int .i64 1]) = .returned (.tuple #[.int .i64 H.2.2.1,v,.int .i64 H.1])/\OwnK .i64 3 W w.heap.size v H.2.2.2/\TapC W B tb H.2.1/\Below B w W):=fun a1 W hW=>by
  have h5:H=(1,ns,0,[]):=by
   rw [<- I.out.1];unfold rnF;rw [I.out.2.1,I.out.2.2.1,am.out,if_pos rfl,if_neg a1]
  rw [h5];exact ⟨_,rfl,OwnK.nil _ _ _ _,J.out.2.1.up hW,hW.mono J.out.1⟩
 by_cases af:(np:Int)=ct
 case neg=>
  have aL:((np:Int) != ct)=true:=by simpa using af
  have V:Hid _:=ak.out (fun h=>af (by rw [<- I.out.2.2.2.2.1];exact h.1)) w2 ad.out;clear ak af;go_wp2;exact bodyPost_ret (v:=.tuple #[.int .i64 0,.slice none 0 0,.int .i64 1]) (by simp [results,Tryz.results23,go_sem]) rfl V.out
 have aL:((np:Int) != ct)=false:=by simpa using af
 have cz:=d_m (.slice p n c) d L.out.2.1.smal w2 (J.out.2.2.2.2.1.nums.up ad.out);obtain ⟨pd,aw⟩:∃ x,a_u d=x:=⟨_,rfl⟩
 rw [aw] at cz;have U:Hid (a_u d=pd/\(np:Int)=ct):=⟨aw,af⟩
 clear aw af;go_wp2_with fail
 refine cz.mono ?_;rintro e w3 ⟨rfl,rfl⟩;clear cz;by_cases ac:(nx:Int)=pd
 case neg=>
  have aX:((nx:Int) != pd)=true:=by simpa using ac
  have V:Hid _:=ak.out (fun h=>ac (by rw [<- I.out.2.2.2.2.2,<- U.out.1];exact h.2)) w3 ad.out;clear ak ac;go_wp2;exact bodyPost_ret (v:=.tuple #[.int .i64 0,.slice none 0 0,.int .i64 1]) (by simp [results,Tryz.results23,go_sem]) rfl V.out
 have aX:((nx:Int) != pd)=false:=by simpa using ac
 have aB:Hid ((nx:Int)=pd):=ac;clear ac ak;have ae:Hid (Rn B w w3):=Rn.of J.out.1 ad.out;have aF:=k_1 B d ls M L.out.1 L.out.2.2 P X (by rw [I.out.2.2.2.2.1,am.out];exact U.out.2) J.out.2.2.2.2.2.2.2.2.2.1 p p2 ps pp px n c n2 c2 M.length cs np cp nx cx w3 (Nat.le_trans J.out.1 ad.out.size) (J.out.2.2.2.2.1.up ae.out) (fun W' a3=>J.out.2.2.2.2.2.1 W' (ae.out.trans a3)) av.out rfl (J.out.2.2.2.2.2.2.1.up ae.out) J.out.2.2.2.2.2.2.2.1 (J.out.2.2.2.2.2.2.2.2.1.up ae.out);have ar:=h_e d ls M P X ls.length;have ag:=(m_9 L.out.1 L.out.2.2 L.out.2.1.ri J.out.2.2.2.2.2.2.2.2.2.2.1 J.out.2.2.2.2.2.2.2.2.2.2.2.1 (P:=P) (X:=X) ls.length (Nat.le_refl _)).1;obtain ⟨sts,ab⟩:∃ z,(plF d ls M P X ls.length).1=z:=⟨_,rfl⟩
 rw [ab] at aF ar ag;have O:Hid ((plF d ls M P X ls.length).1=sts/\sts.length<=97/\(∀ st,st∈sts->SpOk st)/\(∀ st,st∈sts->st.op≠1->RkC st.op)):=⟨ab,by have:=L.out.2.2;omega,ag,by have:=aO.out (by trivial);rw [ab] at this;exact this⟩
 clear ar ag ab av;go_wp2_with fail
 refine aF.mono ?_;rintro e w4 ⟨q,m,r,xs,rfl,hm,au,aQ,aE⟩;have HM:Hid (sts.length=m/\w4.ownsRow B 121 7 (.slice q m r) m xs/\StsC B w4 sts xs/\Rn B w w4):=⟨hm,au,aQ,ae.out.trans aE⟩
 have a5:m<=97:=by rw [<- hm];exact O.out.2.1
 have an:Hid (TapC w4 B tb ns):=(J.out.2.1.up ad.out).rn aE;have aG:=d_G B tb ns w4 an.out;obtain ⟨nl,aq⟩:∃ nl,ns.length=nl:=⟨_,rfl⟩
 have a6:nl<=512:=by rw [<- aq];exact J.out.2.2.2.1
 rw [aq] at aG;have a0:Hid (ns.length=nl):=aq;clear aF hm au aQ aE aq g0 g1 kg ae;go_wp2_with fail
 refine aG.mono ?_;rintro e w5 ⟨rfl,rfl⟩;clear aG;by_cases aa:nl+m<=512
 case neg=>
  have aD:(512:Int) < (nl:Int)+(m:Int):=by omega
  have V:Hid (∃ v,Ending.returned (.tuple #[.int .i64 0,.slice none 0 0,.int .i64 2]) = .returned (.tuple #[.int .i64 H.2.2.1,v,.int .i64 H.1])/\OwnK .i64 3 w5 w.heap.size v H.2.2.2/\TapC w5 B tb H.2.1/\Below B w w5):=by
   have h5:H=(2,ns,0,[]):=by
    rw [<- I.out.1];unfold rnF;rw [I.out.2.1,I.out.2.2.1,am.out,if_pos rfl,if_pos ⟨by rw [I.out.2.2.2.2.1];exact U.out.2,by rw [I.out.2.2.2.2.2,U.out.1];exact aB.out⟩,O.out.1,HM.out.1,a0.out,if_neg aa]
   show ∃ _,_;rw [h5];exact ⟨_,rfl,OwnK.nil _ _ _ _,an.out,HM.out.2.2.2.bel⟩
  clear I O HM aa;go_wp2;exact bodyPost_ret (v:=.tuple #[.int .i64 0,.slice none 0 0,.int .i64 2]) (by simp [results,Tryz.results23,go_sem]) rfl V.out
 have aD:¬ (512:Int) < (nl:Int)+(m:Int):=by omega
 have a4:(nl:Int)+(m:Int)<=512:=by omega
 have aY:=o_S B tb ns J.out.2.2.1 sts (fun i hi=>⟨O.out.2.2.1 _ (j_c hi),O.out.2.2.2 _ (j_c hi)⟩) (by have:=O.out.2.1;omega) J.out.2.2.2.1 q m r B xs HM.out.1 w5 an.out (by show ∀ W,_;intro W hW;exact a2.out W (HM.out.2.2.2.bel.trans hW)) HM.out.2.1 HM.out.2.2.1
 have aZ:Hid (H=((pyF ns.length sts ns m).1,(pyF ns.length sts ns m).2.1,(if (pyF ns.length sts ns m).1=0 then (pyF ns.length sts ns m).2.2.1 else 0),(if (pyF ns.length sts ns m).1=0 then (pyF ns.length sts ns m).2.2.2 else []))):=by
  show _=_;rw [<- I.out.1];unfold rnF;rw [I.out.2.1,I.out.2.2.1,am.out,if_pos rfl,if_pos ⟨by rw [I.out.2.2.2.2.1];exact U.out.2,by rw [I.out.2.2.2.2.2,U.out.1];exact aB.out⟩,O.out.1,HM.out.1,if_pos (by rw [a0.out];exact aa)]
 have aT:Calls Tryz.prog 37 #[.pointer (some ⟨tb,0,none⟩),.slice q m r] w5 fun e w'=>∃ v,e = .returned (.tuple #[.int .i64 H.2.2.1,v,.int .i64 H.1])/\OwnK .i64 3 w' w.heap.size v H.2.2.2/\TapC w' B tb H.2.1/\Below B w w':=by
  refine aY.mono ?_;rintro e w' ⟨v,h1,h2,h3,h4,_⟩;rw [aZ.out];exact ⟨v,h1,h2.low HM.out.2.2.2.size,h3,HM.out.2.2.2.bel.trans h4⟩
 clear aY aZ O I HM aa J U aB am L an aO;go_wp2_with fail
 refine aT.mono ?_;rintro e w6 ⟨v6,rfl,h6⟩;have HF:Hid _:=h6;clear h6 aT;go_wp2;exact bodyPost_ret (v:=.tuple #[.int .i64 H.2.2.1,v6,.int .i64 H.1]) (by simp [results,Tryz.results23,go_sem]) rfl ⟨_,rfl,HF.out⟩
theorem NodesV.st {f:Int} {ns:List Nd} {st:Sp} (h:NodesV ns):NodesV (stN f ns st):=by
 unfold stN
 split
 ·exact h.leaf
 ·exact h.do
theorem NodesK.st {f:Int} {ns:List Nd} {st:Sp} (h:NodesK ns) (H:InR st.k) (D:st.op≠1->GvC st.op):NodesK (stN f ns st):=by
 unfold stN
 split
 ·exact h.leaf
 ·rename_i E
  exact h.do H (D E)
/-- A step that may be played and swept back. -/
structure SpK (st:Sp):Prop where
 k:InR st.k
 g:st.op≠1->GvC st.op
 x:RI st.X
 p:st.par=true->st.op=1
theorem s_q {sts:List Sp} (h:∀ st,st∈sts->SpK st) (i:Nat):SpK (spA sts i):=by
 by_cases D:i < sts.length
 ·exact h _ (j_c D)
 ·unfold spA;rw [List.getD_eq_getElem?_getD,List.getElem?_eq_none (by omega)];exact ⟨by show InR 0;unfold InR;omega,fun h=>absurd rfl h,RI.nil,fun h=>by cases h⟩
theorem n_a {f:Int} {sts:List Sp} (h:∀ st,st∈sts->SpK st) {ns:List Nd} (D:NodesG ns) (E:NodesV ns) (hK:NodesK ns):∀ i,NodesG (pyF f sts ns i).2.1/\NodesV (pyF f sts ns i).2.1/\NodesK (pyF f sts ns i).2.1
 | 0=>⟨D,E,hK⟩
 | i+1=>by
  obtain ⟨a,b,c⟩:=n_a (f:=f) h D E hK i;have s:=s_q h i;unfold pyF
  split
  ·exact ⟨a.st s.x,b.st,c.st s.k s.g⟩
  ·exact ⟨a,b,c⟩
/-- A step that is laid: one node more, which its Leaf holds. -/
theorem t_t {f:Int} {ns:List Nd} {st:Sp} (h:stE f ns st=0):stR f ns st=(ns.length:Int)/\∃ nd,stN f ns st=ns++[nd]/\(st.op=1->nd.X=st.X):=by
 unfold stE at h;unfold stR stN;by_cases J:st.op=1
 ·rw [if_pos J] at h ⊢;rw [if_pos J];unfold f_N at h;by_cases I:512<=ns.length
  ·rw [if_pos I] at h;cases h
  ·rw [if_neg I] at h;by_cases E:isP st.D st.X
   ·have H:ns.length < 512/\isP st.D st.X:=⟨by omega,E⟩
    unfold f_O c_S;rw [if_pos H,if_pos H];exact ⟨rfl,_,rfl,fun _=>rfl⟩
   ·rw [if_neg E] at h;cases h
 ·rw [if_neg J] at h ⊢;rw [if_neg J];unfold doE at h;by_cases I:512<=ns.length
  ·rw [if_pos I] at h;cases h
  ·rw [if_neg I] at h;by_cases E:okD ns st.op (f+st.a) (f+st.b)
   ·rw [if_pos E] at h;have H:doP ns st.op (f+st.a) (f+st.b) st.k:=⟨⟨by omega,E⟩,h⟩
    unfold doR doN;rw [if_pos H,if_pos H];exact ⟨rfl,_,rfl,fun e=>absurd e J⟩
   ·rw [if_neg E] at h;cases h
theorem h_g {α β:Type} {f g:α->List β}:∀ {l:List α},(∀ x,x∈l->f x=g x)->l.flatMap f=l.flatMap g
 | [],_=>rfl
 | x :: l,h=>by
  rw [List.flatMap_cons,List.flatMap_cons,h x (List.mem_cons_self ..),h_g fun y D=>h y (List.mem_cons_of_mem _ D)]
/-- The numbers that the nodes hold, in a row. -/
def ndX (ns:List Nd) (ps:List Int):List Int:=ps.flatMap fun i=>(ndN ns i).X
def i_m (sts:List Sp):List Int:=(sts.filter (·.par)).flatMap (·.X)
theorem e_6 (a b:List Sp):i_m (a++b)=i_m a++i_m b:=by
 unfold i_m;rw [List.filter_append,List.flatMap_append]
theorem k_m {ns:List Nd} {nd:Nd} {ps:List Int} (h:∀ i,i∈ps->0<=i/\i < (ns.length:Int)):ndX (ns++[nd]) ps=ndX ns ps:=by
 unfold ndX;refine h_g fun i D=>?_;rw [m_E (h i D)]
theorem o_T {sts:List Sp} {i:Nat} (D:i < sts.length):sts.take (i+1)=sts.take i++[spA sts i]:=by
 rw [List.take_add_one,List.getElem?_eq_getElem D];unfold spA;rw [List.getD_eq_getElem?_getD,List.getElem?_eq_getElem D];rfl
theorem i_n {f:Int} {sts:List Sp} (h:∀ st,st∈sts->SpK st) {ns:List Nd}:∀ i,i<=sts.length->(pyF f sts ns i).1=0->(pyF f sts ns i).2.1.length=ns.length+i/\(∀ x,x∈(pyF f sts ns i).2.2.2->0<=x/\x < ((pyF f sts ns i).2.1.length:Int))/\ndX (pyF f sts ns i).2.1 (pyF f sts ns i).2.2.2=i_m (sts.take i)
 | 0,_,_=>⟨rfl,fun x J=>by simp [pyF] at J,rfl⟩
 | i+1,hi,h0=>by
  have s:=s_q h i
  have L:(pyF f sts ns i).1=0:=by
   refine Classical.byContradiction fun M=>?_;rw [pyF,if_neg M] at h0;exact M h0
  obtain ⟨a,b,c⟩:=i_n h i (by omega) L;rw [pyF,if_pos L] at h0 ⊢;dsimp only at h0 ⊢;obtain ⟨r,nd,e,J⟩:=t_t h0;rw [e,r,List.length_append,List.length_singleton,a];rw [o_T (by omega),e_6,<- c];by_cases E:(spA sts i).par=true
  ·rw [if_pos E];refine ⟨by omega,fun x D=>?_,?_⟩
   ·rcases List.mem_append.1 D with I|I
    ·have:=b x I;rw [a] at this;omega
    ·simp at I;omega
   ·have H:i_m [spA sts i]=(spA sts i).X:=by
     unfold i_m;simp [E]
    have O:ndX ((pyF f sts ns i).2.1++[nd]) ((pyF f sts ns i).2.2.2++[((ns.length+i:Nat):Int)])=ndX ((pyF f sts ns i).2.1++[nd]) (pyF f sts ns i).2.2.2++nd.X:=by
     have:=q_I (pyF f sts ns i).2.1 nd;rw [a] at this;unfold ndX;rw [List.flatMap_append];simp only [List.flatMap_cons,List.flatMap_nil,List.append_nil];rw [this]
    rw [O,k_m b,H,J (s.p E)]
  ·rw [if_neg E];refine ⟨by omega,fun x D=>?_,?_⟩
   ·have:=b x D;rw [a] at this;omega
   ·have H:i_m [spA sts i] = []:=by
     unfold i_m;simp [E]
    rw [k_m b,H,List.append_nil]
/-- The parameters, Leaf by Leaf. -/
theorem s_r (PP:List (List Int)) (rest:List Int):∀ j,i_m (prS PP rest j).1++(prS PP rest j).2=rest
 | 0=>rfl
 | j+1=>by
  have D:=s_r PP rest j;show i_m ((prS PP rest j).1++[spL (shA PP j) ((prS PP rest j).2.take (a_u (shA PP j)).toNat)])++(prS PP rest j).2.drop (a_u (shA PP j)).toNat=rest;rw [e_6];have:i_m [spL (shA PP j) ((prS PP rest j).2.take (a_u (shA PP j)).toNat)]=(prS PP rest j).2.take (a_u (shA PP j)).toNat:=by simp [i_m]
  rw [this,List.append_assoc,List.take_append_drop];exact D
theorem s_s (l:Ly) (d:List Int) (N:Nat) (rest:List Int) (E D:Int):i_m (f_U l d N rest E D)++i_l l d rest=rest:=by
 unfold f_U i_l;rw [e_6]
 have:i_m (if a_s l.1=0 then n_B (decide (d.length=2)) (N+2) (N:Int) ((N+1:Nat):Int) D else if a_s l.1=1 then [spD 12 D (N:Int) 1] else if a_s l.1=2 then [spD 13 D 0 l.2.1] else if a_s l.1=3 then [spD 11 D 0 l.2.1] else [spD 2 E D 0]) = []:=by
  unfold n_B
  repeat' split
  all_goals rfl
 rw [this,List.append_nil];exact s_r _ _ _
theorem s_t (d:List Int) (ls:List Ly) (S:List (List Int)) (P X:List Int):∀ i,i_m (plF d ls S P X i).1++(plF d ls S P X i).2.1=P
 | 0=>rfl
 | i+1=>by
  have D:=s_t d ls S P X i;show i_m ((plF d ls S P X i).1++f_U (lyA ls i) (shA S i) (plF d ls S P X i).1.length (plF d ls S P X i).2.1 (plF d ls S P X i).2.2.1 (plF d ls S P X i).2.2.2)++i_l (lyA ls i) (shA S i) (plF d ls S P X i).2.1=P;rw [e_6,List.append_assoc,s_s];exact D
/-- The Ops of a plan. -/
def t_u (op:Int):Prop:=op=1∨op=2∨op=4∨op=8∨op=11∨op=12∨op=13∨op=14
theorem k_n (PP:List (List Int)) (rest:List Int):∀ j st,st∈(prS PP rest j).1->st.op=1
 | 0,st,h=>by simp [prS] at h
 | j+1,st,h=>by
  rcases List.mem_append.1 (show st∈(prS PP rest j).1++[spL (shA PP j) ((prS PP rest j).2.take (a_u (shA PP j)).toNat)] from h) with h|h
  ·exact k_n PP rest j st h
  ·simp at h;subst h;rfl
theorem r_a (l:Ly) (d:List Int) (N:Nat) (rest:List Int) (E D:Int):∀ st,st∈f_U l d N rest E D->t_u st.op/\(st.par=true->st.op=1):=by
 intro st h;unfold f_U at h;rcases List.mem_append.1 h with h|h
 ·exact ⟨.inl (k_n _ _ _ st h),fun _=>k_n _ _ _ st h⟩
 ·unfold n_B at h;unfold t_u
  repeat' split at h
  all_goals
   simp only [List.mem_cons,List.not_mem_nil,or_false] at h
   first
    | (rcases h with h|h|h|h <;> subst h <;> exact ⟨by simp [spD],fun e=>by simp [spD] at e⟩)
    | (rcases h with h|h|h <;> subst h <;> exact ⟨by simp [spD],fun e=>by simp [spD] at e⟩)
    | (subst h;exact ⟨by simp [spD],fun e=>by simp [spD] at e⟩)
theorem n_b (d:List Int) (ls:List Ly) (S:List (List Int)) (P X:List Int):∀ i st,st∈(plF d ls S P X i).1->t_u st.op/\(st.par=true->st.op=1)
 | 0,st,h=>by
  simp [plF] at h;subst h;exact ⟨.inl rfl,fun e=>rfl⟩
 | i+1,st,h=>by
  rcases List.mem_append.1 (show st∈(plF d ls S P X i).1++f_U (lyA ls i) (shA S i) (plF d ls S P X i).1.length (plF d ls S P X i).2.1 (plF d ls S P X i).2.2.1 (plF d ls S P X i).2.2.2 from h) with h|h
  ·exact n_b d ls S P X i st h
  ·exact r_a _ _ _ _ _ _ st h
/-- What Run leaves: nodes that may be swept back; the parameters' own hold just them. -/
structure RnO (R:Int×List Nd×Int×List Int) (P:List Int):Prop where
 g:NodesG R.2.1
 v:NodesV R.2.1
 k:NodesK R.2.1
 l:R.2.1.length<=512
 m:R.2.2.2.length<=512
 p:R.1=0->(∀ x,x∈R.2.2.2->0<=x/\x < (R.2.1.length:Int))/\ndX R.2.1 R.2.2.2=P
theorem n_c {f:Int} {sts:List Sp} {ns:List Nd} (h:ns.length<=512):∀ i,(pyF f sts ns i).2.1.length<=512
 | 0=>h
 | i+1=>by
  have D:=n_c (f:=f) (sts:=sts) h i;unfold pyF
  split
  ·show (stN f _ _).length<=512;unfold stN
   split
   ·exact j_4 _ _ _ D
   ·exact p_s _ _ _ _ _ D
  ·exact D
theorem s_u {d:List Int} {ls:List Ly} {P X:List Int} (hP:RI P) (hX:RI X) (O:nE d ls=0->∀ st,st∈(plF d ls (nS d ls) P X ls.length).1->st.op≠1->GvC st.op):RnO (rnF d ls [] P X) P:=by
 have no:∀ e:Int,e≠0->RnO (e,[],0,[]) P:=fun e he=>⟨fun nd h=>by simp at h,NodesV.nil,NodesK.nil,by simp,by simp,fun h=>absurd h he⟩
 unfold rnF;by_cases H:nE d ls=0
 ·rw [if_pos H];by_cases M:(P.length:Int)=c_a ls (nS d ls) ls.length/\(X.length:Int)=a_u d
  ·rw [if_pos M];by_cases L:([]:List Nd).length+(plF d ls (nS d ls) P X ls.length).1.length<=512
   ·rw [if_pos L];obtain ⟨S,hf,R,J⟩:=e_3 H;obtain ⟨_,I,_⟩:=k_U hf R J;have V:=NetOk.of hf R
    have D:∀ st,st∈(plF d ls (nS d ls) P X ls.length).1->SpK st:=fun st E=>by
     have a:=((m_9 V (by unfold e_Q at J;simp at J;omega) ((c_j d ls).1 hf).1.ri hP hX ls.length (Nat.le_refl _)).1 st (by rw [<- I];exact E))
     refine ⟨?_,O H st E,a.rX,(n_b _ _ _ _ _ _ st E).2⟩;have:=a.rk;unfold InR;omega
    obtain ⟨a,b,c⟩:=n_a (f:=((([]:List Nd).length:Nat):Int)) D (ns:=[]) (fun nd h=>by simp at h) NodesV.nil NodesK.nil (plF d ls (nS d ls) P X ls.length).1.length;refine ⟨a,b,c,n_c (by simp) _,?_,fun e=>?_⟩
    ·show (if _ then _ else _:List Int).length<=512
     split
     ·have:=j_b ((([]:List Nd).length:Nat):Int) (plF d ls (nS d ls) P X ls.length).1 [] (plF d ls (nS d ls) P X ls.length).1.length;simp only [List.length_nil,Nat.zero_add] at L;omega
     ·simp
    have U:(pyF ((([]:List Nd).length:Nat):Int) (plF d ls (nS d ls) P X ls.length).1 [] (plF d ls (nS d ls) P X ls.length).1.length).1=0:=e;obtain ⟨_,q,r⟩:=i_n D (ns:=[]) _ (Nat.le_refl _) U;dsimp only;rw [if_pos U];refine ⟨q,?_⟩;rw [r,List.take_length];have x:=s_t d ls (nS d ls) P X ls.length;have y:=(h_f (P:=P) (X:=X) V (by rw [<- I];exact M.1) ls.length (Nat.le_refl _)).1;rw [<- I] at y;have z:(plF d ls (nS d ls) P X ls.length).2.1 = []:=List.eq_nil_of_length_eq_zero (by omega);rw [z,List.append_nil] at x;exact x
   ·rw [if_neg L];exact no 2 (by decide)
  ·rw [if_neg M];exact no 1 (by decide)
 ·rw [if_neg H];exact no _ H
theorem t_v {ns:List Nd} {s:Nd} (h:lsE ns s=0):lsR ns s=(ns.length:Int)/\∃ nd,lsN ns s=ns++[nd]:=by
 unfold lsE at h;unfold lsR lsN;by_cases J:s.op=1
 ·rw [if_pos J] at h ⊢;rw [if_pos J];unfold f_N at h;by_cases I:512<=ns.length
  ·rw [if_pos I] at h;cases h
  ·rw [if_neg I] at h;by_cases E:isP s.D s.X
   ·have H:ns.length < 512/\isP s.D s.X:=⟨by omega,E⟩
    unfold f_O c_S;rw [if_pos H,if_pos H];exact ⟨rfl,_,rfl⟩
   ·rw [if_neg E] at h;cases h
 ·rw [if_neg J] at h ⊢;rw [if_neg J];unfold doE at h;by_cases I:512<=ns.length
  ·rw [if_pos I] at h;cases h
  ·rw [if_neg I] at h;by_cases E:okD ns s.op s.a s.b
   ·rw [if_pos E] at h;have H:doP ns s.op s.a s.b s.k:=⟨⟨by omega,E⟩,h⟩
    unfold doR doN;rw [if_pos H,if_pos H];exact ⟨rfl,_,rfl⟩
   ·rw [if_neg E] at h;cases h
theorem n_d {sts ns:List Nd}:∀ i,(lyF sts ns i).1=0->∃ D,(lyF sts ns i).2.1=ns++D/\D.length=i/\(0 < i->(lyF sts ns i).2.2+1=((ns.length+i:Nat):Int))
 | 0,_=>⟨[],by simp [lyF],rfl,fun h=>by omega⟩
 | i+1,h=>by
  have E:(lyF sts ns i).1=0:=by
   refine Classical.byContradiction fun H=>?_;rw [lyF,if_neg H] at h;exact H h
  obtain ⟨D,a,b,_⟩:=n_d i E;rw [lyF,if_pos E] at h ⊢;dsimp only at h ⊢;obtain ⟨r,nd,e⟩:=t_v h;refine ⟨D++[nd],?_,by simp [b],fun _=>?_⟩
  ·rw [e,a,List.append_assoc]
  ·rw [r,a,List.length_append,b];omega
theorem s_v {e:Int} {ns sts:List Nd} (I:0 < sts.length) (h:loE e ns sts=0):∃ H,loN e ns sts=ns++H/\H.length=sts.length/\loR e ns sts+1=((ns.length+sts.length:Nat):Int)/\ns.length+sts.length<=512:=by
 unfold loE at h;by_cases D:e=0
 ·rw [if_pos D] at h;unfold lyE at h;by_cases E:lyP ns sts
  ·rw [if_pos E] at h;obtain ⟨H,a,b,c⟩:=n_d _ h;unfold loN loR lyM lyR;rw [if_pos D,if_pos D,if_pos E,if_pos ⟨E,h⟩];exact ⟨H,a,b,c I,E⟩
  ·rw [if_neg E] at h;cases h
 ·rw [if_neg D] at h;exact absurd h D
theorem p_D {sts ns:List Nd} (h:ns.length<=512):∀ i,(lyF sts ns i).2.1.length<=512
 | 0=>h
 | i+1=>by
  have D:=p_D (sts:=sts) h i;unfold lyF
  split
  ·show (lsN _ _).length<=512;unfold lsN
   split
   ·exact j_4 _ _ _ D
   ·exact p_s _ _ _ _ _ D
  ·exact D
theorem s_w {e:Int} {ns sts:List Nd} (h:ns.length<=512):(loN e ns sts).length<=512:=by
 unfold loN lyM
 split
 ·split
  ·exact p_D h _
  ·exact h
 ·exact h
/-- The loss of a kind: its error, its node, the nodes. -/
def gkS (k o cl:Int) (ns:List Nd) (y:List Int):Int×List Nd:=if k=1 then (e_0 ns o y,sqS (ns.length:Int) o y) else if k=2 then (e_0 ns o y,szS (ns.length:Int) o y) else (i_V ns o cl,hgS (ns.length:Int) o (m_D ns o cl) cl)
def gkE (k o cl:Int) (ns:List Nd) (y:List Int):Int:=loE (gkS k o cl ns y).1 ns (gkS k o cl ns y).2
def gkR (k o cl:Int) (ns:List Nd) (y:List Int):Int:=loR (gkS k o cl ns y).1 ns (gkS k o cl ns y).2
def gkN (k o cl:Int) (ns:List Nd) (y:List Int):List Nd:=loN (gkS k o cl ns y).1 ns (gkS k o cl ns y).2
theorem r_b (k o cl:Int) (ns:List Nd) (y:List Int):0 < (gkS k o cl ns y).2.length:=by
 unfold gkS
 split
 ·simp [sqS]
 ·split
  ·simp [szS]
  ·simp [hgS]
theorem t_w {k o cl:Int} {ns:List Nd} {y:List Int} (E:RI y) (D:NodesG ns) (I:NodesV ns) (hK:NodesK ns) (H:ns.length<=512):NodesG (gkN k o cl ns y)/\NodesV (gkN k o cl ns y)/\NodesK (gkN k o cl ns y)/\(gkN k o cl ns y).length<=512:=by
 refine ⟨?_,I.lo,?_,s_w H⟩
 ·unfold gkN gkS
  split
  ·exact D.lo (t_i E)
  ·split
   ·exact D.lo (t_j E)
   ·exact D.lo t_k
 ·unfold gkN gkS
  split
  ·exact hK.lo t_p
  ·split
   ·exact hK.lo t_q
   ·exact hK.lo t_r
/-- The gradients of the parameters' nodes, in a row. -/
def d_L (G:List Ten) (ps:List Int):List Int:=ps.flatMap fun i=>(G.getD i.toNat noT).2
/-- What is told where the loss' node r stands on the tape N: an error, the row, the loss. -/
def gfT (N:List Nd) (r:Int) (ps:List Int):Int×List Int×Int:=if swE N r=0 then (0,d_L (swL N r) ps,(ndN N r).X.getD 0 0) else (swE N r,[],0)
def gfR (k cl:Int) (y:List Int) (R:Int×List Nd×Int×List Int):Int×List Int×Int:=if R.1=0 then if gkE k R.2.2.1 cl R.2.1 y=0 then gfT (gkN k R.2.2.1 cl R.2.1 y) (gkR k R.2.2.1 cl R.2.1 y) R.2.2.2 else (gkE k R.2.2.1 cl R.2.1 y,[],0) else (R.1,[],0)
def gof (d:List Int) (ls:List Ly) (k:Int) (P X y:List Int) (cl:Int):Int×List Int×Int:=if 1<=k/\k<=3 then gfR k cl y (rnF d ls [] P X) else (1,[],0)
/-- A row that was told is as long as the parameters, and Go's. -/
def GfO (n:Nat) (T:Int×List Int×Int):Prop:=(T.1=0->T.2.1.length=n)/\RI T.2.1/\InR T.2.2
theorem GfO.no (n:Nat) {e:Int} (h:e≠0):GfO n (e,[],0):=⟨fun D=>absurd D h,RI.nil,by show InR 0;unfold InR;omega⟩
/-- The gradient of a node ahead of the root. -/
theorem s_x {N:List Nd} {r:Int} (H:NodesG N) (L:NodesV N) (h:swE N r=0):(0<=r/\r < (N.length:Int))/\(ndN N r).X.length=1/\(swL N r).length=r.toNat+1/\∀ i:Int,0<=i->i<=r->b_b ((swL N r).getD i.toNat noT)/\((swL N r).getD i.toNat noT).2.length=(ndN N i).X.length:=by
 have I:=h;unfold swE at h;by_cases D:0<=r/\r < (N.length:Int)
 ·rw [if_pos D] at h;by_cases E:(ndN N r).X.length=1
  ·obtain ⟨q,rfl⟩:=Int.eq_ofNat_of_zero_le D.1;have S:=q_R H L (root:=q) (by omega) E (q+1);unfold swL;rw [if_pos I,Int.toNat_natCast];refine ⟨D,E,S.l,fun i J M=>?_⟩;obtain ⟨j,rfl⟩:=Int.eq_ofNat_of_zero_le J;rw [Int.toNat_natCast];obtain ⟨a,b⟩:=S.g j (by omega);refine ⟨a,?_⟩;have c:=H.at (i:=(j:Int)) (by omega) (by omega)
   rw [a.1.2,b,c.1.2]
  ·rw [if_neg E] at h;cases h
 ·rw [if_neg D] at h;cases h
theorem h_h {N:List Nd} {G:List Ten}:∀ {ps:List Int},(∀ i,i∈ps->(G.getD i.toNat noT).2.length=(ndN N i).X.length)->(d_L G ps).length=(ndX N ps).length
 | [],_=>rfl
 | i :: ps,h=>by
  have D:=h_h (N:=N) (G:=G) (ps:=ps) fun j E=>h j (List.mem_cons_of_mem _ E);unfold d_L ndX at D ⊢;rw [List.flatMap_cons,List.flatMap_cons,List.length_append,List.length_append,D,h i (List.mem_cons_self ..)]
theorem r_c {G:List Ten} {ps:List Int} (h:∀ i,i∈ps->b_b (G.getD i.toNat noT)):RI (d_L G ps):=fun x D=>by
 obtain ⟨i,H,E⟩:=List.mem_flatMap.1 D;exact (h i H).2.2 x E
theorem t_x {N:List Nd} {r:Int} {ps:List Int} (H:NodesG N) (L:NodesV N) {n:Nat} (E:∀ i,i∈ps->0<=i/\i<=r) (M:(ndX N ps).length=n):GfO n (gfT N r ps):=by
 unfold gfT;by_cases h:swE N r=0
 ·rw [if_pos h];obtain ⟨I,O,_,J⟩:=s_x H L h;refine ⟨fun _=>?_,r_c fun i D=>(J i (E i D).1 (E i D).2).1,?_⟩
  ·show (d_L _ ps).length=n;rw [<- M];exact h_h fun i D=>(J i (E i D).1 (E i D).2).2
  ·have:=(H.at I.1 I.2).2.2;show InR ((ndN N r).X.getD 0 0);rw [List.getD_eq_getElem?_getD,List.getElem?_eq_getElem (by omega)];exact this _ (List.getElem_mem _)
 ·rw [if_neg h];exact GfO.no n h
theorem o_U {ns D:List Nd} {ps:List Int} (h:∀ i,i∈ps->0<=i/\i < (ns.length:Int)):ndX (ns++D) ps=ndX ns ps:=by
 unfold ndX;refine h_g fun i E=>?_;rw [m_E (h i E)]
/-- What Run left, and a loss laid on it. -/
structure GkO (N:List Nd) (r:Int) (ps:List Int) (n:Nat):Prop where
 g:NodesG N
 v:NodesV N
 k:NodesK N
 l:N.length<=512
 m:ps.length<=512
 p:∀ i,i∈ps->0<=i/\i<=r
 n:(ndX N ps).length=n
theorem RnO.gk {R:Int×List Nd×Int×List Int} {P:List Int} (h:RnO R P) {k cl:Int} {y:List Int} (J:RI y) (H:R.1=0) (I:gkE k R.2.2.1 cl R.2.1 y=0):GkO (gkN k R.2.2.1 cl R.2.1 y) (gkR k R.2.2.1 cl R.2.1 y) R.2.2.2 P.length:=by
 obtain ⟨a,b,c,d⟩:=t_w (k:=k) (o:=R.2.2.1) (cl:=cl) J h.g h.v h.k h.l;obtain ⟨p,q⟩:=h.p H;have D:=r_b k R.2.2.1 cl R.2.1 y;obtain ⟨U,e,L,O,M⟩:=s_v D I;refine ⟨a,b,c,d,h.m,fun i E=>?_,?_⟩
 ·have:=p i E;show 0<=i/\i<=loR _ _ _;omega
 ·show (ndX (loN _ _ _) _).length=_;rw [e,o_U p,q]
theorem t_y {d:List Int} {ls:List Ly} {k cl:Int} {P X y:List Int} (J:RnO (rnF d ls [] P X) P) (I:RI y):GfO P.length (gof d ls k P X y cl):=by
 unfold gof;by_cases H:1<=k/\k<=3
 ·rw [if_pos H];unfold gfR;by_cases D:(rnF d ls [] P X).1=0
  ·rw [if_pos D];by_cases E:gkE k (rnF d ls [] P X).2.2.1 cl (rnF d ls [] P X).2.1 y=0
   ·rw [if_pos E];have g:=J.gk I D E;exact t_x g.g g.v g.p g.n
   ·rw [if_neg E];exact GfO.no _ E
  ·rw [if_neg D];exact GfO.no _ D
 ·rw [if_neg H];exact GfO.no _ (by decide)
/-- An example: what comes in, what is wanted, the class. -/
abbrev Exm:=List Int×List Int×Int
def h_i (d:List Int) (ls:List Ly) (k:Int) (P:List Int) (e:Exm):Int×List Int×Int:=gof d ls k P e.1 e.2.1 e.2.2
/-- Number by number, as Wides. -/
def e_O (s x:List Int):List Int:=(List.range s.length).map fun i=>wr (s.getD i 0+x.getD i 0)
def exA (l:List Exm) (i:Nat):Exm:=l.getD i ([],[],0)
/-- What the first i examples come to: an error, the sums, the losses' sum. -/
def smK (f:Exm->Int×List Int×Int) (n:Nat) (l:List Exm):Nat->Int×List Int×Int
 | 0=>(0,List.replicate n 0,0)
 | i+1=>if (smK f n l i).1=0 then if (f (exA l i)).1=0 then (0,e_O (smK f n l i).2.1 (f (exA l i)).2.1,wr ((smK f n l i).2.2+(f (exA l i)).2.2)) else ((f (exA l i)).1,[],0) else smK f n l i
theorem h_j (f:Exm->Int×List Int×Int) (n:Nat) (l:List Exm) (i:Nat) (h:(smK f n l i).1≠0):∀ k,smK f n l (i+k)=smK f n l i
 | 0=>rfl
 | k+1=>by
  have:=h_j f n l i h k;rw [<- Nat.add_assoc,smK,this,if_neg h]
theorem n_e {l m:List Exm} {i:Nat} (h:i < l.length):exA (l++m) i=exA l i:=by
 unfold exA;rw [List.getD_eq_getElem?_getD,List.getD_eq_getElem?_getD,List.getElem?_append_left h]
theorem j_d (f:Exm->Int×List Int×Int) (n:Nat) (l m:List Exm):∀ i,i<=l.length->smK f n (l++m) i=smK f n l i
 | 0,_=>rfl
 | i+1,h=>by
  rw [smK,smK,j_d f n l m i (by omega),n_e (by omega)]
def r_t (f:Exm->Int×List Int×Int) (j:Nat) (l:List Exm):Int:=(l.map fun e=>(f e).2.1.getD j 0).sum
def s_R (f:Exm->Int×List Int×Int) (l:List Exm):Int:=(l.map fun e=>(f e).2.2).sum
def i_u (f:Exm->Int×List Int×Int) (n:Nat) (l:List Exm):List Int:=(List.range n).map fun j=>wr (r_t f j l)
theorem j_e (f:Exm->Int×List Int×Int) (n:Nat) (l:List Exm) (i:Nat) (h:i < n):(i_u f n l).getD i 0=wr (r_t f i l):=by
 unfold i_u;rw [List.getD_eq_getElem?_getD,List.getElem?_map,List.getElem?_range h];rfl
theorem h_k (f:Exm->Int×List Int×Int) (n:Nat) (l:List Exm):(i_u f n l).length=n:=by simp [i_u]
theorem h_l (s x:List Int):(e_O s x).length=s.length:=by simp [e_O]
theorem i_o (f:Exm->Int×List Int×Int) (n:Nat) (l m:List Exm):e_O (i_u f n l) (i_u f n m)=i_u f n (l++m):=by
 show (List.range (i_u f n l).length).map _=(List.range n).map _;rw [h_k];refine List.map_congr_left fun i D=>?_;have D:=List.mem_range.1 D;rw [j_e _ _ _ _ D,j_e _ _ _ _ D,j_L,l_N]
 congr 1
 unfold r_t;rw [List.map_append,List.sum_append]
theorem o_V (f:Exm->Int×List Int×Int) (n:Nat) (l:List Exm) (e:Exm):e_O (i_u f n l) (f e).2.1=i_u f n (l++[e]):=by
 show (List.range (i_u f n l).length).map _=(List.range n).map _;rw [h_k];refine List.map_congr_left fun i D=>?_;have D:=List.mem_range.1 D;rw [j_e _ _ _ _ D,j_L]
 congr 1
 unfold r_t;rw [List.map_append,List.sum_append];simp
theorem k_o {l:List Exm} {i:Nat} (D:i < l.length):l.take (i+1)=l.take i++[exA l i]:=by
 rw [List.take_add_one,List.getElem?_eq_getElem D];unfold exA;rw [List.getD_eq_getElem?_getD,List.getElem?_eq_getElem D];rfl
theorem o_W (f:Exm->Int×List Int×Int) (n:Nat):i_u f n []=List.replicate n 0:=by
 unfold i_u;refine List.ext_getElem (by simp) fun i E D=>?_;simp [r_t];rfl
theorem p_E (f:Exm->Int×List Int×Int) (n:Nat) (l:List Exm):∀ i,i<=l.length->(∀ e,e∈l.take i->(f e).1=0)->smK f n l i=(0,i_u f n (l.take i),wr (s_R f (l.take i)))
 | 0,_,_=>by
  rw [smK,List.take_zero,o_W];rfl
 | i+1,hi,h=>by
  rw [k_o (by omega)] at h ⊢;have D:=p_E f n l i (by omega) fun e he=>h e (List.mem_append_left _ he);have E:=h (exA l i) (List.mem_append_right _ (List.mem_singleton_self _));rw [smK,D,if_pos rfl,if_pos E];dsimp only;rw [o_V,j_L];unfold s_R;rw [List.map_append,List.sum_append];simp
theorem n_f (f:Exm->Int×List Int×Int) (n:Nat) (l:List Exm):∀ i,i<=l.length->(smK f n l i).1=0->∀ e,e∈l.take i->(f e).1=0
 | 0,_,_,e,he=>by simp at he
 | i+1,hi,h,e,he=>by
  have E:(smK f n l i).1=0:=by
   refine Classical.byContradiction fun D=>?_;rw [smK,if_neg D] at h;exact D h
  rw [k_o (by omega)] at he;rw [smK,if_pos E] at h;rcases List.mem_append.1 he with he|he
  ·exact n_f f n l i (by omega) E e he
  ·rw [List.mem_singleton] at he;subst he;refine Classical.byContradiction fun D=>?_;rw [if_neg D] at h;exact D h
/-- All examples summed. -/
def e_R (f:Exm->Int×List Int×Int) (n:Nat) (l:List Exm):Int×List Int×Int:=smK f n l l.length
theorem f_V {f:Exm->Int×List Int×Int} {n:Nat} {l:List Exm} (h:∀ e,e∈l->(f e).1=0):e_R f n l=(0,i_u f n l,wr (s_R f l)):=by
 have:=p_E f n l l.length (Nat.le_refl _) (by rw [List.take_length];exact h);rwa [List.take_length] at this
theorem h_m {f:Exm->Int×List Int×Int} {n:Nat} {l:List Exm} (h:(e_R f n l).1=0):∀ e,e∈l->(f e).1=0:=by
 have:=n_f f n l l.length (Nat.le_refl _) h;rwa [List.take_length] at this
/-- In two parts, joined, in either order. -/
theorem k_3 {f:Exm->Int×List Int×Int} {n:Nat} {l m:List Exm} (h:(e_R f n (l++m)).1=0):(e_R f n l).1=0/\(e_R f n m).1=0/\e_O (e_R f n l).2.1 (e_R f n m).2.1=(e_R f n (l++m)).2.1/\e_O (e_R f n m).2.1 (e_R f n l).2.1=(e_R f n (l++m)).2.1/\wr ((e_R f n l).2.2+(e_R f n m).2.2)=(e_R f n (l++m)).2.2:=by
 have a:=h_m h;rw [f_V a,f_V fun e he=>a e (List.mem_append_left _ he),f_V fun e he=>a e (List.mem_append_right _ he)];refine ⟨rfl,rfl,i_o f n l m,?_,?_⟩
 ·rw [i_o f n m l];unfold i_u r_t;refine List.map_congr_left fun i _=>?_;rw [List.map_append,List.map_append,List.sum_append,List.sum_append,Int.add_comm]
 ·dsimp only;rw [j_L,l_N];unfold s_R;rw [List.map_append,List.sum_append]
/-- Where there is an error, it is told of more too. -/
theorem o_X {f:Exm->Int×List Int×Int} {n:Nat} {l m:List Exm} (h:(e_R f n l).1≠0):(e_R f n (l++m)).1=(e_R f n l).1:=by
 unfold e_R at h ⊢;rw [<- j_d f n l m _ (Nat.le_refl _)] at h;rw [List.length_append,h_j f n (l++m) l.length h m.length,j_d f n l m _ (Nat.le_refl _)]
end Go.Proofs.YtcpbhhlepdgdkaaGreatDoor.Wd
namespace Go.Proofs.YtcpbhhlepdgdkaaGreatDoor.Wd
open Go.ChangeShapes Go.WideShapes Go.ChangeAt Go.RowKit Go.Joins Go.Deep
def LayN (W:World) (p:Option Addr) (n c:Nat) (ls:List Ly):Prop:=n<=c/\c<=9223372036854775807/\LyR 0 W p n ls
theorem k_4 {α:Type} {l:List α} (h:l.length=3):∃ a b c,l = [a,b,c]:=by
 match l,h with
 | [a,b,c],_=>exact ⟨a,b,c,rfl⟩
theorem s_y {W:World} {p:Option Addr} {n:Nat} (h:∀ i,i < n->∃ q o s a b,p=some ⟨q,o,none⟩/\W.cell? ⟨q,o+i*3,none⟩=some (.string s)/\W.cell? ⟨q,o+i*3+1,none⟩=some (.int .i64 a)/\W.cell? ⟨q,o+i*3+2,none⟩=some (.int .i64 b)):∃ ls,LyR 0 W p n ls:=by
 have H:∀ i,∃ l:Ly,i < n->∃ q o,p=some ⟨q,o,none⟩/\W.cell? ⟨q,o+i*3,none⟩=some (.string l.1)/\W.cell? ⟨q,o+i*3+1,none⟩=some (.int .i64 l.2.1)/\W.cell? ⟨q,o+i*3+2,none⟩=some (.int .i64 l.2.2):=fun i=>by
  by_cases D:i < n
  ·obtain ⟨q,o,s,a,b,I⟩:=h i D;exact ⟨(s,a,b),fun _=>⟨q,o,I⟩⟩
  ·exact ⟨lyD,fun E=>absurd E D⟩
 obtain ⟨f,hf⟩:=Classical.axiomOfChoice H;refine ⟨(List.range n).map f,by simp,fun i D=>?_⟩
 have e:lyA ((List.range n).map f) i=f i:=by
  unfold lyA;rw [List.getD_eq_getElem?_getD,List.getElem?_map,List.getElem?_range D];rfl
 rw [e];exact hf i D
theorem n_g {H:Type} {enc:TypeId×Value->H} {P:Program} {W:World} {t e:TypeId} {O U f2:Field} {a:Option Addr} {n c:Nat} {d:DataW H} {ps:List MemPlace}
  (ht:P.underlying t=some (.slice e)) (he:P.underlying e=some (.struct #[O,U,f2])) (ce:P.cellsOf e=3)
  (o0:O.offset=0) (o1:U.offset=1) (o2:f2.offset=2) (c0:P.cellsOf O.type=1) (c1:P.cellsOf U.type=1) (c2:P.cellsOf f2.type=1)
  (u0:P.underlying O.type=some .string) (u1:P.underlying U.type=some (.int .i64)) (u2:P.underlying f2.type=some (.int .i64))
  (h:DataW.Trod enc P W 0 (fun _=>true) true t (.slice a n c) d ps):∃ ls,LayN W a n c ls:=by
 obtain ⟨fuel,hf⟩:=h;rcases open_slice ht hf with ⟨I,_⟩|⟨x,aq,ao,m,fu,D,Pl,I,hb,hl,hm,aj,_,hx⟩
 ·simp [Value.cells] at I;obtain ⟨rfl,rfl,rfl⟩:=I;exact ⟨[],Nat.le_refl _,by omega,rfl,fun i hi=>by omega⟩
 ·simp [Value.cells] at I;obtain ⟨rfl,rfl,rfl⟩:=I
  have ai:∃ ls,LyR 0 W (some x) n ls:=s_y fun i hi=>by
   have av:n<=m:=by rw [aj];split <;> omega
   obtain ⟨ap,h1,h2⟩:=hx i (by omega);rw [ce] at h1;obtain ⟨_,ab,E⟩:=World.cells?_some h1;obtain ⟨xs,fk,_,_,_,ag,L⟩:=DataW.trod_struct he h2;obtain ⟨y0,y1,y2,rfl⟩:=k_4 ag;obtain ⟨v0,v1,v2,rfl⟩:=k_4 ab;have t0:=L 0 O rfl;have t1:=L 1 U rfl;have t2:=L 2 f2 rfl;simp [o0,c0] at t0;simp [o1,c1] at t1;simp [o2,c2] at t2;obtain ⟨z0,ae,_,w0⟩:=DataW.trod_string u0 t0;obtain ⟨z1,R,_,w1⟩:=DataW.trod_int u1 t1;obtain ⟨z2,ad,_,w2⟩:=DataW.trod_int u2 t2;simp only [List.cons.injEq,and_true] at ae R ad;subst ae R ad;have aa:=E 0 (by omega);have V:=E 1 (by omega);have ac:=E 2 (by omega);rw [add_add] at aa V ac
   have ex:x=⟨x.block,x.off,none⟩:=by
    obtain ⟨an,af,_⟩:=hx 0 (by omega);rw [ce] at af;obtain ⟨_,M,J⟩:=World.cells?_some af;obtain ⟨ak,au,ar,rfl⟩:=k_4 M;have h0:=J 0 (by omega);rw [add_add,Nat.zero_mul] at h0;have am:x.add (0+0)=x:=by simp [Addr.add]
    rw [am] at h0;exact c_4 (v:=ak) (by simpa using h0)
   have hs:∀ j v,W.cell? (x.add j)=some v->x=⟨x.block,x.off,none⟩/\W.cell? ⟨x.block,x.off+j,none⟩=some v:=fun j v hv=>by
    rw [ex,a_t] at hv;exact ⟨ex,hv⟩
   have n0:=hs _ _ (by simpa using aa);refine ⟨x.block,x.off,z0,z1,z2,by rw [<- n0.1],n0.2,?_,?_⟩
   ·rw [Nat.add_assoc];exact (hs _ _ (by simpa using V)).2
   ·rw [Nat.add_assoc];exact (hs _ _ (by simpa using ac)).2
  obtain ⟨ls,ah⟩:=ai;exact ⟨ls,hl,by unfold maxLen at hm;omega,ah⟩
theorem open_net {H:Type} {enc:TypeId×Value->H} {P:Program} {W:World} {r:Reach} {b0:Nat} {t V U:TypeId} {g0 g1 I L O:Field} {v:Value} {d:DataW H} {ps:List MemPlace}
  (hs:P.underlying t=some (.struct #[g0,g1])) (E:oneCellFields P #[g0,g1]=true) (hC:P.cellsOf t=2)
  (t0:P.underlying g0.type=some (.slice V)) (u0:P.underlying V=some (.int .i64)) (c0:P.cellsOf V=1)
  (t1:P.underlying g1.type=some (.slice U)) (he:P.underlying U=some (.struct #[I,L,O])) (ce:P.cellsOf U=3)
  (o0:I.offset=0) (o1:L.offset=1) (o2:O.offset=2) (k0:P.cellsOf I.type=1) (k1:P.cellsOf L.type=1) (k2:P.cellsOf O.type=1)
  (v0:P.underlying I.type=some .string) (v1:P.underlying L.type=some (.int .i64)) (v2:P.underlying O.type=some (.int .i64))
  (hv:Value.okWide P W r b0 t v) (h:DataW.Trod enc P W 0 (fun _=>true) true t v d ps):
  ∃ (a:Option Addr) (n c:Nat) (z:Nat->Int) (J:Option Addr) (R M:Nat) (ls:List Ly),v = .agg #[.slice a n c,.slice J R M]/\RowN .i64 W a n c z/\LayN W J R M ls:=by
 obtain ⟨x0,x1,y0,y1,m,rfl,_,_,h0,h1⟩:=open_agg2 hs E hC hv h;obtain ⟨a,n,c,ea⟩:=slice_form t0 h0;obtain ⟨J,R,M,D⟩:=slice_form t1 h1;simp only [List.cons.injEq,and_true] at ea D;subst ea D;obtain ⟨z,hz⟩:=open_rowN (d:=y0.1) (ps:=y0.2) t0 u0 c0 ⟨m,h0⟩;obtain ⟨ls,aa⟩:=n_g (d:=y1.1) (ps:=y1.2) t1 he ce o0 o1 o2 k0 k1 k2 v0 v1 v2 ⟨m,h1⟩;exact ⟨a,n,c,z,J,R,M,ls,rfl,hz,aa⟩
end Go.Proofs.YtcpbhhlepdgdkaaGreatDoor.Wd
namespace Go.Proofs.YtcpbhhlepdgdkaaGreatDoor.Wd
open Go.ChangeShapes Go.WideShapes Go.ChangeAt Go.RowKit Go.Joins Go.Deep Fx
/-- Wides that are read. -/
def WdR (W:World) (p:Option Addr) (n:Nat) (l:List Int):Prop:=l.length=n/\(∀ y,y∈l->InW y)/\∀ i,i < n->∃ q o,p=some ⟨q,o,none⟩/\W.cell? ⟨q,o+i*2,none⟩=some (.int .i64 (l.getD i 0 / 18446744073709551616))/\W.cell? ⟨q,o+i*2+1,none⟩=some (.int .u64 (l.getD i 0 % 18446744073709551616))
theorem WdR.up {W W':World} {p:Option Addr} {n:Nat} {l:List Int} (h:WdR W p n l) (D:Below W.heap.size W W'):WdR W' p n l:=⟨h.1,h.2.1,fun i E=>by
 obtain ⟨q,o,e,a,b⟩:=h.2.2 i E;exact ⟨q,o,e,keep D a,keep D b⟩⟩
/-- A row of Go's numbers that is read. -/
def RowI (W:World) (p:Option Addr) (n c:Nat) (l:List Int):Prop:=Nums .i64 W (.slice p n c) l/\RI l/\n<=c
theorem RowN.rowI {W:World} {p:Option Addr} {n c:Nat} {z:Nat->Int} (h:RowN .i64 W p n c z):RowI W p n c (l_i n z):=⟨h.nums,h.riI,h.1.1⟩
theorem RowI.up {W W':World} {p:Option Addr} {n c:Nat} {l:List Int} (h:RowI W p n c l) (D:Below W.heap.size W W'):RowI W' p n c l:=⟨h.1.up D,h.2⟩
/-- An example's three cells. -/
def ExAt (W:World) (q o:Nat) (e:Exm):Prop:=∃ p n c p2 n2 c2,W.cell? ⟨q,o,none⟩=some (.slice p n c)/\W.cell? ⟨q,o+1,none⟩=some (.slice p2 n2 c2)/\W.cell? ⟨q,o+2,none⟩=some (.int .i64 e.2.2)/\InR e.2.2/\RowI W p n c e.1/\RowI W p2 n2 c2 e.2.1
theorem ExAt.up {W W':World} {q o:Nat} {e:Exm} (h:ExAt W q o e) (D:Below W.heap.size W W'):ExAt W' q o e:=by
 obtain ⟨p,n,c,I,H,E,a,b,d,i,r,s⟩:=h;exact ⟨p,n,c,I,H,E,keep D a,keep D b,keep D d,i,r.up D,s.up D⟩
def ExR (W:World) (p:Option Addr) (n:Nat) (l:List Exm):Prop:=l.length=n/\∀ i,i < n->∃ q o,p=some ⟨q,o,none⟩/\ExAt W q (o+i*3) (exA l i)
theorem ExR.up {W W':World} {p:Option Addr} {n:Nat} {l:List Exm} (h:ExR W p n l) (D:Below W.heap.size W W'):ExR W' p n l:=⟨h.1,fun i E=>by
 obtain ⟨q,o,e,a⟩:=h.2 i E;exact ⟨q,o,e,a.up D⟩⟩
def ExsN (W:World) (p:Option Addr) (n c:Nat) (l:List Exm):Prop:=n<=c/\c<=9223372036854775807/\ExR W p n l
theorem s_z {W:World} {p:Option Addr} {n:Nat} (h:∀ i,i < n->∃ q o e,p=some ⟨q,o,none⟩/\ExAt W q (o+i*3) e):∃ l,ExR W p n l:=by
 have H:∀ i,∃ e:Exm,i < n->∃ q o,p=some ⟨q,o,none⟩/\ExAt W q (o+i*3) e:=fun i=>by
  by_cases D:i < n
  ·obtain ⟨q,o,e,I⟩:=h i D;exact ⟨e,fun _=>⟨q,o,I⟩⟩
  ·exact ⟨([],[],0),fun E=>absurd E D⟩
 obtain ⟨f,hf⟩:=Classical.axiomOfChoice H;refine ⟨(List.range n).map f,by simp,fun i D=>?_⟩
 have e:exA ((List.range n).map f) i=f i:=by
  unfold exA;rw [List.getD_eq_getElem?_getD,List.getElem?_map,List.getElem?_range D];rfl
 rw [e];exact hf i D
theorem open_exs {H:Type} {enc:TypeId×Value->H} {P:Program} {W:World} {t e e0 e1:TypeId} {O R f2:Field} {a:Option Addr} {n c:Nat} {d:DataW H} {ps:List MemPlace}
  (ht:P.underlying t=some (.slice e)) (he:P.underlying e=some (.struct #[O,R,f2])) (ce:P.cellsOf e=3)
  (o0:O.offset=0) (o1:R.offset=1) (o2:f2.offset=2) (c0:P.cellsOf O.type=1) (c1:P.cellsOf R.type=1) (c2:P.cellsOf f2.type=1)
  (s0:P.underlying O.type=some (.slice e0)) (r0:P.underlying e0=some (.int .i64)) (k0:P.cellsOf e0=1)
  (s1:P.underlying R.type=some (.slice e1)) (r1:P.underlying e1=some (.int .i64)) (k1:P.cellsOf e1=1)
  (u2:P.underlying f2.type=some (.int .i64))
  (h:DataW.Trod enc P W 0 (fun _=>true) true t (.slice a n c) d ps):∃ l,ExsN W a n c l:=by
 obtain ⟨fuel,hf⟩:=h;rcases open_slice ht hf with ⟨I,_⟩|⟨x,aq,ao,m,fu,D,Pl,I,hb,hl,hm,aj,_,hx⟩
 ·simp [Value.cells] at I;obtain ⟨rfl,rfl,rfl⟩:=I;exact ⟨[],Nat.le_refl _,by omega,rfl,fun i hi=>by omega⟩
 ·simp [Value.cells] at I;obtain ⟨rfl,rfl,rfl⟩:=I
  have ai:∃ l,ExR W (some x) n l:=s_z fun i hi=>by
   have av:n<=m:=by rw [aj];split <;> omega
   obtain ⟨ap,h1,h2⟩:=hx i (by omega);rw [ce] at h1;obtain ⟨_,aa,E⟩:=World.cells?_some h1;obtain ⟨xs,fk,_,_,_,af,L⟩:=DataW.trod_struct he h2;obtain ⟨y0,y1,y2,rfl⟩:=k_4 af;obtain ⟨v0,v1,v2,rfl⟩:=k_4 aa;have t0:=L 0 O rfl;have t1:=L 1 R rfl;have t2:=L 2 f2 rfl;simp [o0,c0] at t0;simp [o1,c1] at t1;simp [o2,c2] at t2;obtain ⟨z2,ac,_,w2⟩:=DataW.trod_int u2 t2;obtain ⟨pd,nd,cd,ed⟩:=slice_form s0 t0;obtain ⟨pv,nv,cv,ev⟩:=slice_form s1 t1;simp only [List.cons.injEq,and_true] at ac ed ev;subst ac ed ev;obtain ⟨zd,ah⟩:=open_rowN (d:=y0.1) (ps:=y0.2) s0 r0 k0 ⟨fk,t0⟩;obtain ⟨zv,ag⟩:=open_rowN (d:=y1.1) (ps:=y1.2) s1 r1 k1 ⟨fk,t1⟩;have V:=E 0 (by omega);have U:=E 1 (by omega);have ab:=E 2 (by omega);rw [add_add] at V U ab
   have ex:x=⟨x.block,x.off,none⟩:=by
    obtain ⟨an,ad,_⟩:=hx 0 (by omega);rw [ce] at ad;obtain ⟨_,M,J⟩:=World.cells?_some ad;obtain ⟨ak,au,ar,rfl⟩:=k_4 M;have h0:=J 0 (by omega);rw [add_add,Nat.zero_mul] at h0;have am:x.add (0+0)=x:=by simp [Addr.add]
    rw [am] at h0;exact c_4 (v:=ak) (by simpa using h0)
   have hs:∀ j v,W.cell? (x.add j)=some v->x=⟨x.block,x.off,none⟩/\W.cell? ⟨x.block,x.off+j,none⟩=some v:=fun j v hv=>by
    rw [ex,a_t] at hv;exact ⟨ex,hv⟩
   have n0:=hs _ _ (by simpa using V);refine ⟨x.block,x.off,(l_i nd zd,l_i nv zv,z2),by rw [<- n0.1],pd,nd,cd,pv,nv,cv,n0.2,?_,?_,bounds_i64 w2,ah.rowI,ag.rowI⟩
   ·rw [Nat.add_assoc];exact (hs _ _ (by simpa using U)).2
   ·rw [Nat.add_assoc];exact (hs _ _ (by simpa using ab)).2
  obtain ⟨l,ae⟩:=ai;exact ⟨l,hl,by unfold maxLen at hm;omega,ae⟩
end Go.Proofs.YtcpbhhlepdgdkaaGreatDoor.Wd
namespace Go.Proofs.YtcpbhhlepdgdkaaGreatDoor.Wd
open Go.RowKit
/-- A slice of layers of the call's own, by its elements' type. -/
def LyE (e:TypeId) (W:World) (B:Nat) (v:Value) (ls:List Ly):Prop:=W.ownsRow B e 3 v ls.length (ls.flatMap lyC)
theorem LyE.rd {e:TypeId} {W:World} {B:Nat} {v:Value} {ls:List Ly} (h:LyE e W B v ls):∃ p c,v = .slice p ls.length c/\LyR 0 W p ls.length ls:=by
 have I:=h;rcases h.2 with ⟨rfl,M⟩|⟨g,D,L,rfl,V,R,U⟩
 ·exact ⟨none,0,by rw [M],rfl,fun i H=>by omega⟩
 ·refine ⟨_,D,rfl,rfl,fun i H=>?_⟩
  have E:∀ k,k < 3->∀ v,(lyC (lyA ls i))[k]?=some v->W.cell? ⟨g,0+i*3+k,none⟩=some v:=fun k O v J=>by
   have:=World.ownsRow.cells I rfl (i*3+k) v ((s_k ls i k H O).trans J);rw [a_t,<- Nat.add_assoc] at this;exact this
  exact ⟨g,0,rfl,E 0 (by omega) _ rfl,E 1 (by omega) _ rfl,E 2 (by omega) _ rfl⟩
theorem t_z:GT Tryz.prog 55 82 3 32:=⟨Tryz.underlying55,by kernel_rfl⟩
theorem s_A (w:World) (a b c:Obj):(((w.alloc a).alloc b).alloc c).heap[w.heap.size]?=some a/\(((w.alloc a).alloc b).alloc c).heap[w.heap.size+1]?=some b/\(((w.alloc a).alloc b).alloc c).heap[w.heap.size+2]?=some c/\Below w.heap.size w (((w.alloc a).alloc b).alloc c):=by
 have H:(w.alloc a).heap.size=w.heap.size+1:=by simp
 have J:((w.alloc a).alloc b).heap.size=w.heap.size+2:=by simp
 have I:=heap_alloc_new w a;have E:=heap_alloc_new (w.alloc a) b;have D:=heap_alloc_new ((w.alloc a).alloc b) c;rw [H] at E;rw [J] at D;refine ⟨?_,?_,D,g_f (g_f (a_b _ _) _) _⟩
 ·rw [(a_b ((w.alloc a).alloc b) c).block _ (by omega),(a_b (w.alloc a) b).block _ (by omega)];exact I
 ·rw [(a_b ((w.alloc a).alloc b) c).block _ (by omega)];exact E
theorem o_Y (ls:List Ly) (k:Nat) (D:k < ls.length):(ls.take (k+1)).flatMap lyC=(ls.take k).flatMap lyC++[.string (lyA ls k).1,.int .i64 (lyA ls k).2.1,.int .i64 (lyA ls k).2.2]:=by
 have e:lyA ls k=ls[k]:=by unfold lyA;rw [List.getD_eq_getElem?_getD,List.getElem?_eq_getElem D];rfl
 rw [List.take_succ_eq_append_getElem D,List.flatMap_append,e];simp [lyC]
theorem r_d (p p2:Option Addr) (n c D c2:Nat) (ls:List Ly) (ax:D<=1073741823) (w:World) (hL:LyR 0 w p2 D ls):
  Calls Tryz.prog 16 #[.agg #[.slice p n c,.slice p2 D c2]] w fun e w'=>∃ p3 c3,e = .returned (.agg #[.slice p n c,.slice p3 D c3])/\LyE 82 w' w.heap.size (.slice p3 D c3) ls/\Below w.heap.size w w':=by
 haveI:Nonempty World:=⟨w⟩
 have HL:Hid (LyR 0 w p2 D ls):=hL;clear hL;go_enter Tryz.func16,Tryz.ntmps16;go_wp2_with fail
 generalize ae:World.alloc _ _=W0
 have HX:Hid (W0.heap[w.heap.size]?=some (.cells #[.slice p n c,.slice p2 D c2] 25 (0,0))/\W0.heap[w.heap.size+1]?=some (.cells #[.slice none 0 0,.slice none 0 0] 57 (0,0))/\W0.heap[w.heap.size+2]?=some (.cells #[.slice p n c,.slice none 0 0] 57 (0,0))/\Below w.heap.size w W0):=by
  rw [<- ae];exact s_A w _ _ _
 clear ae
 go_loopg [4] D (fun gg v wr=>∃ (k:Nat) (vL:Value),k<=D/\gg=D - k/\v = .int .i64 (k:Int)/\Hid (wr.heap[w.heap.size]?=some (.cells #[.slice p n c,.slice p2 D c2] 25 (0,0))/\wr.heap[w.heap.size+1]?=some (.cells #[.slice none 0 0,.slice none 0 0] 57 (0,0))/\wr.heap[w.heap.size+2]?=some (.cells #[.slice p n c,vL] 57 (0,0))/\Below w.heap.size w wr)/\Hid (wr.ownsRow w.heap.size 82 3 vL k ((ls.take k).flatMap lyC)))
 case atStart=>exact ⟨0,.slice none 0 0,by omega,by omega,rfl,HX,⟨rfl,.inl ⟨rfl,rfl⟩⟩⟩
 case round=>
  obtain ⟨k,vL,hk,hg,rfl,E,H⟩:=hrel
  obtain ⟨L,I,rfl⟩:∃ L I,vL = .slice L k I:=by
   rcases H.out.2 with ⟨rfl,h0⟩|⟨g,az,aA,rfl,_⟩
   ·exact ⟨none,0,by rw [h0]⟩
   ·exact ⟨_,_,rfl⟩
  obtain ⟨⟨b0,_⟩,⟨b1,_⟩⟩:=e_q E.out.1;have aD:=a_g b1;by_cases ab:k < D
  ·have aC:(k:Int) < (D:Int):=by omega
   obtain ⟨q,o,rfl,c0,c1,aj⟩:=(HL.out.up E.out.2.2.2).2 k ab;have ag:k < ls.length:=by rw [HL.out.1];exact ab
   obtain ⟨l,el⟩:∃ l,lyA ls k=l:=⟨_,rfl⟩
   obtain ⟨s,a,b⟩:=l
   have HT:Hid ((ls.take (k+1)).flatMap lyC=(ls.take k).flatMap lyC++[.string s,.int .i64 a,.int .i64 b]):=by
    have:=o_Y ls k ag;rw [el] at this;exact this
   rw [el] at c0 c1 aj;have aB:=a_g c0;have ao:Hid (∀ z,Value.ownBlock (.slice L k I)=some z->z < wr.heap.size):=fun z ar=>(World.ownsRow.lt H.out z ar).2;have ac:Hid (w.heap.size<=wr.heap.size):=E.out.2.2.2.size;have HG:Hid (∀ W,wr.grownBy W (Value.ownBlock (.slice L k I))->Only [82] wr W/\Below w.heap.size w W):=fun W V=>⟨g_x H.out V,Below.grown E.out.2.2.2 V ac.out fun k hk=>(World.ownsRow.lt H.out k hk).1⟩
   have HQ:Hid (∀ W,wr.grownBy W (Value.ownBlock (.slice L k I))->W.cell? ⟨w.heap.size+2,1,none⟩=some (.slice L k I)/\W.cell? ⟨w.heap.size,1,none⟩=some (.slice (some ⟨q,o,none⟩) D c2)/\W.cell? ⟨q,o+k*3,none⟩=some (.string s)/\W.cell? ⟨q,o+k*3+1,none⟩=some (.int .i64 a)/\W.cell? ⟨q,o+k*3+2,none⟩=some (.int .i64 b)):=fun W V=>by
    obtain ⟨h1,h2⟩:=HG.out W V;obtain ⟨q',o',e,d0,d1,d2⟩:=(HL.out.up h2).2 k ab;cases e;rw [el] at d0 d1 d2;exact ⟨(e_q (h1.keep E.out.2.2.1 (by decide))).2.1,(e_q (h1.keep E.out.1 (by decide))).2.1,d0,d1,d2⟩
   clear el;go_wp2;refine d_U (by kernel_rfl) ?_;refine seg (fun q W=>match q with|false=>Below wr.heap.size wr W|true=>wr.grownBy W (Value.ownBlock (.slice L k I))) (fun W W'=>W.grownBy W' (Value.ownBlock (.slice L k I))) 22 [⟨21,36,LitS 82 wr.heap.size [.string s,.int .i64 a,.int .i64 b]⟩,⟨22,37,OwnG 82 3 w.heap.size (k+1) (((ls.take k).flatMap lyC)++[.string s,.int .i64 a,.int .i64 b])⟩] 0 24 40 rfl rfl (by kernel_rfl) (by rfl) ?_ ?_ ?_ ?_ ?_ ?_
   ·intro q W W' h hb;cases q
    ·exact a_c h hb
    ·exact g_T h hb
   ·exact ⟨rfl,rfl,rfl,Nat.le_refl _,fun _ _=>rfl⟩
   ·exact .inl ⟨_,List.mem_cons_of_mem _ List.mem_cons_self,rfl⟩
   ·intro e he v W W' h hb;simp only [List.mem_cons,List.not_mem_nil,or_false] at he;rcases he with rfl|rfl
    ·exact LitS.up h hb
    ·exact OwnG.up h hb
   ·intro e he ak v W W' h hc ht;simp only [List.mem_cons,List.not_mem_nil,or_false] at he;rcases he with rfl|rfl
    ·exact LitS.grown h ht ao.out
    ·exact absurd rfl ak
   apply Exists.intro;refine ⟨fun x=>?_,?_,?_⟩
   ·simp only [List.drop_succ_cons,List.drop_zero,List.take_succ_cons,List.take_zero]
    iterate 21
     refine b_S rfl rfl ?_;apply Exists.intro;refine ⟨fun b' F hF hf K hK=>?_,?_⟩
     ·have hFc:=hF.cls
      have q:=fun d=>HQ.out (F d) (by
       cases b'
       ·exact b_g _ (hFc d)
       ·exact hFc d)
      have q1:=fun d=>(q d).1;have q2:=fun d=>(q d).2.1;have q3:=fun d=>(q d).2.2.1;have q4:=fun d=>(q d).2.2.2.1;have q5:=fun d=>(q d).2.2.2.2;clear hFc q
      go_big_quiet_op
      first|exact hK|(apply Exists.intro;refine ⟨fun _=>?_,?_⟩;(· fail);exact hK)
     (try simp only [Act.put,sA_,sB_,sC_])
    refine i_T rfl (by decide) rfl ?_ ?_
    ·intro b' F hF hf d;have hFc:=hF.cls
     have ah:wr.heap.size<=(F d).heap.size:=by
      cases b'
      ·exact (hFc d).size
      ·exact (hFc d).size
     simp [a_k,a_f,go_sem];exact ⟨⟨(F d).heap.size,rfl,heap_alloc_new (F d) _,ah⟩,a_b _ _⟩
    (try simp only [Act.put,sA_,sB_,sC_])
    refine i_U rfl rfl rfl ?_ ?_
    ·intro W V hf;have h7:=hf _ List.mem_cons_self (by rfl) W;obtain ⟨g7,e7,ap,_⟩:=h7;simp only [] at e7;obtain ⟨O,M,w8,am,aq,aa⟩:=s_l t_z (by decide) (by decide) 55 W w.heap.size (.slice L k I) k ((ls.take k).flatMap lyC) (a_C (S:=[]) H.out (Only.of V) (by simp)) g7 [.string s,.int .i64 a,.int .i64 b] ap rfl (fun x hx=>by simp at hx;rcases hx with rfl|rfl|rfl <;> rfl) (by omega) (Nat.le_trans ac.out (Below.size V));simp [b_P,b_O,execOp,resolve,invoke,builtin,Act.eval,e7,am,Result.andThen];exact ⟨⟨O,M,rfl,aq⟩,d_T (b_g _ V) aa,aa⟩
    (try simp only [Act.put,sA_,sB_,sC_])
    refine b_S rfl rfl ?_;apply Exists.intro;refine ⟨fun b' F hF hf K hK=>?_,?_⟩
    ·have hFc:=hF.cls
     have q:=fun d=>HQ.out (F d) (by
      cases b'
      ·exact b_g _ (hFc d)
      ·exact hFc d)
     have q1:=fun d=>(q d).1;have q2:=fun d=>(q d).2.1;have q3:=fun d=>(q d).2.2.1;have q4:=fun d=>(q d).2.2.2.1;have q5:=fun d=>(q d).2.2.2.2;clear hFc q
     go_big_quiet_op
     first|exact hK|(apply Exists.intro;refine ⟨fun _=>?_,?_⟩;(· fail);exact hK)
    (try simp only [Act.put,sA_,sB_,sC_])
    refine m_B ?_;exact rfl
   ·exact fun x=>rfl
   ·intro w8 af ai ad;refine f_L 24 (by kernel_rfl) ?_;simp only [List.drop_succ_cons,List.drop_zero];have h8:=ad _ (List.mem_cons_of_mem _ List.mem_cons_self);obtain ⟨x5,e5⟩:∃ z,af 21=z:=⟨_,rfl⟩
    obtain ⟨x6,e6⟩:∃ z,af 22=z:=⟨_,rfl⟩
    simp only [e6] at h8;simp only [e5,e6];obtain ⟨O,M,rfl,h8⟩:=h8;have J:=HG.out w8 ai;have R:=J.1.keep E.out.2.2.1 (by decide);obtain ⟨_,⟨r0,r1⟩⟩:=e_q R
    have HF:Hid ((w8.setCell ⟨w.heap.size+2,1,none⟩ (.slice (some ⟨O,0,none⟩) (k+1) M)).heap[w.heap.size]?=some (.cells #[.slice p n c,.slice (some ⟨q,o,none⟩) D c2] 25 (0,0))/\(w8.setCell ⟨w.heap.size+2,1,none⟩ (.slice (some ⟨O,0,none⟩) (k+1) M)).heap[w.heap.size+1]?=some (.cells #[.slice none 0 0,.slice none 0 0] 57 (0,0))/\(w8.setCell ⟨w.heap.size+2,1,none⟩ (.slice (some ⟨O,0,none⟩) (k+1) M)).heap[w.heap.size+2]?=some (.cells #[.slice p n c,.slice (some ⟨O,0,none⟩) (k+1) M] 57 (0,0))/\Below w.heap.size w (w8.setCell ⟨w.heap.size+2,1,none⟩ (.slice (some ⟨O,0,none⟩) (k+1) M))):=by
     refine ⟨?_,?_,?_,J.2.setCell (p:=⟨w.heap.size+2,1,none⟩) (Nat.le_add_right _ _) _⟩
     ·rw [a_X _ _ _ _ _ (by omega)];exact J.1.keep E.out.1 (by decide)
     ·rw [a_X _ _ _ _ _ (by omega)];exact J.1.keep E.out.2.1 (by decide)
     ·rw [a_n R];rfl
    have av:Hid ((w8.setCell ⟨w.heap.size+2,1,none⟩ (.slice (some ⟨O,0,none⟩) (k+1) M)).ownsRow w.heap.size 82 3 (.slice (some ⟨O,0,none⟩) (k+1) M) (k+1) ((ls.take (k+1)).flatMap lyC)):=by
     show World.ownsRow _ _ _ _ _ _ _;rw [HT.out];exact a_C (S:=[57]) h8 (Only.set R (by simp)) (by decide)
    clear J R h8 ad ai e5 e6;go_wp2;go_roundg (D - (k+1))
    case measure=>omega
    case rel=>exact ⟨k+1,_,by omega,rfl,by first|rfl|simp,HF,av⟩
  ·obtain rfl:k=D:=by omega
   obtain ⟨⟨d0,ay⟩,⟨d1,aE⟩⟩:=e_q E.out.2.1;obtain ⟨⟨f0,_⟩,⟨f1,_⟩⟩:=e_q E.out.2.2.1;have kd:=a_g d0;have kf:=a_g f0;go_wp2;generalize hU:World.setCell _ _ _=U;obtain ⟨u0,u1,au,an⟩:=q_4 E.out.2.1 hU
   have aw:LyE 82 U w.heap.size (.slice L k I) ls:=by
    have:=a_C H.out an (by decide);rw [List.take_of_length_le (by rw [HL.out.1];exact Nat.le_refl _)] at this;unfold LyE;rw [HL.out.1];exact this
   exact bodyPost_ret (v:=.agg #[.slice p n c,.slice L k I]) (by simp [results,Tryz.results16,go_sem,u0,u1]) rfl ⟨_,_,rfl,aw,au w _ (by omega) E.out.2.2.2⟩
end Go.Proofs.YtcpbhhlepdgdkaaGreatDoor.Wd
namespace Go.Proofs.YtcpbhhlepdgdkaaGreatDoor.Wd
/-- Is a layer's parameter greater than may be (the reference asks of the first alone)? -/
def rP (l:Ly) (d:List Int):Bool:=if a_s l.1=0 then decide (4096 < l.2.1*a_u d) else if a_s l.1=1 then decide (4096 < l.2.1*d.getD 0 0*l.2.2) else false
theorem s_B {l:Ly} {d:List Int} (h:a_R l):s_j l d=rP l d:=by
 unfold s_j c_w rP;rcases a_L h with ⟨_,k,E,D⟩|⟨_,k,E,D⟩|⟨_,k,E,D⟩|⟨_,k,E,D⟩|⟨_,k,E,D⟩ <;> rw [k]
 ·simp only [if_true,List.any_cons,List.any_nil,c_F,c_E];rw [decide_eq_false (show ¬ 4096 < l.2.1 by omega)];simp
 ·simp [c_X]
 ·simp
 ·simp
 ·simp
/-- Great already? how many parameters so far (held at one too many)? -/
def rG (ls:List Ly) (S:List (List Int)):Nat->Bool×Int
 | 0=>(decide (16 < ls.length),0)
 | i+1=>if 4096 < (rG ls S i).2+psz (lyA ls i) (shA S i) then (true,4097) else ((rG ls S i).1 || rP (lyA ls i) (shA S i) || decide (4096 < a_u (shA S (i+1))),(rG ls S i).2+psz (lyA ls i) (shA S i))
theorem p_F {ls:List Ly} {S:List (List Int)}:∀ {i:Nat},(∀ k,k < i->InOk (shA S k))->(∀ k,k < i->a_R (lyA ls k))->0<=(rG ls S i).2/\(rG ls S i).2<=4097
 | 0,_,_=>by simp [rG]
 | i+1,h,h2=>by
  have H:=p_F (fun k D=>h k (by omega)) (fun k D=>h2 k (by omega)) (i:=i);have E:=e_G (h i (by omega)) (h2 i (by omega));simp only [rG]
  split
  ·simp
  ·simp only [];omega
/-- What was summed up, in plain words. -/
theorem s_C {ls:List Ly} {S:List (List Int)}:∀ {i:Nat},(∀ k,k < i->InOk (shA S k))->(∀ k,k < i->a_R (lyA ls k))->
  ((rG ls S i).1=true↔16 < ls.length∨l_h ls S i=true∨(∃ k,k < i/\4096 < a_u (shA S (k+1)))∨4096 < c_a ls S i)/\((rG ls S i).1=true∨(rG ls S i).2=c_a ls S i)/\(4096 < c_a ls S i->(rG ls S i).2=4097)/\(¬ 4096 < c_a ls S i->(rG ls S i).2=c_a ls S i)
 | 0,_,_=>by simp [rG,l_h,c_a]
 | i+1,h,h2=>by
  obtain ⟨L,R,M,O⟩:=s_C (fun k J=>h k (by omega)) (fun k J=>h2 k (by omega)) (i:=i) (ls:=ls) (S:=S);have U:=e_G (h i (by omega)) (h2 i (by omega));have hb:=s_B (l:=lyA ls i) (d:=shA S i) (h2 i (by omega));simp only [rG,c_a,l_h,hb];by_cases I:4096 < c_a ls S i
  ·have e:=M I;rw [e,if_pos (by omega)];refine ⟨⟨fun _=>.inr (.inr (.inr (by omega))),fun _=>rfl⟩,.inl rfl,fun _=>rfl,fun D=>absurd (show 4096 < c_a ls S i+psz (lyA ls i) (shA S i) by omega) D⟩
  ·have e:=O I;rw [e];by_cases E:4096 < c_a ls S i+psz (lyA ls i) (shA S i)
   ·rw [if_pos E];exact ⟨⟨fun _=>.inr (.inr (.inr E)),fun _=>rfl⟩,.inl rfl,fun _=>rfl,fun D=>absurd E D⟩
   ·rw [if_neg E];refine ⟨?_,.inr rfl,fun D=>absurd D E,fun _=>rfl⟩;simp only [Bool.or_eq_true,decide_eq_true_eq];rw [L];constructor
    ·rintro ((( D|D|⟨k,J,D⟩|D)|D)|D)
     ·exact .inl D
     ·exact .inr (.inl (.inl D))
     ·exact .inr (.inr (.inl ⟨k,by omega,D⟩))
     ·exact absurd D I
     ·exact .inr (.inl (.inr D))
     ·exact .inr (.inr (.inl ⟨i,by omega,D⟩))
    ·rintro (D|(D|D)|⟨k,J,D⟩|D)
     ·exact .inl (.inl (.inl D))
     ·exact .inl (.inl (.inr (.inl D)))
     ·exact .inl (.inr D)
     ·rcases Nat.lt_or_ge k i with H|H
      ·exact .inl (.inl (.inr (.inr (.inl ⟨k,H,D⟩))))
      ·obtain rfl:k=i:=by omega
       exact .inr D
     ·exact absurd D E
theorem s_D {d:List Int} {ls:List Ly} {S:List (List Int)} (hf:b_L d ls=true) (I:shN d ls ls.length=some S):
  ((rG ls S ls.length).1 || decide (4096 < a_u d))=e_Q ls S/\(e_Q ls S=false->(rG ls S ls.length).2=c_a ls S ls.length):=by
 obtain ⟨hd,O⟩:=(c_j d ls).1 hf;have hS:=e_o hd O (Nat.le_refl _) I;have M:=c_W I
 have R:shA S 0=d:=by
  have:∀ (i:Nat) (T:List (List Int)),shN d ls i=some T->shA T 0=d:=by
   intro i
   induction i with
   | zero=>intro T h;cases h;rfl
   | succ i ih=>
    intro T h;cases E:shN d ls i with
    | none=>rw [b_o E (Nat.le_succ i)] at h;cases h
    | some T0=>
     rw [a_G E] at h;obtain ⟨o,rfl,-⟩:=e_n h;rw [d_X _ (by have:=c_W E;omega)];exact ih T0 E
  exact this _ _ I
 obtain ⟨U,a2,a3,a4⟩:=s_C (ls:=ls) (S:=S) (i:=ls.length) (fun k L=>hS k (by omega)) (fun k L=>O _ (d_W L))
 have hB:i_t S=true↔(∃ k,k < ls.length/\4096 < a_u (shA S (k+1)))∨4096 < a_u d:=by
  unfold i_t;rw [List.any_eq_true];constructor
  ·rintro ⟨s,J,D⟩;obtain ⟨i,E,rfl⟩:=List.getElem_of_mem J;have e:shA S i=S[i]:=by unfold shA;rw [List.getD_eq_getElem?_getD,List.getElem?_eq_getElem E];rfl
   rw [<- e,decide_eq_true_eq] at D;cases i with
   | zero=>rw [R] at D;exact .inr D
   | succ i=>exact .inl ⟨i,by omega,D⟩
  ·have H:∀ i,i < S.length->4096 < a_u (shA S i)->∃ x,x∈S/\decide (4096 < a_u x)=true:=fun i E D=>by
    have e:shA S i=S[i]:=by unfold shA;rw [List.getD_eq_getElem?_getD,List.getElem?_eq_getElem E];rfl
    exact ⟨S[i],List.getElem_mem _,by rw [<- e,decide_eq_true_eq];exact D⟩
   rintro (⟨k,L,D⟩|D)
   ·exact H (k+1) (by omega) D
   ·exact H 0 (by omega) (by rw [R];exact D)
 have V:e_Q ls S=true↔((rG ls S ls.length).1 || decide (4096 < a_u d))=true:=by
  unfold e_Q;simp only [Bool.or_eq_true,decide_eq_true_eq];rw [hB,U];constructor
  ·rintro (((D|(D|D))|D)|D)
   ·exact .inl (.inl D)
   ·exact .inl (.inr (.inr (.inl D)))
   ·exact .inr D
   ·exact .inl (.inr (.inl D))
   ·exact .inl (.inr (.inr (.inr D)))
  ·rintro ((D|D|D|D)|D)
   ·exact .inl (.inl (.inl D))
   ·exact .inl (.inr D)
   ·exact .inl (.inl (.inr (.inl D)))
   ·exact .inr D
   ·exact .inl (.inl (.inr (.inr D)))
 refine ⟨Bool.eq_iff_iff.2 V.symm,fun D=>a4 fun h6=>?_⟩;have:e_Q ls S=true:=by unfold e_Q;simp [h6]
 rw [D] at this;cases this
end Go.Proofs.YtcpbhhlepdgdkaaGreatDoor.Wd
