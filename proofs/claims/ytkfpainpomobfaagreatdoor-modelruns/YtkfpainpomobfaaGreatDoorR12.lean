/- The code's reading of texts: wordsOf, ne -/
import Derived.Test.YtkfpainpomobfaaGreatDoorR11
set_option linter.unusedVariables false
set_option linter.unusedSimpArgs false
set_option maxHeartbeats 16000000
set_option maxRecDepth 16000
namespace Go.Proofs.YtkfpainpomobfaaGreatDoor.Wd
open Go.RowKit List World Nat
theorem j_m (s:ByteArray) (hs:s.size<=16384) (w:World):Calls Tryz.prog 32 #[.string s] w fun e O=>∃ v,e = .returned v/\StrV O v (d_h s)/\Bw w O:=by
 have hp:PredAt Tryz.prog 52 #[] encR d_9 w:=fun W x hb=>by
  unfold FnGives;refine (i_4 (x:Int) W).mono ?_;rintro e I ⟨rfl,rfl⟩;refine ⟨?_,0,rfl⟩
  have k:∀ j:Nat,((x:Int)==(j:Int))=(x==j):=fun j=>by
   by_cases h:x=j
   ·subst h;simp
   ·rw [beq_false_of_ne h,beq_false_of_ne fun e=>h (by omega)]
  have V:=k 32;have k1:=k 9;have k2:=k 10;show Ending.returned (Value.bool ((x:Int)==32 || (x:Int)==9 || (x:Int)==10)) = .returned (.bool (x==32 || x==9 || x==10));rw [<- V,<- k1,<- k2];rfl
 have H:=Tryz.strings_FieldsFunc 52 #[] (by intro args W;kernel_rfl) d_9 s w (by omega) hp;rw [k_7] at H;clear hp;obtain ⟨E,R⟩:∃ E,d_h s=E:=⟨_,rfl⟩
 rw [R] at H ⊢;clear R;go_enter Tryz.func32,Tryz.ntmps32;go_wp2_with fail
 refine H.mono ?_;rintro e I ⟨A,rfl,hA,M,L⟩
 have Z:Hid (StrV I (.slice (some ⟨A,0,none⟩) E.length E.length) E/\Bw w I):=by
  refine ⟨⟨_,_,rfl,Nat.le_refl _,fun i J=>⟨A,0,rfl,?_⟩⟩,L⟩
  have:=ownsRow.cells M rfl i (.string (wdA E i)) (by
   rw [getElem?_map,getElem?_eq_getElem J];unfold wdA;rw [getD_eq_getElem?_getD,getElem?_eq_getElem J];rfl)
  rw [a_r] at this;exact this
 clear H M L hA;go_wp2;go_ret;exact ⟨_,rfl,Z.out⟩
def lyC (l:Ly):List Value:=[.string l.1,.int .i64 l.2.1,.int .i64 l.2.2]
theorem q_f (ls:List Ly) (i k:Nat) (A:i < ls.length) (E:k < 3):(ls.flatMap lyC)[i*3+k]?=(lyC (lyA ls i))[k]?:=by
 induction ls generalizing i with
 | nil=>simp at A
 | cons l ls ih=>
  rw [flatMap_cons];cases i with
  | zero=>
   rw [Nat.zero_mul,Nat.zero_add,getElem?_append_left (by show k < 3;exact E)];rfl
  | succ i=>
   rw [getElem?_append_right (by show 3<=_;omega),show (i+1)*3+k - (lyC l).length=i*3+k by show (i+1)*3+k - 3=_;omega,ih i (by simpa using A)];rfl
/-- A slice of layers of the call's own. -/
def LyO (W:World) (B:Nat) (v:Value) (ls:List Ly):Prop:=W.ownsRow B 69 3 v ls.length (ls.flatMap lyC)
theorem LyO.rd {W:World} {B:Nat} {v:Value} {ls:List Ly} (h:LyO W B v ls):∃ p c,v = .slice p ls.length c/\LyR 0 W p ls.length ls:=by
 have M:=h;rcases h.2 with ⟨rfl,O⟩|⟨g,A,L,rfl,V,Z,R⟩
 ·exact ⟨none,0,by rw [O],rfl,fun i H=>by omega⟩
 ·refine ⟨_,A,rfl,rfl,fun i H=>?_⟩
  have E:∀ k,k < 3->∀ v,(lyC (lyA ls i))[k]?=some v->W.cell? ⟨g,0+i*3+k,none⟩=some v:=fun k J v I=>by
   have:=ownsRow.cells M rfl (i*3+k) v ((q_f ls i k H J).trans I);rw [a_r,<- Nat.add_assoc] at this;exact this
  exact ⟨g,0,rfl,E 0 (by omega) _ rfl,E 1 (by omega) _ rfl,E 2 (by omega) _ rfl⟩
theorem LyO.only {Q:List TypeId} {W W':World} {B:Nat} {v:Value} {ls:List Ly} (h:LyO W B v ls) (E:Only Q W W') (A:69∉Q):LyO W' B v ls:=a_z h E A
theorem LyO.up {W W':World} {B:Nat} {v:Value} {ls:List Ly} (h:LyO W B v ls) (A:Bw W W'):LyO W' B v ls:=h.only (Q:=[]) (Only.of A) (by simp)
theorem LyO.nil (W:World) (B:Nat):LyO W B (.slice none 0 0) []:=⟨rfl,.inl ⟨rfl,rfl⟩⟩
theorem u_O:GT Tryz.prog 23 69 3 32:=⟨Tryz.underlying23,by kernel_rfl⟩
/-- append of one element that a literal holds, as a run. -/
theorem r_n {P:Program} {t e:TypeId} {s b:Nat} (T:GT P t e s b) (hb:b<=256) (M:0 < s) (V:TypeId) (W:World) (B:Nat) (v:Value) (n:Nat) (O:List Value) (ho:W.ownsRow B e s v n O) (g:Nat) (u:List Value) (hg:W.heap[g]?=some (.cells u.toArray e (0,0))) (hu:u.length=s) (Z:∀ x∈u,x.oneCell'=true) (hn:n+1<=1073741825) (hB:B<=W.heap.size):
  ∃ L A J,(Builtin.append_ #[t,t] V #[v,.slice (some ⟨g,0,none⟩) 1 1]).run P W = .ok (.slice (some ⟨L,0,none⟩) (n+1) A) J/\J.ownsRow B e s (.slice (some ⟨L,0,none⟩) (n+1) A) (n+1) (O++u)/\W.grownBy J v.ownBlock:=by
 have H:=T.hi;cases h:P.info? e with
 | none=>rw [h] at H;cases H
 | some i=>
  rw [h] at H;simp only [Option.map_some,Option.some.injEq,Prod.mk.injEq] at H;obtain ⟨I,hs,R⟩:=H;cases E:i.zero with
  | none=>rw [E] at I;cases I
  | some z=>
   rw [E] at I;simp only [Option.map_some,Option.some.injEq] at I;have hm:=Nat.mul_le_mul hn hb
   obtain ⟨L,A,J,hr,h2,h3,_,_⟩:=run_append_lies (P:=P) W t V B e i z s b T.ht h E hs R I M v n O ho ⟨g,0,none⟩ 1 1 u (by omega) (fun j x hj=>by
    rw [a_r,Nat.zero_add];unfold cell?;simpa [hg] using hj) Z (by omega) (by unfold maxLen;omega) (by omega) hB _ rfl
   exact ⟨L,A,J,hr,h2,h3⟩
/-- A row of the call's own, told as a value. -/
def OwnG (e:TypeId) (s B n:Nat) (xs:List Value) (v:Value) (W:World):Prop:=∃ g c,v = .slice (some ⟨g,0,none⟩) n c/\W.ownsRow B e s v n xs
theorem OwnG.up {e:TypeId} {s B n:Nat} {A:List Value} {v:Value} {W W':World} (h:OwnG e s B n A v W) (E:Bw W W'):OwnG e s B n A v W':=by
 obtain ⟨g,c,e,h⟩:=h;exact ⟨g,c,e,a_z (S:=[]) h (Only.of E) (by simp)⟩
theorem f_h {e:TypeId} {s B n:Nat} {L:List Value} {v:Value} {W W':World} (h:W.ownsRow B e s v n L) (E:W.grownBy W' v.ownBlock):Only [e] W W':=Only.grown E fun k A=>by
 rcases h.2 with ⟨rfl,_⟩|⟨M,I,H,rfl,_,J,_⟩
 ·cases A
 ·cases A;exact ⟨_,_,_,J,by simp⟩
theorem b_4 {W:World} {b:Nat} {E A:Value} {e:TypeId} (h:W.heap[b]?=some (.cells #[E,A] e (0,0))):(W.cell? ⟨b,0,none⟩=some E/\W.frozen? ⟨b,0,none⟩=false)/\(W.cell? ⟨b,1,none⟩=some A/\W.frozen? ⟨b,1,none⟩=false):=by
 simp [cell?,frozen?,h]
theorem i_y {W:World} {b:Nat} {H A E I:Value} {e:TypeId} (h:W.heap[b]?=some (.cells #[H,A,E,I] e (0,0))):W.cell? ⟨b,0,none⟩=some H/\W.cell? ⟨b,1,none⟩=some A/\W.cell? ⟨b,2,none⟩=some E/\W.cell? ⟨b,3,none⟩=some I:=by
 simp [cell?,h]
theorem d_I {W U:World} {b:Nat} {t:TypeId} {J I E A:Value} (h:W.heap[b]?=some (.cells #[J,I] t (0,0))) (e:(W.setCell ⟨b,0,none⟩ E).setCell ⟨b,1,none⟩ A=U):
  U.cell? ⟨b,0,none⟩=some E/\U.cell? ⟨b,1,none⟩=some A/\(∀ w B,B<=b->Below B w W->Below B w U)/\Only [t] W U:=by
 have H:U.heap[b]?=some (.cells #[E,A] t (0,0)):=by
  rw [<- e,a_l (a_l h)];rfl
 refine ⟨by simp [cell?,H],by simp [cell?,H],fun w B hb L=>?_,?_⟩
 ·rw [<- e];exact (L.setCell (p:=⟨b,0,none⟩) hb _).setCell (p:=⟨b,1,none⟩) hb _
 ·rw [<- e];exact (Only.set h (by simp)).trans (Only.set (a_l h) (by simp))
theorem g_l (f:Nat) (u:ByteArray) (A:List ByteArray):i_O (f+1) (u :: A)=if a_m u=5∨(a_2 A (b_Z (a_m u))).1.length≠b_Z (a_m u) then none else (i_O f (a_2 A (b_Z (a_m u))).2).map fun ls=>(u,(a_2 A (b_Z (a_m u))).1.getD 0 0,(a_2 A (b_Z (a_m u))).1.getD 1 0) :: ls:=rfl
theorem g_m (u:ByteArray) (A:List ByteArray):o_d (u :: A)=if u=kIn/\(a_2 A 2).1≠[] then (i_O (a_2 A 2).2.length (a_2 A 2).2).map fun ls=>((a_2 A 2).1,ls) else none:=rfl
theorem p_q {f:Nat} {u:ByteArray} {A:List ByteArray} {l:List Int×List ByteArray} (hf:A.length+1<=f) (h:a_m u < 5) (E:a_2 A (b_Z (a_m u))=l) (H:l.1.length=b_Z (a_m u)):i_O f (u :: A)=(i_O l.2.length l.2).map fun ls=>(u,l.1.getD 0 0,l.1.getD 1 0) :: ls:=by
 obtain ⟨f,rfl⟩:∃ g,f=g+1:=⟨f - 1,by omega⟩
 rw [g_l,E,if_neg fun I=>I.elim (fun e=>by omega) (fun e=>e H)];have:=(c_W A (b_Z (a_m u))).2;rw [E] at this;rw [i_a f l.2.length l.2 (by omega) (Nat.le_refl _)]
theorem k_p {f:Nat} {u:ByteArray} {A:List ByteArray} (hf:A.length+1<=f) (h:a_m u=5∨(a_2 A (b_Z (a_m u))).1.length≠b_Z (a_m u)):i_O f (u :: A)=none:=by
 obtain ⟨f,rfl⟩:∃ g,f=g+1:=⟨f - 1,by omega⟩
 rw [g_l,if_pos h]
/-- What netOf hands back. -/
def u_P (x:Option (List Int×List Ly)) (B:Nat) (v:Value) (W:World):Prop:=match x with
 | none=>v = .tuple #[.agg #[.slice none 0 0,.slice none 0 0],.bool false]
 | some y=>∃ p n c p2 n2 c2,v = .tuple #[.agg #[.slice p n c,.slice p2 n2 c2],.bool true]/\OwnK .i64 3 W B (.slice p n c) y.1/\LyO W B (.slice p2 n2 c2) y.2
/-- What numbersAhead hands back. -/
def NumP (W0:World) (B:Nat) (X:List Int×List ByteArray) (v:Value) (W:World):Prop:=∃ v1 v2,v = .tuple #[v1,v2]/\OwnK .i64 3 W B v1 X.1/\StrV W0 v2 X.2
theorem NumP.up {A:World} {B:Nat} {X:List Int×List ByteArray} {v:Value} {W W':World} (h:NumP A B X v W) (L:Bw W W'):NumP A B X v W':=by
 obtain ⟨E,H,e,I,J⟩:=h;exact ⟨E,H,e,I.up L,J⟩
def u_C (W0:World) (ws:List ByteArray) (v:Value) (W:World):Prop:=StrV W0 v ws
theorem t_V {x:ByteArray} (h:x≠kIn):(x.toList == [105,110])=false:=by
 have e:kIn.toList = [105,110]:=by first|decide +kernel|simp [kIn]
 rw [<- e];exact m_f h
theorem t_W:(kIn.toList == [105,110])=true:=by
 have e:kIn.toList = [105,110]:=by first|decide +kernel|simp [kIn]
 rw [e];rfl
theorem n_g (v:Value) (ws:List ByteArray) (a8:ws.length<=1073741823) (w:World) (hK:Hid (Kz w)) (hv:StrV w v ws):
  Calls Tryz.prog 31 #[v] w fun e w'=>∃ v',e = .returned v'/\u_P (o_d ws) w.heap.size v' w'/\Bw w w':=by
 haveI:Nonempty World:=⟨w⟩
 obtain ⟨p0,n0,c0,rfl,a4⟩:=hv.form;have HV:Hid (StrV w (.slice p0 n0 c0) ws):=hv;obtain ⟨R,eR⟩:∃ R,o_d ws=R:=⟨_,rfl⟩
 rw [eR];clear hv;go_enter Tryz.func31,Tryz.ntmps31;cases ws with
 | nil=>
  obtain rfl:n0=0:=by simpa using a4.symm
  have J:R=none:=by rw [<- eR];rfl
  subst J;clear eR;go_wp2;exact bodyPost_ret (v:=.tuple #[.agg #[.slice none 0 0,.slice none 0 0],.bool false]) (by simp [results,Tryz.results31,go_sem]) rfl ⟨_,rfl,rfl,by go_grown⟩
 | cons u E=>
  obtain rfl:n0=E.length+1:=by simpa using a4.symm
  have bC:(((E.length+1:Nat):Int)==0)=false:=by simpa using (show ((E.length+1:Nat):Int)≠0 by omega)
  obtain ⟨pp,cc,e,a6,I⟩:=HV.out;cases e;obtain ⟨q,o,rfl,h0⟩:=I 0 (by simp);rw [Nat.add_zero] at h0;have ap:w.cell? ⟨q,o,none⟩=some (.string u):=h0;have hz:=a_h ap;clear h0 I;by_cases hu:u=kIn
  case neg=>
   have J:R=none:=by rw [<- eR,g_m,if_neg fun h=>hu h.1]
   subst J;have aX:=t_V hu;clear eR;go_wp2;exact bodyPost_ret (v:=.tuple #[.agg #[.slice none 0 0,.slice none 0 0],.bool false]) (by simp [results,Tryz.results31,go_sem]) rfl ⟨_,rfl,rfl,by go_grown⟩
  subst hu;have aX:=t_W;obtain ⟨p',n',c',es,hcut⟩:=t_z HV.out;have Z:=h_p (some ⟨q,o,none⟩) (E.length+1) c0 (by omega);rw [es] at Z;have ac:Hid (StrV w (.slice p' n' c') E):=hcut;clear hcut es;go_wp2_with fail
  generalize aP:alloc _ _=W0;have ae:Hid (Bw w W0):=by rw [<- aP];exact a_a w _
  have ak:Hid (W0.heap[w.heap.size]?=some (.cells #[.slice none 0 0,.slice none 0 0] 25 (0,0))):=by
   show _=_;rw [<- aP];exact Array.getElem?_push_size
  clear aP;have cn:=d_i _ E 2 (by omega) W0 W0 (Below.refl _ _) (ac.out.up ae);refine cn.mono ?_;rintro e w1 ⟨v1,v2,rfl,aq,au,aF⟩;obtain ⟨D,eD⟩:∃ D,(a_2 E 2).1=D:=⟨_,rfl⟩
  obtain ⟨rs,aM⟩:∃ D,(a_2 E 2).2=D:=⟨_,rfl⟩
  have aY:=(c_W E 2).2
  have HR:Hid (R=if D≠[] then (i_O rs.length rs).map fun ls=>(D,ls) else none):=by
   show _=_;rw [<- eR,g_m,eD,aM];by_cases h:D≠[]
   ·rw [if_pos ⟨rfl,h⟩,if_pos h]
   ·rw [if_neg fun h'=>h h'.2,if_neg h]
  rw [eD] at aq;rw [aM] at au aY;have bo:rs.length<=1073741823:=by simp only [length_cons] at a8;omega
  obtain ⟨pa,na,ca,rfl,bh⟩:=aq.nums.lst;have bd:=bh.1;obtain ⟨pr,nr,cr,rfl,bx⟩:=au.form;have ag:Hid (OwnK .i64 3 w1 W0.heap.size (.slice pa na ca) D/\StrV W0 (.slice pr nr cr) rs/\Bw W0 w1):=⟨aq,au,aF⟩
  have ai:=a_k ak.out;have aR:=(aF.block _ ai).trans ak.out;obtain ⟨⟨x0,y0⟩,⟨x1,y1⟩⟩:=b_4 aR;have a1:=a_h x0;clear cn aq au aF eD aM bh eR Z ap aX bC ac HV aY a6;by_cases hD:D = []
  ·subst hD;obtain rfl:na=0:=by simpa using bd.symm
   have J:R=none:=by rw [HR.out];rfl
   subst J;go_wp2;generalize hU:setCell _ _ _=U;obtain ⟨u0,u1,ab,_⟩:=d_I aR hU;exact bodyPost_ret (v:=.tuple #[.agg #[.slice none 0 0,.slice none 0 0],.bool false]) (by simp [results,Tryz.results31,go_sem,u0,u1]) rfl ⟨_,rfl,rfl,ab w _ (Nat.le_refl _) (a_c ae ag.2.2)⟩
  rw [if_pos hD] at HR
  have bc:((na:Int)==0)=false:=by
   have:D.length≠0:=fun h=>hD (eq_nil_of_length_eq_zero h);simpa using (show (na:Int)≠0 by omega)
  clear hD x0 x1 y0 y1;go_wp2_with fail
  generalize aU:alloc _ _=W2
  have ar:Hid (Bw W0 W2/\W2.heap[w1.heap.size]?=some (.cells #[.slice pa na ca,.slice none 0 0] 25 (0,0))/\OwnK .i64 3 W2 W0.heap.size (.slice pa na ca) D):=by
   have hb:Bw w1 W2:=by rw [<- aU];exact a_a w1 _
   refine ⟨a_c ag.2.2 hb,?_,ag.1.up hb⟩;rw [<- aU];exact Array.getElem?_push_size
  have bj:Hid _:=ag.2.1;obtain ⟨b6,e6⟩:∃ b,w1.heap.size=b:=⟨_,rfl⟩
  have bF:Hid (W0.heap.size<=b6):=by show _<=_;rw [<- e6];exact ag.2.2.size
  rw [e6] at ar ⊢;clear aU ag aR a1 e6 bd bc
  go_loopg [5] nr (fun gg u wr=>∃ (E:List ByteArray) (A:List Ly) (vL:Value),gg=E.length/\E.length+A.length<=1073741823/\Hid (StrV W0 u E/\Bw W0 wr/\OwnK .i64 3 wr W0.heap.size (.slice pa na ca) D)/\Hid (wr.heap[b6]?=some (.cells #[.slice pa na ca,vL] 25 (0,0))/\LyO wr W0.heap.size vL A)/\Hid (R=(i_O E.length E).map fun ls=>(D,A++ls)))
  case atStart=>exact ⟨rs,[],_,bx.symm,by simpa using bo,⟨bj.out,ar.1,ar.2.2⟩,⟨ar.2.1,LyO.nil _ _⟩,by show _=_;rw [HR.out];simp⟩
  case round=>
   obtain ⟨E,A,vL,hg,bl,HI,HL,aa⟩:=hrel;obtain ⟨pu,nu,cu,rfl,a7⟩:=HI.1.form;obtain ⟨pL,cL,aZ,_⟩:=HL.2.rd;obtain ⟨O,aQ⟩:∃ n,A.length=n:=⟨_,rfl⟩
   rw [aQ] at aZ;subst aZ;have HX:=(HI.2.1.block _ ai).trans ak.out;cases E with
   | nil=>
    obtain rfl:nu=0:=by simpa using a7.symm
    have J:R=some (D,A):=by rw [aa.out];simp [i_O]
    subst J;obtain ⟨⟨x0,y0⟩,⟨x1,y1⟩⟩:=b_4 HX;obtain ⟨⟨b0,_⟩,⟨b1,_⟩⟩:=b_4 HL.1;have L:Hid _:=HX;clear HX aa HR;go_wp2;generalize hU:setCell _ _ _=U;obtain ⟨u0,u1,ab,aW⟩:=d_I L.out hU
    have bw:LyO U w.heap.size (.slice pL O cL) A:=by
     have:=(HL.2.only aW (by decide))
     exact ⟨this.1,this.2.imp id fun ⟨g,bq,bA,e1,e2,e3⟩=>⟨g,bq,bA,e1,Nat.le_trans (Nat.le_of_lt ai) e2,e3⟩⟩
    exact bodyPost_ret (v:=.tuple #[.agg #[.slice pa na ca,.slice pL O cL],.bool true]) (by simp [results,Tryz.results31,go_sem,u0,u1]) rfl ⟨_,rfl,⟨_,_,_,_,_,_,rfl,(HI.2.2.only aW (by decide)).low (Nat.le_of_lt ai),bw⟩,ab w _ (Nat.le_refl _) (a_c ae HI.2.1)⟩
   | cons u E=>
    obtain rfl:nu=E.length+1:=by simpa using a7.symm
    have bL:(0:Int) < ((E.length+1:Nat):Int):=by omega
    obtain ⟨pp,cc,e,a6,I⟩:=HI.1;cases e;obtain ⟨q,o,rfl,h0⟩:=I 0 (by simp);rw [Nat.add_zero] at h0;have ap:=a_g HI.2.1 h0;have hz:=a_h ap;clear h0 I;obtain ⟨p',n',c',es,hcut⟩:=t_z HI.1;have Z:=h_p (some ⟨q,o,none⟩) (E.length+1) cu (by omega);rw [es] at Z;have ac:Hid _:=hcut;clear hcut es;have ck:=f_a u wr (Hid.up_kz (Hid.up_kz hK ae) HI.2.1);obtain ⟨kd,V⟩:∃ k,a_m u=k:=⟨_,rfl⟩
    have a2:b_Z kd<=2:=by unfold b_Z;split <;> (try split) <;> omega
    have aN:Hid (a_m u=kd/\b_Z kd<=2):=⟨V,a2⟩
    rw [V] at ck;clear a2;go_wp2_with fail
    refine ck.mono ?_;rintro e w3 ⟨rfl,aG⟩;have aH:=a_c HI.2.1 aG;have aO:Hid (w3.heap[w.heap.size]?=some (.cells #[.slice none 0 0,.slice none 0 0] 25 (0,0))):=(aH.block _ ai).trans ak.out;have ax:Hid (Bw W0 w3/\Bw wr w3):=⟨aH,aG⟩
    clear aH aG ck ap;by_cases h5:kd < 5
    case neg=>
     rw [decide_eq_false h5]
     have J:R=none:=by
      rw [aa.out,k_p (f:=(u :: E).length) (by simp) (.inl (by rw [V];have:=g_5 u;omega))];rfl
     subst J;obtain ⟨⟨x0,y0⟩,⟨x1,y1⟩⟩:=b_4 aO.out;have bJ:=a_h x0;clear aa HR V;go_wp2;generalize hU:setCell _ _ _=U;obtain ⟨u0,u1,ab,_⟩:=d_I aO.out hU;have aV:=a_h u0;exact bodyPost_ret (v:=.tuple #[.agg #[.slice none 0 0,.slice none 0 0],.bool false]) (by simp [results,Tryz.results31,go_sem,u0,u1,aV]) rfl ⟨_,rfl,rfl,(ab w _ (Nat.le_refl _) (a_c ae ax.1)).alloc (Nat.le_of_lt aV) _⟩
    rw [decide_eq_true h5];obtain ⟨X,eX⟩:∃ X,a_2 E (b_Z kd)=X:=⟨_,rfl⟩
    obtain ⟨cn,ay⟩:∃ c,b_Z kd=c:=⟨_,rfl⟩
    have aJ:Hid (b_N kd=u):=by show _=_;rw [<- V];exact e_v u (by omega)
    have L:Hid (a_2 E (b_Z (a_m u))=X/\b_Z (a_m u)=cn/\X.1.length<=2/\X.2.length+X.1.length=E.length/\a_m u < 5):=by
     have h1:=c_W E (b_Z kd);rw [eX] at h1;exact ⟨by rw [V];exact eX,by rw [V];exact ay,by have:=aN.2;omega,h1.2,by omega⟩
    rw [ay];generalize c_h kd=tA;generalize c_R kd=tB;generalize b_N kd=nm at aJ ⊢
    have cN:Hid (∀ W,Bw W0 W->Calls Tryz.prog 48 #[.slice p' n' c',.int .i64 (cn:Int)] W fun e w'=>∃ v1 v2,e = .returned (.tuple #[v1,v2])/\OwnK .i64 3 w' W.heap.size v1 X.1/\StrV W0 v2 X.2/\Bw W w'):=fun W hW=>by
     have:=d_i (.slice p' n' c') E (b_Z kd) aN.2 W0 W hW ac.out;rw [eX,ay] at this;exact this
    clear eX ay aN h5 V HR;go_wp2;generalize aI:alloc _ _=W4
    have az:Hid (Bw w3 W4/\Bw W0 W4):=by
     have hb:Bw w3 W4:=by rw [<- aI];exact a_a w3 _
     exact ⟨hb,a_c ax.1 hb⟩
    have aS:Hid (W4.heap[w3.heap.size]?=some (.cells #[.string nm,.int .i64 (cn:Int),.int .i64 tA,.int .i64 tB] 110 (0,0))):=by
     show _=_;rw [<- aI];exact Array.getElem?_push_size
    obtain ⟨_,k1,_,_⟩:=i_y aS.out;have bu:=a_h k1;clear aI;refine t_i [⟨4,50,NumP W0 W4.heap.size X⟩,⟨5,45,NumP W0 W4.heap.size X⟩,⟨6,51,OutV (some X.1) W4.heap.size⟩,⟨7,52,u_C W0 X.2⟩] 8 68 (by kernel_rfl) rfl rfl [7] (by kernel_rfl) (by kernel_rfl) (fun i0 hi o0 ho c a w v h=>?_) (by rfl) ?_ ?_
    ·simp only [mem_cons,not_mem_nil,or_false] at hi;subst hi;cases ho;exact h
    ·intro e he v W W' h hb;simp only [mem_cons,not_mem_nil,or_false] at he;rcases he with rfl|rfl|rfl|rfl
     ·exact NumP.up h hb
     ·exact NumP.up h hb
     ·exact OutV.up (x:=some X.1) h hb
     ·exact h
    apply Exists.intro;refine ⟨?yt1,?yl1,?wk1,?pk1,?rest1⟩
    case wk1=>
     intro x;simp only [take_succ_cons,take_zero]
     iterate 4
      apply c_w;rfl;rfl
      ·intro F hF hf K hK hFc hFf
       go_big_quiet_op
       exact hK
      (try simp only [a_v])
     refine c_g rfl rfl ?_ ?_
     ·intro F hF hf d hFc hFf;simp [a_j,a_e,go_sem];have ba:=hF.below d;refine (cN.out (F d) (a_c az.2 ba)).mono ?_;rintro e' w8 ⟨v8,u8,rfl,h8,br,bH⟩;exact ⟨_,rfl,⟨v8,u8,rfl,h8.low ba.size,br⟩,bH⟩
     (try simp only [a_v])
     refine c_g rfl rfl ?_ ?_
     ·intro F hF hf d hFc hFf;simp [a_j,a_e,go_sem];exact ⟨hf _ mS (by rfl) d,Below.refl _ _⟩
     (try simp only [a_v])
     refine c_g rfl rfl ?_ ?_
     ·intro F hF hf d hFc hFf;obtain ⟨v9,u9,e9,h9,-⟩:=hf _ (mC mS) (by rfl) d;simp only [] at e9;simp [a_j,a_e,go_sem,e9];obtain ⟨bP,bN,bM,bt,_⟩:=h9.nums.lst;subst bt;exact ⟨⟨_,_,_,rfl,h9⟩,Below.refl _ _⟩
     (try simp only [a_v])
     refine c_g rfl rfl ?_ ?_
     ·intro F hF hf d hFc hFf;obtain ⟨v9,u9,e9,-,h9⟩:=hf _ (mC mS) (by rfl) d;simp only [] at e9;simp [a_j,a_e,go_sem,e9];exact ⟨h9,Below.refl _ _⟩
     (try simp only [a_v])
     refine b_A ?_;exact rfl
    case pk1=>
     intro x;simp only [b_q,foldl_cons,foldl_nil,a_v]
    case yt1=>
     intro i0 hi o0 ho e he W x hx;simp only [mem_cons,not_mem_nil,or_false] at hi;subst hi;cases ho;have bE:=Option.some.inj he;subst bE;obtain ⟨v9,u9,e9,-,o9⟩:=hx _ (mC mS) (by rfl);simp only [] at e9;refine ⟨u9,o9,.inl ⟨by rfl,fun w=>?_⟩⟩;simp [execOp,Act.eval,e9,go_sem]
    case yl1=>
     intro i0 hi o0 ho hn x hx;simp only [mem_cons,not_mem_nil,or_false] at hi;subst hi;cases hn
    intro M xs av hf;simp only [drop_succ_cons,drop_zero];obtain ⟨p9,n9,c9,e9,aA⟩:=hf _ (mC (mC mS));have af:=hf _ (mC (mC (mC mS)));simp only [] at e9 aA af;unfold u_C at af;obtain ⟨x4,e4⟩:∃ q,xs 4=q:=⟨_,rfl⟩
    obtain ⟨x5,e5⟩:∃ q,xs 5=q:=⟨_,rfl⟩
    obtain ⟨u8,e8⟩:∃ q,xs 7=q:=⟨_,rfl⟩
    rw [e8] at af;obtain ⟨p8,n8,c8,bv,bO⟩:=af.form;subst bv;simp only [e9,e8,e4,e5];have ad:=a_c ax.2 (a_c az.1 av);have a0:Hid (OwnK .i64 3 M W4.heap.size (.slice p9 n9 c9) X.1/\StrV W0 (.slice p8 n8 c8) X.2):=⟨aA,af⟩
    have an:Hid (Bw W0 M/\OwnK .i64 3 M W0.heap.size (.slice pa na ca) D):=⟨a_c az.2 av,HI.2.2.up ad⟩
    have ah:Hid (M.heap[b6]?=some (.cells #[.slice pa na ca,.slice pL O cL] 25 (0,0))/\M.ownsRow W0.heap.size 69 3 (.slice pL O cL) O (A.flatMap lyC)):=⟨(ad.block _ (a_k HL.1)).trans HL.1,by have:=HL.2.up ad;unfold LyO at this;rw [aQ] at this;exact this⟩
    have ao:Hid (M.heap[w3.heap.size]?=some (.cells #[.string nm,.int .i64 (cn:Int),.int .i64 tA,.int .i64 tB] 110 (0,0))):=(av.block _ bu).trans aS.out;have a9:Hid (M.heap[w.heap.size]?=some (.cells #[.slice none 0 0,.slice none 0 0] 25 (0,0))):=(an.1.block _ ai).trans ak.out;obtain ⟨_,k1,_,_⟩:=i_y ao.out
    have aC:Hid (X.1.length=n9):=by
     show _=_;obtain ⟨_,_,_,e,h⟩:=aA.nums.lst;cases e;exact h.1
    clear hf av ad aA af e9 e8 e4 e5 cN Z az aS aO HI HL ax;by_cases bg:n9=cn
    case neg=>
     have bI:((n9:Int) != (cn:Int))=true:=by simpa using (show (n9:Int)≠(cn:Int) by omega)
     have bK:¬ ((n9:Int)=(cn:Int)):=by omega
     have J:R=none:=by
      rw [aa.out,k_p (f:=(u :: E).length) (by simp) (.inr (by rw [L.1,L.2.1,aC.out];exact bg))];rfl
     subst J;obtain ⟨⟨x0,y0⟩,⟨x1,y1⟩⟩:=b_4 a9.out;clear aa;go_wp2;generalize hU:setCell _ _ _=U;obtain ⟨u0,u1,ab,_⟩:=d_I a9.out hU;exact bodyPost_ret (v:=.tuple #[.agg #[.slice none 0 0,.slice none 0 0],.bool false]) (by simp [results,Tryz.results31,go_sem,u0,u1]) rfl ⟨_,rfl,rfl,ab w _ (Nat.le_refl _) (a_c ae an.1)⟩
    subst bg;obtain ⟨a,ea⟩:∃ a,X.1.getD 0 0=a:=⟨_,rfl⟩
    obtain ⟨b,eb⟩:∃ a,X.1.getD 1 0=a:=⟨_,rfl⟩
    have bi:Hid (R=(i_O X.2.length X.2).map fun ls=>(D,(A++[(u,a,b)])++ls)):=by
     show _=_;rw [aa.out,p_q (f:=(u :: E).length) (by simp) L.2.2.2.2 L.1 (by rw [L.2.1];exact aC.out),ea,eb,Option.map_map];simp [Function.comp_def]
    have bk:Hid (∀ W,Only [69] M W->Calls Tryz.prog 50 #[.agg #[.string nm,.int .i64 (n9:Int),.int .i64 tA,.int .i64 tB],.slice p9 n9 c9] W fun e w'=>e = .returned (.agg #[.string u,.int .i64 a,.int .i64 b])/\Bw W w'):=fun W hW=>by
     have:=i_8 nm n9 tA tB X.1 L.2.2.1 p9 n9 c9 W (a0.1.only hW (by decide)).nums;rw [ea,eb] at this;rw [<- aJ.out];exact this
    have bn:Hid _:=L.2.2.2.1;simp only [length_cons] at bl hg;have aw:Hid (∀ W,M.grownBy W (Value.ownBlock (.slice pL O cL))->Only [69] M W):=fun W hW=>f_h ah.2 hW;have bm:Hid (∀ z,Value.ownBlock (.slice pL O cL)=some z->z < M.heap.size):=fun z bs=>(ownsRow.lt ah.2 z bs).2;have am:=an.1.size;clear ea eb aa aJ;go_wp2;refine a_7 (by kernel_rfl) ?_;refine seg (fun q W=>match q with|false=>Bw M W|true=>M.grownBy W (Value.ownBlock (.slice pL O cL))) (fun W W'=>W.grownBy W' (Value.ownBlock (.slice pL O cL))) 6 [⟨5,64,LitS 69 M.heap.size [.string u,.int .i64 a,.int .i64 b]⟩,⟨6,65,OwnG 69 3 W0.heap.size (O+1) (A.flatMap lyC++[.string u,.int .i64 a,.int .i64 b])⟩] 0 8 68 rfl rfl (by kernel_rfl) (by rfl) ?_ ?_ ?_ ?_ ?_ ?_
    ·intro q W W' h hb;cases q
     ·exact a_c h hb
     ·exact d_U h hb
    ·exact ⟨rfl,rfl,rfl,Nat.le_refl _,fun _ _=>rfl⟩
    ·exact .inl ⟨_,mC mS,rfl⟩
    ·exact upC (fun _ _ _=>LitS.up) (upC (fun _ _ _=>OwnG.up) upN)
    ·intro e he bD v W W' h hc ht;simp only [mem_cons,not_mem_nil,or_false] at he;rcases he with rfl|rfl
     ·exact LitS.grown h ht bm.out
     ·exact absurd rfl bD
    apply Exists.intro;refine ⟨fun x=>?_,?_,?_⟩
    ·simp only [drop_succ_cons,drop_zero,take_succ_cons,take_zero];apply d_n;rfl;rfl
     ·intro b' F hF hf K hK hFc
      go_big_quiet_op
      exact hK
     (try simp only [a_v])
     apply d_n;rfl;rfl
     ·intro b' F hF hf K hK hFc
      have q0:∀ d,Only [69] M (F d):=fun d=>aw.out _ (by
       cases b'
       ·exact a_B _ (hFc d)
       ·exact hFc d)
      have q1:=fun d=>(b_4 ((q0 d).keep ah.1 (by decide))).2.1;clear hFc q0
      go_big_quiet_op
      exact hK
     (try simp only [a_v])
     apply d_n;rfl;rfl
     ·intro b' F hF hf K hK hFc
      have q0:∀ d,Only [69] M (F d):=fun d=>aw.out _ (by
       cases b'
       ·exact a_B _ (hFc d)
       ·exact hFc d)
      have q1:=fun d=>(i_y ((q0 d).keep ao.out (by decide))).1;have q2:=fun d=>(i_y ((q0 d).keep ao.out (by decide))).2.1;have q3:=fun d=>(i_y ((q0 d).keep ao.out (by decide))).2.2.1;have q4:=fun d=>(i_y ((q0 d).keep ao.out (by decide))).2.2.2;clear hFc q0
      go_big_quiet_op
      exact hK
     (try simp only [a_v])
     apply d_n;rfl;rfl
     ·intro b' F hF hf K hK hFc
      go_big_quiet_op
      exact hK
     (try simp only [a_v])
     apply d_n;rfl;rfl
     ·intro b' F hF hf K hK hFc
      have q0:∀ d,Only [69] M (F d):=fun d=>aw.out _ (by
       cases b'
       ·exact a_B _ (hFc d)
       ·exact hFc d)
      go_big_quiet_op
      first|exact hK|(apply Exists.intro;refine ⟨fun _=>?_,?_⟩;(· exact hF.call (bk.out _ (q0 _)));exact hK)
     (try simp only [a_v])
     refine a_U rfl (by decide) rfl ?_ ?_
     ·intro b' F hF hf d;have hFc:=hF.cls
      have be:M.heap.size<=(F d).heap.size:=by
       cases b'
       ·exact (hFc d).size
       ·exact (hFc d).size
      simp [a_j,a_e,go_sem];exact ⟨⟨(F d).heap.size,rfl,heap_alloc_new (F d) _,be⟩,a_a _ _⟩
     (try simp only [a_v])
     refine c_P rfl rfl rfl ?_ ?_
     ·intro W hW hf;have h7:=hf _ mS (by rfl) W;obtain ⟨g7,e7,bB,_⟩:=h7;simp only [] at e7;obtain ⟨g8,c8,w8,bp,bG,aD⟩:=r_n u_O (by decide) (by decide) 23 W W0.heap.size (.slice pL O cL) O (A.flatMap lyC) (a_z (S:=[]) ah.2 (Only.of hW) (by simp)) g7 [.string u,.int .i64 a,.int .i64 b] bB rfl (fun x hx=>by simp at hx;rcases hx with rfl|rfl|rfl <;> rfl) (by omega) (Nat.le_trans am (Below.size hW));simp [b_i,a_Z,execOp,resolve,invoke,builtin,Act.eval,e7,bp,Result.andThen];exact ⟨⟨g8,c8,rfl,bG⟩,b_2 (a_B _ hW) aD,aD⟩
     (try simp only [a_v])
     apply d_n;rfl;rfl
     ·intro b' F hF hf K hK hFc
      go_big_quiet_op
      exact hK
     (try simp only [a_v])
     refine e_b ?_;exact rfl
    ·exact fun x=>rfl
    ·intro w8 bb aL a3;refine c_z 8 (by kernel_rfl) ?_;simp only [drop_succ_cons,drop_zero];have h8:=a3 _ (mC mS);obtain ⟨x5,e5⟩:∃ z,bb 5=z:=⟨_,rfl⟩
     obtain ⟨x6,e6⟩:∃ z,bb 6=z:=⟨_,rfl⟩
     simp only [e6] at h8;simp only [e5,e6];obtain ⟨g8,aj,rfl,h8⟩:=h8;have aT:=aw.out w8 aL;have al:=aT.keep ah.1 (by decide);obtain ⟨_,⟨r0,r1⟩⟩:=b_4 al
     have HF:Hid (StrV W0 (.slice p8 n8 c8) X.2/\Bw W0 (w8.setCell ⟨b6,1,none⟩ (.slice (some ⟨g8,0,none⟩) (O+1) aj))/\OwnK .i64 3 (w8.setCell ⟨b6,1,none⟩ (.slice (some ⟨g8,0,none⟩) (O+1) aj)) W0.heap.size (.slice pa na ca) D):=by
      refine ⟨a0.2,(Below.grown an.1 aL am fun k hk=>(ownsRow.lt ah.2 k hk).1).setCell (p:=⟨b6,1,none⟩) bF _,(an.2.only aT (by decide)).only (Only.set (S:=[25]) al (by simp)) (by decide)⟩
     have bz:Hid ((w8.setCell ⟨b6,1,none⟩ (.slice (some ⟨g8,0,none⟩) (O+1) aj)).heap[b6]?=some (.cells #[.slice pa na ca,.slice (some ⟨g8,0,none⟩) (O+1) aj] 25 (0,0))/\LyO (w8.setCell ⟨b6,1,none⟩ (.slice (some ⟨g8,0,none⟩) (O+1) aj)) W0.heap.size (.slice (some ⟨g8,0,none⟩) (O+1) aj) (A++[(u,a,b)])):=by
      refine ⟨by rw [a_l al];rfl,?_⟩;unfold LyO;rw [length_append,aQ,flatMap_append];exact a_z (S:=[25]) h8 (Only.set al (by simp)) (by decide)
     have a5:=bn.out;have aE:X.2.length+(A++[(u,a,b)]).length<=1073741823:=by simp;omega
     have aB:Hid (X.2.length+(A++[(u,a,b)]).length<=1073741823/\X.2.length < E.length+1):=⟨aE,by omega⟩
     clear a5 aT al h8 a3 aL aE e5 e6;go_wp2;go_roundg X.2.length
     case measure=>have:=aB.2;omega
     case rel=>exact ⟨X.2,A++[(u,a,b)],_,rfl,aB.1,HF,bz,bi⟩
theorem i_z (s:ByteArray):∀ n,(b_e s n).1.length+(if (b_e s n).2=none then 0 else 1)<=n
 | 0=>by simp [b_e]
 | n+1=>by
  have A:=i_z s n;have e:b_e s (n+1)=b_7 s n (b_e s n):=rfl;rw [e];unfold b_7;cases E:(b_e s n).2 with
  | none=>rw [E] at A;simp at A;split <;> simp <;> omega
  | some a=>rw [E] at A;simp at A;split <;> simp <;> omega
theorem n_h (s:ByteArray):(d_h s).length<=s.size:=by
 have:=i_z s s.size;unfold d_h Lib.closeSpans;rw [length_map];cases A:(b_e s s.size).2 with
 | none=>rw [A] at this;simpa using this
 | some a=>rw [A] at this;simpa using this
theorem k_q:∀ (f:Nat) (E:List ByteArray) (ls:List Ly),i_O f E=some ls->ls.length<=f
 | 0,_,ls,h=>by cases h;simp
 | f+1,[],ls,h=>by cases h;simp
 | f+1,u :: us,ls,h=>by
  rw [g_l] at h
  split at h
  ·cases h
  ·obtain ⟨l,A,rfl⟩:=Option.map_eq_some_iff.1 h;have:=k_q f _ l A;simp only [length_cons];omega
theorem p_r {A:List ByteArray} {x:List Int×List Ly} (h:o_d A=some x):x.2.length<=A.length:=by
 cases A with
 | nil=>cases h
 | cons u us=>
  rw [g_m] at h
  split at h
  ·obtain ⟨l,E,rfl⟩:=Option.map_eq_some_iff.1 h;have I:=k_q _ _ l E;have H:=(c_W us 2).2;simp only [length_cons];omega
  ·cases h
theorem LyO.low {W:World} {B H:Nat} {v:Value} {ls:List Ly} (h:LyO W B v ls) (J:H<=B):LyO W H v ls:=⟨h.1,h.2.imp id fun ⟨g,A,E,I,L,M⟩=>⟨g,A,E,I,Nat.le_trans J L,M⟩⟩
theorem n_i (s:ByteArray) (w:World) (hK:Hid (Kz w)):
  Calls Tryz.prog 16 #[.string s] w fun e w'=>∃ p n c p2 n2 V,e = .returned (.tuple #[.agg #[.slice p n c,.slice p2 n2 V],.int .i64 (pE s)])/\OwnK .i64 3 w' w.heap.size (.slice p n c) (pX s).1/\LyO w' w.heap.size (.slice p2 n2 V) (pX s).2/\Bw w w':=by
 obtain ⟨E,eE⟩:∃ E,pE s=E:=⟨_,rfl⟩
 obtain ⟨X,eX⟩:∃ X,pX s=X:=⟨_,rfl⟩
 have HE:Hid (pE s=E/\pX s=X):=⟨eE,eX⟩
 have an:Hid (E≠0->X=([],[])):=fun h=>by rw [<- eX];unfold pX;rw [if_neg (by rw [eE];exact h)]
 rw [eE,eX];clear eE eX;go_enter Tryz.func16,Tryz.ntmps16;by_cases hs:16384 < s.size
 ·have aB:(16384:Int) < ((s.size:Nat):Int):=by omega
  have e1:E=2:=by rw [<- HE.1];unfold pE;rw [if_pos hs]
  have e2:X=([],[]):=an.out (by rw [e1];decide);subst e1 e2;go_wp2;exact brn 2 (by simp [results,Tryz.results16,go_sem]) ⟨_,_,_,_,_,_,rfl,OwnK.nil _ _ _ _,LyO.nil _ _,by go_grown⟩
 have aB:((s.size:Nat):Int)<=16384:=by omega
 have ay:s.size<=16384:=by omega
 have HP:Hid (E=match o_d (d_h s) with|none=>7|some x=>nE x.1 x.2):=by
  show _=_;rw [<- HE.1];unfold pE;rw [if_neg hs];cases o_d (d_h s) <;> rfl
 go_wp2_with fail
 generalize ag:alloc _ _=W0;have aA:Hid (Bw w W0):=by rw [<- ag];exact a_a w _
 have aq:Hid (W0.heap[w.heap.size]?=some (.cells #[.slice none 0 0,.slice none 0 0] 25 (0,0))):=by
  show _=_;rw [<- ag];exact Array.getElem?_push_size
 have ah:=a_k aq.out;clear ag;refine (j_m s ay W0).mono ?_;rintro e w1 ⟨v1,rfl,ab,ai⟩;obtain ⟨pv,nv,cv,rfl,_⟩:=ab.form;have L:Hid (Bw w w1/\Bw W0 w1):=⟨a_c aA ai,ai⟩
 have ax:=n_h s;obtain ⟨ws,ae⟩:∃ ws,d_h s=ws:=⟨_,rfl⟩
 rw [ae] at ab HP ax;have cN:=n_g _ ws (by omega) w1 (Hid.up_kz hK L.1) ab;obtain ⟨R,eR⟩:∃ R,o_d ws=R:=⟨_,rfl⟩
 have aa:Hid (o_d ws=R/\ws.length<=16384/\d_h s=ws):=⟨eR,by omega,ae⟩
 rw [eR] at cN HP;clear ab ai ae eR ax;go_wp2_with fail
 refine cN.mono ?_;rintro e J ⟨v2,rfl,ap,Z⟩;have I:Hid (Bw w J/\Bw W0 J):=⟨a_c L.1 Z,a_c L.2 Z⟩
 clear cN;cases R with
 | none=>
  have h2:v2 = .tuple #[.agg #[.slice none 0 0,.slice none 0 0],.bool false]:=ap;subst h2;have e1:E=7:=HP.out;have e2:X=([],[]):=an.out (by rw [e1];decide);subst e1 e2;have O:=(I.2.block _ ah).trans aq.out;obtain ⟨⟨x0,y0⟩,⟨x1,y1⟩⟩:=b_4 O;have aD:=a_h x0;clear ap Z;go_wp2;generalize hU:setCell _ _ _=U;obtain ⟨u0,u1,M,_⟩:=d_I O hU;have au:=a_h u0;exact brn 7 (by simp [results,Tryz.results16,go_sem,u0,u1,au]) ⟨_,_,_,_,_,_,rfl,OwnK.nil _ _ _ _,LyO.nil _ _,(M w _ (Nat.le_refl _) I.1).alloc (Nat.le_of_lt au) _⟩
 | some x=>
  obtain ⟨d,ls⟩:=x;obtain ⟨p,n,c,p2,n2,V,rfl,ho,hl⟩:=ap;have aw:=p_r aa.1;obtain ⟨pl,cl,el,af⟩:=hl.rd;cases el;simp only [] at ho hl aw af;have HO:Hid (OwnK .i64 3 J w1.heap.size (.slice p n c) d/\LyO J w1.heap.size (.slice p2 ls.length V) ls):=⟨ho,hl⟩
  obtain ⟨nl,aj⟩:∃ n,ls.length=n:=⟨_,rfl⟩
  have hw:=aa.2.1
  have cS:Hid (∀ W,Bw J W->Calls Tryz.prog 22 #[.agg #[.slice p n c,.slice p2 nl V]] W fun e w'=>∃ ps sl cs,e = .returned (.tuple #[.slice ps sl cs,.int .i64 (nE d ls)])/\Bw W w'):=fun W hW=>by
   have ad:=af.up hW;rw [aj] at ad;refine (d_V p p2 n c nl V d ls (by omega) W (Hid.up_kz (Hid.up_kz hK I.1) hW) (ho.nums.up hW) ad).mono ?_;rintro e w' ⟨ps,cs,rfl,_,hB⟩;exact ⟨ps,_,cs,rfl,hB⟩
  have e1:E=nE d ls:=HP.out;rw [<- e1] at cS
  have az:Hid (E=0->X=(d,ls)):=fun h=>by
   rw [<- HE.2];unfold pX;rw [if_pos (by rw [HE.1];exact h),aa.2.2,aa.1];rfl
  rw [aj] at HO ⊢;clear ho hl aw af hw Z HP e1 aj;have O:Hid (J.heap[w.heap.size]?=some (.cells #[.slice none 0 0,.slice none 0 0] 25 (0,0))/\w.heap.size < J.heap.size):=⟨(I.2.block _ ah).trans aq.out,Nat.lt_of_lt_of_le ah I.2.size⟩
  go_wp2_with fail
  generalize am:alloc _ _=W3;have ak:Bw J W3:=by rw [<- am];exact a_a J _
  obtain ⟨b0,b1⟩:W3.cell? ⟨J.heap.size,0,none⟩=some (.slice p n c)/\W3.cell? ⟨J.heap.size,1,none⟩=some (.slice p2 nl V):=by rw [<- am];simp [go_sem]
  refine (cS.out W3 ak).mono ?_;rintro e w4 ⟨ps,sl,cs,rfl,ac⟩;replace b0:=a_g ac b0;replace b1:=a_g ac b1;have H:=a_c ak ac;have av:Hid _:=a_c I.1 H;have ao:=(H.block _ O.2).trans O.1;have ar:Hid (OwnK .i64 3 w4 w.heap.size (.slice p n c) d/\LyO w4 w.heap.size (.slice p2 nl V) ls):=⟨(HO.1.up H).low L.1.size,(HO.2.up H).low L.1.size⟩
  obtain ⟨⟨x0,y0⟩,⟨x1,y1⟩⟩:=b_4 ao;clear am ak ac H cS;by_cases h0:E=0
  ·subst h0;have e2:=az.out rfl;subst e2;go_wp2;generalize hU:setCell _ _ _=U;obtain ⟨u0,u1,M,al⟩:=d_I ao hU;exact bodyPost_ret (v:=.tuple #[.agg #[.slice p n c,.slice p2 nl V],.int .i64 0]) (by simp [results,Tryz.results16,go_sem,u0,u1]) rfl ⟨_,_,_,_,_,_,rfl,ar.1.only al (by decide),ar.2.only al (by decide),M w _ (Nat.le_refl _) av⟩
  ·have aC:(E != 0)=true:=by simpa using h0
   have e2:=an.out h0;subst e2;go_wp2;generalize hU:setCell _ _ _=U;obtain ⟨u0,u1,M,al⟩:=d_I ao hU;exact brn E (by simp [results,Tryz.results16,go_sem,u0,u1]) ⟨_,_,_,_,_,_,rfl,OwnK.nil _ _ _ _,LyO.nil _ _,M w _ (Nat.le_refl _) av⟩
/-- A slice of layers of the call's own, by its elements' type. -/
def LyE (e:TypeId) (W:World) (B:Nat) (v:Value) (ls:List Ly):Prop:=W.ownsRow B e 3 v ls.length (ls.flatMap lyC)
theorem LyE.rd {e:TypeId} {W:World} {B:Nat} {v:Value} {ls:List Ly} (h:LyE e W B v ls):∃ p c,v = .slice p ls.length c/\LyR 0 W p ls.length ls:=by
 have M:=h;rcases h.2 with ⟨rfl,O⟩|⟨g,A,L,rfl,V,Z,R⟩
 ·exact ⟨none,0,by rw [O],rfl,fun i H=>by omega⟩
 ·refine ⟨_,A,rfl,rfl,fun i H=>?_⟩
  have E:∀ k,k < 3->∀ v,(lyC (lyA ls i))[k]?=some v->W.cell? ⟨g,0+i*3+k,none⟩=some v:=fun k J v I=>by
   have:=ownsRow.cells M rfl (i*3+k) v ((q_f ls i k H J).trans I);rw [a_r,<- Nat.add_assoc] at this;exact this
  exact ⟨g,0,rfl,E 0 (by omega) _ rfl,E 1 (by omega) _ rfl,E 2 (by omega) _ rfl⟩
theorem t_X:GT Tryz.prog 32 68 3 32:=⟨Tryz.underlying32,by kernel_rfl⟩
theorem s_G (w:World) (a b c:Obj):(((w.alloc a).alloc b).alloc c).heap[w.heap.size]?=some a/\(((w.alloc a).alloc b).alloc c).heap[w.heap.size+1]?=some b/\(((w.alloc a).alloc b).alloc c).heap[w.heap.size+2]?=some c/\Bw w (((w.alloc a).alloc b).alloc c):=by
 have J:(w.alloc a).heap.size=w.heap.size+1:=by simp
 have I:((w.alloc a).alloc b).heap.size=w.heap.size+2:=by simp
 have H:=heap_alloc_new w a;have E:=heap_alloc_new (w.alloc a) b;have A:=heap_alloc_new ((w.alloc a).alloc b) c;rw [J] at E;rw [I] at A;refine ⟨?_,?_,A,k_U (k_U (a_a _ _) _) _⟩
 ·rw [(a_a ((w.alloc a).alloc b) c).block _ (by omega),(a_a (w.alloc a) b).block _ (by omega)];exact H
 ·rw [(a_a ((w.alloc a).alloc b) c).block _ (by omega)];exact E
theorem p_s (ls:List Ly) (k:Nat) (A:k < ls.length):(ls.take (k+1)).flatMap lyC=(ls.take k).flatMap lyC++[.string (lyA ls k).1,.int .i64 (lyA ls k).2.1,.int .i64 (lyA ls k).2.2]:=by
 have e:lyA ls k=ls[k]:=by unfold lyA;rw [getD_eq_getElem?_getD,getElem?_eq_getElem A];rfl
 rw [take_succ_eq_append_getElem A,flatMap_append,e];simp [lyC]
theorem n_j (p p2:Option Addr) (n c A c2:Nat) (ls:List Ly) (av:A<=1073741823) (w:World) (hL:LyR 0 w p2 A ls):
  Calls Tryz.prog 6 #[.agg #[.slice p n c,.slice p2 A c2]] w fun e w'=>∃ p3 c3,e = .returned (.agg #[.slice p n c,.slice p3 A c3])/\LyE 68 w' w.heap.size (.slice p3 A c3) ls/\Bw w w':=by
 haveI:Nonempty World:=⟨w⟩
 have HL:Hid (LyR 0 w p2 A ls):=hL;clear hL;go_enter Tryz.func6,Tryz.ntmps6;go_wp2_with fail
 generalize af:alloc _ _=W0
 have HX:Hid (W0.heap[w.heap.size]?=some (.cells #[.slice p n c,.slice p2 A c2] 25 (0,0))/\W0.heap[w.heap.size+1]?=some (.cells #[.slice none 0 0,.slice none 0 0] 34 (0,0))/\W0.heap[w.heap.size+2]?=some (.cells #[.slice p n c,.slice none 0 0] 34 (0,0))/\Bw w W0):=by
  rw [<- af];exact s_G w _ _ _
 clear af
 go_loopg [4] A (fun gg v wr=>∃ (k:Nat) (vL:Value),k<=A/\gg=A - k/\v = .int .i64 (k:Int)/\Hid (wr.heap[w.heap.size]?=some (.cells #[.slice p n c,.slice p2 A c2] 25 (0,0))/\wr.heap[w.heap.size+1]?=some (.cells #[.slice none 0 0,.slice none 0 0] 34 (0,0))/\wr.heap[w.heap.size+2]?=some (.cells #[.slice p n c,vL] 34 (0,0))/\Bw w wr)/\Hid (wr.ownsRow w.heap.size 68 3 vL k ((ls.take k).flatMap lyC)))
 case atStart=>exact ⟨0,.slice none 0 0,by omega,by omega,rfl,HX,⟨rfl,.inl ⟨rfl,rfl⟩⟩⟩
 case round=>
  obtain ⟨k,vL,hk,hg,rfl,E,H⟩:=hrel
  obtain ⟨L,I,rfl⟩:∃ L I,vL = .slice L k I:=by
   rcases H.2 with ⟨rfl,h0⟩|⟨g,aB,az,rfl,_⟩
   ·exact ⟨none,0,by rw [h0]⟩
   ·exact ⟨_,_,rfl⟩
  obtain ⟨⟨b0,_⟩,⟨b1,_⟩⟩:=b_4 E.1;have aC:=a_h b1;by_cases aa:k < A
  ·have ax:(k:Int) < (A:Int):=by omega
   obtain ⟨q,o,rfl,c0,c1,ap⟩:=(HL.out.up E.2.2.2).2 k aa;have ac:k < ls.length:=by rw [HL.1];exact aa
   obtain ⟨l,el⟩:∃ l,lyA ls k=l:=⟨_,rfl⟩
   obtain ⟨s,a,b⟩:=l
   have HT:Hid ((ls.take (k+1)).flatMap lyC=(ls.take k).flatMap lyC++[.string s,.int .i64 a,.int .i64 b]):=by
    have:=p_s ls k ac;rw [el] at this;exact this
   rw [el] at c0 c1 ap;have ay:=a_h c0;have au:Hid (∀ z,Value.ownBlock (.slice L k I)=some z->z < wr.heap.size):=fun z ar=>(ownsRow.lt H.out z ar).2;have ag:Hid _:=E.2.2.2.size;have HG:Hid (∀ W,wr.grownBy W (Value.ownBlock (.slice L k I))->Only [68] wr W/\Bw w W):=fun W V=>⟨f_h H.out V,Below.grown E.2.2.2 V ag.out fun k hk=>(ownsRow.lt H.out k hk).1⟩
   have HQ:Hid (∀ W,wr.grownBy W (Value.ownBlock (.slice L k I))->W.cell? ⟨w.heap.size+2,1,none⟩=some (.slice L k I)/\W.cell? ⟨w.heap.size,1,none⟩=some (.slice (some ⟨q,o,none⟩) A c2)/\W.cell? ⟨q,o+k*3,none⟩=some (.string s)/\W.cell? ⟨q,o+k*3+1,none⟩=some (.int .i64 a)/\W.cell? ⟨q,o+k*3+2,none⟩=some (.int .i64 b)):=fun W V=>by
    obtain ⟨h1,h2⟩:=HG.out W V;obtain ⟨q',o',e,d0,d1,d2⟩:=(HL.out.up h2).2 k aa;cases e;rw [el] at d0 d1 d2;exact ⟨(b_4 (h1.keep E.2.2.1 (by decide))).2.1,(b_4 (h1.keep E.1 (by decide))).2.1,d0,d1,d2⟩
   clear el;go_wp2;refine a_7 (by kernel_rfl) ?_;refine seg (fun q W=>match q with|false=>Bw wr W|true=>wr.grownBy W (Value.ownBlock (.slice L k I))) (fun W W'=>W.grownBy W' (Value.ownBlock (.slice L k I))) 22 [⟨21,36,LitS 68 wr.heap.size [.string s,.int .i64 a,.int .i64 b]⟩,⟨22,37,OwnG 68 3 w.heap.size (k+1) (((ls.take k).flatMap lyC)++[.string s,.int .i64 a,.int .i64 b])⟩] 0 24 40 rfl rfl (by kernel_rfl) (by rfl) ?_ ?_ ?_ ?_ ?_ ?_
   ·intro q W W' h hb;cases q
    ·exact a_c h hb
    ·exact d_U h hb
   ·exact ⟨rfl,rfl,rfl,Nat.le_refl _,fun _ _=>rfl⟩
   ·exact .inl ⟨_,mC mS,rfl⟩
   ·exact upC (fun _ _ _=>LitS.up) (upC (fun _ _ _=>OwnG.up) upN)
   ·intro e he an v W W' h hc ht;simp only [mem_cons,not_mem_nil,or_false] at he;rcases he with rfl|rfl
    ·exact LitS.grown h ht au.out
    ·exact absurd rfl an
   apply Exists.intro;refine ⟨fun x=>?_,?_,?_⟩
   ·simp only [drop_succ_cons,drop_zero,take_succ_cons,take_zero]
    iterate 21
     apply d_n;rfl;rfl
     ·intro b' F hF hf K hK hFc
      have q:=fun d=>HQ.out (F d) (by
       cases b'
       ·exact a_B _ (hFc d)
       ·exact hFc d)
      have q1:=fun d=>(q d).1;have q2:=fun d=>(q d).2.1;have q3:=fun d=>(q d).2.2.1;have q4:=fun d=>(q d).2.2.2.1;have q5:=fun d=>(q d).2.2.2.2;clear hFc q
      go_big_quiet_op
      exact hK
     (try simp only [a_v])
    refine a_U rfl (by decide) rfl ?_ ?_
    ·intro b' F hF hf d;have hFc:=hF.cls
     have ah:wr.heap.size<=(F d).heap.size:=by
      cases b'
      ·exact (hFc d).size
      ·exact (hFc d).size
     simp [a_j,a_e,go_sem];exact ⟨⟨(F d).heap.size,rfl,heap_alloc_new (F d) _,ah⟩,a_a _ _⟩
    (try simp only [a_v])
    refine c_P rfl rfl rfl ?_ ?_
    ·intro W V hf;have h7:=hf _ mS (by rfl) W;obtain ⟨g7,e7,al,_⟩:=h7;simp only [] at e7;obtain ⟨O,R,w8,aj,aq,Z⟩:=r_n t_X (by decide) (by decide) 32 W w.heap.size (.slice L k I) k ((ls.take k).flatMap lyC) (a_z (S:=[]) H.out (Only.of V) (by simp)) g7 [.string s,.int .i64 a,.int .i64 b] al rfl (fun x hx=>by simp at hx;rcases hx with rfl|rfl|rfl <;> rfl) (by omega) (Nat.le_trans ag.out (Below.size V));simp [b_i,a_Z,execOp,resolve,invoke,builtin,Act.eval,e7,aj,Result.andThen];exact ⟨⟨O,R,rfl,aq⟩,b_2 (a_B _ V) Z,Z⟩
    (try simp only [a_v])
    apply d_n;rfl;rfl
    ·intro b' F hF hf K hK hFc
     have q:=fun d=>HQ.out (F d) (by
      cases b'
      ·exact a_B _ (hFc d)
      ·exact hFc d)
     have q1:=fun d=>(q d).1;have q2:=fun d=>(q d).2.1;have q3:=fun d=>(q d).2.2.1;have q4:=fun d=>(q d).2.2.2.1;have q5:=fun d=>(q d).2.2.2.2;clear hFc q
     go_big_quiet_op
     exact hK
    (try simp only [a_v])
    refine e_b ?_;exact rfl
   ·exact fun x=>rfl
   ·intro w8 ae ab ad;refine c_z 24 (by kernel_rfl) ?_;simp only [drop_succ_cons,drop_zero];have h8:=ad _ (mC mS);obtain ⟨x5,e5⟩:∃ z,ae 21=z:=⟨_,rfl⟩
    obtain ⟨x6,e6⟩:∃ z,ae 22=z:=⟨_,rfl⟩
    simp only [e6] at h8;simp only [e5,e6];obtain ⟨O,R,rfl,h8⟩:=h8;have J:=HG.out w8 ab;have M:=J.1.keep E.2.2.1 (by decide);obtain ⟨_,⟨r0,r1⟩⟩:=b_4 M
    have HF:Hid ((w8.setCell ⟨w.heap.size+2,1,none⟩ (.slice (some ⟨O,0,none⟩) (k+1) R)).heap[w.heap.size]?=some (.cells #[.slice p n c,.slice (some ⟨q,o,none⟩) A c2] 25 (0,0))/\(w8.setCell ⟨w.heap.size+2,1,none⟩ (.slice (some ⟨O,0,none⟩) (k+1) R)).heap[w.heap.size+1]?=some (.cells #[.slice none 0 0,.slice none 0 0] 34 (0,0))/\(w8.setCell ⟨w.heap.size+2,1,none⟩ (.slice (some ⟨O,0,none⟩) (k+1) R)).heap[w.heap.size+2]?=some (.cells #[.slice p n c,.slice (some ⟨O,0,none⟩) (k+1) R] 34 (0,0))/\Bw w (w8.setCell ⟨w.heap.size+2,1,none⟩ (.slice (some ⟨O,0,none⟩) (k+1) R))):=by
     refine ⟨?_,?_,?_,J.2.setCell (p:=⟨w.heap.size+2,1,none⟩) (le_add_right _ _) _⟩
     ·rw [a_1 _ _ _ _ _ (by omega)];exact J.1.keep E.1 (by decide)
     ·rw [a_1 _ _ _ _ _ (by omega)];exact J.1.keep E.2.1 (by decide)
     ·rw [a_l M];rfl
    have ai:Hid ((w8.setCell ⟨w.heap.size+2,1,none⟩ (.slice (some ⟨O,0,none⟩) (k+1) R)).ownsRow w.heap.size 68 3 (.slice (some ⟨O,0,none⟩) (k+1) R) (k+1) ((ls.take (k+1)).flatMap lyC)):=by
     show ownsRow _ _ _ _ _ _ _;rw [HT.out];exact a_z (S:=[34]) h8 (Only.set M (by simp)) (by decide)
    clear J M h8 ad ab e5 e6;go_wp2;go_roundg (A - (k+1))
    case measure=>omega
    case rel=>exact ⟨k+1,_,by omega,rfl,by first|rfl|simp,HF,ai⟩
  ·obtain rfl:k=A:=by omega
   obtain ⟨⟨d0,aA⟩,⟨d1,aw⟩⟩:=b_4 E.2.1;obtain ⟨⟨f0,_⟩,⟨f1,_⟩⟩:=b_4 E.2.2.1;have kd:=a_h d0;have kf:=a_h f0;go_wp2;generalize hU:setCell _ _ _=U;obtain ⟨u0,u1,ak,am⟩:=d_I E.2.1 hU
   have ao:LyE 68 U w.heap.size (.slice L k I) ls:=by
    have:=a_z H.out am (by decide);rw [take_of_length_le (by rw [HL.1];exact Nat.le_refl _)] at this;unfold LyE;rw [HL.1];exact this
   exact bodyPost_ret (v:=.agg #[.slice p n c,.slice L k I]) (by simp [results,Tryz.results6,go_sem,u0,u1]) rfl ⟨_,_,rfl,ao,ak w _ (by omega) E.2.2.2⟩
/-- What a run may change: nothing below B, and of the rest only blocks of a tape and of a plan. -/
abbrev S4:List TypeId:=[72,52,98,95]
abbrev S2:List TypeId:=[98,95]
structure Rn (B:Nat) (W W':World):Prop where
 bel:Below B W W'
 onl:Only S2 W W'
theorem Rn.refl (B:Nat) (W:World):Rn B W W:=⟨Below.refl _ _,Only.refl _ _⟩
theorem Rn.trans {B:Nat} {a b c:World} (h:Rn B a b) (A:Rn B b c):Rn B a c:=⟨h.bel.trans A.bel,h.onl.trans A.onl⟩
theorem Rn.of {B:Nat} {a b:World} (A:B<=a.heap.size) (h:Bw a b):Rn B a b:=⟨h.mono A,Only.of h⟩
theorem Rn.size {B:Nat} {a b:World} (h:Rn B a b):a.heap.size<=b.heap.size:=h.onl.1
structure R4 (B:Nat) (W W':World):Prop where
 bel:Below B W W'
 onl:Only S4 W W'
theorem R4.refl (B:Nat) (W:World):R4 B W W:=⟨Below.refl _ _,Only.refl _ _⟩
theorem R4.trans {B:Nat} {a b c:World} (h:R4 B a b) (A:R4 B b c):R4 B a c:=⟨h.bel.trans A.bel,h.onl.trans A.onl⟩
theorem R4.of {B:Nat} {a b:World} (A:B<=a.heap.size) (h:Bw a b):R4 B a b:=⟨h.mono A,Only.of h⟩
theorem R4.size {B:Nat} {a b:World} (h:R4 B a b):a.heap.size<=b.heap.size:=h.onl.1
theorem Rn.r4 {B:Nat} {a b:World} (h:Rn B a b):R4 B a b:=⟨h.bel,h.onl.more (by simp)⟩
/-- Numbers that a run leaves as they are. -/
def Kept (B:Nat) (W:World) (v:Value) (l:List Int):Prop:=∀ W',R4 B W W'->Nums .i64 W' v l
theorem Kept.up {B:Nat} {W W':World} {v:Value} {l:List Int} (h:Kept B W v l) (A:Rn B W W'):Kept B W' v l:=fun H E=>h H (A.r4.trans E)
theorem Kept.nums {B:Nat} {W:World} {v:Value} {l:List Int} (h:Kept B W v l):Nums .i64 W v l:=h W (R4.refl _ _)
theorem OwnK.kept {e:TypeId} {B E:Nat} {W:World} {v:Value} {l:List Int} (h:OwnK .i64 e W E v l) (he:e∉S4):Kept B W v l:=fun W' A=>(h.only A.onl he).nums
theorem Kept.below {B:Nat} {w W:World} {v:Value} {l:List Int} (h:Nums .i64 w v l) (H:w.heap.size<=B) (E:Below B w W):Kept B W v l:=fun W' A=>h.up ((E.trans A.bel).mono H)
/-- A step of a plan. -/
structure Sp where
 op:Int
 a:Int
 b:Int
 k:Int
 D:List Int
 X:List Int
 par:Bool
def StC (B:Nat) (W:World) (st:Sp) (u:List Value):Prop:=∃ p n c p2 n2 c2,u = [.int .i64 st.op,.int .i64 st.a,.int .i64 st.b,.int .i64 st.k,.slice p n c,.slice p2 n2 c2,.bool st.par]/\Kept B W (.slice p n c) st.D/\Kept B W (.slice p2 n2 c2) st.X
def StsC (B:Nat) (W:World) (sts:List Sp) (xs:List Value):Prop:=xs.length=sts.length*7/\∀ i st,sts[i]?=some st->StC B W st ((xs.drop (i*7)).take 7)
theorem StC.up {B:Nat} {W W':World} {st:Sp} {u:List Value} (h:StC B W st u) (A:Rn B W W'):StC B W' st u:=by
 obtain ⟨p,n,c,L,J,I,e,E,H⟩:=h;exact ⟨p,n,c,L,J,I,e,E.up A,H.up A⟩
theorem StsC.up {B:Nat} {W W':World} {sts:List Sp} {A:List Value} (h:StsC B W sts A) (H:Rn B W W'):StsC B W' sts A:=⟨h.1,fun i st E=>(h.2 i st E).up H⟩
theorem StC.len {B:Nat} {W:World} {st:Sp} {u:List Value} (h:StC B W st u):u.length=7:=by
 obtain ⟨p,n,c,H,E,A,rfl,_⟩:=h;rfl
theorem StC.one {B:Nat} {W:World} {st:Sp} {u:List Value} (h:StC B W st u):∀ x∈u,x.oneCell'=true:=by
 obtain ⟨p,n,c,I,H,E,rfl,_⟩:=h;intro x A;simp at A;rcases A with rfl|rfl|rfl|rfl|rfl|rfl|rfl <;> rfl
theorem StsC.push {B:Nat} {W:World} {sts:List Sp} {J:List Value} {st:Sp} {u:List Value} (h:StsC B W sts J) (E:StC B W st u):StsC B W (sts++[st]) (J++u):=by
 refine ⟨by rw [length_append,length_append,h.1,E.len];simp;omega,fun i s A=>?_⟩;rcases Nat.lt_or_ge i sts.length with I|I
 ·rw [getElem?_append_left I] at A;have L:=h.2 i s A;have M:=h.1;rw [drop_append_of_le_length (by omega),take_append_of_le_length (by rw [length_drop];omega)];exact L
 ·have H:i=sts.length:=by
   have:=(List.getElem?_eq_some_iff.1 A).1;simp at this;omega
  subst H;rw [getElem?_append_right (Nat.le_refl _)] at A;simp at A;subst A;rw [<- h.1,drop_left,take_of_length_le (by rw [E.len];exact Nat.le_refl _)];exact E
theorem StsC.nil (B:Nat) (W:World):StsC B W [] []:=⟨rfl,fun i st h=>by simp at h⟩
/-- A plan under way; what its steps name lay there in the world Wa. -/
def PlanO (B:Nat) (Wa W:World) (pb:Nat) (sts:List Sp) (rest:List Int):Prop:=B<=pb/\Rn B Wa W/\∃ p n c p2 n2 c2 xs,W.heap[pb]?=some (.cells #[.slice p n c,.slice p2 n2 c2] 95 (0,0))/\W.ownsRow B 98 7 (.slice p n c) sts.length xs/\sts.length=n/\StsC B Wa sts xs/\Kept B Wa (.slice p2 n2 c2) rest/\n2<=c2/\rest.length=n2
theorem PlanO.up {B:Nat} {I W W':World} {H:Nat} {sts:List Sp} {rest:List Int} (h:PlanO B I W H sts rest) (E:Bw W W'):PlanO B I W' H sts rest:=by
 obtain ⟨hb,M,p,n,c,J,Z,R,V,A,O,L⟩:=h;exact ⟨hb,M.trans (Rn.of (Nat.le_trans hb (Nat.le_of_lt (a_k A))) E),p,n,c,J,Z,R,V,(E.block _ (a_k A)).trans A,a_z (S:=[]) O (Only.of E) (by simp),L⟩
theorem PlanO.on {B:Nat} {J W:World} {A:Nat} {sts:List Sp} {rest:List Int} (h:PlanO B J W A sts rest):PlanO B W W A sts rest:=by
 obtain ⟨hb,E,p,n,c,L,n2,R,xs,H,O,M,Z,V,I⟩:=h;exact ⟨hb,Rn.refl _ _,p,n,c,L,n2,R,xs,H,O,M,Z.up E,V.up E,I⟩
theorem PlanO.size {B:Nat} {H W:World} {A:Nat} {sts:List Sp} {rest:List Int} (h:PlanO B H W A sts rest):B<=W.heap.size:=by
 obtain ⟨hb,J,p,n,c,I,O,L,M,E,_⟩:=h;exact Nat.le_trans hb (Nat.le_of_lt (a_k E))
theorem u_Q:GT Tryz.prog 76 98 7 88:=⟨Tryz.underlying76,by kernel_rfl⟩
theorem j_n {W:World} {b:Nat} {H A E M I J L:Value} {e:TypeId} (h:W.heap[b]?=some (.cells #[H,A,E,M,I,J,L] e (0,0))):W.cell? ⟨b,0,none⟩=some H/\W.cell? ⟨b,1,none⟩=some A/\W.cell? ⟨b,2,none⟩=some E/\W.cell? ⟨b,3,none⟩=some M/\W.cell? ⟨b,4,none⟩=some I/\W.cell? ⟨b,5,none⟩=some J/\W.cell? ⟨b,6,none⟩=some L:=by
 simp [cell?,h]
theorem s_H {B n s b:Nat} {W:World} {v:Value} {M:List Value} {e t:TypeId} {E:Array Value} {J:Nat×Nat} (h:W.ownsRow B e s v n M) (hb:W.heap[b]?=some (.cells E t J)) (A:e≠t):some b≠v.ownBlock:=by
 rcases h.2 with ⟨rfl,_⟩|⟨g,I,H,rfl,_,L,_⟩
 ·intro h;cases h
 ·intro h;cases h;rw [L] at hb;cases hb;exact A rfl
theorem h_x (B I:Nat) (sts:List Sp) (rest:List Int) (ai:sts.length<=200) (st:Sp) (p:Option Addr) (n c:Nat) (p2:Option Addr) (n2 c2:Nat) (R w:World) (hP:PlanO B R w I sts rest) (h1:Kept B R (.slice p n c) st.D) (h2:Kept B R (.slice p2 n2 c2) st.X):
  Calls Tryz.prog 39 #[.pointer (some ⟨I,0,none⟩),.agg #[.int .i64 st.op,.int .i64 st.a,.int .i64 st.b,.int .i64 st.k,.slice p n c,.slice p2 n2 c2,.bool st.par]] w fun e w'=>e = .returned (.int .i64 (sts.length:Int))/\PlanO B R w' I (sts++[st]) rest/\Rn B w w':=by
 obtain ⟨op,a,b,k,D,X,H⟩:=st;simp only [] at h1 h2 ⊢;obtain ⟨ae,an,L,aH,M,pR,nR,cR,xs,hb,ho,hn,hc,hk,ao,al⟩:=hP;have aC:Hid _:=an;have am:=Nat.le_trans ae (Nat.le_of_lt (a_k hb));obtain ⟨N,eN⟩:∃ N,sts.length=N:=⟨_,rfl⟩
 rw [eN] at ho hn ai ⊢;subst hn;have V:Hid (B<=I/\B<=w.heap.size/\w.heap[I]?=some (.cells #[.slice L N M,.slice pR nR cR] 95 (0,0))/\w.ownsRow B 98 7 (.slice L N M) N xs/\StsC B R sts xs/\sts.length=N):=⟨ae,am,hb,ho,hc,eN⟩
 have HQ:Hid (Kept B R (.slice pR nR cR) rest/\nR<=cR/\rest.length=nR):=⟨hk,ao,al⟩
 have HS:Hid (Kept B R (.slice p n c) D/\Kept B R (.slice p2 n2 c2) X):=⟨h1,h2⟩
 clear ae hb ho hc hk ao al h1 h2 am eN an;go_enter Tryz.func39,Tryz.ntmps39;go_wp2_with fail
 refine a_Q (fun E ab=>?_);have O:Bw w E:=by rw [ab];exact a_a _ _
 have av:E.heap[w.heap.size]?=some (.cells #[.int .i64 op,.int .i64 a,.int .i64 b,.int .i64 k,.slice p n c,.slice p2 n2 c2,.bool H] 98 (0,0)):=by rw [ab];exact heap_alloc_new _ _
 have aq:=Rn.of V.2.1 O;have ap:Hid (StC B R ⟨op,a,b,k,D,X,H⟩ [.int .i64 op,.int .i64 a,.int .i64 b,.int .i64 k,.slice p n c,.slice p2 n2 c2,.bool H]):=⟨_,_,_,_,_,_,rfl,HS.1,HS.2⟩
 have A:Hid (E.heap[I]?=some (.cells #[.slice L N M,.slice pR nR cR] 95 (0,0))/\E.ownsRow B 98 7 (.slice L N M) N xs/\StsC B R sts xs/\Kept B R (.slice pR nR cR) rest/\Rn B w E/\B<=E.heap.size):=⟨(O.block _ (a_k V.2.2.1)).trans V.2.2.1,a_z (S:=[]) V.2.2.2.1 (Only.of O) (by simp),V.2.2.2.2.1,HQ.1,aq,Nat.le_trans V.2.1 O.size⟩
 have ad:Hid (E.heap[w.heap.size]?=some (.cells #[.int .i64 op,.int .i64 a,.int .i64 b,.int .i64 k,.slice p n c,.slice p2 n2 c2,.bool H] 98 (0,0))/\some w.heap.size≠Value.ownBlock (.slice L N M)):=⟨av,fun h=>by have:=(ownsRow.lt V.2.2.2.1 _ h.symm).2;omega⟩
 have aG:Hid (∀ z,Value.ownBlock (.slice L N M)=some z->z < E.heap.size):=fun z aF=>Nat.lt_of_lt_of_le (ownsRow.lt V.2.2.2.1 z aF).2 O.size;have aB:Hid _:=ap.out.one;have aw:Hid (some I≠Value.ownBlock (.slice L N M)):=s_H A.2.1 A.1 (by decide);clear O av aq ab;refine a_7 (by kernel_rfl) ?_;refine seg (fun q W=>match q with|false=>Bw E W|true=>E.grownBy W (Value.ownBlock (.slice L N M))) (fun W W'=>W.grownBy W' (Value.ownBlock (.slice L N M))) 7 [⟨6,11,LitS 98 E.heap.size [.int .i64 op,.int .i64 a,.int .i64 b,.int .i64 k,.slice p n c,.slice p2 n2 c2,.bool H]⟩,⟨7,12,OwnG 98 7 B (N+1) (xs++[.int .i64 op,.int .i64 a,.int .i64 b,.int .i64 k,.slice p n c,.slice p2 n2 c2,.bool H])⟩] 0 10 21 rfl rfl (by kernel_rfl) (by rfl) ?_ ?_ ?_ ?_ ?_ ?_
 ·intro q W W' h hb;cases q
  ·exact a_c h hb
  ·exact d_U h hb
 ·exact ⟨rfl,rfl,rfl,Nat.le_refl _,fun _ _=>rfl⟩
 ·exact .inl ⟨_,mC mS,rfl⟩
 ·exact upC (fun _ _ _=>LitS.up) (upC (fun _ _ _=>OwnG.up) upN)
 ·intro e he aD v W W' h hc ht;simp only [mem_cons,not_mem_nil,or_false] at he;rcases he with rfl|rfl
  ·exact LitS.grown h ht aG.out
  ·exact absurd rfl aD
 apply Exists.intro;refine ⟨fun x=>?_,?_,?_⟩
 ·simp only [drop_succ_cons,drop_zero,take_succ_cons,take_zero]
  iterate 4
   apply d_n;rfl;rfl
   ·intro b' F hF hf K hK hFc
    go_big_quiet_op
    exact hK
   (try simp only [a_v])
  apply d_n;rfl;rfl
  ·intro b' F hF hf K hK hFc
   have q0:∀ d,(F d).cell? ⟨I,0,none⟩=some (.slice L N M):=fun d=>by
    have hK:E.grownBy (F d) (Value.ownBlock (.slice L N M)):=by
     cases b'
     ·exact a_B _ (hFc d)
     ·exact hFc d
    exact (b_4 ((hK.block _ (a_k A.1) aw.out).trans A.1)).1.1
   clear hFc
   go_big_quiet_op
   exact hK
  (try simp only [a_v])
  apply d_n;rfl;rfl
  ·intro b' F hF hf K hK hFc
   have q0:∀ d,(F d).heap[w.heap.size]?=some (.cells #[.int .i64 op,.int .i64 a,.int .i64 b,.int .i64 k,.slice p n c,.slice p2 n2 c2,.bool H] 98 (0,0)):=fun d=>by
    have hK:E.grownBy (F d) (Value.ownBlock (.slice L N M)):=by
     cases b'
     ·exact a_B _ (hFc d)
     ·exact hFc d
    exact (hK.block _ (a_k ad.1) ad.2).trans ad.1
   have q1:=fun d=>(j_n (q0 d)).1;have q2:=fun d=>(j_n (q0 d)).2.1;have q3:=fun d=>(j_n (q0 d)).2.2.1;have q4:=fun d=>(j_n (q0 d)).2.2.2.1;have q5:=fun d=>(j_n (q0 d)).2.2.2.2.1;have q6:=fun d=>(j_n (q0 d)).2.2.2.2.2.1;have q7:=fun d=>(j_n (q0 d)).2.2.2.2.2.2;clear hFc q0
   go_big_quiet_op
   exact hK
  (try simp only [a_v])
  refine a_U rfl (by decide) rfl ?_ ?_
  ·intro b' F hF hf d;have hFc:=hF.cls
   have ar:E.heap.size<=(F d).heap.size:=by
    cases b'
    ·exact (hFc d).size
    ·exact (hFc d).size
   simp [a_j,a_e,go_sem];exact ⟨⟨(F d).heap.size,rfl,heap_alloc_new (F d) _,ar⟩,a_a _ _⟩
  (try simp only [a_v])
  refine c_P rfl rfl rfl ?_ ?_
  ·intro W hW hf;have h7:=hf _ mS (by rfl) W;obtain ⟨g7,e7,aA,_⟩:=h7;simp only [] at e7;obtain ⟨g8,c8,w8,az,aE,aa⟩:=r_n u_Q (by decide) (by decide) 76 W B (.slice L N M) N xs (a_z (S:=[]) A.2.1 (Only.of hW) (by simp)) g7 _ aA rfl aB.out (by omega) (Nat.le_trans A.2.2.2.2.2 (Below.size hW));simp [b_i,a_Z,execOp,resolve,invoke,builtin,Act.eval,e7,az,Result.andThen];exact ⟨⟨g8,c8,rfl,aE⟩,b_2 (a_B _ hW) aa,aa⟩
  iterate 2
   (try simp only [a_v])
   apply d_n;rfl;rfl
   ·intro b' F hF hf K hK hFc
    go_big_quiet_op
    exact hK
  (try simp only [a_v])
  refine e_b ?_;exact rfl
 ·exact fun x=>rfl
 ·intro w8 ak ag aj;refine c_z 10 (by kernel_rfl) ?_;simp only [drop_succ_cons,drop_zero];have h8:=aj _ (mC mS);obtain ⟨x6,e6⟩:∃ z,ak 6=z:=⟨_,rfl⟩
  obtain ⟨x7,e7⟩:∃ z,ak 7=z:=⟨_,rfl⟩
  simp only [e7] at h8;simp only [e6,e7];obtain ⟨g8,c8,rfl,h8⟩:=h8;have J:=ag;have au:Only S2 E w8:=(f_h A.2.1 J).more (by simp);have ah:Rn B E w8:=⟨Below.grown (Below.refl _ _) J A.2.2.2.2.2 fun z hz=>(ownsRow.lt A.2.1 z hz).1,au⟩
  have Z:=(J.block _ (a_k A.1) aw.out).trans A.1;have af:Rn B E (w8.setCell ⟨I,0,none⟩ (.slice (some ⟨g8,0,none⟩) (N+1) c8)):=ah.trans ⟨(Below.refl _ _).setCell (p:=⟨I,0,none⟩) V.1 _,Only.set Z (by simp)⟩;obtain ⟨⟨r0,r1⟩,_⟩:=b_4 Z
  have ac:(w8.setCell ⟨I,0,none⟩ (.slice (some ⟨g8,0,none⟩) (N+1) c8)).heap[I]?=some (.cells #[.slice (some ⟨g8,0,none⟩) (N+1) c8,.slice pR nR cR] 95 (0,0)):=by
   rw [a_l Z];rfl
  have z0:=(b_4 ac).1.1
  have HF:Hid (PlanO B R (w8.setCell ⟨I,0,none⟩ (.slice (some ⟨g8,0,none⟩) (N+1) c8)) I (sts++[⟨op,a,b,k,D,X,H⟩]) rest/\Rn B w (w8.setCell ⟨I,0,none⟩ (.slice (some ⟨g8,0,none⟩) (N+1) c8))):=by
   refine ⟨⟨V.1,aC.trans (A.2.2.2.2.1.trans af),_,_,_,_,_,_,_,ac,?_,by rw [length_append,V.2.2.2.2.2];rfl,A.2.2.1.push ap.out,A.2.2.2.1,HQ.2⟩,A.2.2.2.2.1.trans af⟩;rw [length_append,V.2.2.2.2.2];exact a_z (S:=[95]) h8 (Only.set Z (by simp)) (by decide)
  have ax:((N+1:Nat):Int) - 1=(N:Int):=by omega
  have ay:wrap64 (N:Int)=(N:Int):=by unfold wrap64;omega
  clear ag J au ah af Z ac h8 aj e6 e7;go_wp2;exact bodyPost_ret (v:=.int .i64 (N:Int)) (by simp [results,Tryz.results39,go_sem,ax,ay]) rfl ⟨rfl,HF.out⟩
end Go.Proofs.YtkfpainpomobfaaGreatDoor.Wd
namespace Go.Proofs.YtkfpainpomobfaaGreatDoor.Wd
open Go.RowKit Fx List World Nat
theorem t_Y {W:World} {b:Nat} {J A H L M O E I:Value} {e:TypeId} (h:W.heap[b]?=some (.cells #[J,A,H,L,M,O] e (0,0))):((W.setCell ⟨b,4,none⟩ E).setCell ⟨b,5,none⟩ I).heap[b]?=some (.cells #[J,A,H,L,E,I] e (0,0)):=by
 rw [a_l (a_l h)];rfl
theorem n_k (B tb:Nat) (ns:List Nd) (hG:NodesG ns) (i:Nat) (nd:Nd) (hi:ns[i]?=some nd) (w:World) (hT:TapC w B tb ns):
  Calls Tryz.prog 13 #[.pointer (some ⟨tb,0,none⟩),.int .i64 (i:Int)] w fun e w'=>∃ s t,e = .returned (.tuple #[.agg #[.int .i64 nd.op,.int .i64 nd.a,.int .i64 nd.b,.int .i64 nd.k,s,t],.bool true])/\OwnK .i64 3 w' w.heap.size s nd.D/\OwnK .i64 48 w' w.heap.size t nd.X/\Bw w w':=by
 have ak:Hid _:=hT;obtain ⟨pL,cL,ap,hv,ho,ah,al⟩:=Tap.head hT;obtain ⟨N,eN⟩:∃ N,ns.length=N:=⟨_,rfl⟩
 rw [eN] at hv ho al;have J:=(a_P hv).1;have ao:i < N:=by rw [<- eN];exact (List.getElem?_eq_some_iff.1 hi).1
 obtain ⟨q,aq,s_,t_,eq,ai,c0,c1,c2,c3,c4,c5,hs,ht⟩:=b_x ho ah eN i ao;rw [hi] at ai;cases ai;obtain ⟨pA,nA,cA,rfl⟩:=hs.form_;obtain ⟨qA,mA,eA,rfl⟩:=ht.form_;subst eq;have hq:decide (0<=(i:Int)/\(i:Int) < (ns.length:Int))=true:=decide_eq_true (by omega);have HN:Hid (Nums .i64 w (.slice pA nA cA) nd.D/\Nums .i64 w (.slice qA mA eA) nd.X/\isP nd.D nd.X):=⟨hs.nums,ht.nums,(hG nd (i_v hi)).1⟩
 have Z:Hid (w.cell? ⟨tb,0,none⟩=some (.slice (some ⟨q,0,none⟩) N cL)/\w.cell? ⟨q,i*6,none⟩=some (.int .i64 nd.op)/\w.cell? ⟨q,i*6+1,none⟩=some (.int .i64 nd.a)/\w.cell? ⟨q,i*6+2,none⟩=some (.int .i64 nd.b)/\w.cell? ⟨q,i*6+3,none⟩=some (.int .i64 nd.k)/\w.cell? ⟨q,i*6+4,none⟩=some (.slice pA nA cA)/\w.cell? ⟨q,i*6+5,none⟩=some (.slice qA mA eA)):=⟨J,c0,c1,c2,c3,c4,c5⟩
 have d2:(i:Int) < (N:Int):=by omega
 obtain ⟨op,a,b,k,D,X⟩:=nd;simp only [] at Z HN ⊢;clear hT hv ho ah al hs ht c0 c1 c2 c3 c4 c5 J hG hi;go_enter Tryz.func13,Tryz.ntmps13;go_wp2_with fail
 generalize aa:alloc _ _=W0;have V:W0.heap[w.heap.size]?=some (.cells #[.int .i64 0,.int .i64 0,.int .i64 0,.int .i64 0,.slice none 0 0,.slice none 0 0] 52 (0,0)):=by rw [<- aa];exact heap_alloc_new _ _
 have A:Hid (Bw w W0):=by show Below _ _ _;rw [<- aa];exact a_a _ _
 clear aa;refine (d_1 B tb ns (i:Int) true hq W0 (ak.out.up A)).mono ?_;rintro e E ⟨rfl,am⟩;subst am;clear hq;have c:=a_d Z.1 A;have c0:=a_d Z.2.1 A;have c1:=a_d Z.2.2.1 A;have c2:=a_d Z.2.2.2.1 A;have c3:=a_d Z.2.2.2.2.1 A;have c4:=a_d Z.2.2.2.2.2.1 A;have c5:=a_d Z.2.2.2.2.2.2 A;have k0:=a_b c;have k1:=a_b c0;go_wp2_with fail
 generalize ac:alloc _ _=W2;have af:W2.heap[E.heap.size]?=some (.cells #[.int .i64 op,.int .i64 a,.int .i64 b,.int .i64 k,.slice pA nA cA,.slice qA mA eA] 52 (0,0)):=by rw [<- ac];exact heap_alloc_new _ _
 have H:Hid (Bw E W2/\Bw w W2):=by
  have h:=a_a E (.cells #[.int .i64 op,.int .i64 a,.int .i64 b,.int .i64 k,.slice pA nA cA,.slice qA mA eA] 52);rw [ac] at h;exact ⟨h,a_c A h⟩
 have ad:W2.heap[w.heap.size]?=some (.cells #[.int .i64 0,.int .i64 0,.int .i64 0,.int .i64 0,.slice none 0 0,.slice none 0 0] 52 (0,0)):=by rw [H.1.block _ (a_k V)];exact V
 clear ac c c0 c1 c2 c3 c4 c5 k0 k1;refine (g_k pA qA nA cA mA eA D X HN.2.2 W2 (HN.1.up H.2) (HN.2.1.up H.2)).mono ?_;rintro e w3 ⟨v3,rfl,⟨s3,t3,rfl,hs,ht⟩,L⟩;obtain ⟨O,M,R,rfl⟩:=hs.form_;obtain ⟨pb,nb,cb,rfl⟩:=ht.form_;have I:w3.heap[E.heap.size]?=some (.cells #[.int .i64 op,.int .i64 a,.int .i64 b,.int .i64 k,.slice pA nA cA,.slice qA mA eA] 52 (0,0)):=by rw [L.block _ (a_k af)];exact af
 have ab:w3.heap[w.heap.size]?=some (.cells #[.int .i64 0,.int .i64 0,.int .i64 0,.int .i64 0,.slice none 0 0,.slice none 0 0] 52 (0,0)):=by rw [L.block _ (a_k ad)];exact ad
 have HO:Hid (OwnK .i64 3 w3 w.heap.size (.slice O M R) D/\OwnK .i64 48 w3 w.heap.size (.slice pb nb cb) X):=⟨hs.low H.2.size,ht.low H.2.size⟩
 have an:Hid _:=a_c H.2 L;have aj:=a_k V;clear hs ht L af ad V HN Z d2 ak;have n1:E.heap.size≠w.heap.size:=by omega
 have n2:w.heap.size≠E.heap.size:=by omega
 obtain ⟨⟨x0,x1,x2,x3,x4,x5⟩,xf⟩:=g_i I;obtain ⟨⟨r0,r1,r2,r3,r4,r5⟩,rf⟩:=g_i ab;have k1:=a_k I;have k2:=a_k ab
 have ae:Hid ((((w3.setCell ⟨E.heap.size,4,none⟩ (.slice O M R)).setCell ⟨E.heap.size,5,none⟩ (.slice pb nb cb)).heap[E.heap.size]?=some (.cells #[.int .i64 op,.int .i64 a,.int .i64 b,.int .i64 k,.slice O M R,.slice pb nb cb] 52 (0,0))/\((w3.setCell ⟨E.heap.size,4,none⟩ (.slice O M R)).setCell ⟨E.heap.size,5,none⟩ (.slice pb nb cb)).heap[w.heap.size]?=some (.cells #[.int .i64 0,.int .i64 0,.int .i64 0,.int .i64 0,.slice none 0 0,.slice none 0 0] 52 (0,0)))/\Bw w ((w3.setCell ⟨E.heap.size,4,none⟩ (.slice O M R)).setCell ⟨E.heap.size,5,none⟩ (.slice pb nb cb))/\Only [52] w3 ((w3.setCell ⟨E.heap.size,4,none⟩ (.slice O M R)).setCell ⟨E.heap.size,5,none⟩ (.slice pb nb cb))):=by
  refine ⟨⟨t_Y I,?_⟩,?_,?_⟩
  ·rw [a_1 _ _ _ _ _ (by omega),a_1 _ _ _ _ _ (by omega)];exact ab
  ·exact (an.setCell (p:=⟨E.heap.size,4,none⟩) (Nat.le_of_lt aj) _).setCell (p:=⟨E.heap.size,5,none⟩) (Nat.le_of_lt aj) _
  ·exact (Only.set I (by simp)).trans (Only.set (a_l I) (by simp))
 go_wp2;generalize ag:setCell _ _ _=W9;have h0:=ae.1.2;have h1:=a_l (o:=0) (x:=(.int .i64 op)) h0;have h2:=a_l (o:=1) (x:=(.int .i64 a)) h1;have h3:=a_l (o:=2) (x:=(.int .i64 b)) h2;have h4:=a_l (o:=3) (x:=(.int .i64 k)) h3;have h5:=a_l (o:=4) (x:=(.slice O M R)) h4
 have H9:W9.heap[w.heap.size]?=some (.cells #[.int .i64 op,.int .i64 a,.int .i64 b,.int .i64 k,.slice O M R,.slice pb nb cb] 52 (0,0)):=by
  rw [<- ag];exact (a_l h5).trans rfl
 have B9:Bw w W9:=by
  rw [<- ag];exact ((((((ae.2.1.setCell (p:=⟨w.heap.size,0,none⟩) (Nat.le_refl _) _).setCell (p:=⟨w.heap.size,1,none⟩) (Nat.le_refl _) _).setCell (p:=⟨w.heap.size,2,none⟩) (Nat.le_refl _) _).setCell (p:=⟨w.heap.size,3,none⟩) (Nat.le_refl _) _).setCell (p:=⟨w.heap.size,4,none⟩) (Nat.le_refl _) _).setCell (p:=⟨w.heap.size,5,none⟩) (Nat.le_refl _) _)
 have O9:Only [52] w3 W9:=by
  rw [<- ag];exact ((((((ae.2.2.trans (Only.set h0 (by simp))).trans (Only.set h1 (by simp))).trans (Only.set h2 (by simp))).trans (Only.set h3 (by simp))).trans (Only.set h4 (by simp))).trans (Only.set h5 (by simp)))
 obtain ⟨⟨z0,z1,z2,z3,z4,z5⟩,_⟩:=g_i H9;exact bodyPost_ret (v:=.tuple #[.agg #[.int .i64 op,.int .i64 a,.int .i64 b,.int .i64 k,.slice O M R,.slice pb nb cb],.bool true]) (by simp [results,Tryz.results13,go_sem,z0,z1,z2,z3,z4,z5]) rfl ⟨_,_,rfl,HO.1.only O9 (by decide),HO.2.only O9 (by decide),B9⟩
theorem l_q (B tb:Nat) (ns:List Nd) (hG:NodesG ns) (i:Nat) (nd:Nd) (hi:ns[i]?=some nd) (w:World) (hT:TapC w B tb ns):
  Calls Tryz.prog 18 #[.pointer (some ⟨tb,0,none⟩),.int .i64 (i:Int)] w fun e V=>∃ v,e = .returned (.tuple #[v,.bool true])/\TRes V w.heap.size v nd.D nd.X/\Bw w V:=by
 have O:Hid (∀ W,Bw w W->Calls Tryz.prog 13 #[.pointer (some ⟨tb,0,none⟩),.int .i64 (i:Int)] W fun e V=>∃ s t,e = .returned (.tuple #[.agg #[.int .i64 nd.op,.int .i64 nd.a,.int .i64 nd.b,.int .i64 nd.k,s,t],.bool true])/\OwnK .i64 3 V W.heap.size s nd.D/\OwnK .i64 48 V W.heap.size t nd.X/\Bw W V):=fun W hW=>n_k B tb ns hG i nd hi W (hT.up hW);obtain ⟨op,a,b,k,D,X⟩:=nd;simp only [] at O ⊢;clear hT hi hG;go_enter Tryz.func18,Tryz.ntmps18;go_wp2_with fail
 generalize J:alloc _ _=W0;have E:Hid (Bw w W0):=by show Below _ _ _;rw [<- J];exact a_a _ _
 have XR:Hid (Cel W0 w.heap.size (.slice none 0 0) (.slice none 0 0)):=e_W J (by simp [go_sem]);clear J;refine (O.out W0 E).mono ?_;rintro e w1 ⟨s,t,rfl,hs,ht,Z⟩;obtain ⟨H,M,I,rfl⟩:=hs.form_;obtain ⟨A,L,R,rfl⟩:=ht.form_;have HF:Hid (TRes (set2 w1 w.heap.size (.slice H M I) (.slice A L R)) w.heap.size (.agg #[.slice H M I,.slice A L R]) D X/\Bw w (set2 w1 w.heap.size (.slice H M I) (.slice A L R))):=⟨(TRes.set hs ht (a_b XR.1)).low E.size,a_q (a_c E Z) _ (Nat.le_refl _) _ _⟩
 clear hs ht O;have xr:=XR.out.up Z;have cf:=xr.set (.slice H M I) (.slice A L R);obtain ⟨r0,r1,r2,r3⟩:=xr;have kq:=a_b r0;have z0:=a_d cf.1 (a_a _ (.cells #[.int .i64 op,.int .i64 a,.int .i64 b,.int .i64 k,.slice H M I,.slice A L R] 52));have z1:=a_d cf.2.1 (a_a _ (.cells #[.int .i64 op,.int .i64 a,.int .i64 b,.int .i64 k,.slice H M I,.slice A L R] 52));clear cf;go_wp2;exact bodyPost_ret (v:=.tuple #[.agg #[.slice H M I,.slice A L R],.bool true]) (by simp [results,Tryz.results18,go_sem,z0,z1]) rfl ⟨_,rfl,HF.1.up (a_a _ _),a_c HF.2 (a_a _ _)⟩
end Go.Proofs.YtkfpainpomobfaaGreatDoor.Wd
