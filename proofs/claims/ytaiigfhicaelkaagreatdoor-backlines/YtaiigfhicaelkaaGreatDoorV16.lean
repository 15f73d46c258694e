/- BackLines' tape: what it holds, what a sweep over it hands back. -/
import Derived.Test.YtaiigfhicaelkaaGreatDoorV15
set_option linter.unusedVariables false
set_option linter.unusedSimpArgs false
set_option maxHeartbeats 16000000
set_option maxRecDepth 16000
namespace Go.Proofs.YtaiigfhicaelkaaGreatDoor.Wd
open Go.RowKit Fx
theorem prod_line (n:Nat):prodN (ntl [(n:Int)])=n:=by
 rw [show ntl [(n:Int)] = [n] from ntl_itl [n]]
 simp [prodN]
theorem isP_line {x:List Int} {n:Nat} (h:x.length=n) (h1:1≤n) (h2:n≤4096):isP [(n:Int)] x:=by
 have en:ntl [(n:Int)] = [n]:=ntl_itl [n]
 refine ⟨?_,h.trans (prod_line n).symm⟩
 rw [en]
 exact ⟨by simp,fun y hy=>by simp at hy;omega,by simp [prodN];omega⟩
def lnP (n:Nat) (x k:List Int):List Int:=eachV Fx.mulI [(n:Int)] x [(n:Int)] k
def ln1 (n:Nat) (x:List Int):List Nd:=[⟨1,-1,-1,0,[(n:Int)],x⟩]
def ln2 (n:Nat) (x k:List Int):List Nd:=[⟨1,-1,-1,0,[(n:Int)],x⟩,⟨1,-1,-1,0,[(n:Int)],k⟩]
def ln3 (n:Nat) (x k:List Int):List Nd:=[⟨1,-1,-1,0,[(n:Int)],x⟩,⟨1,-1,-1,0,[(n:Int)],k⟩,⟨4,0,1,0,[(n:Int)],lnP n x k⟩]
def ln4 (n:Nat) (x k:List Int):List Nd:=[⟨1,-1,-1,0,[(n:Int)],x⟩,⟨1,-1,-1,0,[(n:Int)],k⟩,⟨4,0,1,0,[(n:Int)],lnP n x k⟩,⟨9,2,-1,0,[],[allV [(n:Int)] (lnP n x k)]⟩]
/-- What is known of the two rows. -/
structure Lns (n:Nat) (x k:List Int):Prop where
 hx:x.length=n
 hk:k.length=n
 h1:1≤n
 h2:n≤4096
 rx:RI x
 rk:RI k
theorem Lns.swap {n:Nat} {x k:List Int} (h:Lns n x k):Lns n k x:=⟨h.hk,h.hx,h.h1,h.h2,h.rk,h.rx⟩
theorem Lns.pl {n:Nat} {x k:List Int} (h:Lns n x k):(lnP n x k).length=n:=by
 unfold lnP
 rw [(each_same (isP_line h.hx h.h1 h.h2) (isP_line h.hk h.h1 h.h2)).2.2]
 simp [h.hx]
theorem Lns.l1 {n:Nat} {x k:List Int} (h:Lns n x k):leafR [] [(n:Int)] x=0∧leafE [] [(n:Int)] x=0∧leafN [] [(n:Int)] x=ln1 n x:=
 have p:=isP_line h.hx h.h1 h.h2
 ⟨if_pos ⟨by decide,p⟩,(if_neg (by decide)).trans (if_pos p),if_pos ⟨by decide,p⟩⟩
theorem Lns.l2 {n:Nat} {x k:List Int} (h:Lns n x k):leafR (ln1 n x) [(n:Int)] k=1∧leafE (ln1 n x) [(n:Int)] k=0∧leafN (ln1 n x) [(n:Int)] k=ln2 n x k:=
 have p:=isP_line h.hk h.h1 h.h2
 have q:(ln1 n x).length < 512:=by show 1 < 512;omega
 ⟨if_pos ⟨q,p⟩,(if_neg (by omega)).trans (if_pos p),if_pos ⟨q,p⟩⟩
theorem Lns.l3 {n:Nat} {x k:List Int} (h:Lns n x k):doR (ln2 n x k) 4 0 1 0=2∧doE (ln2 n x k) 4 0 1 0=0∧doN (ln2 n x k) 4 0 1 0=ln3 n x k:=by
 obtain ⟨e1,e2,e3⟩:=each_same (op:=Fx.mulI) (isP_line h.hx h.h1 h.h2) (isP_line h.hk h.h1 h.h2)
 have ho:okD (ln2 n x k) 4 0 1:=⟨by omega,⟨by omega,by show (0:Int) < 2;omega⟩,fun _=>⟨by omega,by show (1:Int) < 2;omega⟩⟩
 have hl:(ln2 n x k).length < 512:=by show 2 < 512;omega
 have hd:dE (ln2 n x k) 4 0 1 0=0:=e1
 have hP:doP (ln2 n x k) 4 0 1 0:=⟨⟨hl,ho⟩,hd⟩
 refine ⟨if_pos hP,(if_neg (by omega)).trans ((if_pos ho).trans hd),(if_pos hP).trans ?_⟩
 show [_,_,(⟨4,0,1,0,eachD [(n:Int)] x [(n:Int)] k,eachV Fx.mulI [(n:Int)] x [(n:Int)] k⟩:Nd)]=_
 rw [e2]
 rfl
theorem Lns.l4 {n:Nat} {x k:List Int} (h:Lns n x k):doR (ln3 n x k) 9 2 (-1) 0=3∧doE (ln3 n x k) 9 2 (-1) 0=0∧doN (ln3 n x k) 9 2 (-1) 0=ln4 n x k:=by
 have p:=isP_line h.pl h.h1 h.h2
 have ho:okD (ln3 n x k) 9 2 (-1):=⟨by omega,⟨by omega,by show (2:Int) < 3;omega⟩,fun h=>absurd h (by decide)⟩
 have hl:(ln3 n x k).length < 512:=by show 3 < 512;omega
 have hd:dE (ln3 n x k) 9 2 (-1) 0=0:=(show matE [(n:Int)] (lnP n x k)=0 from if_pos p)
 have hP:doP (ln3 n x k) 9 2 (-1) 0:=⟨⟨hl,ho⟩,hd⟩
 refine ⟨if_pos hP,(if_neg (by omega)).trans ((if_pos ho).trans hd),(if_pos hP).trans ?_⟩
 show [_,_,_,(⟨9,2,-1,0,[],if isP [(n:Int)] (lnP n x k) then [allV [(n:Int)] (lnP n x k)] else []⟩:Nd)]=_
 rw [if_pos p]
 rfl
theorem Lns.g1 {n:Nat} {x k:List Int} (h:Lns n x k):NodesG (ln1 n x)∧NodesV (ln1 n x):=by
 have a:=NodesG.leaf (d:=[(n:Int)]) NodesG.nil h.rx
 have b:=NodesV.leaf (d:=[(n:Int)]) (x:=x) NodesV.nil
 rw [h.l1.2.2] at a b
 exact ⟨a,b⟩
theorem Lns.g2 {n:Nat} {x k:List Int} (h:Lns n x k):NodesG (ln2 n x k)∧NodesV (ln2 n x k):=by
 have a:=NodesG.leaf (d:=[(n:Int)]) h.g1.1 h.rk
 have b:=NodesV.leaf (d:=[(n:Int)]) (x:=k) h.g1.2
 rw [h.l2.2.2] at a b
 exact ⟨a,b⟩
theorem Lns.g3 {n:Nat} {x k:List Int} (h:Lns n x k):NodesG (ln3 n x k)∧NodesV (ln3 n x k):=by
 have a:=NodesG.do (op:=4) (a:=0) (b:=1) (k:=0) h.g2.1
 have b:=NodesV.do (op:=4) (a:=0) (b:=1) (k:=0) h.g2.2
 rw [h.l3.2.2] at a b
 exact ⟨a,b⟩
theorem Lns.g4 {n:Nat} {x k:List Int} (h:Lns n x k):NodesG (ln4 n x k)∧NodesV (ln4 n x k):=by
 have a:=NodesG.do (op:=9) (a:=2) (b:=-1) (k:=0) h.g3.1
 have b:=NodesV.do (op:=9) (a:=2) (b:=-1) (k:=0) h.g3.2
 rw [h.l4.2.2] at a b
 exact ⟨a,b⟩
theorem Lns.tn {n:Nat} {x k:List Int} (h:Lns n x k):TnsG [(n:Int)] x:=tnsg (isP_line h.hx h.h1 h.h2) h.rx
theorem add_line {n:Nat} {x:List Int} (h:TnsG [(n:Int)] x) (e:x.length=n):add2 ([(n:Int)],List.replicate n 0) ([(n:Int)],x)=([(n:Int)],x):=by
 have:=add_nought h
 rwa [e] at this
theorem give_line {n:Nat} {x:List Int} (h:TnsG [(n:Int)] x) (e:x.length=n):add2 ([(n:Int)],List.replicate n 0) (fold2 (mul2 ([(n:Int)],List.replicate n 4294967296) ([(n:Int)],x)) [(n:Int)])=([(n:Int)],x):=by
 have:=mul_alone h
 rw [e] at this
 rw [this,fold_own (t:=([(n:Int)],x)) h,add_line h e]
theorem Lns.w0 {n:Nat} {x k:List Int} (h:Lns n x k):sw0 (ln4 n x k) 3=([([(n:Int)],List.replicate n 0),([(n:Int)],List.replicate n 0),([(n:Int)],List.replicate n 0),([],[4294967296])],[false,false,false,true]):=by
 have:sw0 (ln4 n x k) 3=([([(n:Int)],List.replicate x.length 0),([(n:Int)],List.replicate k.length 0),([(n:Int)],List.replicate (lnP n x k).length 0),([],[4294967296])],[false,false,false,true]):=rfl
 rw [this,h.hx,h.hk,h.pl]
theorem Lns.w1 {n:Nat} {x k:List Int} (h:Lns n x k):swStep (ln4 n x k) 3 ([([(n:Int)],List.replicate n 0),([(n:Int)],List.replicate n 0),([(n:Int)],List.replicate n 0),([],[4294967296])],[false,false,false,true])=([([(n:Int)],List.replicate n 0),([(n:Int)],List.replicate n 0),([(n:Int)],List.replicate n 4294967296),([],[4294967296])],[false,false,true,true]):=by
 have hg:TnsG [(n:Int)] (List.replicate n 4294967296):=tnsg (isP_line (by simp) h.h1 h.h2) (RI_rep (by unfold InR;omega))
 unfold swStep
 rw [if_pos ⟨rfl,by show (9:Int)≠1;omega⟩,if_neg (by show ¬ (0:Int)≤-1;omega)]
 refine Prod.ext ?_ rfl
 show [_,_,add2 ([(n:Int)],List.replicate n 0) ([(n:Int)],List.replicate (prodN (ntl [(n:Int)])) 4294967296),_]=_
 rw [prod_line,add_line hg (by simp)]
theorem Lns.w2 {n:Nat} {x k:List Int} (h:Lns n x k):swStep (ln4 n x k) 2 ([([(n:Int)],List.replicate n 0),([(n:Int)],List.replicate n 0),([(n:Int)],List.replicate n 4294967296),([],[4294967296])],[false,false,true,true])=([([(n:Int)],k),([(n:Int)],x),([(n:Int)],List.replicate n 4294967296),([],[4294967296])],[true,true,true,true]):=by
 unfold swStep
 rw [if_pos ⟨rfl,by show (4:Int)≠1;omega⟩,if_pos (by show (0:Int)≤1;omega)]
 refine Prod.ext ?_ rfl
 show [add2 ([(n:Int)],List.replicate n 0) (fold2 (mul2 ([(n:Int)],List.replicate n 4294967296) ([(n:Int)],k)) [(n:Int)]),add2 ([(n:Int)],List.replicate n 0) (fold2 (mul2 ([(n:Int)],List.replicate n 4294967296) ([(n:Int)],x)) [(n:Int)]),_,_]=_
 rw [give_line h.swap.tn h.hk,give_line h.tn h.hx]
theorem Lns.sw {n:Nat} {x k:List Int} (h:Lns n x k):swE (ln4 n x k) 3=0∧swL (ln4 n x k) 3 = [([(n:Int)],k),([(n:Int)],x),([(n:Int)],List.replicate n 4294967296),([],[4294967296])]:=by
 have e0:swE (ln4 n x k) 3=0:=(if_pos ⟨by omega,by show (3:Int) < 4;omega⟩).trans (if_pos rfl)
 refine ⟨e0,?_⟩
 unfold swL
 rw [if_pos e0]
 show (swStep (ln4 n x k) 0 (swStep (ln4 n x k) 1 (swStep (ln4 n x k) 2 (swStep (ln4 n x k) 3 (sw0 (ln4 n x k) 3))))).1=_
 rw [h.w0,h.w1,h.w2]
 unfold swStep
 rw [if_neg (fun q=>q.2 rfl),if_neg (fun q=>q.2 rfl)]
end Go.Proofs.YtaiigfhicaelkaaGreatDoor.Wd
