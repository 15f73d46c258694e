/- BackAdds' tape: what it holds, what a sweep over it hands back; rows of one number. -/
import Derived.Test.YtaiigfhicaelkaaGreatDoorV16
set_option linter.unusedVariables false
set_option linter.unusedSimpArgs false
set_option maxHeartbeats 16000000
set_option maxRecDepth 16000
namespace Go.Proofs.YtaiigfhicaelkaaGreatDoor.Wd
open Go.RowKit Fx
theorem one_p (v:Int):isP [1] [v]:=isP_line (n:=1) rfl (by omega) (by omega)
theorem one_g {v:Int} (h:InR v):TnsG [1] [v]:=tnsg (one_p v) (fun y hy=>by simp at hy;subst hy;exact h)
theorem one_add (u v:Int):add2 ([1],[u]) ([1],[v])=([1],[Fx.hold (u+v)]):=by
 obtain ⟨_,e2,e3⟩:=each_same (op:=fun a b=>Fx.hold (a+b)) (one_p u) (one_p v)
 exact Prod.ext e2 e3
theorem one_scale (v k:Int):scale2 ([1],[v]) k=([1],[Fx.mulI v k]):=by
 show (scaleD [1] [v],scaleV [1] [v] k)=_
 rw [show scaleD [1] [v] = [1] from if_pos (one_p v),show scaleV [1] [v] k = [Fx.mulI v k] from if_pos (one_p v)]
theorem one_fold {v:Int} (h:InR v):fold2 ([1],[v]) [1]=([1],[v]):=fold_own (t:=([1],[v])) (one_g h)
theorem one_mul {k:Int} (h:InR k):Fx.mulI 4294967296 k=k:=by rw [mulI_comm];exact mulI_one k h
theorem one_R:InR 4294967296:=by unfold InR;omega
theorem zero_R:InR 0:=by unfold InR;omega
/-- A leaf of one number, behind whatever stands. -/
theorem leaf_one {ns:List Nd} (v:Int) (hl:ns.length < 512):leafR ns [1] [v]=(ns.length:Int)∧leafE ns [1] [v]=0∧leafN ns [1] [v]=ns++[⟨1,-1,-1,0,[1],[v]⟩]:=
 ⟨if_pos ⟨hl,one_p v⟩,(if_neg (by omega)).trans (if_pos (one_p v)),if_pos ⟨hl,one_p v⟩⟩
/-- A node of one number, scaled. -/
theorem scale_one {ns:List Nd} {v:Int} (a k:Int) (hl:ns.length < 512) (ha:0≤a∧a < (ns.length:Int)) (hD:(ndN ns a).D = [1]) (hX:(ndN ns a).X = [v]):doR ns 5 a (-1) k=(ns.length:Int)∧doE ns 5 a (-1) k=0∧doN ns 5 a (-1) k=ns++[⟨5,a,-1,k,[1],[Fx.mulI v k]⟩]:=by
 have ho:okD ns 5 a (-1):=⟨by omega,ha,fun h=>absurd h (by decide)⟩
 have hd:dE ns 5 a (-1) k=0:=by
  show scaleE (ndN ns a).D (ndN ns a).X=0
  rw [hD,hX]
  exact if_pos (one_p v)
 have hP:doP ns 5 a (-1) k:=⟨⟨hl,ho⟩,hd⟩
 refine ⟨if_pos hP,(if_neg (by omega)).trans ((if_pos ho).trans hd),(if_pos hP).trans ?_⟩
 show ns++[(⟨5,a,-1,k,scaleD (ndN ns a).D (ndN ns a).X,scaleV (ndN ns a).D (ndN ns a).X k⟩:Nd)]=_
 rw [hD,hX,show scaleD [1] [v] = [1] from if_pos (one_p v),show scaleV [1] [v] k = [Fx.mulI v k] from if_pos (one_p v)]
def ad1 (x:Int):List Nd:=[⟨1,-1,-1,0,[1],[x]⟩]
def ad2 (x:Int):List Nd:=[⟨1,-1,-1,0,[1],[x]⟩,⟨1,-1,-1,0,[1],[9]⟩]
def ad3 (x k:Int):List Nd:=[⟨1,-1,-1,0,[1],[x]⟩,⟨1,-1,-1,0,[1],[9]⟩,⟨5,0,-1,k,[1],[Fx.mulI x k]⟩]
def ad4 (x k m:Int):List Nd:=[⟨1,-1,-1,0,[1],[x]⟩,⟨1,-1,-1,0,[1],[9]⟩,⟨5,0,-1,k,[1],[Fx.mulI x k]⟩,⟨5,0,-1,m,[1],[Fx.mulI x m]⟩]
def ad5 (x k m:Int):List Nd:=[⟨1,-1,-1,0,[1],[x]⟩,⟨1,-1,-1,0,[1],[9]⟩,⟨5,0,-1,k,[1],[Fx.mulI x k]⟩,⟨5,0,-1,m,[1],[Fx.mulI x m]⟩,⟨2,2,3,0,[1],[Fx.hold (Fx.mulI x k+Fx.mulI x m)]⟩]
theorem ad_l1 (x:Int):leafR [] [1] [x]=0∧leafE [] [1] [x]=0∧leafN [] [1] [x]=ad1 x:=leaf_one (ns:=[]) x (by decide)
theorem ad_l2 (x:Int):leafR (ad1 x) [1] [9]=1∧leafE (ad1 x) [1] [9]=0∧leafN (ad1 x) [1] [9]=ad2 x:=leaf_one (ns:=ad1 x) 9 (by show 1 < 512;omega)
theorem ad_l3 (x k:Int):doR (ad2 x) 5 0 (-1) k=2∧doE (ad2 x) 5 0 (-1) k=0∧doN (ad2 x) 5 0 (-1) k=ad3 x k:=scale_one (ns:=ad2 x) 0 k (by show 2 < 512;omega) ⟨by omega,by show (0:Int) < 2;omega⟩ rfl rfl
theorem ad_l4 (x k m:Int):doR (ad3 x k) 5 0 (-1) m=3∧doE (ad3 x k) 5 0 (-1) m=0∧doN (ad3 x k) 5 0 (-1) m=ad4 x k m:=scale_one (ns:=ad3 x k) 0 m (by show 3 < 512;omega) ⟨by omega,by show (0:Int) < 3;omega⟩ rfl rfl
theorem ad_l5 (x k m:Int):doR (ad4 x k m) 2 2 3 0=4∧doE (ad4 x k m) 2 2 3 0=0∧doN (ad4 x k m) 2 2 3 0=ad5 x k m:=by
 obtain ⟨e1,e2,e3⟩:=each_same (op:=fun a b=>Fx.hold (a+b)) (one_p (Fx.mulI x k)) (one_p (Fx.mulI x m))
 have ho:okD (ad4 x k m) 2 2 3:=⟨by omega,⟨by omega,by show (2:Int) < 4;omega⟩,fun _=>⟨by omega,by show (3:Int) < 4;omega⟩⟩
 have hl:(ad4 x k m).length < 512:=by show 4 < 512;omega
 have hd:dE (ad4 x k m) 2 2 3 0=0:=e1
 have hP:doP (ad4 x k m) 2 2 3 0:=⟨⟨hl,ho⟩,hd⟩
 refine ⟨if_pos hP,(if_neg (by omega)).trans ((if_pos ho).trans hd),(if_pos hP).trans ?_⟩
 show [_,_,_,_,(⟨2,2,3,0,eachD [1] [Fx.mulI x k] [1] [Fx.mulI x m],eachV (fun a b=>Fx.hold (a+b)) [1] [Fx.mulI x k] [1] [Fx.mulI x m]⟩:Nd)]=_
 rw [e2,e3]
 rfl
theorem ad_g1 {x:Int} (hx:InR x):NodesG (ad1 x)∧NodesV (ad1 x):=by
 have a:=NodesG.leaf (d:=[1]) NodesG.nil (one_g hx).2.2
 have b:=NodesV.leaf (d:=[1]) (x:=[x]) NodesV.nil
 rw [(ad_l1 x).2.2] at a b
 exact ⟨a,b⟩
theorem ad_g2 {x:Int} (hx:InR x):NodesG (ad2 x)∧NodesV (ad2 x):=by
 have a:=NodesG.leaf (d:=[1]) (ad_g1 hx).1 (one_g (v:=9) (by unfold InR;omega)).2.2
 have b:=NodesV.leaf (d:=[1]) (x:=[9]) (ad_g1 hx).2
 rw [(ad_l2 x).2.2] at a b
 exact ⟨a,b⟩
theorem ad_g3 {x:Int} (k:Int) (hx:InR x):NodesG (ad3 x k)∧NodesV (ad3 x k):=by
 have a:=NodesG.do (op:=5) (a:=0) (b:=-1) (k:=k) (ad_g2 hx).1
 have b:=NodesV.do (op:=5) (a:=0) (b:=-1) (k:=k) (ad_g2 hx).2
 rw [(ad_l3 x k).2.2] at a b
 exact ⟨a,b⟩
theorem ad_g4 {x:Int} (k m:Int) (hx:InR x):NodesG (ad4 x k m)∧NodesV (ad4 x k m):=by
 have a:=NodesG.do (op:=5) (a:=0) (b:=-1) (k:=m) (ad_g3 k hx).1
 have b:=NodesV.do (op:=5) (a:=0) (b:=-1) (k:=m) (ad_g3 k hx).2
 rw [(ad_l4 x k m).2.2] at a b
 exact ⟨a,b⟩
theorem ad_g5 {x:Int} (k m:Int) (hx:InR x):NodesG (ad5 x k m)∧NodesV (ad5 x k m):=by
 have a:=NodesG.do (op:=2) (a:=2) (b:=3) (k:=0) (ad_g4 k m hx).1
 have b:=NodesV.do (op:=2) (a:=2) (b:=3) (k:=0) (ad_g4 k m hx).2
 rw [(ad_l5 x k m).2.2] at a b
 exact ⟨a,b⟩
theorem one_add0 {v:Int} (h:InR v):add2 ([1],[0]) ([1],[v])=([1],[v]):=by
 rw [one_add,Int.zero_add,Fx.hold_in h.1 h.2]
theorem ad_sw (x:Int) {k m:Int} (hk:InR k) (hm:InR m):swE (ad5 x k m) 4=0∧swL (ad5 x k m) 4 = [([1],[Fx.hold (m+k)]),([1],[0]),([1],[4294967296]),([1],[4294967296]),([1],[4294967296])]:=by
 have e0:swE (ad5 x k m) 4=0:=(if_pos ⟨by omega,by show (4:Int) < 5;omega⟩).trans (if_pos rfl)
 refine ⟨e0,?_⟩
 unfold swL
 rw [if_pos e0]
 show (swStep (ad5 x k m) 0 (swStep (ad5 x k m) 1 (swStep (ad5 x k m) 2 (swStep (ad5 x k m) 3 (swStep (ad5 x k m) 4 (sw0 (ad5 x k m) 4)))))).1=_
 have w0:sw0 (ad5 x k m) 4=([([1],[0]),([1],[0]),([1],[0]),([1],[0]),([1],[4294967296])],[false,false,false,false,true]):=rfl
 have w1:swStep (ad5 x k m) 4 ([([1],[0]),([1],[0]),([1],[0]),([1],[0]),([1],[4294967296])],[false,false,false,false,true])=([([1],[0]),([1],[0]),([1],[4294967296]),([1],[4294967296]),([1],[4294967296])],[false,false,true,true,true]):=by
  unfold swStep
  rw [if_pos ⟨rfl,by show (2:Int)≠1;omega⟩,if_pos (by show (0:Int)≤3;omega)]
  refine Prod.ext ?_ rfl
  show [_,_,add2 ([1],[0]) (fold2 ([1],[4294967296]) [1]),add2 ([1],[0]) (fold2 ([1],[4294967296]) [1]),_]=_
  rw [one_fold one_R,one_add0 one_R]
 have w2:swStep (ad5 x k m) 3 ([([1],[0]),([1],[0]),([1],[4294967296]),([1],[4294967296]),([1],[4294967296])],[false,false,true,true,true])=([([1],[m]),([1],[0]),([1],[4294967296]),([1],[4294967296]),([1],[4294967296])],[true,false,true,true,true]):=by
  unfold swStep
  rw [if_pos ⟨rfl,by show (5:Int)≠1;omega⟩,if_neg (by show ¬ (0:Int)≤-1;omega)]
  refine Prod.ext ?_ rfl
  show [add2 ([1],[0]) (scale2 ([1],[4294967296]) m),_,_,_,_]=_
  rw [one_scale,one_mul hm,one_add0 hm]
 have w3:swStep (ad5 x k m) 2 ([([1],[m]),([1],[0]),([1],[4294967296]),([1],[4294967296]),([1],[4294967296])],[true,false,true,true,true])=([([1],[Fx.hold (m+k)]),([1],[0]),([1],[4294967296]),([1],[4294967296]),([1],[4294967296])],[true,false,true,true,true]):=by
  unfold swStep
  rw [if_pos ⟨rfl,by show (5:Int)≠1;omega⟩,if_neg (by show ¬ (0:Int)≤-1;omega)]
  refine Prod.ext ?_ rfl
  show [add2 ([1],[m]) (scale2 ([1],[4294967296]) k),_,_,_,_]=_
  rw [one_scale,one_mul hk,one_add]
 rw [w0,w1,w2,w3]
 unfold swStep
 rw [if_neg (fun q=>q.2 rfl),if_neg (fun q=>q.2 rfl)]
end Go.Proofs.YtaiigfhicaelkaaGreatDoor.Wd
